import Derived.RangeFuncNested
import Derived.RangeFuncBound
import Derived.WalkKit
import Derived.Deep.QuietTactic
set_option linter.unusedSimpArgs false
set_option linter.unusedVariables false
namespace Go.Proofs.YtpifffkkgnbfpaaGreat.Tree
open Go.RowKit
variable {B i k l m n:Nat} {P:Program} {R:Ending→World→Prop} {W W' a b c w w':World} {assign body:Code} {ds:List Deferred} {f:FuncId} {fn:Func} {o:Obj} {tmps:Array Value} {α:Type _}
theorem jJ {b:α} {xs:Array α}:xs[i]?=some b ↔ ∃ h,xs[i]=b:=Array.getElem?_eq_some_iff
theorem jV (l:List α) (i:Nat) (a:α):l.toArray.setIfInBounds i a=(l.set i a).toArray:=List.setIfInBounds_toArray l i a
theorem jZ {x:α} {xs:List α} {a:α}:(x::xs).set 0 a=a::xs:=List.set_cons_zero
theorem jX {x:α} {xs:List α}  {a:α}:(x::xs).set (i+1) a=x::xs.set i a:=List.set_cons_succ
theorem jK {as bs:List α}:(as++bs).length=as.length+bs.length:=List.length_append
theorem jQ {l:List α}  (h:i<l.length):l[i]?=some l[i]:=List.getElem?_eq_getElem h
theorem jY (h:n<m) (h':m≤k):n<k:=Nat.lt_of_lt_of_le h h'
theorem jU (n:Nat):n≤n:=Nat.le_refl n
theorem vJ (h:n≤m) (h':m≤k):n≤k:=Nat.le_trans h h'
theorem jA {as:List α}:as.toArray.size=as.length:=List.size_toArray
theorem jB {a:α} {as:List α}:(a::as).length=as.length+1:=List.length_cons
theorem jN:([]:List α).length=0:=List.length_nil
theorem jR {a:α}:Array.replicate (n+1) a=(Array.replicate n a).push a:=Array.replicate_succ
theorem jO {a:α}:Array.replicate 0 a=#[]:=Array.replicate_zero
theorem jP (l:List α) (a:α):l.toArray.push a=(l++[a]).toArray:=List.push_toArray l a
theorem jT (l₁ l₂:List α):l₁.toArray++l₂.toArray=(l₁++l₂).toArray:=List.append_toArray l₁ l₂
theorem jE (as:List α):[]++as=as:=List.nil_append as
theorem jF {a:α} {as bs:List α}:(a::as)++bs=a::(as++bs):=List.cons_append
theorem jC {args:Array Value}  {R R':Ending→World→Prop} (h:Calls P f args w R) (hr:∀ e w',R e w'→R' e w'):Calls P f args w R':=h.mono hr
abbrev Bl:=Nat→Prop
def Bl.none:Bl:=fun _=>False
def Bl.one (b:Nat):Bl:=fun k=>k=b
theorem nM {α:Sort _} (a:α):∃ x,a=x:=⟨_,rfl⟩
theorem oN {k b:Nat} (h:k≠b):¬Bl.one b k:=h
theorem oK {b:Nat} {p:Nat→Prop} (h:p b):∀ k,Bl.one b k→p k:=fun _ e=>e▸h
theorem gL {α:Type _} {xs:Array α} {i:Nat} {b:α} (h:xs[i]?=some b):i<xs.size:=(Array.getElem?_eq_some_iff.1 h).1
theorem bA (w:World) (o:Obj):Below w.heap.size w (w.alloc o):=(Below.refl _ _).alloc (Nat.le_refl _) _
abbrev tA (β:Nat) (root:Int) (ca:Option Addr) (cn cc:Nat):Array Value:=#[.pointer (some ⟨β,0,none⟩),.int .i64 root,.slice ca cn cc]
def Bl.or (A B:Bl):Bl:=fun k=>A k∨B k
variable {Y Z:Bl}
structure Fr (Y:Bl) (w w':World):Prop where
 os:w'.os=w.os
 tape:w'.tape=w.tape
 output:w'.output=w.output
 size:w.heap.size≤w'.heap.size
 block:∀ k,k<w.heap.size→¬ Y k→w'.heap[k]?=w.heap[k]?
structure On (Y:Bl) (w w':World):Prop where
 os:w'.os=w.os
 tape:w'.tape=w.tape
 output:w'.output=w.output
 size:w.heap.size≤w'.heap.size
 block:∀ k,Y k→w'.heap[k]?=w.heap[k]?
theorem Fr.refl (Y:Bl) (w:World):Fr Y w w:=⟨rfl,rfl,rfl,jU _,fun _ _ _=>rfl⟩
def aJ (w:World) (Y Y':Bl):Prop:=∀ k,Y' k→Y k∨w.heap.size≤k
theorem aJ.refl (w:World) (Y:Bl):aJ w Y Y:=fun _ h=>.inl h
theorem aJ.trans {X Y Z:Bl} (h:aJ a X Y) (hs:a.heap.size≤b.heap.size) (k:aJ b Y Z):aJ a X Z:=fun i hi=>by
 rcases k i hi with h1|h1
 ·exact h i h1
 ·exact .inr (vJ hs h1)
theorem Fr.grow (h:Fr Y a b) (k:Fr Z b c) (g:aJ a Y Z):Fr Y a c :=
 ⟨k.os.trans h.os,k.tape.trans h.tape,k.output.trans h.output,vJ h.size k.size,fun i hi hy =>
  (k.block i (jY hi h.size) (fun hz=>(g i hz).elim hy (fun h1=>by omega))).trans (h.block i hi hy)⟩
theorem Fr.trans (h:Fr Y a b) (k:Fr Y b c):Fr Y a c:=h.grow k (aJ.refl _ _)
theorem Fr.mono (h:Fr Y a b) (hz:∀ k,Y k→Z k∨a.heap.size≤k):Fr Z a b :=
 ⟨h.os,h.tape,h.output,h.size,fun k hk hn=>h.block k hk (fun hy=>(hz k hy).elim hn (fun h1=>by omega))⟩
theorem Fr.drew (h:Fr Y a w):Fr Y a w.drew:=h.trans ⟨rfl,rfl,rfl,jU _,fun _ _ _=>rfl⟩
theorem Fr.alloc (h:Fr Y a w) (o:Obj):Fr Y a (w.alloc o) :=
 h.trans ⟨rfl,rfl,rfl,by simp,fun k hk _=>Below.heap_alloc _ _ _ hk⟩
theorem Fr.setCell (h:Fr Y a w) {p:Addr} (hp:Y p.block∨a.heap.size≤p.block) (u:Value):Fr Y a (w.setCell p u) :=
 ⟨h.os,h.tape,h.output,by have:=h.size;simpa [World.setCell] using this,fun k hk hy=>(Below.heap_setCell _ _ _ _ (fun e=>by subst e;exact hp.elim hy (fun h1=>by omega))).trans (h.block k hk hy)⟩
theorem Fr.putObj (h:Fr Y a w)  (hp:Y l∨a.heap.size≤l) (o:Obj):Fr Y a (w.putObj l o) :=
 ⟨h.os,h.tape,h.output,by have:=h.size;simpa using this,fun k hk hy=>(World.putObj_heap_other (fun e=>by subst e;exact hp.elim hy (fun h1=>by omega))).trans (h.block k hk hy)⟩
theorem Fr.of_below (h:Below w.heap.size w w'):Fr Y w w':=⟨h.os,h.tape,h.output,h.size,fun k hk _=>h.block k hk⟩
theorem Fr.below (h:Fr Y w w') (hB:B≤w.heap.size) (hY:∀ k,Y k→B≤k):Below B w w' :=
 ⟨h.os,h.tape,h.output,h.size,fun k hk=>h.block k (by omega) (fun hy=>by have:=hY k hy;omega)⟩
theorem Fr.below0 (h:Fr Bl.none w w'):Below w.heap.size w w':=h.below (jU _) (fun _ h=>h.elim)
theorem Fr.grown {row:Option Nat} (h:Fr Y a w) (hg:w.grownBy w' row) (hr:∀ k,row=some k→Y k∨a.heap.size≤k):Fr Y a w' :=
 ⟨hg.os.trans h.os,hg.tape.trans h.tape,hg.output.trans h.output,vJ h.size hg.size,fun k hk hy =>
  (hg.block k (jY hk h.size) (fun e=>(hr k e.symm).elim hy (fun h1=>by omega))).trans (h.block k hk hy)⟩
theorem Fr.heap (h:Fr Y w w')   (ho:w.heap[k]?=some o) (hy:¬ Y k):w'.heap[k]?=some o :=
 (h.block k (jJ.1 ho).1 hy).trans ho
theorem Fr.cell (h:Fr Y w w') {b o:Nat} (hb:b<w.heap.size) (hy:¬ Y b):w'.cell? ⟨b,o,none⟩=w.cell? ⟨b,o,none⟩:=World.cell?_of_block (w:=w) (h.block b hb hy)
theorem Fr.on (h:Fr Y w w') (hz:∀ k,Z k→k<w.heap.size∧¬ Y k):On Z w w':=⟨h.os,h.tape,h.output,h.size,fun k hk=>h.block k (hz k hk).1 (hz k hk).2⟩
theorem On.refl (Y:Bl) (w:World):On Y w w:=⟨rfl,rfl,rfl,jU _,fun _ _=>rfl⟩
theorem On.trans (h:On Y a b) (k:On Y b c):On Y a c :=
 ⟨k.os.trans h.os,k.tape.trans h.tape,k.output.trans h.output,vJ h.size k.size,fun i hi=>(k.block i hi).trans (h.block i hi)⟩
theorem On.mono (h:On Y a b) (hz:∀ k,Z k→Y k):On Z a b:=⟨h.os,h.tape,h.output,h.size,fun k hk=>h.block k (hz k hk)⟩
theorem On.heap (h:On Y w w')   (ho:w.heap[k]?=some o) (hy:Y k):w'.heap[k]?=some o:=(h.block k hy).trans ho
theorem On.cell (h:On Y w w') {b:Nat} (o:Nat) (hy:Y b):w'.cell? ⟨b,o,none⟩=w.cell? ⟨b,o,none⟩:=World.cell?_of_block (w:=w) (h.block b hy)
theorem On.of_below (h:Below w.heap.size w w') (hy:∀ k,Y k→k<w.heap.size):On Y w w':=⟨h.os,h.tape,h.output,h.size,fun k hk=>h.block k (hy k hk)⟩
theorem vV (h:Below w.heap.size w w') (hy:∀ k,Y k → k<w.heap.size):On Y w w':=On.of_below h hy
theorem On.alloc (h:On Y a w) (hy:∀ k,Y k→k<w.heap.size) (o:Obj):On Y a (w.alloc o) :=
 h.trans ⟨rfl,rfl,rfl,by simp,fun k hk=>Below.heap_alloc _ _ _ (hy k hk)⟩
theorem On.putObj (h:On Y a w)  (hl:¬ Y l) (o:Obj):On Y a (w.putObj l o) :=
 h.trans ⟨rfl,rfl,rfl,by simp,fun k hk=>World.putObj_heap_other (fun e=>by subst e;exact hl hk)⟩
theorem On.setCell (h:On Y a w) {p:Addr} (hl:¬ Y p.block) (u:Value):On Y a (w.setCell p u) :=
 h.trans ⟨rfl,rfl,rfl,by simp [World.setCell],fun k hk=>Below.heap_setCell _ _ _ _ (fun e=>by subst e;exact hl hk)⟩
def qH {α:Type} (J:α→Bl→World→Prop):Prop:=∀ s Y W W',J s Y W→On Y W W'→J s Y W'
def Kr {α:Type} (J:α→Bl→World→Prop):Prop:=∀ s Y W,J s Y W→∀ k,Y k→k<W.heap.size
def qCe {α:Type} (J Jx:List α→Bl→World→Prop) (s:List α) (Y:Bl) (W:World) (e:Ending) (W':World):Prop :=
 (e=.returned (.bool true)∧∃ Y',J s Y' W'∧Fr Y W W'∧aJ W Y Y') ∨
 (e=.returned (.bool false)∧∃ Y',Jx s Y' W'∧Fr Y W W'∧aJ W Y Y')
def qGg {α:Type} (J Jx:List α→Bl→World→Prop) (xs:List α) (Y:Bl) (W:World) (e:Ending) (W':World):Prop :=
 (∃ v,e=.returned v)∧∃ Y',Fr Y W W'∧aJ W Y Y'∧(J xs Y' W'∨∃ pre,pre <+: xs∧pre≠[]∧Jx pre Y' W')
def oJ {α:Type} (P:Program) (g:Nat) (lb:Array Value) (Has:α→Array Value→Bl→World→Prop) (xs:List α) (Rd:Bl) (w:World):Prop :=
 ∀ (l:Nat) (J Jx:List α→Bl→World→Prop) (Y:Bl) (W:World),On Rd w W→(∀ k,Rd k→¬ Y k∧k<W.heap.size)→qH J→Kr J→qH Jx→Kr Jx →
  (∀ pre x rest args S Y' W',xs=pre++x :: rest→J pre Y' W'→Has x args S W'→(∀ k,S k→¬ Y' k∧k<W'.heap.size)→Fr Y W W'→aJ W Y Y' →
   YieldAt Fence.wide 0 P l args W' (qCe J Jx (pre++[x]) Y' W')) →
  J [] Y W→CallsIn Fence.wide 0 P g (#[.func (.yield l) #[] #[]]++lb) W (qGg J Jx xs Y W)
theorem dS (h:RoundIn Fence.wide n P l f tmps assign body w R):RoundIn Fence.wide m P l f tmps assign body w R :=
 ⟨h.1,fun c cs _=>h.2 c cs (room_wide _)⟩
theorem zS {args:Array Value}   (h:CallsIn Fence.wide n P f args w R):CallsIn Fence.wide m P f args w R :=
 callsIn_wide.2 (callsIn_wide.1 h)
structure Turn (l:Nat) (W W':World):Prop where
 os:W'.os=W.os
 tape:W'.tape=W.tape
 output:W'.output=W.output
 size:W'.heap.size=W.heap.size
 block:∀ k,k≠l→W'.heap[k]?=W.heap[k]?
 rcd:∃ r,W'.heap[l]?=some (.loop r)
theorem Turn.of_put (h:l<W.heap.size) (r:Loop):Turn l W (W.putObj l (.loop r)):=⟨rfl,rfl,rfl,by simp,fun k hk=>World.putObj_heap_other hk,_,World.putObj_heap_same h⟩
theorem Turn.on (h:Turn l W W')  (hl:¬ Y l):On Y W W':=⟨h.os,h.tape,h.output,by rw [h.size];omega,fun k hk=>h.block k (fun e=>by subst e;exact hl hk)⟩
theorem Turn.fr (h:Turn l W W'):Fr (Bl.one l) W W':=⟨h.os,h.tape,h.output,by rw [h.size];omega,fun k _ hk=>h.block k hk⟩
theorem Turn.heap (h:Turn l W W')   (ho:W.heap[k]?=some o) (hk:k≠l):W'.heap[k]?=some o:=(h.block k hk).trans ho
def qEk {α:Type} (I:List α→Bl→World→Prop) (Ix:Code→List α→Bl→World→Prop) (s:List α) (Y:Bl) (W:World):Exit→Act→World→Prop
 | .normal,_,W'=>∃ Y',I s Y' W'∧Fr Y W W'∧aJ W Y Y'
 | .ret,_,W'=>∃ Y',Ix .ret s Y' W'∧Fr Y W W'∧aJ W Y Y'
 | .exit id,_,W'=>∃ Y',Ix (.exit id) s Y' W'∧Fr Y W W'∧aJ W Y Y'
 | .goto t,_,W'=>∃ Y',Ix (.goto t) s Y' W'∧Fr Y W W'∧aJ W Y Y'
 | _,_,_=>False
def iZ {α:Type} (P:Program) (I:List α→Bl→World→Prop) (Ix:Code→List α→Bl→World→Prop) (l:Nat) (tmps:Array Value) (assign body:Code) (s:List α) (Y:Bl) (W:World):Prop :=
 assign.wpIn (Fence.wide.inRound l) 0 P (Exit.then (fun a₁ W₁=>Fr Y W W₁∧∀ W₂,Turn l W₁ W₂→body.wpIn (Fence.wide.inRound l) 0 P (qEk I Ix s Y W₂) a₁ W₂) (fun _ _ _=>False)) { tmps:=tmps,defers:=[] } W
theorem Lo {α:Type}  {I:List α→Bl→World→Prop} {Ix:Code→List α→Bl→World→Prop} (hI:qH I) (hIx:∀ c,qH (Ix c)) (lI:Kr I) (lIx:∀ c,Kr (Ix c))
   {fn:FuncId}   {s:List α}   {rec:LoopState→Option Code→Loop}
  (hrec:∀ st pe st' pe',({ rec st pe with state:=st',pending:=pe' }:Loop)=rec st' pe') (hst:∀ st pe,(rec st pe).state=st)
  (hl:W.heap[l]?=some (.loop (rec .ready none))) (hY:¬ Y l) (hr:iZ P I Ix l tmps assign body s Y W) :
  RoundIn Fence.wide 0 P l fn tmps assign body W (fun e W' =>
   (e=.returned (.bool true)∧∃ Y',I s Y' W'∧Fr (Bl.or Y (Bl.one l)) W W'∧aJ W Y Y'∧W'.heap[l]?=some (.loop (rec .ready none))∧¬ Y' l) ∨
   (e=.returned (.bool false)∧∃ Y' c,Ix c s Y' W'∧Fr (Bl.or Y (Bl.one l)) W W'∧aJ W Y Y'∧W'.heap[l]?=some (.loop (rec .done (some c)))∧¬ Y' l)):=by
 refine roundIn_of_wpIn trivial (wpIn_mono hr ?_)
 have hlt:l<W.heap.size:=(jJ.1 hl).1
 intro e a₁ W₁ h1
 cases e with
 | normal =>
  obtain⟨f1,hb⟩:=h1
  have hl1:W₁.heap[l]?=some (.loop (rec .ready none)):=f1.heap hl hY
  have hlt1:l<W₁.heap.size:=(jJ.1 hl1).1
  refine⟨_,run_beginRound hl1 (hst _ _),?_⟩
  obtain⟨W₂,hW2⟩:∃ W₂,W₁.putObj l (.loop { rec .ready none with state:=.busy })=W₂:=⟨_,rfl⟩
  have ht:Turn l W₁ W₂:=hW2▸Turn.of_put hlt1 _
  have hl2:W₂.heap[l]?=some (.loop { rec .ready none with state:=.busy }):=hW2▸World.putObj_heap_same hlt1
  have hs2:W₁.heap.size=W₂.heap.size:=ht.size.symm
  have hlt2:l<W₂.heap.size:=(jJ.1 hl2).1
  have f2:Fr (Bl.or Y (Bl.one l)) W W₂:=(f1.mono (fun k hk=>.inl (.inl hk))).trans (ht.fr.mono (fun k hk=>.inl (.inr hk)))
  rw [hW2]
  refine wpIn_mono (hb W₂ ht) ?_
  have fin:∀ (jump:Option Code) (Y':Bl) (W₃:World),Fr Y W₂ W₃→aJ W₂ Y Y' →
    ∃ W₄,(Instr.endRound l jump).run P W₃=.ok (.bool jump.isNone) W₄∧Turn l W₃ W₄∧W₄.heap[l]?=some (.loop (rec (if jump.isNone then .ready else .done) jump))∧¬ Y' l∧Fr (Bl.or Y (Bl.one l)) W W₄∧aJ W Y Y':=by
   intro jump Y' W₃ f3 g3
   have hl3:W₃.heap[l]?=some (.loop { rec .ready none with state:=.busy }):=f3.heap hl2 hY
   have hlt3:l<W₃.heap.size:=(jJ.1 hl3).1
   have hrun:=run_endRound (P:=P) jump hl3
   have e:({ ({ rec .ready none with state:=.busy }:Loop) with state:=if jump.isNone then .ready else .done,pending:=jump }:Loop)=rec (if jump.isNone then .ready else .done) jump:=by
    have:=hrec .ready none (if jump.isNone then .ready else .done) jump
    rw [← this]
   rw [e] at hrun
   refine⟨_,hrun,Turn.of_put hlt3 _,World.putObj_heap_same hlt3,fun hy=>?_,?_,?_⟩
   ·rcases g3 l hy with h|h
    ·exact hY h
    ·omega
   ·exact(f2.trans (f3.mono (fun k hk=>.inl (.inl hk)))).trans ((Turn.of_put hlt3 _).fr.mono (fun k hk=>.inl (.inr hk)))
   ·exact fun k hk=>by
     rcases g3 k hk with h|h
     ·exact .inl h
     ·exact .inr (vJ f2.size h)
  intro e a₃ W₃ hq
  cases e with
  | normal =>
   obtain⟨Y',hi,f3,g3⟩:=hq
   obtain⟨W₄,hrun,ht4,hl4,hy4,f4,g4⟩:=fin none Y' W₃ f3 g3
   exact⟨_,_,hrun,.inl ⟨rfl,Y',hI _ _ _ _ hi (ht4.on hy4),f4,g4,hl4,hy4⟩⟩
  | ret =>
   obtain⟨Y',hi,f3,g3⟩:=hq
   obtain⟨W₄,hrun,ht4,hl4,hy4,f4,g4⟩:=fin (some .ret) Y' W₃ f3 g3
   exact⟨_,_,hrun,.inr ⟨rfl,Y',_,hIx _ _ _ _ _ hi (ht4.on hy4),f4,g4,hl4,hy4⟩⟩
  | exit id =>
   obtain⟨Y',hi,f3,g3⟩:=hq
   obtain⟨W₄,hrun,ht4,hl4,hy4,f4,g4⟩:=fin (some (.exit id)) Y' W₃ f3 g3
   exact⟨_,_,hrun,.inr ⟨rfl,Y',_,hIx _ _ _ _ _ hi (ht4.on hy4),f4,g4,hl4,hy4⟩⟩
  | goto t =>
   obtain⟨Y',hi,f3,g3⟩:=hq
   obtain⟨W₄,hrun,ht4,hl4,hy4,f4,g4⟩:=fin (some (.goto t)) Y' W₃ f3 g3
   exact⟨_,_,hrun,.inr ⟨rfl,Y',_,hIx _ _ _ _ _ hi (ht4.on hy4),f4,g4,hl4,hy4⟩⟩
  | panic ch=>exact hq.elim
  | outgrown=>exact hq.elim
 | exit id=>exact h1.elim
 | goto t=>exact h1.elim
 | ret=>exact h1.elim
 | panic chain=>exact h1.elim
 | outgrown=>exact h1.elim
theorem fY {α:Type}   {g:Operand} {ps:Array Tmp}  {Q:Exit→Act→World→Prop} {a:Act} 
  {gf:Nat} {lb:Array Value} (hg:a.eval g=.func (.func gf) #[] lb) (eg:∀ args w,(callFunc gf args).run P w=.ok (.enter gf args) w)
  {Has:α→Array Value→Bl→World→Prop} {xs:List α} {Rd:Bl} (hseq:oJ P gf lb Has xs Rd w) (hps:∀ x args S W,Has x args S W→args.size=ps.size)
  (I:List α→Bl→World→Prop) (Ix:Code→List α→Bl→World→Prop) (hI:qH I) (hIx:∀ c,qH (Ix c)) (lI:Kr I) (lIx:∀ c,Kr (Ix c)) (Y:Bl) (h0:I [] Y w) (hRd:∀ k,Rd k→¬ Y k∧k<w.heap.size)
  (hround:∀ l pre x rest args S Y' W,xs=pre++x :: rest→I pre Y' W→Has x args S W→(∀ k,S k→¬ Y' k∧k<W.heap.size∧k≠l)→Fr Y w W→aJ w Y Y'→w.heap.size≤l→l<W.heap.size→¬ Y' l→(∃ r,W.heap[l]?=some (.loop r)) →
   iZ P I Ix l ((ps.zip args).foldl (fun t (p,v)=>t.setIfInBounds p v) a.tmps) assign body (pre++[x]) Y' W)
  (hdone:∀ D Y' W,w.heap.size≤D→¬ Y' D→I xs Y' W→Fr Y w W→aJ w Y Y'→W.heap[D]?=some (.deferred (some []))→Q .normal { a with defers:={ target:=.collected D,args:=#[] } :: a.defers } W)
  (hstop:∀ D c pre Y' W,w.heap.size≤D→¬ Y' D→pre <+: xs→pre≠[]→Ix c pre Y' W→Fr Y w W→aJ w Y Y'→W.heap[D]?=some (.deferred (some []))→c.wpIn Fence.wide n P Q { a with defers:={ target:=.collected D,args:=#[] } :: a.defers } W) :
  (Code.rangeFunc g ps assign body).wpIn Fence.wide n P Q a w:=by
 refine wpIn_rangeFunc ?_
 intro fn hfn
 obtain⟨rec,hrec⟩:∃ rec:LoopState→Option Code→Loop,rec=fun st pe=>{ state:=st,pending:=pe,fn,tmps:=a.tmps,params:=ps,assign,body,defers:=w.heap.size }:=⟨_,rfl⟩
 obtain⟨W1,hW1⟩:∃ W1,(w.alloc (.deferred (some []))).alloc (.loop (rec .ready none))=W1:=⟨_,rfl⟩
 have hL1:W1.heap[w.heap.size+1]?=some (.loop (rec .ready none)):=by
  rw [← hW1];have:=World.alloc_heap_new (w.alloc (.deferred (some []))) (.loop (rec .ready none));rwa [World.size_alloc] at this
 have hK1:W1.heap[w.heap.size]?=some (.deferred (some [])):=by
  rw [← hW1];exact(Below.heap_alloc _ _ _ (by simp)).trans (World.alloc_heap_new w _)
 have fW1:∀ Z,Fr Z w W1:=fun Z=>hW1▸((Fr.refl Z w).alloc _).alloc _
 have sW1:W1.heap.size=w.heap.size+2:=by rw [← hW1];simp
 have lY:=lI [] Y w h0
 have o1:On Y w W1:=(fW1 Bl.none).on (fun k hk=>⟨lY k hk,fun h=>h⟩)
 have hps':∀ x args S W,Has x args S W→args.size=(rec .ready none).params.size:=by rw [hrec];exact hps
 refine⟨w.heap.size+1,[{ target:=.collected w.heap.size,args:=#[] }],W1,{ target:=.fn (.func gf) lb,args:=#[.func (.yield (w.heap.size+1)) #[] #[]] },W1,gf,
  #[.func (.yield (w.heap.size+1)) #[] #[]]++lb,W1,?_,?_,?_,?_,fun h=>by simp [Fence.wide] at h,?_⟩
 ·rw [← hW1,hrec];exact run_enterLoop_outer _ _ _ _ _
 ·simp only [resolve,hg]
  simp [go_sem]
 ·intro f' hf';trivial
 ·simp [invoke,go_sem,eg]
 ·-- the caller's blocks,with the record and the block for deferred calls
  let L:=w.heap.size+1
  let D:=w.heap.size
  let Z₀:Bl:=Bl.or Y (Bl.or (Bl.one L) (Bl.one D))
  let J:List α→Bl→World→Prop:=fun pre Z W=>∃ Y',I pre Y' W∧(∀ k,Z k↔Y' k∨k=L∨k=D)∧¬ Y' L∧¬ Y' D∧W.heap[L]?=some (.loop (rec .ready none))∧W.heap[D]?=some (.deferred (some []))
  let Jx:List α→Bl→World→Prop:=fun pre Z W=>∃ Y' c,Ix c pre Y' W∧(∀ k,Z k↔Y' k∨k=L∨k=D)∧¬ Y' L∧¬ Y' D∧W.heap[L]?=some (.loop (rec .done (some c)))∧W.heap[D]?=some (.deferred (some []))
  have hnY:¬ Y L∧¬ Y D:=⟨fun h=>by have:=lY _ h;omega,fun h=>by have:=lY _ h;omega⟩
  have toFr:∀ W,Fr Z₀ W1 W→Fr Y w W:=fun W hf=>(fW1 Y).grow hf (fun k hk=>by
   rcases hk with h|h|h
   ·exact .inl h
   ·exact .inr (by simp only [Bl.one] at h;omega)
   ·exact .inr (by simp only [Bl.one] at h;omega))
  have toGr:∀ Z Y',(∀ k,Z k↔Y' k∨k=L∨k=D)→aJ W1 Z₀ Z→aJ w Y Y':=fun Z Y' hZ hg k hk=>by
   rcases hg k ((hZ k).2 (.inl hk)) with(h|h|h)|h
   ·exact .inl h
   ·exact .inr (by simp only [Bl.one] at h;omega)
   ·exact .inr (by simp only [Bl.one] at h;omega)
   ·exact .inr (by omega)
  have hrec':∀ st pe st' pe',({ rec st pe with state:=st',pending:=pe' }:Loop)=rec st' pe':=by rw [hrec];intros;rfl
  refine zS (CallsIn.mono (hseq L J Jx Z₀ W1 ((fW1 Bl.none).on (fun k hk=>⟨(hRd k hk).2,fun h=>h⟩)) (fun k hk=>⟨?_,?_⟩) ?_ ?_ ?_ ?_ ?_ ?_) ?_)
  ·rintro(h|h|h)
   ·exact(hRd k hk).1 h
   ·have:=(hRd k hk).2;simp only [Bl.one] at h;omega
   ·have:=(hRd k hk).2;simp only [Bl.one] at h;omega
  ·have:=(hRd k hk).2;omega
  ·rintro s Z W W' ⟨Y',hi,hZ,h1,h2,h3,h4⟩ ho
   exact⟨Y',hI _ _ _ _ hi (ho.mono (fun k hk=>(hZ k).2 (.inl hk))),hZ,h1,h2,ho.heap h3 ((hZ _).2 (.inr (.inl rfl))),ho.heap h4 ((hZ _).2 (.inr (.inr rfl)))⟩
  ·rintro s Z W ⟨Y',hi,hZ,h1,h2,h3,h4⟩ k hk
   rcases (hZ k).1 hk with h|rfl|rfl
   ·exact lI _ _ _ hi k h
   ·exact(jJ.1 h3).1
   ·exact(jJ.1 h4).1
  ·rintro s Z W W' ⟨Y',c,hi,hZ,h1,h2,h3,h4⟩ ho
   exact⟨Y',c,hIx _ _ _ _ _ hi (ho.mono (fun k hk=>(hZ k).2 (.inl hk))),hZ,h1,h2,ho.heap h3 ((hZ _).2 (.inr (.inl rfl))),ho.heap h4 ((hZ _).2 (.inr (.inr rfl)))⟩
  ·rintro s Z W ⟨Y',c,hi,hZ,h1,h2,h3,h4⟩ k hk
   rcases (hZ k).1 hk with h|rfl|rfl
   ·exact lIx _ _ _ _ hi k h
   ·exact(jJ.1 h3).1
   ·exact(jJ.1 h4).1
  ·-- one round
   rintro pre x rest args S Z W hx ⟨Y',hi,hZ,h1,h2,h3,h4⟩ hH hS hF hG
   have hlt:L<W.heap.size:=(jJ.1 h3).1
   have hy:=run_yield (P:=P) (args:=args) h3 (hps' _ _ _ _ hH)
   rw [hrec] at hy
   refine⟨fn,_,assign,body,hy,(Lo hI hIx lI lIx hrec' (fun _ _=>by rw [hrec]) h3 h1 (hround L pre x rest args S Y' W hx hi hH (fun k hk=>⟨fun h=>(hS k hk).1 ((hZ k).2 (.inl h)),(hS k hk).2,fun e=>(hS k hk).1 ((hZ k).2 (.inr (.inl e)))⟩) (toFr _ hF) (toGr _ _ hZ hG) (by omega) hlt h1 ⟨_,h3⟩)).mono ?_⟩
   have zin:∀ k,Bl.or Y' (Bl.one L) k→Z k:=fun k hk=>by
    rcases hk with h|h
    ·exact(hZ k).2 (.inl h)
    ·exact(hZ k).2 (.inr (.inl h))
   have dW:∀ W',Fr (Bl.or Y' (Bl.one L)) W W'→W'.heap[D]?=some (.deferred (some [])):=fun W' hf=>hf.heap h4 (fun h=>by
    rcases h with h|h
    ·exact h2 h
    ·simp only [Bl.one] at h;omega)
   have nD:∀ Y'',aJ W Y' Y''→¬ Y'' D:=fun Y'' hg h=>by
    rcases hg D h with h'|h'
    ·exact h2 h'
    ·omega
   have gZ:∀ Y'',aJ W Y' Y''→aJ W Z (fun k=>Y'' k∨k=L∨k=D):=fun Y'' hg k hk=>by
    rcases hk with h|h|h
    ·rcases hg k h with h'|h'
     ·exact .inl ((hZ k).2 (.inl h'))
     ·exact .inr h'
    ·exact .inl ((hZ k).2 (.inr (.inl h)))
    ·exact .inl ((hZ k).2 (.inr (.inr h)))
   rintro e W' (⟨rfl,Y'',hi',hf,hg,hl,hyl⟩|⟨rfl,Y'',c,hi',hf,hg,hl,hyl⟩)
   ·exact .inl ⟨rfl,(fun k=>Y'' k∨k=L∨k=D),⟨Y'',hi',fun k=>Iff.rfl,hyl,nD _ hg,hl,dW _ hf⟩,hf.mono (fun k hk=>.inl (zin k hk)),gZ _ hg⟩
   ·exact .inr ⟨rfl,(fun k=>Y'' k∨k=L∨k=D),⟨Y'',c,hi',fun k=>Iff.rfl,hyl,nD _ hg,hl,dW _ hf⟩,hf.mono (fun k hk=>.inl (zin k hk)),gZ _ hg⟩
  ·exact⟨Y,hI _ _ _ _ h0 o1,fun k=>Iff.rfl,hnY.1,hnY.2,hL1,hK1⟩
  ·-- behind the iterator
   rintro e W ⟨⟨v,rfl⟩,Z,hF,hG,(⟨Y',hi,hZ,h1,h2,h3,h4⟩|⟨pre,hpre,hne,Y',c,hi,hZ,h1,h2,h3,h4⟩)⟩
   ·have hend:=run_endLoop (P:=P) h3 (by rw [hrec];simp)
    refine⟨none,W.putObj L (.loop (rec .exhausted none)),by rw [hrec] at hend ⊢;exact hend,?_⟩
    have ht:=Turn.of_put (jJ.1 h3).1 (rec .exhausted none)
    exact hdone D Y' _ (jU _) h2 (hI _ _ _ _ hi (ht.on h1)) ((toFr _ hF).putObj (.inr (by omega)) _) (toGr _ _ hZ hG) (ht.heap h4 (by omega))
   ·have hend:=run_endLoop (P:=P) h3 (by rw [hrec];simp)
    refine⟨some c,W.putObj L (.loop (rec .exhausted (some c))),by rw [hrec] at hend ⊢;exact hend,?_⟩
    have ht:=Turn.of_put (jJ.1 h3).1 (rec .exhausted (some c))
    exact hstop D c pre Y' _ (jU _) h2 hpre hne (hIx _ _ _ _ _ hi (ht.on h1)) ((toFr _ hF).putObj (.inr (by omega)) _) (toGr _ _ hZ hG) (ht.heap h4 (by omega))
theorem Ku {α:Type}   {g:Operand} {ps:Array Tmp}  {Q:Exit→Act→World→Prop} {a:Act} 
  {l₀:Nat} {r₀:Loop} (hl₀:w.heap[l₀]?=some (.loop r₀)) {gf:Nat} {lb:Array Value} (hg:a.eval g=.func (.func gf) #[] lb) (eg:∀ args w,(callFunc gf args).run P w=.ok (.enter gf args) w)
  {Has:α→Array Value→Bl→World→Prop} {xs:List α} {Rd:Bl} (hseq:oJ P gf lb Has xs Rd w) (hps:∀ x args S W,Has x args S W→args.size=ps.size)
  (I:List α→Bl→World→Prop) (Ix:Code→List α→Bl→World→Prop) (hI:qH I) (hIx:∀ c,qH (Ix c)) (lI:Kr I) (lIx:∀ c,Kr (Ix c)) (Y:Bl) (h0:I [] Y w) (hRd:∀ k,Rd k→¬ Y k∧k<w.heap.size)
  (hround:∀ l pre x rest args S Y' W,xs=pre++x :: rest→I pre Y' W→Has x args S W→(∀ k,S k→¬ Y' k∧k<W.heap.size∧k≠l)→Fr Y w W→aJ w Y Y'→w.heap.size≤l→l<W.heap.size→¬ Y' l→(∃ r,W.heap[l]?=some (.loop r)) →
   iZ P I Ix l ((ps.zip args).foldl (fun t (p,v)=>t.setIfInBounds p v) a.tmps) assign body (pre++[x]) Y' W)
  (hdone:∀ Y' W,I xs Y' W→Fr Y w W→aJ w Y Y'→Q .normal a W)
  (hstop:∀ c pre Y' W,pre <+: xs→pre≠[]→Ix c pre Y' W→Fr Y w W→aJ w Y Y'→c.wpIn (Fence.wide.inRound l₀) n P Q a W) :
  (Code.rangeFunc g ps assign body).wpIn (Fence.wide.inRound l₀) n P Q a w:=by
 refine wpIn_rangeFunc ?_
 intro fn hfn
 obtain⟨rec,hrec⟩:∃ rec:LoopState→Option Code→Loop,rec=fun st pe=>{ state:=st,pending:=pe,fn,tmps:=a.tmps,params:=ps,assign,body,defers:=r₀.defers }:=⟨_,rfl⟩
 obtain⟨W1,hW1⟩:∃ W1,w.alloc (.loop (rec .ready none))=W1:=⟨_,rfl⟩
 have hL1:W1.heap[w.heap.size]?=some (.loop (rec .ready none)):=by rw [← hW1];exact World.alloc_heap_new w _
 have fW1:∀ Z,Fr Z w W1:=fun Z=>hW1▸(Fr.refl Z w).alloc _
 have sW1:W1.heap.size=w.heap.size+1:=by rw [← hW1];simp
 have lY:=lI [] Y w h0
 have o1:On Y w W1:=(fW1 Bl.none).on (fun k hk=>⟨lY k hk,fun h=>h⟩)
 have hps':∀ x args S W,Has x args S W→args.size=(rec .ready none).params.size:=by rw [hrec];exact hps
 refine⟨w.heap.size,[],W1,{ target:=.fn (.func gf) lb,args:=#[.func (.yield w.heap.size) #[] #[]] },W1,gf,
  #[.func (.yield w.heap.size) #[] #[]]++lb,W1,?_,?_,?_,?_,fun h=>by simp [Fence.wide,Fence.inRound] at h,?_⟩
 ·rw [← hW1,hrec];exact run_enterLoop_inner hl₀ _ _ _ _ _
 ·simp only [resolve,hg]
  simp [go_sem]
 ·intro f' hf';trivial
 ·simp [invoke,go_sem,eg]
 ·-- the caller's blocks,with the record and the block for deferred calls
  let L:=w.heap.size
  let Z₀:Bl:=Bl.or Y (Bl.one L)
  let J:List α→Bl→World→Prop:=fun pre Z W=>∃ Y',I pre Y' W∧(∀ k,Z k↔Y' k∨k=L)∧¬ Y' L∧W.heap[L]?=some (.loop (rec .ready none))
  let Jx:List α→Bl→World→Prop:=fun pre Z W=>∃ Y' c,Ix c pre Y' W∧(∀ k,Z k↔Y' k∨k=L)∧¬ Y' L∧W.heap[L]?=some (.loop (rec .done (some c)))
  have hnY:¬ Y L:=fun h=>by have:=lY _ h;omega
  have toFr:∀ W,Fr Z₀ W1 W→Fr Y w W:=fun W hf=>(fW1 Y).grow hf (fun k hk=>by
   rcases hk with h|h
   ·exact .inl h
   ·exact .inr (by simp only [Bl.one] at h;omega))
  have toGr:∀ Z Y',(∀ k,Z k↔Y' k∨k=L)→aJ W1 Z₀ Z→aJ w Y Y':=fun Z Y' hZ hg k hk=>by
   rcases hg k ((hZ k).2 (.inl hk)) with(h|h)|h
   ·exact .inl h
   ·exact .inr (by simp only [Bl.one] at h;omega)
   ·exact .inr (by omega)
  have hrec':∀ st pe st' pe',({ rec st pe with state:=st',pending:=pe' }:Loop)=rec st' pe':=by rw [hrec];intros;rfl
  refine CallsIn.inRound l₀ (zS (CallsIn.mono (hseq L J Jx Z₀ W1 ((fW1 Bl.none).on (fun k hk=>⟨(hRd k hk).2,fun h=>h⟩)) (fun k hk=>⟨?_,?_⟩) ?_ ?_ ?_ ?_ ?_ ?_) ?_))
  ·rintro(h|h)
   ·exact(hRd k hk).1 h
   ·have:=(hRd k hk).2;simp only [Bl.one] at h;omega
  ·have:=(hRd k hk).2;omega
  ·rintro s Z W W' ⟨Y',hi,hZ,h1,h3⟩ ho
   exact⟨Y',hI _ _ _ _ hi (ho.mono (fun k hk=>(hZ k).2 (.inl hk))),hZ,h1,ho.heap h3 ((hZ _).2 (.inr rfl))⟩
  ·rintro s Z W ⟨Y',hi,hZ,h1,h3⟩ k hk
   rcases (hZ k).1 hk with h|rfl
   ·exact lI _ _ _ hi k h
   ·exact(jJ.1 h3).1
  ·rintro s Z W W' ⟨Y',c,hi,hZ,h1,h3⟩ ho
   exact⟨Y',c,hIx _ _ _ _ _ hi (ho.mono (fun k hk=>(hZ k).2 (.inl hk))),hZ,h1,ho.heap h3 ((hZ _).2 (.inr rfl))⟩
  ·rintro s Z W ⟨Y',c,hi,hZ,h1,h3⟩ k hk
   rcases (hZ k).1 hk with h|rfl
   ·exact lIx _ _ _ _ hi k h
   ·exact(jJ.1 h3).1
  ·-- one round
   rintro pre x rest args S Z W hx ⟨Y',hi,hZ,h1,h3⟩ hH hS hF hG
   have hlt:L<W.heap.size:=(jJ.1 h3).1
   have hy:=run_yield (P:=P) (args:=args) h3 (hps' _ _ _ _ hH)
   rw [hrec] at hy
   refine⟨fn,_,assign,body,hy,(Lo hI hIx lI lIx hrec' (fun _ _=>by rw [hrec]) h3 h1 (hround L pre x rest args S Y' W hx hi hH (fun k hk=>⟨fun h=>(hS k hk).1 ((hZ k).2 (.inl h)),(hS k hk).2,fun e=>(hS k hk).1 ((hZ k).2 (.inr e))⟩) (toFr _ hF) (toGr _ _ hZ hG) (by omega) hlt h1 ⟨_,h3⟩)).mono ?_⟩
   have zin:∀ k,Bl.or Y' (Bl.one L) k→Z k:=fun k hk=>by
    rcases hk with h|h
    ·exact(hZ k).2 (.inl h)
    ·exact(hZ k).2 (.inr h)
   have gZ:∀ Y'',aJ W Y' Y''→aJ W Z (fun k=>Y'' k∨k=L):=fun Y'' hg k hk=>by
    rcases hk with h|h
    ·rcases hg k h with h'|h'
     ·exact .inl ((hZ k).2 (.inl h'))
     ·exact .inr h'
    ·exact .inl ((hZ k).2 (.inr h))
   rintro e W' (⟨rfl,Y'',hi',hf,hg,hl,hyl⟩|⟨rfl,Y'',c,hi',hf,hg,hl,hyl⟩)
   ·exact .inl ⟨rfl,(fun k=>Y'' k∨k=L),⟨Y'',hi',fun k=>Iff.rfl,hyl,hl⟩,hf.mono (fun k hk=>.inl (zin k hk)),gZ _ hg⟩
   ·exact .inr ⟨rfl,(fun k=>Y'' k∨k=L),⟨Y'',c,hi',fun k=>Iff.rfl,hyl,hl⟩,hf.mono (fun k hk=>.inl (zin k hk)),gZ _ hg⟩
  ·exact⟨Y,hI _ _ _ _ h0 o1,fun k=>Iff.rfl,hnY,hL1⟩
  ·-- behind the iterator
   rintro e W ⟨⟨v,rfl⟩,Z,hF,hG,(⟨Y',hi,hZ,h1,h3⟩|⟨pre,hpre,hne,Y',c,hi,hZ,h1,h3⟩)⟩
   ·have hend:=run_endLoop (P:=P) h3 (by rw [hrec];simp)
    refine⟨none,W.putObj L (.loop (rec .exhausted none)),by rw [hrec] at hend ⊢;exact hend,?_⟩
    have ht:=Turn.of_put (jJ.1 h3).1 (rec .exhausted none)
    exact hdone Y' _ (hI _ _ _ _ hi (ht.on h1)) ((toFr _ hF).putObj (.inr (by omega)) _) (toGr _ _ hZ hG)
   ·have hend:=run_endLoop (P:=P) h3 (by rw [hrec];simp)
    refine⟨some c,W.putObj L (.loop (rec .exhausted (some c))),by rw [hrec] at hend ⊢;exact hend,?_⟩
    have ht:=Turn.of_put (jJ.1 h3).1 (rec .exhausted (some c))
    exact hstop c pre Y' _ hpre hne (hIx _ _ _ _ _ hi (ht.on h1)) ((toFr _ hF).putObj (.inr (by omega)) _) (toGr _ _ hZ hG)
def mk (D:Nat):Deferred:={ target:=.collected D,args:=#[] }
def Marks (B:Nat) (ds:List Deferred) (w:World):Prop:=∃ Ds:List Nat,ds=Ds.map mk∧Ds.Nodup∧∀ D∈Ds,B≤D∧w.heap[D]?=some (.deferred (some []))
structure lG (B:Nat) (w w':World):Prop where
 os:w'.os=w.os
 tape:w'.tape=w.tape
 output:w'.output=w.output
 size:w'.heap.size=w.heap.size
 low:∀ (k:Nat),k<B→w'.heap[k]?=w.heap[k]?
 cells:∀ (k:Nat) (c:Array Value) (e:TypeId) (f:Nat×Nat),w.heap[k]?=some (Obj.cells c e f)→w'.heap[k]?=some (Obj.cells c e f)
theorem lG.refl (B:Nat) (w:World):lG B w w:=⟨rfl,rfl,rfl,rfl,fun _ _=>rfl,fun _ _ _ _ h=>h⟩
theorem lG.trans (h:lG B a b) (k:lG B b c):lG B a c :=
 ⟨k.os.trans h.os,k.tape.trans h.tape,k.output.trans h.output,k.size.trans h.size,fun i hi=>(k.low i hi).trans (h.low i hi),fun i _ _ _ hc=>k.cells i _ _ _ (h.cells i _ _ _ hc)⟩
theorem lG.below (h:lG B w w'):Below B w w':=⟨h.os,h.tape,h.output,by rw [h.size];omega,h.low⟩
theorem lG.put {B D:Nat}  (hB:B≤D) (hD:w.heap[D]?=some (.deferred (some []))):lG B w (w.putObj D (.deferred none)) :=
 ⟨rfl,rfl,rfl,by simp,fun k hk=>World.putObj_heap_other (by omega),fun k c e f hc=>(World.putObj_heap_other (fun e'=>by subst e';rw [hc] at hD;simp at hD)).trans hc⟩
theorem Marks.nil (B:Nat) (w:World):Marks B [] w:=⟨[],rfl,by simp,by simp⟩
theorem Marks.on (h:Marks B ds w) (ho:∀ D,B≤D→w.heap[D]?=some (.deferred (some []))→w'.heap[D]?=some (.deferred (some []))):Marks B ds w':=by
 obtain⟨Ds,rfl,hn,hd⟩:=h
 exact⟨Ds,rfl,hn,fun D hD=>⟨(hd D hD).1,ho D (hd D hD).1 (hd D hD).2⟩⟩
theorem Marks.cons {B D:Nat}   (h:Marks B ds w) (ho:∀ D,B≤D→w.heap[D]?=some (.deferred (some []))→w'.heap[D]?=some (.deferred (some []))) (hB:B≤D) (hD:w'.heap[D]?=some (.deferred (some []))) (hs:w.heap.size≤D):Marks B (mk D :: ds) w':=by
 obtain⟨Ds,rfl,hn,hd⟩:=h
 refine⟨D :: Ds,rfl,List.nodup_cons.2 ⟨fun hm=>?_,hn⟩,?_⟩
 ·have:=(jJ.1 (hd D hm).2).1;omega
 ·intro E hE
  rcases List.mem_cons.1 hE with rfl|hE
  ·exact⟨hB,hD⟩
  ·exact⟨(hd E hE).1,ho E (hd E hE).1 (hd E hE).2⟩
theorem nU {u:FrameMode} (hu:u≠.run):∀ {ds:List Deferred} {w:World},Marks B ds w →
  (∀ w',lG B w w'→LeavesInM Fence.wide n P fn tmps R [] u w')→LeavesInM Fence.wide n P fn tmps R ds u w:=by
 rintro ds w ⟨Ds,rfl,hn,hd⟩
 induction Ds generalizing w with
 | nil=>exact fun h=>h w (lG.refl _ _)
 | cons D Ds ih =>
  intro h
  obtain⟨h1,h2⟩:=List.nodup_cons.1 hn
  obtain⟨hB,hD⟩:=hd D (by simp)
  refine⟨hu,.inl ⟨D,_,rfl,run_takeDeferred hD,?_⟩⟩
  refine ih h2 (fun E hE=>⟨(hd E (by simp [hE])).1,?_⟩) (fun w' ht=>h w' ((lG.put hB hD).trans ht))
  exact(World.putObj_heap_other (fun e=>by subst e;exact h1 hE)).trans (hd E (by simp [hE])).2
theorem qBc (hr:fn.results=#[]) (hm:Marks B ds w) (h:∀ w',lG B w w'→R (.returned (.tuple #[])) w') :
  LeavesInM Fence.wide n P fn tmps R ds .returning w :=
 nU (by simp) hm (fun w' ht=>⟨_,results_none hr _ _ _,h w' ht⟩)
theorem Nz {t:Nat} (hr:fn.results=#[.tmp t]) (hm:Marks B ds w) (h:∀ w',lG B w w'→R (.returned (tmps.getD t undef)) w') :
  LeavesInM Fence.wide n P fn tmps R ds .returning w :=
 nU (by simp) hm (fun w' ht=>⟨_,results_tmp hr _ _ _,h w' ht⟩)
theorem qFx {p:Nat} {ty:TypeId} (hr:fn.results=#[.cell p ty]) (g:Nat) (t:TypeId) (cs:Array Value) (d:TypeDesc) (hp:tmps.getD p undef=.pointer (some ⟨g,0,none⟩)) (hg:w.heap[g]?=some (.cells cs t))
  (hu:P.underlying ty=some d) (hd:(match d with|.struct _|.array _ _=>true|_=>false)=true) (hi:(P.info? ty).map (·.size)=some cs.size) (hm:Marks B ds w) (h:∀ w',lG B w w'→R (.returned (.agg cs)) w') :
  LeavesInM Fence.wide n P fn tmps R ds .returning w :=
 nU (by simp) hm (fun w' ht=>⟨_,results_cell_row hr tmps w' g t cs _ d hp (ht.cells _ _ _ _ hg) hu hd hi,h w' ht⟩)
