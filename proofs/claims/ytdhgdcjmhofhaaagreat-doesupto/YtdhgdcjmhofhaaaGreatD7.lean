import Derived.Test.YtdhgdcjmhofhaaaGreatD1
import Derived.RangeFuncNested
import Derived.RangeFuncBound
import Derived.WalkKit
import Derived.Deep.QuietTactic
set_option linter.all false
namespace Go.Proofs.YtdhgdcjmhofhaaaGreat.Tree
open Go.RowKit
variable {B i k l m n:Nat} {P:Program} {R:Ending->World->Prop} {W a b c w w':World} {f:FuncId} {o:Obj} {α:Type _}
def LR:=@Go.Region.free_spec
def KQ:=@Go.Region.noSelect_spec
def JS:=@Go.callsIn_of_wp
def JR:=@Go.getD_set_ne
def GW:=@Go.ready_mono
def GV:=@Go.mem_ready
def EZ:=@Go.info_parts
def DU:=@Go.CallsIn.inRound
def CN:=@Go.callsIn_of_wp_marks
def CM:=@Go.Oper.semAt_some
def BK:=@Go.callsIn_wide
theorem jJ {b:α} {xs:Array α}:xs[i]?=some b ↔ ∃ h,xs[i]=b:=CK
theorem jV (l:List α) (i:Nat) (a:α):l.toArray.setIfInBounds i a=(l.set i a).toArray:=List.setIfInBounds_toArray l i a
theorem jZ {x:α} {xs:List α} {a:α}:(x::xs).set 0 a=a::xs:=List.set_cons_zero
theorem jX {x:α} {xs:List α}  {a:α}:(x::xs).set (i+1) a=x::xs.set i a:=List.set_cons_succ
theorem jK {as bs:List α}:(as++bs).length=as.length+bs.length:=CE
theorem jQ {l:List α}  (h:i<l.length):l[i]?=some l[i]:=FW h
theorem jY (h:n<m) (h':m≤k):n<k:=JD h h'
theorem jU (n:Nat):n≤n:=BV n
theorem vJ (h:n≤m) (h':m≤k):n≤k:=CD h h'
theorem jA {as:List α}:as.toArray.size=as.length:=List.size_toArray
theorem jB {a:α} {as:List α}:(a::as).length=as.length+1:=EM
theorem jN:([]:List α).length=0:=JY
theorem jR {a:α}:Array.replicate (n+1) a=(Array.replicate n a).push a:=Array.replicate_succ
theorem jO {a:α}:Array.replicate 0 a=#[]:=Array.replicate_zero
theorem jP (l:List α) (a:α):l.toArray.push a=(l++[a]).toArray:=List.push_toArray l a
theorem jT (l₁ l₂:List α):l₁.toArray++l₂.toArray=(l₁++l₂).toArray:=List.append_toArray l₁ l₂
theorem jE (as:List α):[]++as=as:=List.nil_append as
theorem jF {a:α} {as bs:List α}:(a::as)++bs=a::(as++bs):=List.cons_append
theorem jC {args:Array Value}  {R R':Ending→World→Prop} (h:Calls P f args w R) (hr:∀ e w',R e w'→R' e w'):Calls P f args w R':=h.mono hr
theorem pS:(∀(a:Act)(v:Value)(d:Tmp),a.put (some d) v={tmps:=a.tmps.setIfInBounds d v,defers:=a.defers})/\(∀(a:Act)(v:Value),a.put none v=a)/\(∀(l:List Value)(i:Nat)(a:Value),l.toArray.setIfInBounds i a=(l.set i a).toArray)/\(∀(x:Value)(l:List Value)(a:Value),(x::l).set 0 a=a::l)/\(∀(x:Value)(l:List Value)(i:Nat)(a:Value),(x::l).set (i+1) a=x::l.set i a):=⟨λ_ _ _=>rfl,λ_ _=>rfl,λ_ _ _=>jV _ _ _,λ_ _ _=>rfl,λ_ _ _ _=>rfl⟩
theorem aN(w:World)(o):(w.alloc o).heap[w.heap.size]?=some o:=by
 show(w.heap.push o)[w.heap.size]?=_
 simp
theorem al1(w a):∃W,w.alloc a=W/\bW w W/\W.heap[w.heap.size]?=some a/\W.heap.size=w.heap.size+1:=⟨_,rfl,(AC _ _).alloc (jU _) _,aN _ _,by simp⟩
theorem al2(w a b):∃W,(w.alloc a).alloc b=W/\bW w W/\W.heap[w.heap.size]?=some a/\W.heap[w.heap.size+1]?=some b/\W.heap.size=w.heap.size+2:=by
 have⟨W,e,h,t0,s⟩:=al1 w a;rw[e];exact⟨_,rfl,h.alloc (by omega) _,(DB _ _ _ (jJ.1 t0).1).trans t0,by have:=aN W b;grind,by simp[s]⟩
theorem al3(w a b c):∃W,((w.alloc a).alloc b).alloc c=W/\bW w W/\W.heap[w.heap.size]?=some a/\W.heap[w.heap.size+1]?=some b/\W.heap[w.heap.size+1+1]?=some c/\W.heap.size=w.heap.size+3:=by
 have⟨W,e,h,t0,t1,s⟩:=al2 w a b;rw[e];exact⟨_,rfl,h.alloc (by omega) _,(DB _ _ _ (jJ.1 t0).1).trans t0,(DB _ _ _ (jJ.1 t1).1).trans t1,by have:=aN W c;grind,by simp[s]⟩
theorem al4(w a b c d):∃W,(((w.alloc a).alloc b).alloc c).alloc d=W/\bW w W/\W.heap[w.heap.size]?=some a/\W.heap[w.heap.size+1]?=some b/\W.heap[w.heap.size+1+1]?=some c/\W.heap[w.heap.size+1+1+1]?=some d/\W.heap.size=w.heap.size+4:=by
 have⟨W,e,h,t0,t1,t2,s⟩:=al3 w a b c;rw[e];exact⟨_,rfl,h.alloc (by omega) _,(DB _ _ _ (jJ.1 t0).1).trans t0,(DB _ _ _ (jJ.1 t1).1).trans t1,(DB _ _ _ (jJ.1 t2).1).trans t2,by have:=aN W d;grind,by simp[s]⟩
theorem aL3(w a b c):∃W,((w.alloc a).alloc b).alloc c=W/\bW w W/\W.heap[w.heap.size]?=some a/\W.heap[w.heap.size+1]?=some b/\W.heap[w.heap.size+2]?=some c/\W.heap.size=w.heap.size+3:=al3 w a b c
theorem aL4(w a b c d):∃W,(((w.alloc a).alloc b).alloc c).alloc d=W/\bW w W/\W.heap[w.heap.size]?=some a/\W.heap[w.heap.size+1]?=some b/\W.heap[w.heap.size+2]?=some c/\W.heap[w.heap.size+3]?=some d/\W.heap.size=w.heap.size+4:=al4 w a b c d
abbrev Bl:=Nat->Prop
def Bl.none:Bl:=λ_=>False
def Bl.one(b:Nat):Bl:=λk=>k=b
theorem nM {α:Sort _} (a:α):∃ x,a=x:=⟨_,rfl⟩
theorem oN {k b:Nat} (h:k≠b):¬Bl.one b k:=h
theorem oK {b:Nat} {p:Nat→Prop} (h:p b):∀ k,Bl.one b k→p k:=λ_ e=>e▸h
theorem gL {α:Type _} {xs:Array α} {i:Nat} {b:α} (h:xs[i]?=some b):i<xs.size:=(CK.1 h).1
theorem bA (w:World) (o:Obj):Below w.heap.size w (w.alloc o):=(AC _ _).alloc (BV _) _
abbrev tA (β:Nat) (root:Int) (ca:Option Addr) (cn cc:Nat):Array Value:=#[.pointer (some ⟨β,0,none⟩),.int .i64 root,.slice ca cn cc]
def Bl.or(A B:Bl):Bl:=λk=>A k\/B k
variable {Y Z:Bl}
structure Fr (Y:Bl) (w w':World):Prop where
 os:w'.os=w.os
 tape:w'.tape=w.tape
 output:w'.output=w.output
 size:w.heap.size<=w'.heap.size
 block:∀k,k<w.heap.size->¬Y k->w'.heap[k]?=w.heap[k]?
structure On (Y:Bl) (w w':World):Prop where
 os:w'.os=w.os
 tape:w'.tape=w.tape
 output:w'.output=w.output
 size:w.heap.size<=w'.heap.size
 block:∀k,Y k->w'.heap[k]?=w.heap[k]?
theorem Fr.refl(Y w):Fr Y w w:=⟨rfl,rfl,rfl,jU _,λ_ _ _=>rfl⟩
def AF:=@Fr.refl
def aJ(w:World)(Y Y':Bl):Prop:=∀k,Y' k->Y k\/w.heap.size<=k
theorem aJ.refl(w Y):aJ w Y Y:=λ_ a=>.inl a
def CQ:=@aJ.refl
theorem aJ.trans {X Y Z}(h:aJ a X Y)(f:a.heap.size<=b.heap.size)(k:aJ b Y Z):aJ a X Z:=λd e=>by
 rcases k d e with c|c
 ·exact h d c
 omega
theorem Fr.grow (h:Fr Y a b)(k:Fr Z b c)(g:aJ a Y Z):Fr Y a c :=
 ⟨k.os.trans h.os,k.tape.trans h.tape,k.output.trans h.output,vJ h.size k.size,λd e f =>
  (k.block d (jY e h.size) (λi=>(g d i).elim f (λj=>by omega))).trans (h.block d e f)⟩
theorem Fr.trans (h:Fr Y a b)(k:Fr Y b c):Fr Y a c:=h.grow k (aJ.refl _ _)
theorem Fr.mono (h:Fr Y a b)(f:∀k,Y k->Z k\/a.heap.size<=k):Fr Z a b :=
 ⟨h.os,h.tape,h.output,h.size,λk c d=>h.block k c (λe=>(f k e).elim d (λg=>by omega))⟩
theorem Fr.drew (h:Fr Y a w):Fr Y a w.drew:=h.trans ⟨rfl,rfl,rfl,jU _,λ_ _ _=>rfl⟩
theorem Fr.alloc (h:Fr Y a w)(o):Fr Y a (w.alloc o):=
 h.trans ⟨rfl,rfl,rfl,by simp,λc b _=>DB _ _ _ b⟩
theorem Fr.setCell (h:Fr Y a w){p}(e:Y p.block\/a.heap.size<=p.block)(u):Fr Y a (w.setCell p u):=
 ⟨h.os,h.tape,h.output,by have:=h.size;simp_all,λf d b=>(CY _ _ _ _ (λc=>by grind)).trans (h.block f d b)⟩
def LX:=@Fr.setCell
theorem Fr.putObj (h:Fr Y a w)(e:Y l\/a.heap.size<=l)(o):Fr Y a (w.putObj l o):=
 ⟨h.os,h.tape,h.output,by have:=h.size;simp_all,λf d b=>(World.putObj_heap_other (λc=>by grind)).trans (h.block f d b)⟩
theorem Fr.of_below (h:bW w w'):Fr Y w w':=⟨h.os,h.tape,h.output,h.size,λb a _=>h.block b a⟩
def AA:=@Fr.of_below
theorem Fr.below (h:Fr Y w w')(c:B<=w.heap.size)(a:∀k,Y k->B<=k):Below B w w' :=
 ⟨h.os,h.tape,h.output,h.size,λk d=>h.block k (by omega) (λb=>by grind)⟩
theorem Fr.below0 (h:Fr Bl.none w w'):bW w w':=h.below (jU _) (λ_ h=>h.elim)
theorem Fr.grown {row}(h:Fr Y a w)(b:w.grownBy w' row)(f:∀k,row=some k->Y k\/a.heap.size<=k):Fr Y a w' :=
 ⟨b.os.trans h.os,b.tape.trans h.tape,b.output.trans h.output,vJ h.size b.size,λk c d =>
  (b.block k (jY c h.size) (λe=>(f k e.symm).elim d (λg=>by omega))).trans (h.block k c d)⟩
theorem Fr.heap (h:Fr Y w w')(a:w.heap[k]?=some o)(b:¬Y k):w'.heap[k]?=some o :=
 (h.block k (jJ.1 a).1 b).trans a
theorem Fr.cell (h:Fr Y w w'){b o}(a:b<w.heap.size)(c:¬Y b):w'.c b o=w.c b o:=CF (w:=w) (h.block b a c)
theorem Fr.on (h:Fr Y w w')(b:∀k,Z k->k<w.heap.size/\¬Y k):On Z w w':=⟨h.os,h.tape,h.output,h.size,λk a=>h.block k (b k a).1 (b k a).2⟩
theorem On.refl(Y w):On Y w w:=⟨rfl,rfl,rfl,jU _,λ_ _=>rfl⟩
def CJ:=@On.refl
theorem On.trans (h:On Y a b)(k:On Y b c):On Y a c :=
 ⟨k.os.trans h.os,k.tape.trans h.tape,k.output.trans h.output,vJ h.size k.size,λe d=>(k.block e d).trans (h.block e d)⟩
theorem On.mono (h:On Y a b)(d:∀k,Z k->Y k):On Z a b:=⟨h.os,h.tape,h.output,h.size,λk c=>h.block k (d k c)⟩
theorem On.heap (h:On Y w w')(a:w.heap[k]?=some o)(b:Y k):w'.heap[k]?=some o:=(h.block k b).trans a
theorem On.cell (h:On Y w w'){b}(o)(a:Y b):w'.c b o=w.c b o:=CF (w:=w) (h.block b a)
theorem On.of_below (h:bW w w')(b:∀k,Y k->k<w.heap.size):On Y w w':=⟨h.os,h.tape,h.output,h.size,λk a=>h.block k (b k a)⟩
theorem vV (h:Below w.heap.size w w') (hy:∀ k,Y k → k<w.heap.size):On Y w w':=On.of_below h hy
theorem On.alloc (h:On Y a w)(c:∀k,Y k->k<w.heap.size)(o):On Y a (w.alloc o):=
 h.trans ⟨rfl,rfl,rfl,by simp,λk b=>DB _ _ _ (c k b)⟩
theorem On.putObj (h:On Y a w)(d:¬Y l)(o):On Y a (w.putObj l o):=
 h.trans ⟨rfl,rfl,rfl,by simp,λe c=>World.putObj_heap_other (λb=>by grind)⟩
theorem On.setCell (h:On Y a w){p}(d:¬Y p.block)(u):On Y a (w.setCell p u):=
 h.trans ⟨rfl,rfl,rfl,by simp,λe c=>CY _ _ _ _ (λb=>by grind)⟩
def rH{α:Type}(J:α->Bl->World->Prop):Prop:=∀s Y W W',J s Y W->On Y W W'->J s Y W'
def Lu{α:Type}(J:α->Bl->World->Prop):Prop:=∀s Y W,J s Y W->∀k,Y k->k<W.heap.size
def qGk{α:Type}(J Jx:List α->Bl->World->Prop)(s:List α)(Y:Bl)(W:World)(e:Ending)(W':World):Prop :=
 (e=.returned (.bool true)/\∃Y',J s Y' W'/\Fr Y W W'/\aJ W Y Y') \/
 (e=.returned (.bool false)/\∃Y',Jx s Y' W'/\Fr Y W W'/\aJ W Y Y')
def qKl{α:Type}(J Jx:List α->Bl->World->Prop)(xs:List α)(Y:Bl)(W:World)(e:Ending)(W':World):Prop :=
 (∃v,e=.returned v)/\∃Y',Fr Y W W'/\aJ W Y Y'/\(J xs Y' W'\/∃pre,pre <+: xs/\pre≠[]/\Jx pre Y' W')
def oD{α:Type}(P:Program)(g:Nat)(lb:Array Value)(Has:α->Array Value->Bl->World->Prop)(xs:List α)(Rd:Bl)(w:World):Prop :=
 ∀(l:Nat) (J Jx:List α->Bl->World->Prop) (Y:Bl) (W:World),On Rd w W->(∀k,Rd k->¬Y k/\k<W.heap.size)->rH J->Lu J->rH Jx->Lu Jx ->
  (∀pre x rest args S Y' W',xs=pre++x :: rest->J pre Y' W'->Has x args S W'->(∀k,S k->¬Y' k/\k<W'.heap.size)->Fr Y W W'->aJ W Y Y' ->
   YieldAt Fence.wide 0 P l args W' (qGk J Jx (pre++[x]) Y' W')) ->
  J [] Y W->CallsIn Fence.wide 0 P g (#[.func (.yield l) #[] #[]]++lb) W (qKl J Jx xs Y W)
theorem dM {d a b}(h:RoundIn Fence.wide n P l f d a b w R):RoundIn Fence.wide m P l f d a b w R :=
 ⟨h.1,λc e _=>h.2 c e (room_wide _)⟩
theorem Ap {args}(h:CallsIn Fence.wide n P f args w R):CallsIn Fence.wide m P f args w R :=
 callsIn_wide.2 (callsIn_wide.1 h)
structure rQ (l:Nat) (W W':World):Prop where
 os:W'.os=W.os
 tape:W'.tape=W.tape
 output:W'.output=W.output
 size:W'.heap.size=W.heap.size
 block:∀k,k≠l->W'.heap[k]?=W.heap[k]?
 rcd:∃r,W'.heap[l]?=some (.loop r)
theorem rQ.of_put (h:l<W.heap.size)(r):rQ l W (W.putObj l (.loop r)):=⟨rfl,rfl,rfl,by simp,λb a=>World.putObj_heap_other a,_,World.putObj_heap_same h⟩
theorem rQ.on (h:rQ l W a)(d:¬Y l):On Y W a:=⟨h.os,h.tape,h.output,by rw[h.size];omega,λe c=>h.block e (λb=>by grind)⟩
theorem rQ.fr (h:rQ l W a):Fr (Bl.one l) W a:=⟨h.os,h.tape,h.output,by rw[h.size];omega,λc _ b=>h.block c b⟩
theorem rQ.heap (h:rQ l W a)(c:W.heap[k]?=some o)(b:k≠l):a.heap[k]?=some o:=(h.block k b).trans c
def qIr{α:Type}(I:List α->Bl->World->Prop)(Ix:Code->List α->Bl->World->Prop)(s:List α)(Y:Bl)(W:World):Exit->Act->World->Prop
 |.normal,_,W'=>∃Y',I s Y' W'/\Fr Y W W'/\aJ W Y Y'
 |.ret,_,W'=>∃Y',Ix .ret s Y' W'/\Fr Y W W'/\aJ W Y Y'
 |.exit id,_,W'=>∃Y',Ix (.exit id) s Y' W'/\Fr Y W W'/\aJ W Y Y'
 |.goto t,_,W'=>∃Y',Ix (.goto t) s Y' W'/\Fr Y W W'/\aJ W Y Y'
 |_,_,_=>False
def iN{α:Type}(P:Program)(I:List α->Bl->World->Prop)(Ix:Code->List α->Bl->World->Prop)(l:Nat)(tmps:Array Value)(assign body:Code)(s:List α)(Y:Bl)(W:World):Prop :=
 assign.wpIn (Fence.wide.inRound l) 0 P (Exit.then (λa₁ W₁=>Fr Y W W₁/\∀W₂,rQ l W₁ W₂->body.wpIn (Fence.wide.inRound l) 0 P (qIr I Ix s Y W₂) a₁ W₂) (λ_ _ _=>False)) {tmps:=tmps,defers:=[]} W
theorem Mp {K}{A:List K->Bl->World->Prop}{B}(a1:rH A)(E:∀c,rH (B c))(ac:Lu A)(ad:∀c,Lu (B c)){a0 Z M N s}{f:LoopState->Option Code->Loop}(a4:∀D J st' X,({f D J with state:=st',pending:=X}:Loop)=f st' X)(a5:∀D J,(f D J).state=D)(R:W.heap[l]?=some (.loop (f .ready none)))(G:¬Y l)(a3:iN P A B l Z M N s Y W):
  RoundIn Fence.wide 0 P l a0 Z M N W (λe v =>
   (e=.returned (.bool true)/\∃a,A s a v/\Fr (Bl.or Y (Bl.one l)) W v/\aJ W Y a/\v.heap[l]?=some (.loop (f .ready none))/\¬a l) \/
   (e=.returned (.bool false)/\∃a c,B c s a v/\Fr (Bl.or Y (Bl.one l)) W v/\aJ W Y a/\v.heap[l]?=some (.loop (f .done (some c)))/\¬a l)):=by
 refine roundIn_of_wpIn trivial (wpIn_mono a3 ?_);have a9:=(jJ.1 R).1;intro e a7 L x;cases e with
 |normal =>
  have⟨O,a2⟩:=x;have S:=O.heap R G;have V:=(jJ.1 S).1;refine⟨_,run_beginRound S (a5 _ _),?_⟩;have⟨m,F⟩:∃m,L.putObj l (.loop {f .ready none with state:=.busy})=m:=⟨_,rfl⟩;have I:rQ l L m:=F▸rQ.of_put V _;have T:m.heap[l]?=some (.loop {f .ready none with state:=.busy}):=F▸World.putObj_heap_same V;have ab:=I.size.symm;have aa:=(jJ.1 T).1;have Q:Fr (Bl.or Y (Bl.one l)) W m:=(O.mono (λz k=>.inl (.inl k))).trans (I.fr.mono (λz k=>.inl (.inr k)));rw[F];apply wpIn_mono (a2 m I);have C:∀(b:Option Code) (a:Bl) (j:World),Fr Y m j->aJ m Y a ->
    ∃n,(Instr.endRound l b).run P j=.ok (.bool b.isNone) n/\rQ l j n/\n.heap[l]?=some (.loop (f (if b.isNone then .ready else .done) b))/\¬a l/\Fr (Bl.or Y (Bl.one l)) W n/\aJ W Y a:=by
   intro b a j g h;have U:=g.heap T G;have H:=(jJ.1 U).1;have i:=run_endRound (P:=P) b U;have e:({({f .ready none with state:=.busy}:Loop) with state:=if b.isNone then .ready else .done,pending:=b}:Loop)=f (if b.isNone then .ready else .done) b:=by
    have:=a4 .ready none (if b.isNone then .ready else .done) b;rw[<-this]
   rw[e]at i;refine⟨_,i,rQ.of_put H _,World.putObj_heap_same H,λa6=>?_,(Q.trans (g.mono (λz k=>.inl (.inl k)))).trans ((rQ.of_put H _).fr.mono (λz k=>.inl (.inr k))),?_⟩
   ·rcases h l a6 with w|w
    ·exact G w
    ·omega
   ·exact λz k=>by
     rcases h z k with w|w
     ·grind
     ·exact .inr (vJ Q.size w)
  intro e a8 j y;cases e with
  |normal =>
   have⟨a,q,g,h⟩:=y;have⟨n,i,u,r,d,o,p⟩:=C none a j g h;exact⟨_,_,i,.inl ⟨rfl,a,a1 _ _ _ _ q (u.on d),o,p,r,d⟩⟩
  |ret =>
   have⟨a,q,g,h⟩:=y;have⟨n,i,u,r,d,o,p⟩:=C (some .ret) a j g h;exact⟨_,_,i,.inr ⟨rfl,a,_,E _ _ _ _ _ q (u.on d),o,p,r,d⟩⟩
  |exit id =>
   have⟨a,q,g,h⟩:=y;have⟨n,i,u,r,d,o,p⟩:=C (some (.exit id)) a j g h;exact⟨_,_,i,.inr ⟨rfl,a,_,E _ _ _ _ _ q (u.on d),o,p,r,d⟩⟩
  |goto t =>
   have⟨a,q,g,h⟩:=y;have⟨n,i,u,r,d,o,p⟩:=C (some (.goto t)) a j g h;exact⟨_,_,i,.inr ⟨rfl,a,_,E _ _ _ _ _ q (u.on d),o,p,r,d⟩⟩
  |panic ch=>exact y.elim
  |outgrown=>exact y.elim
 |exit id=>exact x.elim
 |goto t=>exact x.elim
 |ret=>exact x.elim
 |panic chain=>exact x.elim
 |outgrown=>exact x.elim
theorem fF {α:Type}{g:Operand}{ps:Array Tmp}{assign body:Code}{Q:Exit->Act->World->Prop}{a:Act}{gf:Nat}{lb:Array Value}(hg:a.eval g=.func (.func gf) #[] lb)(eg:∀args w,(callFunc gf args).run P w=.ok (.enter gf args) w){Has}{xs:List α}{Rd:Bl}(hseq:oD P gf lb Has xs Rd w)(hps:∀x args S W,Has x args S W->args.size=ps.size)(I:List α->Bl->World->Prop)(Ix:Code->List α->Bl->World->Prop)(hI:rH I)(hIx:∀c,rH (Ix c))(lI:Lu I)(lIx:∀c,Lu (Ix c))(Y:Bl)(h0:I [] Y w)(hRd:∀k,Rd k->¬Y k/\k<w.heap.size)(hround:∀l pre x rest args S Y' W,xs=pre++x :: rest->I pre Y' W->Has x args S W->(∀k,S k->¬Y' k/\k<W.heap.size/\k≠l)->Fr Y w W->aJ w Y Y'->w.heap.size<=l->l<W.heap.size->¬Y' l->(∃r,W.heap[l]?=some (.loop r)) ->
   iN P I Ix l ((ps.zip args).foldl (λt (p,v)=>t.setIfInBounds p v) a.tmps) assign body (pre++[x]) Y' W)(hdone:∀D Y' W,w.heap.size<=D->¬Y' D->I xs Y' W->Fr Y w W->aJ w Y Y'->W.heap[D]?=some (.deferred (some []))->Q .normal {a with defers:={target:=.collected D,args:=#[]}:: a.defers} W)(hstop:∀D c pre Y' W,w.heap.size<=D->¬Y' D->pre <+: xs->pre≠[]->Ix c pre Y' W->Fr Y w W->aJ w Y Y'->W.heap[D]?=some (.deferred (some []))->c.wpIn Fence.wide n P Q {a with defers:={target:=.collected D,args:=#[]}:: a.defers} W):
  (Code.rangeFunc g ps assign body).wpIn Fence.wide n P Q a w:=by
 refine wpIn_rangeFunc ?_;intro fn hfn;obtain⟨rec,hrec⟩:∃rec:LoopState->Option Code->Loop,rec=λst pe=>{state:=st,pending:=pe,fn,tmps:=a.tmps,params:=ps,assign,body,defers:=w.heap.size}:=⟨_,rfl⟩;obtain⟨W1,hW1,-,hK1,hL1,sW1⟩:=al2 w (.deferred (some [])) (.loop (rec .ready none))
 have fW1:∀Z,Fr Z w W1:=λZ=>hW1▸((Fr.refl Z w).alloc _).alloc _
 have lY:=lI [] Y w h0;have o1:=(fW1 Bl.none).on (λk hk=>⟨lY k hk,λh=>h⟩);have hps':∀x args S W,Has x args S W->args.size=(rec .ready none).params.size:=by rw[hrec];exact hps
 refine⟨w.heap.size+1,[{target:=.collected w.heap.size,args:=#[]}],W1,{target:=.fn (.func gf) lb,args:=#[.func (.yield (w.heap.size+1)) #[] #[]]},W1,gf,
  #[.func (.yield (w.heap.size+1)) #[] #[]]++lb,W1,?_,?_,?_,?_,λh=>by simp[Fence.wide]at h,?_⟩
 ·rw[<-hW1,hrec];exact run_enterLoop_outer _ _ _ _ _
 ·simp only[resolve,hg]
  simp[go_sem]
 ·intro f' hf';trivial
 ·simp[invoke,go_sem,eg]
 ·let L:=w.heap.size+1;let D:=w.heap.size;let Z₀:Bl:=Bl.or Y (Bl.or (Bl.one L) (Bl.one D));let J:List α->Bl->World->Prop:=λpre Z W=>∃Y',I pre Y' W/\(∀k,Z k↔Y' k\/k=L\/k=D)/\¬Y' L/\¬Y' D/\W.heap[L]?=some (.loop (rec .ready none))/\W.heap[D]?=some (.deferred (some []));let Jx:List α->Bl->World->Prop:=λpre Z W=>∃Y' c,Ix c pre Y' W/\(∀k,Z k↔Y' k\/k=L\/k=D)/\¬Y' L/\¬Y' D/\W.heap[L]?=some (.loop (rec .done (some c)))/\W.heap[D]?=some (.deferred (some []));have hnY:¬Y L/\¬Y D:=⟨λh=>by have:=lY _ h;omega,λh=>by have:=lY _ h;omega⟩;have toFr:∀W,Fr Z₀ W1 W->Fr Y w W:=λW hf=>(fW1 Y).grow hf (λk hk=>by
   rcases hk with h|h|h
   ·exact .inl h
   ·exact .inr (by simp only[Bl.one]at h;omega)
   ·exact .inr (by simp only[Bl.one]at h;omega))
  have toGr:∀Z Y',(∀k,Z k↔Y' k\/k=L\/k=D)->aJ W1 Z₀ Z->aJ w Y Y':=λZ Y' hZ hg k hk=>by
   rcases hg k ((hZ k).2 (.inl hk)) with(h|h|h)|h
   ·exact .inl h
   ·exact .inr (by simp only[Bl.one]at h;omega)
   ·exact .inr (by simp only[Bl.one]at h;omega)
   ·exact .inr (by omega)
  have hrec':∀st pe st' pe',({rec st pe with state:=st',pending:=pe'}:Loop)=rec st' pe':=by rw[hrec];intros;rfl
  refine Ap (CallsIn.mono (hseq L J Jx Z₀ W1 ((fW1 Bl.none).on (λk hk=>⟨(hRd k hk).2,λh=>h⟩)) (λk hk=>⟨?_,?_⟩) ?_ ?_ ?_ ?_ ?_ ?_) ?_)
  ·rintro(h|h|h)
   ·exact(hRd k hk).1 h
   ·have:=(hRd k hk).2;simp only[Bl.one]at h;omega
   ·have:=(hRd k hk).2;simp only[Bl.one]at h;omega
  ·have:=(hRd k hk).2;omega
  ·rintro s Z W W' ⟨Y',hi,hZ,h1,h2,h3,h4⟩ ho
   exact⟨Y',hI _ _ _ _ hi (ho.mono (λk hk=>(hZ k).2 (.inl hk))),hZ,h1,h2,ho.heap h3 ((hZ _).2 (.inr (.inl rfl))),ho.heap h4 ((hZ _).2 (.inr (.inr rfl)))⟩
  ·rintro s Z W ⟨Y',hi,hZ,h1,h2,h3,h4⟩ k hk
   rcases(hZ k).1 hk with h|rfl|rfl
   ·exact lI _ _ _ hi k h
   ·exact(jJ.1 h3).1
   ·exact(jJ.1 h4).1
  ·rintro s Z W W' ⟨Y',c,hi,hZ,h1,h2,h3,h4⟩ ho
   exact⟨Y',c,hIx _ _ _ _ _ hi (ho.mono (λk hk=>(hZ k).2 (.inl hk))),hZ,h1,h2,ho.heap h3 ((hZ _).2 (.inr (.inl rfl))),ho.heap h4 ((hZ _).2 (.inr (.inr rfl)))⟩
  ·rintro s Z W ⟨Y',c,hi,hZ,h1,h2,h3,h4⟩ k hk
   rcases(hZ k).1 hk with h|rfl|rfl
   ·exact lIx _ _ _ _ hi k h
   ·exact(jJ.1 h3).1
   ·exact(jJ.1 h4).1
  ·rintro pre x rest args S Z W hx ⟨Y',hi,hZ,h1,h2,h3,h4⟩ hH hS hF hG;have hlt:=(jJ.1 h3).1;have hy:=run_yield (P:=P) (args:=args) h3 (hps' _ _ _ _ hH);rw[hrec]at hy;refine⟨fn,_,assign,body,hy,(Mp hI hIx lI lIx hrec' (λ_ _=>by rw[hrec]) h3 h1 (hround L pre x rest args S Y' W hx hi hH (λk hk=>⟨λh=>(hS k hk).1 ((hZ k).2 (.inl h)),(hS k hk).2,λe=>(hS k hk).1 ((hZ k).2 (.inr (.inl e)))⟩) (toFr _ hF) (toGr _ _ hZ hG) (by omega) hlt h1 ⟨_,h3⟩)).mono ?_⟩;have zin:∀k,Bl.or Y' (Bl.one L) k->Z k:=λk hk=>by
    rcases hk with h|h
    ·exact(hZ k).2 (.inl h)
    ·exact(hZ k).2 (.inr (.inl h))
   have dW:∀W',Fr (Bl.or Y' (Bl.one L)) W W'->W'.heap[D]?=some (.deferred (some [])):=λW' hf=>hf.heap h4 (λh=>by
    rcases h with h|h
    ·exact h2 h
    ·simp only[Bl.one]at h;omega)
   have nD:∀Y'',aJ W Y' Y''->¬Y'' D:=λY'' hg h=>by
    rcases hg D h with h'|h'
    ·exact h2 h'
    ·omega
   have gZ:∀Y'',aJ W Y' Y''->aJ W Z (λk=>Y'' k\/k=L\/k=D):=λY'' hg k hk=>by
    rcases hk with h|h|h
    ·rcases hg k h with h'|h'
     ·exact .inl ((hZ k).2 (.inl h'))
     ·exact .inr h'
    ·exact .inl ((hZ k).2 (.inr (.inl h)))
    ·exact .inl ((hZ k).2 (.inr (.inr h)))
   rintro e W' (⟨rfl,Y'',hi',hf,hg,hl,hyl⟩|⟨rfl,Y'',c,hi',hf,hg,hl,hyl⟩)
   ·exact .inl ⟨rfl,(λk=>Y'' k\/k=L\/k=D),⟨Y'',hi',λk=>EP,hyl,nD _ hg,hl,dW _ hf⟩,hf.mono (λk hk=>.inl (zin k hk)),gZ _ hg⟩
   ·exact .inr ⟨rfl,(λk=>Y'' k\/k=L\/k=D),⟨Y'',c,hi',λk=>EP,hyl,nD _ hg,hl,dW _ hf⟩,hf.mono (λk hk=>.inl (zin k hk)),gZ _ hg⟩
  ·exact⟨Y,hI _ _ _ _ h0 o1,λk=>EP,hnY.1,hnY.2,hL1,hK1⟩
  ·rintro e W ⟨⟨v,rfl⟩,Z,hF,hG,(⟨Y',hi,hZ,h1,h2,h3,h4⟩|⟨pre,hpre,hne,Y',c,hi,hZ,h1,h2,h3,h4⟩)⟩
   ·have hend:=run_endLoop (P:=P) h3 (by rw[hrec];simp)
    refine⟨none,W.putObj L (.loop (rec .exhausted none)),by rw[hrec]at hend⊢;exact hend,?_⟩;have ht:=rQ.of_put (jJ.1 h3).1 (rec .exhausted none);exact hdone D Y' _ (jU _) h2 (hI _ _ _ _ hi (ht.on h1)) ((toFr _ hF).putObj (.inr (by omega)) _) (toGr _ _ hZ hG) (ht.heap h4 (by omega))
   ·have hend:=run_endLoop (P:=P) h3 (by rw[hrec];simp)
    refine⟨some c,W.putObj L (.loop (rec .exhausted (some c))),by rw[hrec]at hend⊢;exact hend,?_⟩;have ht:=rQ.of_put (jJ.1 h3).1 (rec .exhausted (some c));exact hstop D c pre Y' _ (jU _) h2 hpre hne (hIx _ _ _ _ _ hi (ht.on h1)) ((toFr _ hF).putObj (.inr (by omega)) _) (toGr _ _ hZ hG) (ht.heap h4 (by omega))
theorem Lx {α:Type}{g:Operand}{ps:Array Tmp}{assign body:Code}{Q:Exit->Act->World->Prop}{a:Act}{l₀:Nat}{r₀:Loop}(hl₀:w.heap[l₀]?=some (.loop r₀)){gf:Nat}{lb:Array Value}(hg:a.eval g=.func (.func gf) #[] lb)(eg:∀args w,(callFunc gf args).run P w=.ok (.enter gf args) w){Has}{xs:List α}{Rd:Bl}(hseq:oD P gf lb Has xs Rd w)(hps:∀x args S W,Has x args S W->args.size=ps.size)(I:List α->Bl->World->Prop)(Ix:Code->List α->Bl->World->Prop)(hI:rH I)(hIx:∀c,rH (Ix c))(lI:Lu I)(lIx:∀c,Lu (Ix c))(Y:Bl)(h0:I [] Y w)(hRd:∀k,Rd k->¬Y k/\k<w.heap.size)(hround:∀l pre x rest args S Y' W,xs=pre++x :: rest->I pre Y' W->Has x args S W->(∀k,S k->¬Y' k/\k<W.heap.size/\k≠l)->Fr Y w W->aJ w Y Y'->w.heap.size<=l->l<W.heap.size->¬Y' l->(∃r,W.heap[l]?=some (.loop r)) ->
   iN P I Ix l ((ps.zip args).foldl (λt (p,v)=>t.setIfInBounds p v) a.tmps) assign body (pre++[x]) Y' W)(hdone:∀Y' W,I xs Y' W->Fr Y w W->aJ w Y Y'->Q .normal a W)(hstop:∀c pre Y' W,pre <+: xs->pre≠[]->Ix c pre Y' W->Fr Y w W->aJ w Y Y'->c.wpIn (Fence.wide.inRound l₀) n P Q a W):
  (Code.rangeFunc g ps assign body).wpIn (Fence.wide.inRound l₀) n P Q a w:=by
 apply wpIn_rangeFunc;intro fn hfn;have⟨rec,hrec⟩:∃rec:LoopState->Option Code->Loop,rec=λst pe=>{state:=st,pending:=pe,fn,tmps:=a.tmps,params:=ps,assign,body,defers:=r₀.defers}:=⟨_,rfl⟩;obtain⟨W1,hW1,-,hL1,sW1⟩:=al1 w (.loop (rec .ready none))
 have fW1:∀Z,Fr Z w W1:=λZ=>hW1▸(Fr.refl Z w).alloc _
 have lY:=lI [] Y w h0;have hps':∀x args S W,Has x args S W->args.size=(rec .ready none).params.size:=by grind
 refine⟨w.heap.size,[],W1,{target:=.fn (.func gf) lb,args:=#[.func (.yield w.heap.size) #[] #[]]},W1,gf,
  #[.func (.yield w.heap.size) #[] #[]]++lb,W1,by rw[<-hW1,hrec];exact run_enterLoop_inner hl₀ _ _ _ _ _,?_,by intro f' hf';trivial,by simp[invoke,go_sem,eg],λh=>by simp[Fence.wide,Fence.inRound]at h,?_⟩
 ·simp only[resolve,hg]
  simp[go_sem]
 ·let L:=w.heap.size;let Z₀:Bl:=Bl.or Y (Bl.one L);let J:List α->Bl->World->Prop:=λpre Z W=>∃Y',I pre Y' W/\(∀k,Z k↔Y' k\/k=L)/\¬Y' L/\W.heap[L]?=some (.loop (rec .ready none));let Jx:List α->Bl->World->Prop:=λpre Z W=>∃Y' c,Ix c pre Y' W/\(∀k,Z k↔Y' k\/k=L)/\¬Y' L/\W.heap[L]?=some (.loop (rec .done (some c)));have hnY:¬Y L:=λh=>by grind
  have toFr:∀W,Fr Z₀ W1 W->Fr Y w W:=λW hf=>(fW1 Y).grow hf (λk hk=>by
   rcases hk with h|h
   ·grind
   ·exact .inr (by simp only[Bl.one]at h;omega))
  have toGr:∀Z Y',(∀k,Z k↔Y' k\/k=L)->aJ W1 Z₀ Z->aJ w Y Y':=λZ Y' hZ hg k hk=>by
   rcases hg k ((hZ k).2 (.inl hk)) with(h|h)|h
   ·grind
   ·exact .inr (by simp only[Bl.one]at h;omega)
   omega
  have hrec':∀st pe st' pe',({rec st pe with state:=st',pending:=pe'}:Loop)=rec st' pe':=by grind
  refine CallsIn.inRound l₀ (Ap (CallsIn.mono (hseq L J Jx Z₀ W1 ((fW1 Bl.none).on (λk hk=>⟨(hRd k hk).2,λh=>h⟩)) (λk hk=>⟨?_,by grind⟩) ?_ ?_ ?_ ?_ ?_ (⟨Y,hI _ _ _ _ h0 ((fW1 Bl.none).on (λk hk=>⟨lY k hk,λh=>h⟩)),λk=>EP,hnY,hL1⟩)) ?_))
  ·rintro(h|h)
   ·grind
   ·have:=(hRd k hk).2;simp only[Bl.one]at h;omega
  ·intro s Z W W' ⟨Y',hi,hZ,h1,h3⟩ ho
   exact⟨Y',hI _ _ _ _ hi (ho.mono (λk hk=>(hZ k).2 (.inl hk))),hZ,h1,ho.heap h3 ((hZ _).2 (.inr rfl))⟩
  ·intro s Z W ⟨Y',hi,hZ,h1,h3⟩ k hk
   rcases(hZ k).1 hk with h|rfl
   ·exact lI _ _ _ hi k h
   grind
  ·intro s Z W W' ⟨Y',c,hi,hZ,h1,h3⟩ ho
   exact⟨Y',c,hIx _ _ _ _ _ hi (ho.mono (λk hk=>(hZ k).2 (.inl hk))),hZ,h1,ho.heap h3 ((hZ _).2 (.inr rfl))⟩
  ·intro s Z W ⟨Y',c,hi,hZ,h1,h3⟩ k hk
   rcases(hZ k).1 hk with h|rfl
   ·exact lIx _ _ _ _ hi k h
   grind
  ·intro pre x rest args S Z W hx ⟨Y',hi,hZ,h1,h3⟩ hH hS hF hG;have hy:=run_yield (P:=P) (args:=args) h3 (hps' _ _ _ _ hH);rw[hrec]at hy;refine⟨fn,_,assign,body,hy,(Mp hI hIx lI lIx hrec' (λ_ _=>by rw[hrec]) h3 h1 (hround L pre x rest args S Y' W hx hi hH (λk hk=>⟨λh=>(hS k hk).1 ((hZ k).2 (.inl h)),(hS k hk).2,λe=>(hS k hk).1 ((hZ k).2 (.inr e))⟩) (toFr _ hF) (toGr _ _ hZ hG) (by omega) ((jJ.1 h3).1) h1 ⟨_,h3⟩)).mono ?_⟩;have zin:∀k,Bl.or Y' (Bl.one L) k->Z k:=λk hk=>by
    rcases hk with h|h
    ·grind
    ·exact(hZ k).2 (.inr h)
   have gZ:∀Y'',aJ W Y' Y''->aJ W Z (λk=>Y'' k\/k=L):=λY'' hg k hk=>by
    rcases hk with h|h
    ·rcases hg k h with h'|h'
     ·grind
     omega
    grind
   rintro e W' (⟨rfl,Y'',hi',hf,hg,hl,hyl⟩|⟨rfl,Y'',c,hi',hf,hg,hl,hyl⟩)
   ·exact .inl ⟨rfl,(λk=>Y'' k\/k=L),⟨Y'',hi',λk=>EP,hyl,hl⟩,hf.mono (λk hk=>.inl (zin k hk)),gZ _ hg⟩
   ·exact .inr ⟨rfl,(λk=>Y'' k\/k=L),⟨Y'',c,hi',λk=>EP,hyl,hl⟩,hf.mono (λk hk=>.inl (zin k hk)),gZ _ hg⟩
  ·rintro e W ⟨⟨v,rfl⟩,Z,hF,hG,(⟨Y',hi,hZ,h1,h3⟩|⟨pre,hpre,hne,Y',c,hi,hZ,h1,h3⟩)⟩
   ·have hend:=run_endLoop (P:=P) h3 (by grind)
    refine⟨none,W.putObj L (.loop (rec .exhausted none)),by grind,?_⟩;exact hdone Y' _ (hI _ _ _ _ hi ((rQ.of_put (jJ.1 h3).1 (rec .exhausted none)).on h1)) ((toFr _ hF).putObj (.inr (by omega)) _) (toGr _ _ hZ hG)
   ·have hend:=run_endLoop (P:=P) h3 (by grind)
    refine⟨some c,W.putObj L (.loop (rec .exhausted (some c))),by grind,?_⟩;exact hstop c pre Y' _ hpre hne (hIx _ _ _ _ _ hi ((rQ.of_put (jJ.1 h3).1 (rec .exhausted (some c))).on h1)) ((toFr _ hF).putObj (.inr (by omega)) _) (toGr _ _ hZ hG)
def mk(D:Nat):Deferred:={target:=.collected D,args:=#[]}
def Marks(B:Nat)(ds:List Deferred)(w:World):Prop:=∃Ds:List Nat,ds=Ds.map mk/\Ds.Nodup/\∀D∈Ds,B<=D/\w.heap[D]?=some (.deferred (some []))
structure mF (B:Nat) (w w':World):Prop where
 os:w'.os=w.os
 tape:w'.tape=w.tape
 output:w'.output=w.output
 size:w'.heap.size=w.heap.size
 low:∀(k:Nat),k<B->w'.heap[k]?=w.heap[k]?
 cells:∀(k:Nat) (c:Array Value) (e:TypeId) (f:Nat×Nat),w.heap[k]?=some (Obj.cells c e f)->w'.heap[k]?=some (Obj.cells c e f)
theorem mF.refl(B w):mF B w w:=⟨rfl,rfl,rfl,rfl,λ_ _=>rfl,λ_ _ _ _ a=>a⟩
theorem mF.trans (h:mF B a b)(k:mF B b c):mF B a c :=
 ⟨k.os.trans h.os,k.tape.trans h.tape,k.output.trans h.output,k.size.trans h.size,λd e=>(k.low d e).trans (h.low d e),λd _ _ _ f=>k.cells d _ _ _ (h.cells d _ _ _ f)⟩
theorem mF.below (h:mF B w w'):Below B w w':=⟨h.os,h.tape,h.output,by rw[h.size];omega,h.low⟩
theorem mF.put {B D}(h:B<=D)(a:w.heap[D]?=some (.deferred (some []))):mF B w (w.putObj D (.deferred none)):=
 ⟨rfl,rfl,rfl,by simp,λe i=>World.putObj_heap_other (by omega),λe c f g b=>(World.putObj_heap_other (λd=>by grind)).trans b⟩
theorem Marks.nil(B w):Marks B [] w:=⟨[],rfl,by simp,by simp⟩
def FJ:=@Marks.nil
theorem Marks.on {c}(h:Marks B c w)(f:∀D,B<=D->w.heap[D]?=some (.deferred (some []))->w'.heap[D]?=some (.deferred (some []))):Marks B c w':=by
 obtain⟨d,rfl,e,b⟩:=h;exact⟨d,rfl,e,λD a=>⟨(b D a).1,f D (b D a).1 (b D a).2⟩⟩
theorem Marks.cons {B D d}(h:Marks B d w)(k:∀D,B<=D->w.heap[D]?=some (.deferred (some []))->w'.heap[D]?=some (.deferred (some [])))(f:B<=D)(g:w'.heap[D]?=some (.deferred (some [])))(l:w.heap.size<=D):Marks B (mk D :: d) w':=by
 obtain⟨e,rfl,j,c⟩:=h;refine⟨D :: e,rfl,LM.2 ⟨λi=>?_,j⟩,?_⟩
 ·grind
 grind
theorem lZ {g i u}(q:u≠.run):∀{a:List Deferred}{w:World},Marks B a w ->
  (∀w',mF B w w'->LeavesInM Fence.wide n P g i R [] u w')->LeavesInM Fence.wide n P g i R a u w:=by
 rintro a w ⟨e,rfl,o,d⟩;induction e generalizing w with
 |nil=>exact λb=>b w (mF.refl _ _)
 |cons D e ih =>
  intro b;have⟨k,l⟩:=LM.1 o;have⟨m,h⟩:=d D (by simp);refine⟨q,.inl ⟨D,_,rfl,run_takeDeferred h,?_⟩⟩;refine ih l (λf c=>⟨(d f (by simp[c])).1,?_⟩) (λw' p=>b w' ((mF.put m h).trans p));exact(World.putObj_heap_other (λj=>by grind)).trans (d f (by simp[c])).2
theorem qFg {b f a}(d:b.results=#[])(c:Marks B a w)(h:∀w',mF B w w'->R (.returned (.tuple #[])) w'):
  LeavesInM Fence.wide n P b f R a .returning w :=
 lZ (by simp) c (λw' e=>⟨_,EG d _ _ _,h w' e⟩)
theorem Pz {b c a}{t:Nat}(e:b.results=#[.tmp t])(d:Marks B a w)(h:∀w',mF B w w'->R (.returned (c.getD t undef)) w'):
  LeavesInM Fence.wide n P b c R a .returning w :=
 lZ (by simp) d (λw' f=>⟨_,LW e _ _ _,h w' f⟩)
theorem qIo {e a c}{p:Nat}{b}(m:e.results=#[.cell p b])(g t cs d)(l:a.getD p undef=.p g 0)(j:w.heap[g]?=some (.cells cs t))(o:P.underlying b=some d)(i:(match d with|.struct _|.array _ _=>true|_=>false)=true)(hi:(P.info? b).map (·.size)=some cs.size)(k:Marks B c w)(h:∀w',mF B w w'->R (.returned (.agg cs)) w'):
  LeavesInM Fence.wide n P e a R c .returning w :=
 lZ (by simp) k (λw' f=>⟨_,ER m a w' g t cs _ d l (f.cells _ _ _ _ j) o i hi,h w' f⟩)
