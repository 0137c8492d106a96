import Derived.Test.YtdhgdcjmhofhaaaGreatD1
import Derived.RangeFuncNested
import Derived.RangeFuncBound
import Derived.WalkKit
import Derived.Deep.QuietTactic
set_option linter.all false
namespace Go.Proofs.YtdhgdcjmhofhaaaGreat.Tree
open Go.RowKit
variable {B i k l n:Nat} {P:Program} {R:Ending->World->Prop} {W a b c w w':World} {f:FuncId} {o:Obj} {α:Type _}
def MD:=@Go.Region.free_spec
def LE:=@Go.Region.noSelect_spec
def KB:=@Go.callsIn_of_wp
def KA:=@Go.getD_set_ne
def JC:=@Go.ready_mono
def JB:=@Go.mem_ready
def EX:=@Go.info_parts
def EA:=@Go.CallsIn.inRound
def CM:=@Go.Oper.semAt_some
def BX:=@Go.callsIn_of_wp_marks
def AZ:=@Go.callsIn_wide
def jJ {b:α} {xs:Array α}:xs[i]?=some b ↔ ∃ h,xs[i]=b:=CP
def jV (l:List α) (i:Nat) (a:α):l.toArray.setIfInBounds i a=(l.set i a).toArray:=List.setIfInBounds_toArray l i a
def jZ {x:α} {xs:List α} {a:α}:(x::xs).set 0 a=a::xs:=List.set_cons_zero
def jX {x:α} {xs:List α}  {a:α}:(x::xs).set (i+1) a=x::xs.set i a:=List.set_cons_succ
def jK {as bs:List α}:(as++bs).length=as.length+bs.length:=CG
def jQ {l:List α}  (h:i<l.length):l[i]?=some l[i]:=GH h
def jY {n m k:Nat} (h:n<m) (h':m≤k):n<k:=JI h h'
def jU (n:Nat):n≤n:=BZ n
def vJ {n m k:Nat} (h:n≤m) (h':m≤k):n≤k:=CF h h'
def jA {as:List α}:as.toArray.size=as.length:=List.size_toArray
def jB {a:α} {as:List α}:(a::as).length=as.length+1:=ET
def jN:([]:List α).length=0:=KI
def jR {a:α}:Array.replicate (n+1) a=(Array.replicate n a).push a:=Array.replicate_succ
def jO {a:α}:Array.replicate 0 a=#[]:=Array.replicate_zero
def jP (l:List α) (a:α):l.toArray.push a=(l++[a]).toArray:=List.push_toArray l a
def jT (l₁ l₂:List α):l₁.toArray++l₂.toArray=(l₁++l₂).toArray:=List.append_toArray l₁ l₂
def jE (as:List α):[]++as=as:=List.nil_append as
def jF {a:α} {as bs:List α}:(a::as)++bs=a::(as++bs):=List.cons_append
def jC {args:Array Value}  {R R':Ending→World→Prop} (h:Calls P f args w R) (hr:∀ e w',R e w'→R' e w'):Calls P f args w R':=h.mono hr
def pS:(∀(a:Act)(v:Value)(d:Tmp),a.put (some d) v={tmps:=a.tmps.setIfInBounds d v,defers:=a.defers})/\(∀(a:Act)(v:Value),a.put none v=a)/\(∀(l:List Value)(i:Nat)(a:Value),l.toArray.setIfInBounds i a=(l.set i a).toArray)/\(∀(x:Value)(l:List Value)(a:Value),(x::l).set 0 a=a::l)/\(∀(x:Value)(l:List Value)(i:Nat)(a:Value),(x::l).set (i+1) a=x::l.set i a):=⟨λ_ _ _=>rfl,λ_ _=>rfl,λ_ _ _=>jV _ _ _,λ_ _ _=>rfl,λ_ _ _ _=>rfl⟩
def aN(w:World)(o):(w.alloc o).heap[w.heap.size]?=some o:=by
 show(w.heap.push o)[w.heap.size]?=_
 simp
def al1(w a):∃W,w.alloc a=W/\bW w W/\W.heap[w.heap.size]?=some a/\W.heap.size=w.heap.size+1:=⟨_,rfl,(AC _ _).alloc (jU _) _,aN _ _,by simp⟩
def al2(w a b):∃W,(w.alloc a).alloc b=W/\bW w W/\W.heap[w.heap.size]?=some a/\W.heap[w.heap.size+1]?=some b/\W.heap.size=w.heap.size+2:=by
 have⟨W,e,h,j,s⟩:=al1 w a;rw[e];exact⟨_,rfl,h.alloc (by omega) _,(DA _ _ _ (jJ.1 j).1).t j,by have:=aN W b;grind,by simp[s]⟩
def al3(w a b c):∃W,((w.alloc a).alloc b).alloc c=W/\bW w W/\W.heap[w.heap.size]?=some a/\W.heap[w.heap.size+1]?=some b/\W.heap[w.heap.size+1+1]?=some c/\W.heap.size=w.heap.size+3:=by
 have⟨W,e,h,j,m,s⟩:=al2 w a b;rw[e];exact⟨_,rfl,h.alloc (by omega) _,(DA _ _ _ (jJ.1 j).1).t j,(DA _ _ _ (jJ.1 m).1).t m,by have:=aN W c;grind,by simp[s]⟩
def al4(w a b c d):∃W,(((w.alloc a).alloc b).alloc c).alloc d=W/\bW w W/\W.heap[w.heap.size]?=some a/\W.heap[w.heap.size+1]?=some b/\W.heap[w.heap.size+1+1]?=some c/\W.heap[w.heap.size+1+1+1]?=some d/\W.heap.size=w.heap.size+4:=by
 have⟨W,e,h,m,n,j,s⟩:=al3 w a b c;rw[e];exact⟨_,rfl,h.alloc (by omega) _,(DA _ _ _ (jJ.1 m).1).t m,(DA _ _ _ (jJ.1 n).1).t n,(DA _ _ _ (jJ.1 j).1).t j,by have:=aN W d;grind,by simp[s]⟩
def al6(w a b c d p q):∃W,(((((w.alloc a).alloc b).alloc c).alloc d).alloc p).alloc q=W/\bW w W/\W.heap[w.heap.size]?=some a/\W.heap[w.heap.size+1]?=some b/\W.heap[w.heap.size+1+1]?=some c/\W.heap[w.heap.size+1+1+1]?=some d/\W.heap[w.heap.size+1+1+1+1]?=some p/\W.heap[w.heap.size+1+1+1+1+1]?=some q:=by
 have⟨W,e,h,t,u,v,x,s⟩:=al4 w a b c d;have⟨V,f,g,y,z,_⟩:=al2 W p q;have k:∀{i o},W.heap[i]?=some o->V.heap[i]?=some o:=λj=>(g.block _ (jJ.1 j).1).t j;rw[s]at y z;rw[e];exact⟨V,f,h.t (g.m h.size),k t,k u,k v,k x,y,z⟩
abbrev Bl:=Nat->Prop
def Bl.none:Bl:=λ_=>False
def Bl.one(b:Nat):Bl:=λk=>k=b
def nM {α:Sort _} (a:α):∃ x,a=x:=⟨_,rfl⟩
def oN {k b:Nat} (h:k≠b):¬Bl.one b k:=h
def oK {b:Nat} {p:Nat→Prop} (h:p b):∀ k,Bl.one b k→p k:=λ_ e=>e▸h
def gL {α:Type _} {xs:Array α} {i:Nat} {b:α} (h:xs[i]?=some b):i<xs.size:=(CP.1 h).1
def bA (w:World) (o:Obj):Below w.heap.size w (w.alloc o):=(AC _ _).alloc (BZ _) _
abbrev tA (β:Nat) (root:Int) (ca:Option Addr) (cn cc:Nat):Array Value:=#[.pointer (some ⟨β,0,none⟩),.int .i64 root,.slice ca cn cc]
def Bl.or(A B:Bl):Bl:=λk=>A k\/B k
variable {Y Z:Bl}
structure Fr (Y:Bl) (w w':World):Prop where
 os:w'.os=w.os
 tape:w'.tape=w.tape
 output:w'.output=w.output
 size:w.heap.size<=w'.heap.size
 block:∀k,k<w.heap.size->¬Y k->w'.heap[k]?=w.heap[k]?
structure On (Y:Bl) (w w':World):Prop where
 os:w'.os=w.os
 tape:w'.tape=w.tape
 output:w'.output=w.output
 size:w.heap.size<=w'.heap.size
 block:∀k,Y k->w'.heap[k]?=w.heap[k]?
def Fr.refl(Y w):Fr Y w w:=⟨rfl,rfl,rfl,jU _,λ_ _ _=>rfl⟩
def AE:=@Fr.refl
def aJ(w:World)(Y Y':Bl):Prop:=∀k,Y' k->Y k\/w.heap.size<=k
def aJ.refl(w Y):aJ w Y Y:=λ_ a=>.inl a
def CR:=@aJ.refl
def aJ.t {X Y Z:Bl}(h:aJ a X Y)(f:a.heap.size<=b.heap.size)(k:aJ b Y Z):aJ a X Z:=λd e=>by
 rcases k d e with c|c
 .exact h d c
 omega
def Fr.grow (h:Fr Y a b)(k:Fr Z b c)(g:aJ a Y Z):Fr Y a c :=
 ⟨k.os.t h.os,k.tape.t h.tape,k.output.t h.output,vJ h.size k.size,λd e f =>
  (k.block d (jY e h.size) (λi=>(g d i).elim f (λj=>by omega))).t (h.block d e f)⟩
def Fr.t (h:Fr Y a b)(k:Fr Y b c):Fr Y a c:=h.grow k (aJ.refl _ _)
def Fr.m (h:Fr Y a b)(f:∀k,Y k->Z k\/a.heap.size<=k):Fr Z a b :=
 ⟨h.os,h.tape,h.output,h.size,λk c d=>h.block k c (λe=>(f k e).elim d (λg=>by omega))⟩
def Fr.drew (h:Fr Y a w):Fr Y a w.drew:=h.t ⟨rfl,rfl,rfl,jU _,λ_ _ _=>rfl⟩
def Fr.alloc (h:Fr Y a w)(o):Fr Y a (w.alloc o):=
 h.t ⟨rfl,rfl,rfl,by simp,λc b _=>DA _ _ _ b⟩
def Fr.setCell (h:Fr Y a w){p}(e:Y p.block\/a.heap.size<=p.block)(u):Fr Y a (w.setCell p u):=
 ⟨h.os,h.tape,h.output,by have:=h.size;simp_all,λf d b=>(CY _ _ _ _ (λc=>by grind)).t (h.block f d b)⟩
def Fr.s (h:Fr Y a w)(b i){u}(e:Y b\/a.heap.size<=b:=by exact .inl rfl):Fr Y a (w.setCell (aD b i) u):=h.setCell e _
def Fr.putObj (h:Fr Y a w)(e:Y l\/a.heap.size<=l)(o):Fr Y a (w.putObj l o):=
 ⟨h.os,h.tape,h.output,by have:=h.size;simp_all,λf d b=>(World.putObj_heap_other (λc=>by grind)).t (h.block f d b)⟩
def Fr.of_below (h:bW w w'):Fr Y w w':=⟨h.os,h.tape,h.output,h.size,λb a _=>h.block b a⟩
def AB:=@Fr.of_below
def Fr.below (h:Fr Y w w')(c:B<=w.heap.size)(a:∀k,Y k->B<=k):Below B w w' :=
 ⟨h.os,h.tape,h.output,h.size,λk d=>h.block k (by omega) (λb=>by grind)⟩
def Fr.below0 (h:Fr Bl.none w w'):bW w w':=h.below (jU _) (λ_ h=>h.elim)
def Fr.grown {row}(h:Fr Y a w)(b:w.grownBy w' row)(f:∀k,row=some k->Y k\/a.heap.size<=k):Fr Y a w' :=
 ⟨b.os.t h.os,b.tape.t h.tape,b.output.t h.output,vJ h.size b.size,λk c d =>
  (b.block k (jY c h.size) (λe=>(f k e.symm).elim d (λg=>by omega))).t (h.block k c d)⟩
def Fr.heap (h:Fr Y w w')(a:w.heap[k]?=some o)(b:¬Y k):w'.heap[k]?=some o :=
 (h.block k (jJ.1 a).1 b).t a
def Fr.cell (h:Fr Y w w'){b o}(a:b<w.heap.size)(c:¬Y b):w'.c b o=w.c b o:=CK (w:=w) (h.block b a c)
def Fr.on (h:Fr Y w w')(b:∀k,Z k->k<w.heap.size/\¬Y k):On Z w w':=⟨h.os,h.tape,h.output,h.size,λk a=>h.block k (b k a).1 (b k a).2⟩
def On.refl(Y w):On Y w w:=⟨rfl,rfl,rfl,jU _,λ_ _=>rfl⟩
def CN:=@On.refl
def On.t (h:On Y a b)(k:On Y b c):On Y a c :=
 ⟨k.os.t h.os,k.tape.t h.tape,k.output.t h.output,vJ h.size k.size,λe d=>(k.block e d).t (h.block e d)⟩
def On.m (h:On Y a b)(d:∀k,Z k->Y k):On Z a b:=⟨h.os,h.tape,h.output,h.size,λk c=>h.block k (d k c)⟩
def On.heap (h:On Y w w')(a:w.heap[k]?=some o)(b:Y k):w'.heap[k]?=some o:=(h.block k b).t a
def On.cell (h:On Y w w'){b}(o)(a:Y b):w'.c b o=w.c b o:=CK (w:=w) (h.block b a)
def On.of_below (h:bW w w')(b:lW Y w):On Y w w':=⟨h.os,h.tape,h.output,h.size,λk a=>h.block k (b k a)⟩
def vV (h:Below w.heap.size w w') (hy:∀ k,Y k → k<w.heap.size):On Y w w':=On.of_below h hy
def On.alloc (h:On Y a w)(c:lW Y w)(o):On Y a (w.alloc o):=
 h.t ⟨rfl,rfl,rfl,by simp,λk b=>DA _ _ _ (c k b)⟩
def On.putObj (h:On Y a w)(d:¬Y l)(o):On Y a (w.putObj l o):=
 h.t ⟨rfl,rfl,rfl,by simp,λe c=>World.putObj_heap_other (λb=>by grind)⟩
def On.setCell (h:On Y a w){p}(d:¬Y p.block)(u):On Y a (w.setCell p u):=
 h.t ⟨rfl,rfl,rfl,by simp,λe c=>CY _ _ _ _ (λb=>by grind)⟩
def _root_.Go.CallsIn.m:=@CallsIn.mono
def _root_.Go.RoundIn.m:=@RoundIn.mono
def rZ{α:Type}(J:α->Bl->World->Prop):Prop:=∀s Y W W',J s Y W->On Y W W'->J s Y W'
def Nf{α:Type}(J:α->Bl->World->Prop):Prop:=∀s Y W,J s Y W->∀k,Y k->k<W.heap.size
def qIm{α:Type}(J Jx:List α->Bl->World->Prop)(s:List α)(Y:Bl)(W:World)(e:Ending)(W':World):Prop :=
 (e=.returned (.bool true)/\∃Y',J s Y' W'/\Fr Y W W'/\aJ W Y Y') \/
 (e=.returned (.bool false)/\∃Y',Jx s Y' W'/\Fr Y W W'/\aJ W Y Y')
def qMw{α:Type}(J Jx:List α->Bl->World->Prop)(xs:List α)(Y:Bl)(W:World)(e:Ending)(W':World):Prop :=
 (∃v,e=.returned v)/\∃Y',Fr Y W W'/\aJ W Y Y'/\(J xs Y' W'\/∃pre,pre <+: xs/\pre≠[]/\Jx pre Y' W')
def nH{α:Type}(P:Program)(g:Nat)(lb:Array Value)(Has:α->Array Value->Bl->World->Prop)(xs:List α)(Rd:Bl)(w:World):Prop :=
 ∀(l:Nat) (J Jx:List α->Bl->World->Prop) (Y:Bl) (W:World),On Rd w W->(∀k,Rd k->¬Y k/\k<W.heap.size)->rZ J->Nf J->rZ Jx->Nf Jx ->
  (∀pre x rest args S Y' W',xs=pre++x :: rest->J pre Y' W'->Has x args S W'->(∀k,S k->¬Y' k/\k<W'.heap.size)->Fr Y W W'->aJ W Y Y' ->
   YieldAt Fence.wide 0 P l args W' (qIm J Jx (pre++[x]) Y' W')) ->
  J [] Y W->CallsIn Fence.wide 0 P g (#[.func (.yield l) #[] #[]]++lb) W (qMw J Jx xs Y W)
def eT {n m d a b}(h:RoundIn Fence.wide n P l f d a b w R):RoundIn Fence.wide m P l f d a b w R :=
 ⟨h.1,λc e _=>h.2 c e (room_wide _)⟩
def tR {n m args}(h:CallsIn Fence.wide n P f args w R):CallsIn Fence.wide m P f args w R :=
 callsIn_wide.2 (callsIn_wide.1 h)
structure sG (l:Nat) (W W':World):Prop where
 os:W'.os=W.os
 tape:W'.tape=W.tape
 output:W'.output=W.output
 size:W'.heap.size=W.heap.size
 block:∀k,k≠l->W'.heap[k]?=W.heap[k]?
 rcd:∃r,W'.heap[l]?=some (.loop r)
def sG.of_put (h:l<W.heap.size)(r):sG l W (W.putObj l (.loop r)):=⟨rfl,rfl,rfl,by simp,λb a=>World.putObj_heap_other a,_,World.putObj_heap_same h⟩
def sG.on (h:sG l W a)(d:¬Y l):On Y W a:=⟨h.os,h.tape,h.output,by rw[h.size];omega,λe c=>h.block e (λb=>by grind)⟩
def sG.fr (h:sG l W a):Fr (Bl.one l) W a:=⟨h.os,h.tape,h.output,by rw[h.size];omega,λc _ b=>h.block c b⟩
def sG.heap (h:sG l W a)(c:W.heap[k]?=some o)(b:k≠l):a.heap[k]?=some o:=(h.block k b).t c
def qKz{α:Type}(I:List α->Bl->World->Prop)(Ix:Code->List α->Bl->World->Prop)(s:List α)(Y:Bl)(W:World):Exit->Act->World->Prop
 |.normal,_,W'=>∃Y',I s Y' W'/\Fr Y W W'/\aJ W Y Y'
 |.ret,_,W'=>∃Y',Ix .ret s Y' W'/\Fr Y W W'/\aJ W Y Y'
 |.exit id,_,W'=>∃Y',Ix (.exit id) s Y' W'/\Fr Y W W'/\aJ W Y Y'
 |.goto t,_,W'=>∃Y',Ix (.goto t) s Y' W'/\Fr Y W W'/\aJ W Y Y'
 |_,_,_=>False
def iY{α:Type}(P:Program)(I:List α->Bl->World->Prop)(Ix:Code->List α->Bl->World->Prop)(l:Nat)(tmps:Array Value)(assign body:Code)(s:List α)(Y:Bl)(W:World):Prop :=
 assign.wpIn (Fence.wide.inRound l) 0 P (Exit.then (λa₁ W₁=>Fr Y W W₁/\∀W₂,sG l W₁ W₂->body.wpIn (Fence.wide.inRound l) 0 P (qKz I Ix s Y W₂) a₁ W₂) (λ_ _ _=>False)) {tmps:=tmps,defers:=[]} W
def Nx {K}{A:List K->Bl->World->Prop}{B}(a1:rZ A)(E:∀c,rZ (B c))(ac:Nf A)(ad:∀c,Nf (B c)){a0 Z M N s}{f:LoopState->Option Code->Loop}(a4:∀D J st' X,({f D J with state:=st',pending:=X}:Loop)=f st' X)(a5:∀D J,(f D J).state=D)(R:W.heap[l]?=some (.loop (f .ready none)))(G:¬Y l)(a3:iY P A B l Z M N s Y W):
  RoundIn Fence.wide 0 P l a0 Z M N W (λe v =>
   (e=.r (.bool true)/\∃a,A s a v/\Fr (Bl.or Y (Bl.one l)) W v/\aJ W Y a/\v.heap[l]?=some (.loop (f .ready none))/\¬a l) \/
   (e=.r (.bool false)/\∃a c,B c s a v/\Fr (Bl.or Y (Bl.one l)) W v/\aJ W Y a/\v.heap[l]?=some (.loop (f .done (some c)))/\¬a l)):=by
 refine roundIn_of_wpIn trivial (wpIn_mono a3 ?_);have a9:=(jJ.1 R).1;intro e a7 L x;cases e with
 |normal =>
  have⟨O,a2⟩:=x;have S:=O.heap R G;have V:=(jJ.1 S).1;refine⟨_,run_beginRound S (a5 _ _),?_⟩;have⟨m,F⟩:∃m,L.putObj l (.loop {f .ready none with state:=.busy})=m:=⟨_,rfl⟩;have I:sG l L m:=F▸sG.of_put V _;have T:m.heap[l]?=some (.loop {f .ready none with state:=.busy}):=F▸World.putObj_heap_same V;have ab:=I.size.symm;have aa:=(jJ.1 T).1;have Q:Fr (Bl.or Y (Bl.one l)) W m:=(O.m (λz k=>.inl (.inl k))).t (I.fr.m (λz k=>.inl (.inr k)));rw[F];apply wpIn_mono (a2 m I);have C:∀(b:Option Code) (a:Bl) (j:World),Fr Y m j->aJ m Y a ->
    ∃n,(Instr.endRound l b).run P j=.ok (.bool b.isNone) n/\sG l j n/\n.heap[l]?=some (.loop (f (if b.isNone then .ready else .done) b))/\¬a l/\Fr (Bl.or Y (Bl.one l)) W n/\aJ W Y a:=by
   intro b a j g h;have U:=g.heap T G;have H:=(jJ.1 U).1;have i:=run_endRound (P:=P) b U;have e:({({f .ready none with state:=.busy}:Loop) with state:=if b.isNone then .ready else .done,pending:=b}:Loop)=f (if b.isNone then .ready else .done) b:=by
    have:=a4 .ready none (if b.isNone then .ready else .done) b;rw[<-this]
   rw[e]at i;refine⟨_,i,sG.of_put H _,World.putObj_heap_same H,λa6=>?_,(Q.t (g.m (λz k=>.inl (.inl k)))).t ((sG.of_put H _).fr.m (λz k=>.inl (.inr k))),?_⟩
   .rcases h l a6 with w|w
    .exact G w
    .omega
   .exact λz k=>by
     rcases h z k with w|w
     .grind
     .exact .inr (vJ Q.size w)
  intro e a8 j y;cases e with
  |normal =>
   have⟨a,q,g,h⟩:=y;have⟨n,i,u,r,d,o,p⟩:=C none a j g h;exact⟨_,_,i,.inl ⟨rfl,a,a1 _ _ _ _ q (u.on d),o,p,r,d⟩⟩
  |ret =>
   have⟨a,q,g,h⟩:=y;have⟨n,i,u,r,d,o,p⟩:=C (some .ret) a j g h;exact⟨_,_,i,.inr ⟨rfl,a,_,E _ _ _ _ _ q (u.on d),o,p,r,d⟩⟩
  |exit id =>
   have⟨a,q,g,h⟩:=y;have⟨n,i,u,r,d,o,p⟩:=C (some (.exit id)) a j g h;exact⟨_,_,i,.inr ⟨rfl,a,_,E _ _ _ _ _ q (u.on d),o,p,r,d⟩⟩
  |goto t =>
   have⟨a,q,g,h⟩:=y;have⟨n,i,u,r,d,o,p⟩:=C (some (.goto t)) a j g h;exact⟨_,_,i,.inr ⟨rfl,a,_,E _ _ _ _ _ q (u.on d),o,p,r,d⟩⟩
  |panic ch=>exact y.elim
  |outgrown=>exact y.elim
 |exit id=>exact x.elim
 |goto t=>exact x.elim
 |ret=>exact x.elim
 |panic chain=>exact x.elim
 |outgrown=>exact x.elim
def fI {α:Type}{g:Operand}{ps:Array Tmp}{assign body:Code}{Q:Exit->Act->World->Prop}{a:Act}{gf:Nat}{lb:Array Value}(hg:a.eval g=.func (.func gf) #[] lb)(eg:∀args w,(callFunc gf args).run P w=.ok (.enter gf args) w){Has}{xs:List α}{Rd:Bl}(hseq:nH P gf lb Has xs Rd w)(hps:∀x args S W,Has x args S W->args.size=ps.size)(I:List α->Bl->World->Prop)(Ix:Code->List α->Bl->World->Prop)(hI:rZ I)(hIx:∀c,rZ (Ix c))(lI:Nf I)(lIx:∀c,Nf (Ix c))(Y:Bl)(h0:I [] Y w)(hRd:∀k,Rd k->¬Y k/\k<w.heap.size)(hround:∀l pre x rest args S Y' W,xs=pre++x :: rest->I pre Y' W->Has x args S W->(∀k,S k->¬Y' k/\k<W.heap.size/\k≠l)->Fr Y w W->aJ w Y Y'->w.heap.size<=l->l<W.heap.size->¬Y' l->(∃r,W.heap[l]?=some (.loop r)) ->
   iY P I Ix l ((ps.zip args).foldl (λt (p,v)=>t.setIfInBounds p v) a.tmps) assign body (pre++[x]) Y' W)(hdone:∀D Y' W,w.heap.size<=D->¬Y' D->I xs Y' W->Fr Y w W->aJ w Y Y'->W.heap[D]?=some (.deferred (some []))->Q .normal {a with defers:={target:=.collected D,args:=#[]}:: a.defers} W)(hstop:∀D c pre Y' W,w.heap.size<=D->¬Y' D->pre <+: xs->pre≠[]->Ix c pre Y' W->Fr Y w W->aJ w Y Y'->W.heap[D]?=some (.deferred (some []))->c.wpIn Fence.wide n P Q {a with defers:={target:=.collected D,args:=#[]}:: a.defers} W):
  (Code.rangeFunc g ps assign body).wpIn Fence.wide n P Q a w:=by
 refine wpIn_rangeFunc ?_;intro fn am;obtain⟨y,j⟩:∃y:LoopState->Option Code->Loop,y=λst pe=>{state:=st,pending:=pe,fn,tmps:=a.tmps,params:=ps,assign,body,defers:=w.heap.size}:=⟨_,rfl⟩;obtain⟨W1,ae,-,ag,aj,ak⟩:=al2 w (.deferred (some [])) (.loop (y .ready none));have a7:∀Z,Fr Z w W1:=λZ=>ae▸((Fr.refl Z w).alloc _).alloc _;have lY:=lI [] Y w h0;have o1:=(a7 Bl.none).on (λk i=>⟨lY k i,λh=>h⟩);have af:∀x args S W,Has x args S W->args.size=(y .ready none).params.size:=by rw[j];exact hps
 refine⟨w.heap.size+1,[{target:=.collected w.heap.size,args:=#[]}],W1,{target:=.fn (.func gf) lb,args:=#[.func (.yield (w.heap.size+1)) #[] #[]]},W1,gf,
  #[.func (.yield (w.heap.size+1)) #[] #[]]++lb,W1,?_,?_,?_,?_,λh=>by simp[Fence.wide]at h,?_⟩
 .rw[<-ae,j];exact run_enterLoop_outer _ _ _ _ _
 .simp only[resolve,hg]
  simp[go_sem]
 .intro f' al;trivial
 .simp[invoke,go_sem,eg]
 .let L:=w.heap.size+1;let D:=w.heap.size;let Z₀:Bl:=Bl.or Y (Bl.or (Bl.one L) (Bl.one D));let J:List α->Bl->World->Prop:=λpre Z W=>∃Y',I pre Y' W/\(∀k,Z k↔Y' k\/k=L\/k=D)/\¬Y' L/\¬Y' D/\W.heap[L]?=some (.loop (y .ready none))/\W.heap[D]?=some (.deferred (some []));let Jx:List α->Bl->World->Prop:=λpre Z W=>∃Y' c,Ix c pre Y' W/\(∀k,Z k↔Y' k\/k=L\/k=D)/\¬Y' L/\¬Y' D/\W.heap[L]?=some (.loop (y .done (some c)))/\W.heap[D]?=some (.deferred (some []));have a9:¬Y L/\¬Y D:=⟨λh=>by have:=lY _ h;omega,λh=>by have:=lY _ h;omega⟩;have V:∀W,Fr Z₀ W1 W->Fr Y w W:=λW hf=>(a7 Y).grow hf (λk i=>by
   rcases i with h|h|h
   .exact .inl h
   .exact .inr (by simp only[Bl.one]at h;omega)
   .exact .inr (by simp only[Bl.one]at h;omega))
  have U:∀Z Y',(∀k,Z k↔Y' k\/k=L\/k=D)->aJ W1 Z₀ Z->aJ w Y Y':=λZ Y' q hg k i=>by
   rcases hg k ((q k).2 (.inl i)) with(h|h|h)|h
   .exact .inl h
   .exact .inr (by simp only[Bl.one]at h;omega)
   .exact .inr (by simp only[Bl.one]at h;omega)
   .exact .inr (by omega)
  have a8:∀st pe st' pe',({y st pe with state:=st',pending:=pe'}:Loop)=y st' pe':=by rw[j];intros;rfl
  refine tR (CallsIn.m (hseq L J Jx Z₀ W1 ((a7 Bl.none).on (λk i=>⟨(hRd k i).2,λh=>h⟩)) (λk i=>⟨?_,?_⟩) ?_ ?_ ?_ ?_ ?_ ?_) ?_)
  .rintro(h|h|h)
   .exact(hRd k i).1 h
   .have:=(hRd k i).2;simp only[Bl.one]at h;omega
   .have:=(hRd k i).2;simp only[Bl.one]at h;omega
  .have:=(hRd k i).2;omega
  .rintro s Z W W' ⟨Y',F,q,T,O,z,H⟩ ho
   exact⟨Y',hI _ _ _ _ F (ho.m (λk i=>(q k).2 (.inl i))),q,T,O,ho.heap z ((q _).2 (.inr (.inl rfl))),ho.heap H ((q _).2 (.inr (.inr rfl)))⟩
  .rintro s Z W ⟨Y',F,q,T,O,z,H⟩ k i
   rcases(q k).1 i with h|rfl|rfl
   .exact lI _ _ _ F k h
   .exact(jJ.1 z).1
   .exact(jJ.1 H).1
  .rintro s Z W W' ⟨Y',c,F,q,T,O,z,H⟩ ho
   exact⟨Y',c,hIx _ _ _ _ _ F (ho.m (λk i=>(q k).2 (.inl i))),q,T,O,ho.heap z ((q _).2 (.inr (.inl rfl))),ho.heap H ((q _).2 (.inr (.inr rfl)))⟩
  .rintro s Z W ⟨Y',c,F,q,T,O,z,H⟩ k i
   rcases(q k).1 i with h|rfl|rfl
   .exact lIx _ _ _ _ F k h
   .exact(jJ.1 z).1
   .exact(jJ.1 H).1
  .rintro pre x rest args S Z W hx ⟨Y',F,q,T,O,z,H⟩ hH hS hF hG;have ah:=(jJ.1 z).1;have hy:=run_yield (P:=P) (args:=args) z (af _ _ _ _ hH);rw[j]at hy;refine⟨fn,_,assign,body,hy,(Nx hI hIx lI lIx a8 (λ_ _=>by rw[j]) z T (hround L pre x rest args S Y' W hx F hH (λk i=>⟨λh=>(hS k i).1 ((q k).2 (.inl h)),(hS k i).2,λe=>(hS k i).1 ((q k).2 (.inr (.inl e)))⟩) (V _ hF) (U _ _ q hG) (by omega) ah T ⟨_,z⟩)).m ?_⟩;have ab:∀k,Bl.or Y' (Bl.one L) k->Z k:=λk i=>by
    rcases i with h|h
    .exact(q k).2 (.inl h)
    .exact(q k).2 (.inr (.inl h))
   have dW:∀W',Fr (Bl.or Y' (Bl.one L)) W W'->W'.heap[D]?=some (.deferred (some [])):=λW' hf=>hf.heap H (λh=>by
    rcases h with h|h
    .exact O h
    .simp only[Bl.one]at h;omega)
   have nD:∀u,aJ W Y' u->¬u D:=λu hg h=>by
    rcases hg D h with h'|h'
    .exact O h'
    .omega
   have gZ:∀u,aJ W Y' u->aJ W Z (λk=>u k\/k=L\/k=D):=λu hg k i=>by
    rcases i with h|h|h
    .rcases hg k h with h'|h'
     .exact .inl ((q k).2 (.inl h'))
     .exact .inr h'
    .exact .inl ((q k).2 (.inr (.inl h)))
    .exact .inl ((q k).2 (.inr (.inr h)))
   rintro e W' (⟨rfl,u,a6,hf,hg,hl,a2⟩|⟨rfl,u,c,a6,hf,hg,hl,a2⟩)
   .exact .inl ⟨rfl,(λk=>u k\/k=L\/k=D),⟨u,a6,λk=>FT,a2,nD _ hg,hl,dW _ hf⟩,hf.m (λk i=>.inl (ab k i)),gZ _ hg⟩
   .exact .inr ⟨rfl,(λk=>u k\/k=L\/k=D),⟨u,c,a6,λk=>FT,a2,nD _ hg,hl,dW _ hf⟩,hf.m (λk i=>.inl (ab k i)),gZ _ hg⟩
  .exact⟨Y,hI _ _ _ _ h0 o1,λk=>FT,a9.1,a9.2,aj,ag⟩
  .rintro e W ⟨⟨v,rfl⟩,Z,hF,hG,(⟨Y',F,q,T,O,z,H⟩|⟨pre,aa,ai,Y',c,F,q,T,O,z,H⟩)⟩
   .have C:=run_endLoop (P:=P) z (by rw[j];simp)
    refine⟨none,W.putObj L (.loop (y .exhausted none)),by rw[j]at C⊢;exact C,?_⟩;have ht:=sG.of_put (jJ.1 z).1 (y .exhausted none);exact hdone D Y' _ (jU _) O (hI _ _ _ _ F (ht.on T)) ((V _ hF).putObj (.inr (by omega)) _) (U _ _ q hG) (ht.heap H (by omega))
   .have C:=run_endLoop (P:=P) z (by rw[j];simp)
    refine⟨some c,W.putObj L (.loop (y .exhausted (some c))),by rw[j]at C⊢;exact C,?_⟩;have ht:=sG.of_put (jJ.1 z).1 (y .exhausted (some c));exact hstop D c pre Y' _ (jU _) O aa ai (hIx _ _ _ _ _ F (ht.on T)) ((V _ hF).putObj (.inr (by omega)) _) (U _ _ q hG) (ht.heap H (by omega))
def Nh {α:Type}{g:Operand}{ps:Array Tmp}{assign body:Code}{Q:Exit->Act->World->Prop}{a:Act}{l₀:Nat}{r₀:Loop}(hl₀:w.heap[l₀]?=some (.loop r₀)){gf:Nat}{lb:Array Value}(hg:a.eval g=.func (.func gf) #[] lb)(eg:∀args w,(callFunc gf args).run P w=.ok (.enter gf args) w){Has}{xs:List α}{Rd:Bl}(hseq:nH P gf lb Has xs Rd w)(hps:∀x args S W,Has x args S W->args.size=ps.size)(I:List α->Bl->World->Prop)(Ix:Code->List α->Bl->World->Prop)(hI:rZ I)(hIx:∀c,rZ (Ix c))(lI:Nf I)(lIx:∀c,Nf (Ix c))(Y:Bl)(h0:I [] Y w)(hRd:∀k,Rd k->¬Y k/\k<w.heap.size)(hround:∀l pre x rest args S Y' W,xs=pre++x :: rest->I pre Y' W->Has x args S W->(∀k,S k->¬Y' k/\k<W.heap.size/\k≠l)->Fr Y w W->aJ w Y Y'->w.heap.size<=l->l<W.heap.size->¬Y' l->(∃r,W.heap[l]?=some (.loop r)) ->
   iY P I Ix l ((ps.zip args).foldl (λt (p,v)=>t.setIfInBounds p v) a.tmps) assign body (pre++[x]) Y' W)(hdone:∀Y' W,I xs Y' W->Fr Y w W->aJ w Y Y'->Q .normal a W)(hstop:∀c pre Y' W,pre <+: xs->pre≠[]->Ix c pre Y' W->Fr Y w W->aJ w Y Y'->c.wpIn (Fence.wide.inRound l₀) n P Q a W):
  (Code.rangeFunc g ps assign body).wpIn (Fence.wide.inRound l₀) n P Q a w:=by
 apply wpIn_rangeFunc;intro fn ai;have⟨j,F⟩:∃j:LoopState->Option Code->Loop,j=λst pe=>{state:=st,pending:=pe,fn,tmps:=a.tmps,params:=ps,assign,body,defers:=r₀.defers}:=⟨_,rfl⟩;obtain⟨W1,a7,-,af,ag⟩:=al1 w (.loop (j .ready none));have a2:∀Z,Fr Z w W1:=λZ=>a7▸(Fr.refl Z w).alloc _;have lY:=lI [] Y w h0;have a9:∀x args S W,Has x args S W->args.size=(j .ready none).params.size:=by grind
 refine⟨w.heap.size,[],W1,{target:=.fn (.func gf) lb,args:=#[.func (.yield w.heap.size) #[] #[]]},W1,gf,
  #[.func (.yield w.heap.size) #[] #[]]++lb,W1,by rw[<-a7,F];exact run_enterLoop_inner hl₀ _ _ _ _ _,?_,by intro f' ah;trivial,by simp[invoke,go_sem,eg],λh=>by simp[Fence.wide,Fence.inRound]at h,?_⟩
 .simp only[resolve,hg]
  simp[go_sem]
 .let L:=w.heap.size;let Z₀:Bl:=Bl.or Y (Bl.one L);let J:List α->Bl->World->Prop:=λpre Z W=>∃Y',I pre Y' W/\(∀k,Z k↔Y' k\/k=L)/\¬Y' L/\W.heap[L]?=some (.loop (j .ready none));let Jx:List α->Bl->World->Prop:=λpre Z W=>∃Y' c,Ix c pre Y' W/\(∀k,Z k↔Y' k\/k=L)/\¬Y' L/\W.heap[L]?=some (.loop (j .done (some c)));have ae:¬Y L:=λh=>by grind
  have H:∀W,Fr Z₀ W1 W->Fr Y w W:=λW hf=>(a2 Y).grow hf (λk i=>by
   rcases i with h|h
   .grind
   .exact .inr (by simp only[Bl.one]at h;omega))
  have O:∀Z Y',(∀k,Z k↔Y' k\/k=L)->aJ W1 Z₀ Z->aJ w Y Y':=λZ Y' q hg k i=>by
   rcases hg k ((q k).2 (.inl i)) with(h|h)|h
   .grind
   .exact .inr (by simp only[Bl.one]at h;omega)
   omega
  have T:∀st pe st' pe',({j st pe with state:=st',pending:=pe'}:Loop)=j st' pe':=by grind
  refine CallsIn.inRound l₀ (tR (CallsIn.m (hseq L J Jx Z₀ W1 ((a2 Bl.none).on (λk i=>⟨(hRd k i).2,λh=>h⟩)) (λk i=>⟨?_,by grind⟩) ?_ ?_ ?_ ?_ ?_ (⟨Y,hI _ _ _ _ h0 ((a2 Bl.none).on (λk i=>⟨lY k i,λh=>h⟩)),λk=>FT,ae,af⟩)) ?_))
  .rintro(h|h)
   .grind
   .have:=(hRd k i).2;simp only[Bl.one]at h;omega
  .intro s Z W W' ⟨Y',z,q,C,y⟩ ho
   exact⟨Y',hI _ _ _ _ z (ho.m (λk i=>(q k).2 (.inl i))),q,C,ho.heap y ((q _).2 (.inr rfl))⟩
  .intro s Z W ⟨Y',z,q,C,y⟩ k i
   rcases(q k).1 i with h|rfl
   .exact lI _ _ _ z k h
   grind
  .intro s Z W W' ⟨Y',c,z,q,C,y⟩ ho
   exact⟨Y',c,hIx _ _ _ _ _ z (ho.m (λk i=>(q k).2 (.inl i))),q,C,ho.heap y ((q _).2 (.inr rfl))⟩
  .intro s Z W ⟨Y',c,z,q,C,y⟩ k i
   rcases(q k).1 i with h|rfl
   .exact lIx _ _ _ _ z k h
   grind
  .intro pre x rest args S Z W hx ⟨Y',z,q,C,y⟩ hH hS hF hG;have hy:=run_yield (P:=P) (args:=args) y (a9 _ _ _ _ hH);rw[F]at hy;refine⟨fn,_,assign,body,hy,(Nx hI hIx lI lIx T (λ_ _=>by rw[F]) y C (hround L pre x rest args S Y' W hx z hH (λk i=>⟨λh=>(hS k i).1 ((q k).2 (.inl h)),(hS k i).2,λe=>(hS k i).1 ((q k).2 (.inr e))⟩) (H _ hF) (O _ _ q hG) (by omega) ((jJ.1 y).1) C ⟨_,y⟩)).m ?_⟩;have a6:∀k,Bl.or Y' (Bl.one L) k->Z k:=λk i=>by
    rcases i with h|h
    .grind
    .exact(q k).2 (.inr h)
   have gZ:∀u,aJ W Y' u->aJ W Z (λk=>u k\/k=L):=λu hg k i=>by
    rcases i with h|h
    .rcases hg k h with h'|h'
     .grind
     omega
    grind
   rintro e W' (⟨rfl,u,V,hf,hg,hl,U⟩|⟨rfl,u,c,V,hf,hg,hl,U⟩)
   .exact .inl ⟨rfl,(λk=>u k\/k=L),⟨u,V,λk=>FT,U,hl⟩,hf.m (λk i=>.inl (a6 k i)),gZ _ hg⟩
   .exact .inr ⟨rfl,(λk=>u k\/k=L),⟨u,c,V,λk=>FT,U,hl⟩,hf.m (λk i=>.inl (a6 k i)),gZ _ hg⟩
  .rintro e W ⟨⟨v,rfl⟩,Z,hF,hG,(⟨Y',z,q,C,y⟩|⟨pre,aa,ab,Y',c,z,q,C,y⟩)⟩
   .have a8:=run_endLoop (P:=P) y (by grind)
    refine⟨none,W.putObj L (.loop (j .exhausted none)),by grind,?_⟩;exact hdone Y' _ (hI _ _ _ _ z ((sG.of_put (jJ.1 y).1 (j .exhausted none)).on C)) ((H _ hF).putObj (.inr (by omega)) _) (O _ _ q hG)
   .have a8:=run_endLoop (P:=P) y (by grind)
    refine⟨some c,W.putObj L (.loop (j .exhausted (some c))),by grind,?_⟩;exact hstop c pre Y' _ aa ab (hIx _ _ _ _ _ z ((sG.of_put (jJ.1 y).1 (j .exhausted (some c))).on C)) ((H _ hF).putObj (.inr (by omega)) _) (O _ _ q hG)
def mk(D:Nat):Deferred:={target:=.collected D,args:=#[]}
def Marks(B:Nat)(ds:List Deferred)(w:World):Prop:=∃Ds:List Nat,ds=Ds.map mk/\Ds.Nodup/\∀D∈Ds,B<=D/\w.heap[D]?=some (.deferred (some []))
structure mP (B:Nat) (w w':World):Prop where
 os:w'.os=w.os
 tape:w'.tape=w.tape
 output:w'.output=w.output
 size:w'.heap.size=w.heap.size
 low:∀(k:Nat),k<B->w'.heap[k]?=w.heap[k]?
 cells:∀(k:Nat) (c:Array Value) (e:TypeId) (f:Nat×Nat),w.heap[k]?=some (Obj.cells c e f)->w'.heap[k]?=some (Obj.cells c e f)
def mP.refl(B w):mP B w w:=⟨rfl,rfl,rfl,rfl,λ_ _=>rfl,λ_ _ _ _ a=>a⟩
def mP.t (h:mP B a b)(k:mP B b c):mP B a c :=
 ⟨k.os.t h.os,k.tape.t h.tape,k.output.t h.output,k.size.t h.size,λd e=>(k.low d e).t (h.low d e),λd _ _ _ f=>k.cells d _ _ _ (h.cells d _ _ _ f)⟩
def mP.below (h:mP B w w'):Below B w w':=⟨h.os,h.tape,h.output,by rw[h.size];omega,h.low⟩
def mP.put {B D}(h:B<=D)(a:w.heap[D]?=some (.deferred (some []))):mP B w (w.putObj D (.deferred none)):=
 ⟨rfl,rfl,rfl,by simp,λe i=>World.putObj_heap_other (by omega),λe c f g b=>(World.putObj_heap_other (λd=>by grind)).t b⟩
def Marks.nil(B w):Marks B [] w:=⟨[],rfl,by simp,by simp⟩
def FQ:=@Marks.nil
def Marks.on {c}(h:Marks B c w)(f:∀D,B<=D->w.heap[D]?=some (.deferred (some []))->w'.heap[D]?=some (.deferred (some []))):Marks B c w':=by
 obtain⟨d,rfl,e,b⟩:=h;exact⟨d,rfl,e,λD a=>⟨(b D a).1,f D (b D a).1 (b D a).2⟩⟩
def Marks.cons {B D d}(h:Marks B d w)(k:∀D,B<=D->w.heap[D]?=some (.deferred (some []))->w'.heap[D]?=some (.deferred (some [])))(f:B<=D)(g:w'.heap[D]?=some (.deferred (some [])))(l:w.heap.size<=D):Marks B (mk D :: d) w':=by
 obtain⟨e,rfl,j,c⟩:=h;refine⟨D :: e,rfl,LY.2 ⟨λi=>?_,j⟩,?_⟩
 .grind
 grind
def iR {g i u}(q:u≠.run):∀{a:List Deferred}{w:World},Marks B a w ->
  (∀w',mP B w w'->LeavesInM Fence.wide n P g i R [] u w')->LeavesInM Fence.wide n P g i R a u w:=by
 rintro a w ⟨e,rfl,o,d⟩;induction e generalizing w with
 |nil=>exact λb=>b w (mP.refl _ _)
 |cons D e ih =>
  intro b;have⟨k,l⟩:=LY.1 o;have⟨m,h⟩:=d D (by simp);refine⟨q,.inl ⟨D,_,rfl,run_takeDeferred h,?_⟩⟩;refine ih l (λf c=>⟨(d f (by simp[c])).1,?_⟩) (λw' p=>b w' ((mP.put m h).t p));exact(World.putObj_heap_other (λj=>by grind)).t (d f (by simp[c])).2
def qHf {b f a}(d:b.results=#[])(c:Marks B a w)(h:∀w',mP B w w'->R (.r (.tuple #[])) w'):
  LeavesInM Fence.wide n P b f R a .returning w :=
 iR (by simp) c (λw' e=>⟨_,EN d _ _ _,h w' e⟩)
def Rn {b c a}{t:Nat}(e:b.results=#[.tmp t])(d:Marks B a w)(h:∀w',mP B w w'->R (.r (c.getD t undef)) w'):
  LeavesInM Fence.wide n P b c R a .returning w :=
 iR (by simp) d (λw' f=>⟨_,MJ e _ _ _,h w' f⟩)
def qKt {e a c}{p:Nat}{b}(m:e.results=#[.cell p b])(g t cs d)(l:a.getD p undef=.p g 0)(j:cW w g cs t)(o:P.underlying b=some d)(i:(match d with|.struct _|.array _ _=>true|_=>false)=true)(hi:(P.info? b).map (·.size)=some cs.size)(k:Marks B c w)(h:∀w',mP B w w'->R (.r (.agg cs)) w'):
  LeavesInM Fence.wide n P e a R c .returning w :=
 iR (by simp) k (λw' f=>⟨_,EL m a w' g t cs _ d l (f.cells _ _ _ _ j) o i hi,h w' f⟩)
