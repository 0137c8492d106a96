import Derived.Test.YtdhgdcjmhofhaaaGreatD1
import Derived.RangeFuncNested
import Derived.RangeFuncBound
import Derived.WalkKit
import Derived.Deep.QuietTactic
set_option linter.all false
namespace Go.Proofs.YtdhgdcjmhofhaaaGreat.Tree
open Go.RowKit
variable {B gf i k l n:Nat} {P:Program} {Q:Exit->Act->World->Prop} {R:Ending->World->Prop} {W a b c w w':World} {args lb:Array Value} {assign body:Code} {ch:List PanicEntry} {f:FuncId} {fn:Func} {g:Operand} {o:Obj} {ps:Array Tmp} {α:Type _}
def MZ:=@Go.Region.free_spec
def MA:=@Go.Region.noSelect_spec
def KX:=@Go.callsIn_of_wp
def KW:=@Go.getD_set_ne
def JS:=@Go.ready_mono
def JR:=@Go.mem_ready
def FL:=@Go.info_parts
def EN:=@Go.CallsIn.inRound
def CH:=@Go.callsIn_of_wp_marks
def CE:=@Go.Oper.semAt_some
def BG:=@Go.callsIn_wide
theorem jJ {b:α} {xs:Array α}:xs[i]?=some b ↔ ∃ h,xs[i]=b:=CK
theorem jV (l:List α) (i:Nat) (a:α):l.toArray.setIfInBounds i a=(l.set i a).toArray:=List.setIfInBounds_toArray l i a
theorem jZ {x:α} {xs:List α} {a:α}:(x::xs).set 0 a=a::xs:=List.set_cons_zero
theorem jX {x:α} {xs:List α}  {a:α}:(x::xs).set (i+1) a=x::xs.set i a:=List.set_cons_succ
theorem jK {as bs:List α}:(as++bs).length=as.length+bs.length:=CC
theorem jQ {l:List α}  (h:i<l.length):l[i]?=some l[i]:=FX h
theorem jY {n m k:Nat} (h:n<m) (h':m≤k):n<k:=GZ h h'
theorem jU (n:Nat):n≤n:=CB n
theorem vJ {n m k:Nat} (h:n≤m) (h':m≤k):n≤k:=CF h h'
theorem jA {as:List α}:as.toArray.size=as.length:=List.size_toArray
theorem jB {a:α} {as:List α}:(a::as).length=as.length+1:=FD
theorem jN:([]:List α).length=0:=LF
theorem jR {a:α}:Array.replicate (n+1) a=(Array.replicate n a).push a:=Array.replicate_succ
theorem jO {a:α}:Array.replicate 0 a=#[]:=Array.replicate_zero
theorem jP (l:List α) (a:α):l.toArray.push a=(l++[a]).toArray:=List.push_toArray l a
theorem jT (l₁ l₂:List α):l₁.toArray++l₂.toArray=(l₁++l₂).toArray:=List.append_toArray l₁ l₂
theorem jE (as:List α):[]++as=as:=List.nil_append as
theorem jF {a:α} {as bs:List α}:(a::as)++bs=a::(as++bs):=List.cons_append
theorem jC {R R':Ending→World→Prop} (h:Calls P f args w R) (hr:∀ e w',R e w'→R' e w'):Calls P f args w R':=h.mono hr
theorem κ{p:Prop}(h:p:=by kernel_rfl):p:=h
theorem pS:(∀(a:Act)(v:Value)(d:Tmp),a.put (some d) v={tmps:=a.tmps.setIfInBounds d v,defers:=a.defers})/\(∀(a:Act)(v:Value),a.put none v=a)/\(∀(l:List Value)(i:Nat)(a:Value),l.toArray.setIfInBounds i a=(l.set i a).toArray)/\(∀(x:Value)(l:List Value)(a:Value),(x::l).set 0 a=a::l)/\(∀(x:Value)(l:List Value)(i:Nat)(a:Value),(x::l).set (i+1) a=x::l.set i a):=⟨λ_ _ _=>rfl,λ_ _=>rfl,λ_ _ _=>jV _ _ _,λ_ _ _=>rfl,λ_ _ _ _=>rfl⟩
theorem aN(w:World)(o):(w.alloc o).1[w.1.size]?=some o:=by
 show(w.heap.push o)[w.1.size]?=_;simp
theorem al1(w a):∃W,w.alloc a=W/\bW w W/\W.1[w.1.size]?=some a/\W.1.size=w+1:=⟨_,rfl,(AC _ _).alloc (jU _) _,aN _ _,σ⟩
theorem al2(w a b):∃W,(w.alloc a).alloc b=W/\bW w W/\W.1[w.1.size]?=some a/\W.1[w.1.size+1]?=some b/\W.1.size=w+2:=by
 have⟨W,e,h,j,s⟩:=al1 w a;rw[e];exact⟨_,rfl,h.alloc ω _,(CY _ _ _ (jJ.1 j).1).t j,by have:=aN W b;grind,by simp[s]⟩
theorem al3(w a b c):∃W,((w.alloc a).alloc b).alloc c=W/\bW w W/\W.1[w.1.size]?=some a/\W.1[w.1.size+1]?=some b/\W.1[w.1.size+1+1]?=some c/\W.1.size=w+3:=by
 have⟨W,e,h,j,m,s⟩:=al2 w a b;rw[e];exact⟨_,rfl,h.alloc ω _,(CY _ _ _ (jJ.1 j).1).t j,(CY _ _ _ (jJ.1 m).1).t m,by have:=aN W c;grind,by simp[s]⟩
theorem al4(w a b c d):∃W,(((w.alloc a).alloc b).alloc c).alloc d=W/\bW w W/\W.1[w.1.size]?=some a/\W.1[w.1.size+1]?=some b/\W.1[w.1.size+1+1]?=some c/\W.1[w.1.size+1+1+1]?=some d/\W.1.size=w+4:=by
 have⟨W,e,h,m,n,j,s⟩:=al3 w a b c;rw[e];exact⟨_,rfl,h.alloc ω _,(CY _ _ _ (jJ.1 m).1).t m,(CY _ _ _ (jJ.1 n).1).t n,(CY _ _ _ (jJ.1 j).1).t j,by have:=aN W d;grind,by simp[s]⟩
theorem al6(w a b c d p q):∃W,(((((w.alloc a).alloc b).alloc c).alloc d).alloc p).alloc q=W/\bW w W/\W.1[w.1.size]?=some a/\W.1[w.1.size+1]?=some b/\W.1[w.1.size+1+1]?=some c/\W.1[w.1.size+1+1+1]?=some d/\W.1[w.1.size+1+1+1+1]?=some p/\W.1[w.1.size+1+1+1+1+1]?=some q:=by
 have⟨W,e,h,t,u,v,x,s⟩:=al4 w a b c d;have⟨V,f,g,y,z,_⟩:=al2 W p q;have k:∀{i o},W.1[i]?=some o->V.1[i]?=some o:=λj=>g.kp j;rw[s]at y z;rw[e];exact⟨V,f,h.tm g,k t,k u,k v,k x,y,z⟩
abbrev Bl:=Nat->Prop
def Bl.none:Bl:=λ_=>False
def Bl.one(b:Nat):Bl:=λk=>k=b
theorem nM {α:Sort _} (a:α):∃ x,a=x:=⟨_,rfl⟩
theorem oN {k b:Nat} (h:k≠b):¬Bl.one b k:=h
theorem oK {b:Nat} {p:Nat→Prop} (h:p b):∀ k,Bl.one b k→p k:=λ_ e=>e▸h
theorem gL {α:Type _} {xs:Array α} {i:Nat} {b:α} (h:xs[i]?=some b):i<xs.size:=(CK.1 h).1
theorem bA (w:World) (o:Obj):Below w.heap.size w (w.alloc o):=(AC _ _).alloc (CB _) _
abbrev tA (β:Nat) (root:Int) (ca:Option Addr) (cn cc:Nat):Array Value:=#[.pointer (some ⟨β,0,none⟩),.int .i64 root,.slice ca cn cc]
theorem φ{a b}{p:Prop}(h:b=a->p:=by intro;omega):Bl.one a b->p:=h
def Bl.or(A B:Bl):Bl:=λk=>A k\/B k
variable {Rd Y Z:Bl}
structure Fr (Y:Bl) (w w':World):Prop where
 os:w'.os=w.os
 tape:w'.tape=w.tape
 output:w'.output=w.output
 size:w.1.size<=w'.1.size
 block:∀k,k<w.1.size->¬Y k->w'.1[k]?=w.1[k]?
structure On (Y:Bl) (w w':World):Prop where
 os:w'.os=w.os
 tape:w'.tape=w.tape
 output:w'.output=w.output
 size:w.1.size<=w'.1.size
 block:∀k,Y k->w'.1[k]?=w.1[k]?
theorem Fr.refl(Y w):Fr Y w w:=⟨rfl,rfl,rfl,jU _,λ_ _ _=>rfl⟩
def AE:=@Fr.refl
def aI(w:World)(Y Y':Bl):Prop:=∀k,Y' k->Y k\/w.1.size<=k
theorem aI.refl(w Y):aI w Y Y:=λ_ a=>.inl a
def CS:=@aI.refl
theorem aI.t {X Y Z:Bl}(h:aI a X Y)(f:a.1.size<=b)(k:aI b Y Z):aI a X Z:=λd e=>by
 rcases k d e with c|c
 .exact h d c
 omega
theorem Fr.grow (h:Fr Y a b)(k:Fr Z b c)(g:aI a Y Z):Fr Y a c :=
 ⟨k.os.t h.os,k.tape.t h.tape,k.output.t h.output,vJ h.size k.size,λd e f =>
  (k.block d (jY e h.size) (λi=>(g d i).elim f (λj=>ω))).t (h.block d e f)⟩
theorem Fr.t (h:Fr Y a b)(k:Fr Y b c):Fr Y a c:=h.grow k (aI.refl _ _)
theorem Fr.m (h:Fr Y a b)(f:∀k,Y k->Z k\/a<=k):Fr Z a b :=
 ⟨h.os,h.tape,h.output,h.size,λk c d=>h.block k c (λe=>(f k e).elim d (λg=>ω))⟩
theorem Fr.drew (h:Fr Y a w):Fr Y a w.drew:=h.t ⟨rfl,rfl,rfl,jU _,λ_ _ _=>rfl⟩
theorem Fr.alloc (h:Fr Y a w)(o):Fr Y a (w.alloc o):=
 h.t ⟨rfl,rfl,rfl,σ,λc b _=>CY _ _ _ b⟩
theorem Fr.setCell (h:Fr Y a w){p:Addr}(e:Y p.block\/a<=p.block)(u):Fr Y a (w.setCell p u):=
 ⟨h.os,h.tape,h.output,by have:=h.size;simp_all,λf d b=>(DI _ _ _ _ (λc=>ζ)).t (h.block f d b)⟩
theorem Fr.s (h:Fr Y a w)(b i){u}(e:Y b\/a<=b:=by exact .inl rfl):Fr Y a (w.setCell (aD b i) u):=h.setCell e _
theorem Fr.putObj (h:Fr Y a w)(e:Y l\/a<=l)(o):Fr Y a (w.putObj l o):=
 ⟨h.os,h.tape,h.output,by have:=h.size;simp_all,λf d b=>(World.putObj_heap_other (λc=>ζ)).t (h.block f d b)⟩
theorem Fr.of_below (h:bW w w'):Fr Y w w':=⟨h.os,h.tape,h.output,h.size,λb a _=>h.block b a⟩
def AB:=@Fr.of_below
theorem Fr.below (h:Fr Y w w')(c:B<=w)(a:∀k,Y k->B<=k):Below B w w' :=
 ⟨h.os,h.tape,h.output,h.size,λk d=>h.block k ω (λb=>ζ)⟩
theorem Fr.below0 (h:Fr Bl.none w w'):bW w w':=h.below (jU _) (λ_ h=>h.elim)
theorem Fr.grown {row:Option Nat}(h:Fr Y a w)(b:w.grownBy w' row)(f:∀k,row=some k->Y k\/a<=k):Fr Y a w' :=
 ⟨b.os.t h.os,b.tape.t h.tape,b.output.t h.output,vJ h.size b.size,λk c d =>
  (b.block k (jY c h.size) (λe=>(f k e.symm).elim d (λg=>ω))).t (h.block k c d)⟩
theorem Fr.heap (h:Fr Y w w')(a:w.1[k]?=some o)(b:¬Y k):w'.1[k]?=some o :=
 (h.block k (jJ.1 a).1 b).t a
theorem Fr.cell (h:Fr Y w w'){b o:Nat}(a:b<w)(c:¬Y b):w'.c b o=w.c b o:=CP (w:=w) (h.block b a c)
theorem Fr.on (h:Fr Y w w')(b:∀k,Z k->k<w/\¬Y k):On Z w w':=⟨h.os,h.tape,h.output,h.size,λk a=>h.block k (b k a).1 (b k a).2⟩
theorem On.refl(Y w):On Y w w:=⟨rfl,rfl,rfl,jU _,λ_ _=>rfl⟩
def CM:=@On.refl
theorem On.t (h:On Y a b)(k:On Y b c):On Y a c :=
 ⟨k.os.t h.os,k.tape.t h.tape,k.output.t h.output,vJ h.size k.size,λe d=>(k.block e d).t (h.block e d)⟩
theorem On.m (h:On Y a b)(d:∀k,Z k->Y k):On Z a b:=⟨h.os,h.tape,h.output,h.size,λk c=>h.block k (d k c)⟩
theorem On.heap (h:On Y w w')(a:w.1[k]?=some o)(b:Y k):w'.1[k]?=some o:=(h.block k b).t a
theorem On.cell (h:On Y w w'){b}(o)(a:Y b):w'.c b o=w.c b o:=CP (w:=w) (h.block b a)
theorem On.of_below (h:bW w w')(b:lW Y w):On Y w w':=⟨h.os,h.tape,h.output,h.size,λk a=>h.block k (b k a)⟩
theorem vV (h:Below w.heap.size w w') (hy:∀ k,Y k → k<w.heap.size):On Y w w':=On.of_below h hy
theorem On.alloc (h:On Y a w)(c:lW Y w)(o):On Y a (w.alloc o):=
 h.t ⟨rfl,rfl,rfl,σ,λk b=>CY _ _ _ (c k b)⟩
theorem On.putObj (h:On Y a w)(d:¬Y l)(o):On Y a (w.putObj l o):=
 h.t ⟨rfl,rfl,rfl,σ,λe c=>World.putObj_heap_other (λb=>ζ)⟩
theorem On.setCell (h:On Y a w){p}(d:¬Y p.block)(u):On Y a (w.setCell p u):=
 h.t ⟨rfl,rfl,rfl,σ,λe c=>DI _ _ _ _ (λb=>ζ)⟩
def _root_.Go.CallsIn.m:=@CallsIn.mono
def _root_.Go.RoundIn.m:=@RoundIn.mono
def gM{α:Type}(J:α->Bl->World->Prop):Prop:=∀s Y W W',J s Y W->On Y W W'->J s Y W'
def tG{α:Type}(J:α->Bl->World->Prop):Prop:=∀s Y W,J s Y W->∀k,Y k->k<W.1.size
def Qg{α:Type}(J Jx:List α->Bl->World->Prop)(s:List α)(Y:Bl)(W:World)(e:Ending)(W':World):Prop :=
 (e=.returned (.bool true)/\∃Y',J s Y' W'/\Fr Y W W'/\aI W Y Y') \/
 (e=.returned (.bool false)/\∃Y',Jx s Y' W'/\Fr Y W W'/\aI W Y Y')
def qBa{α:Type}(J Jx:List α->Bl->World->Prop)(Jp:Bl->World->Prop)(ch:List PanicEntry)(s:List α)(Y:Bl)(W:World)(e:Ending)(W':World):Prop:=Qg J Jx s Y W e W'\/(e=.panicked ch/\∃Y',Jp Y' W'/\Fr Y W W'/\aI W Y Y')
def qNb{α:Type}(J Jx:List α->Bl->World->Prop)(xs:List α)(Y:Bl)(W:World)(e:Ending)(W':World):Prop :=
 (∃v,e=.returned v)/\∃Y',Fr Y W W'/\aI W Y Y'/\(J xs Y' W'\/∃pre,pre <+: xs/\pre≠[]/\Jx pre Y' W')
def qSf{α:Type}(own:Prop)(J Jx:List α->Bl->World->Prop)(Jp:Bl->World->Prop)(ch:List PanicEntry)(xs:List α)(Y:Bl)(W:World)(e:Ending)(W':World):Prop:=((∃v,e=.returned v)/\∃Y',Fr Y W W'/\aI W Y Y'/\((¬own/\J xs Y' W')\/∃pre,pre <+: xs/\pre≠[]/\Jx pre Y' W'))\/(e=.panicked ch/\∃Y',Fr Y W W'/\aI W Y Y'/\Jp Y' W')
def nG{α:Type}(P:Program)(g:Nat)(lb:Array Value)(Has:α->Array Value->Bl->World->Prop)(xs:List α)(Rd:Bl)(w:World):Prop :=
 ∀(l:Nat) (J Jx:List α->Bl->World->Prop) (Y:Bl) (W:World),On Rd w W->(∀k,Rd k->¬Y k/\k<W.1.size)->gM J->tG J->gM Jx->tG Jx ->
  (∀pre x rest args S Y' W',xs=pre++x :: rest->J pre Y' W'->Has x args S W'->(∀k,S k->¬Y' k/\k<W'.1.size)->Fr Y W W'->aI W Y Y' ->
   YieldAt Fence.wide 0 P l args W' (Qg J Jx (pre++[x]) Y' W')) ->
  J [] Y W->CallsIn Fence.wide 0 P g (#[.func (.yield l) #[] #[]]++lb) W (qNb J Jx xs Y W)
theorem fK {n m d a b}(h:RoundIn Fence.wide n P l f d a b w R):RoundIn Fence.wide m P l f d a b w R :=
 ⟨h.1,λc e _=>h.2 c e (room_wide _)⟩
theorem vD {n m}(h:CallsIn Fence.wide n P f args w R):CallsIn Fence.wide m P f args w R :=
 callsIn_wide.2 (callsIn_wide.1 h)
structure pO (l:Nat) (W W':World):Prop where
 os:W'.os=W.os
 tape:W'.tape=W.tape
 output:W'.output=W.output
 size:W'.1.size=W.1.size
 block:∀k,k≠l->W'.1[k]?=W.1[k]?
 rcd:∃r,W'.1[l]?=some (.loop r)
theorem pO.of_put (h:l<W)(r):pO l W (W.putObj l (.loop r)):=⟨rfl,rfl,rfl,σ,λb a=>World.putObj_heap_other a,_,World.putObj_heap_same h⟩
theorem pO.on (h:pO l W a)(d:¬Y l):On Y W a:=⟨h.os,h.tape,h.output,by rw[h.size];omega,λe c=>h.block e (λb=>ζ)⟩
theorem pO.fr (h:pO l W a):Fr (Bl.one l) W a:=⟨h.os,h.tape,h.output,by rw[h.size];omega,λc _ b=>h.block c b⟩
theorem pO.heap (h:pO l W a)(c:W.1[k]?=some o)(b:k≠l):a.1[k]?=some o:=(h.block k b).t c
def qPx{α:Type}(I:List α->Bl->World->Prop)(Ix:Code->List α->Bl->World->Prop)(s:List α)(Y:Bl)(W:World):Exit->Act->World->Prop
 |.normal,_,W'=>∃Y',I s Y' W'/\Fr Y W W'/\aI W Y Y'
 |.ret,_,W'=>∃Y',Ix .ret s Y' W'/\Fr Y W W'/\aI W Y Y'
 |.exit id,_,W'=>∃Y',Ix (.exit id) s Y' W'/\Fr Y W W'/\aI W Y Y'
 |.goto t,_,W'=>∃Y',Ix (.goto t) s Y' W'/\Fr Y W W'/\aI W Y Y'
 |_,_,_=>False
def iM{α:Type}(P:Program)(I:List α->Bl->World->Prop)(Ix:Code->List α->Bl->World->Prop)(l:Nat)(tmps:Array Value)(assign body:Code)(s:List α)(Y:Bl)(W:World):Prop :=
 assign.wpIn (Fence.wide.inRound l) 0 P (Exit.then (λa₁ W₁=>Fr Y W W₁/\∀W₂,pO l W₁ W₂->body.wpIn (Fence.wide.inRound l) 0 P (qPx I Ix s Y W₂) a₁ W₂) (λ_ _ _=>False)) {tmps:=tmps,defers:=[]} W
theorem Rj {K}{A:List K->Bl->World->Prop}{B}(a1:gM A)(E:∀c,gM (B c))(ac:tG A)(ad:∀c,tG (B c)){a0 Z M N s}{f:LoopState->Option Code->Loop}(a4:∀D J st' X,({f D J with state:=st',pending:=X}:Loop)=f st' X)(a5:∀D J,(f D J).state=D)(R:W.1[l]?=some (.loop (f .ready none)))(G:¬Y l)(a3:iM P A B l Z M N s Y W):
  RoundIn Fence.wide 0 P l a0 Z M N W (λe v =>
   (e=.r (.bool true)/\∃a,A s a v/\Fr (Bl.or Y (Bl.one l)) W v/\aI W Y a/\v.1[l]?=some (.loop (f .ready none))/\¬a l) \/
   (e=.r (.bool false)/\∃a c,B c s a v/\Fr (Bl.or Y (Bl.one l)) W v/\aI W Y a/\v.1[l]?=some (.loop (f .done (some c)))/\¬a l)):=by
 refine roundIn_of_wpIn trivial (wpIn_mono a3 ?_);intro e a7 L x;cases e with
 |normal =>
  have⟨O,a2⟩:=x;have S:=O.heap R G;have V:=(jJ.1 S).1;refine⟨_,run_beginRound S (a5 _ _),?_⟩;have⟨m,F⟩:∃m,L.putObj l (.loop {f .ready none with state:=.busy})=m:=⟨_,rfl⟩;have I:=F▸pO.of_put V _;have T:=F▸World.putObj_heap_same V;have ab:=I.size.symm;have Q:Fr (Bl.or Y (Bl.one l)) W m:=(O.m (λz k=>.inl (.inl k))).t (I.fr.m (λz k=>.inl (.inr k)));rw[F];apply wpIn_mono (a2 m I);have C:∀(b:Option Code) (a:Bl) (j:World),Fr Y m j->aI m Y a ->
    ∃n,(Instr.endRound l b).run P j=.ok (.bool b.isNone) n/\pO l j n/\n.1[l]?=some (.loop (f (if b.isNone then .ready else .done) b))/\¬a l/\Fr (Bl.or Y (Bl.one l)) W n/\aI W Y a:=by
   intro b a j g h;have U:=g.heap T G;have H:=(jJ.1 U).1;have i:=run_endRound (P:=P) b U;have e:({({f .ready none with state:=.busy}:Loop) with state:=if b.isNone then .ready else .done,pending:=b}:Loop)=f (if b.isNone then .ready else .done) b:=by
    have:=a4 .ready none (if b.isNone then .ready else .done) b;rw[<-this]
   rw[e]at i;refine⟨_,i,pO.of_put H _,World.putObj_heap_same H,λa6=>?_,(Q.t (g.m (λz k=>.inl (.inl k)))).t ((pO.of_put H _).fr.m (λz k=>.inl (.inr k))),?_⟩
   .rcases h l a6 with w|w
    .exact G w
    .omega
   .exact λz k=>by
     rcases h z k with w|w
     .grind
     .exact .inr (vJ Q.size w)
  intro e a8 j y;cases e with
  |normal =>
   have⟨a,q,g,h⟩:=y;have⟨n,i,u,r,d,o,p⟩:=C none a j g h;exact⟨_,_,i,.inl ⟨rfl,a,a1 _ _ _ _ q (u.on d),o,p,r,d⟩⟩
  |ret =>
   have⟨a,q,g,h⟩:=y;have⟨n,i,u,r,d,o,p⟩:=C (some .ret) a j g h;exact⟨_,_,i,.inr ⟨rfl,a,_,E _ _ _ _ _ q (u.on d),o,p,r,d⟩⟩
  |exit id =>
   have⟨a,q,g,h⟩:=y;have⟨n,i,u,r,d,o,p⟩:=C (some (.exit id)) a j g h;exact⟨_,_,i,.inr ⟨rfl,a,_,E _ _ _ _ _ q (u.on d),o,p,r,d⟩⟩
  |goto t =>
   have⟨a,q,g,h⟩:=y;have⟨n,i,u,r,d,o,p⟩:=C (some (.goto t)) a j g h;exact⟨_,_,i,.inr ⟨rfl,a,_,E _ _ _ _ _ q (u.on d),o,p,r,d⟩⟩
  |panic ch=>exact y.elim
  |outgrown=>exact y.elim
 |exit id=>exact x.elim
 |goto t=>exact x.elim
 |ret=>exact x.elim
 |panic chain=>exact x.elim
 |outgrown=>exact x.elim
def qSe{α:Type}(own:Prop)(ch:List PanicEntry)(P:Program)(g:Nat)(lb:Array Value)(Has:α->Array Value->Bl->World->Prop)(xs:List α)(Rd:Bl)(w:World):Prop:=∀(l:Nat) (J Jx:List α->Bl->World->Prop) (Y:Bl) (W:World),On Rd w W->(∀k,Rd k->¬Y k/\k<W.1.size)->gM J->tG J->gM Jx->tG Jx->(own->∀s Y W,¬Jx s Y W)->(∀pre x rest args S Y' W',xs=pre++x::rest->J pre Y' W'->Has x args S W'->(∀k,S k->¬Y' k/\k<W'.1.size)->Fr Y W W'->aI W Y Y'->YieldAt Fence.wide 0 P l args W' (Qg J Jx (pre++[x]) Y' W'))->J [] Y W->CallsIn Fence.wide 0 P g (#[.func (.yield l) #[] #[]]++lb) W λe W'=>(¬own/\qNb J Jx xs Y W e W')\/(own/\e=.panicked ch/\∃Y',Fr Y W W'/\aI W Y Y'/\J xs Y' W')
theorem Ko {α:Type}{own:Prop}{a:Act}(hg:a.eval g=.func (.func gf) #[] lb)(eg:∀args w,(callFunc gf args).run P w=.ok (.enter gf args) w){Has:α->Array Value->Bl->World->Prop}{xs:List α}(hseq:qSe own ch P gf lb Has xs Rd w)(hps:∀x args S W,Has x args S W->args.size=ps.size)(I:List α->Bl->World->Prop)(Ix:Code->List α->Bl->World->Prop)(hI:gM I)(hIx:∀c,gM (Ix c))(lI:tG I)(lIx:∀c,tG (Ix c))(hox:own->∀c s Y W,¬Ix c s Y W)(Y:Bl)(h0:I [] Y w)(hRd:∀k,Rd k->¬Y k/\k<w.1.size)(hround:∀l pre x rest args S Y' W,xs=pre++x :: rest->I pre Y' W->Has x args S W->(∀k,S k->¬Y' k/\k<W.1.size/\k≠l)->Fr Y w W->aI w Y Y'->w.1.size<=l->l<W.1.size->¬Y' l->(∃r,W.1[l]?=some (.loop r)) ->
   iM P I Ix l ((ps.zip args).foldl (λt (p,v)=>t.setIfInBounds p v) a.tmps) assign body (pre++[x]) Y' W)(hdone:¬own->∀D Y' W,w.1.size<=D->¬Y' D->I xs Y' W->Fr Y w W->aI w Y Y'->W.1[D]?=some (.deferred (some []))->Q .normal {a with defers:={target:=.collected D,args:=#[]}:: a.defers} W)(hstop:∀D c pre Y' W,w.1.size<=D->¬Y' D->pre <+: xs->pre≠[]->Ix c pre Y' W->Fr Y w W->aI w Y Y'->W.1[D]?=some (.deferred (some []))->c.wpIn Fence.wide n P Q {a with defers:={target:=.collected D,args:=#[]}:: a.defers} W)(hpan:own->∀D Y' W,w.1.size<=D->¬Y' D->I xs Y' W->Fr Y w W->aI w Y Y'->W.1[D]?=some (.deferred (some []))->Q (.panic ch) {a with defers:={target:=.collected D,args:=#[]}:: a.defers} W):
  (Code.rangeFunc g ps assign body).wpIn Fence.wide n P Q a w:=by
 refine wpIn_rangeFunc ?_;intro fn am;obtain⟨y,j⟩:∃y:LoopState->Option Code->Loop,y=λst pe=>{state:=st,pending:=pe,fn,tmps:=a.tmps,params:=ps,assign,body,defers:=w.1.size}:=⟨_,rfl⟩;obtain⟨W1,ae,-,ag,aj,ak⟩:=al2 w (.deferred (some [])) (.loop (y .ready none));have a7:=λZ=>ae▸((Fr.refl Z w).alloc _).alloc _;have lY:=lI [] Y w h0;have o1:=(a7 Bl.none).on (λk i=>⟨lY k i,λh=>h⟩);have af:∀x args S W,Has x args S W->args.size=(y .ready none).params.size:=by grind
 refine⟨w+1,[{target:=.collected w.1.size,args:=#[]}],W1,{target:=.fn (.func gf) lb,args:=#[.func (.yield (w+1)) #[] #[]]},W1,gf,
  #[.func (.yield (w+1)) #[] #[]]++lb,W1,?_,?_,?_,?_,λh=>by simp[Fence.wide]at h,?_⟩
 .rw[<-ae,j];exact run_enterLoop_outer _ _ _ _ _
 .simp only[resolve,hg]
  simp[go_sem]
 .intro f' al;trivial
 .simp[invoke,go_sem,eg]
 .let L:=w.1.size+1;let D:=w.1.size;let Z₀:Bl:=Bl.or Y (Bl.or (Bl.one L) (Bl.one D));let J:List α->Bl->World->Prop:=λpre Z W=>∃Y',I pre Y' W/\(∀k,Z k↔Y' k\/k=L\/k=D)/\¬Y' L/\¬Y' D/\W.1[L]?=some (.loop (y .ready none))/\W.1[D]?=some (.deferred (some []));let Jx:List α->Bl->World->Prop:=λpre Z W=>∃Y' c,Ix c pre Y' W/\(∀k,Z k↔Y' k\/k=L\/k=D)/\¬Y' L/\¬Y' D/\W.1[L]?=some (.loop (y .done (some c)))/\W.1[D]?=some (.deferred (some []));have a9:¬Y L/\¬Y D:=⟨λh=>by grind,λh=>by grind⟩;have V:∀W,Fr Z₀ W1 W->Fr Y w W:=λW hf=>(a7 Y).grow hf (λk i=>by
   rcases i with h|h|h
   .grind
   .exact .inr (by simp only[Bl.one]at h;omega)
   .exact .inr (by simp only[Bl.one]at h;omega))
  have U:∀Z Y',(∀k,Z k↔Y' k\/k=L\/k=D)->aI W1 Z₀ Z->aI w Y Y':=λZ Y' q hg k i=>by
   rcases hg k ((q k).2 (.inl i)) with(h|h|h)|h
   .grind
   .exact .inr (by simp only[Bl.one]at h;omega)
   .exact .inr (by simp only[Bl.one]at h;omega)
   omega
  have a8:∀st pe st' pe',({y st pe with state:=st',pending:=pe'}:Loop)=y st' pe':=by grind
  refine vD (CallsIn.m (hseq L J Jx Z₀ W1 ((a7 Bl.none).on (λk i=>⟨(hRd k i).2,λh=>h⟩)) (λk i=>⟨?_,?_⟩) ?_ ?_ ?_ ?_ (λho s Z W ⟨Y',c,F,_⟩=>hox ho _ _ _ _ F) ?_ ?_) ?_)
  .rintro(h|h|h)
   .grind
   .have:=(hRd k i).2;simp only[Bl.one]at h;omega
   .have:=(hRd k i).2;simp only[Bl.one]at h;omega
  .grind
  .rintro s Z W W' ⟨Y',F,q,T,O,z,H⟩ ho;exact⟨Y',hI _ _ _ _ F (ho.m (λk i=>(q k).2 (.inl i))),q,T,O,ho.heap z ((q _).2 (.inr (.inl rfl))),ho.heap H ((q _).2 (.inr (.inr rfl)))⟩
  .rintro s Z W ⟨Y',F,q,T,O,z,H⟩ k i;rcases(q k).1 i with h|rfl|rfl
   .exact lI _ _ _ F k h
   .grind
   grind
  .rintro s Z W W' ⟨Y',c,F,q,T,O,z,H⟩ ho;exact⟨Y',c,hIx _ _ _ _ _ F (ho.m (λk i=>(q k).2 (.inl i))),q,T,O,ho.heap z ((q _).2 (.inr (.inl rfl))),ho.heap H ((q _).2 (.inr (.inr rfl)))⟩
  .rintro s Z W ⟨Y',c,F,q,T,O,z,H⟩ k i;rcases(q k).1 i with h|rfl|rfl
   .exact lIx _ _ _ _ F k h
   .grind
   grind
  .rintro pre x rest args S Z W hx ⟨Y',F,q,T,O,z,H⟩ hH hS hF hG;have ah:=(jJ.1 z).1;have hy:=run_yield (P:=P) (args:=args) z (af _ _ _ _ hH);rw[j]at hy;refine⟨fn,_,assign,body,hy,(Rj hI hIx lI lIx a8 (λ_ _=>by rw[j]) z T (hround L pre x rest args S Y' W hx F hH (λk i=>⟨λh=>(hS k i).1 ((q k).2 (.inl h)),(hS k i).2,λe=>(hS k i).1 ((q k).2 (.inr (.inl e)))⟩) (V _ hF) (U _ _ q hG) ω ah T ⟨_,z⟩)).m ?_⟩;have ab:∀k,Bl.or Y' (Bl.one L) k->Z k:=λk i=>by
    rcases i with h|h
    .grind
    .exact(q k).2 (.inr (.inl h))
   have dW:∀W',Fr (Bl.or Y' (Bl.one L)) W W'->W'.1[D]?=some (.deferred (some [])):=λW' hf=>hf.heap H (λh=>by
    rcases h with h|h
    .exact O h
    .simp only[Bl.one]at h;omega)
   have nD:∀u,aI W Y' u->¬u D:=λu hg h=>by
    rcases hg D h with h'|h'
    .exact O h'
    .omega
   have gZ:∀u,aI W Y' u->aI W Z (λk=>u k\/k=L\/k=D):=λu hg k i=>by
    rcases i with h|h|h
    .rcases hg k h with h'|h'
     .grind
     omega
    .grind
    grind
   rintro e W' (⟨rfl,u,a6,hf,hg,hl,a2⟩|⟨rfl,u,c,a6,hf,hg,hl,a2⟩)
   .exact .inl ⟨rfl,(λk=>u k\/k=L\/k=D),⟨u,a6,λk=>GF,a2,nD _ hg,hl,dW _ hf⟩,hf.m (λk i=>.inl (ab k i)),gZ _ hg⟩
   .exact .inr ⟨rfl,(λk=>u k\/k=L\/k=D),⟨u,c,a6,λk=>GF,a2,nD _ hg,hl,dW _ hf⟩,hf.m (λk i=>.inl (ab k i)),gZ _ hg⟩
  .exact⟨Y,hI _ _ _ _ h0 o1,λk=>GF,a9.1,a9.2,aj,ag⟩
  .rintro e W (⟨hno,⟨v,rfl⟩,Z,hF,hG,(⟨Y',F,q,T,O,z,H⟩|⟨pre,aa,ai,Y',c,F,q,T,O,z,H⟩)⟩|⟨ho,rfl,Z,hF,hG,Y',F,q,T,O,z,H⟩)
   .have C:=run_endLoop (P:=P) z (by rw[j];simp);refine⟨none,W.putObj L (.loop (y .exhausted none)),by grind,?_⟩;have ht:=pO.of_put (jJ.1 z).1 (y .exhausted none);exact hdone hno D Y' _ (jU _) O (hI _ _ _ _ F (ht.on T)) ((V _ hF).putObj (.inr ω) _) (U _ _ q hG) (ht.heap H ω)
   .have C:=run_endLoop (P:=P) z (by rw[j];simp);refine⟨some c,W.putObj L (.loop (y .exhausted (some c))),by grind,?_⟩;have ht:=pO.of_put (jJ.1 z).1 (y .exhausted (some c));exact hstop D c pre Y' _ (jU _) O aa ai (hIx _ _ _ _ _ F (ht.on T)) ((V _ hF).putObj (.inr ω) _) (U _ _ q hG) (ht.heap H ω)
   .exact hpan ho D Y' _ (jU _) O F (V _ hF) (U _ _ q hG) H
theorem gF {α:Type}{a:Act}(hg:a.eval g=.func (.func gf) #[] lb)(eg:∀args w,(callFunc gf args).run P w=.ok (.enter gf args) w){Has:α->Array Value->Bl->World->Prop}{xs:List α}(hseq:nG P gf lb Has xs Rd w)(hps:∀x args S W,Has x args S W->args.size=ps.size)(I:List α->Bl->World->Prop)(Ix:Code->List α->Bl->World->Prop)(hI:gM I)(hIx:∀c,gM (Ix c))(lI:tG I)(lIx:∀c,tG (Ix c))(Y:Bl)(h0:I [] Y w)(hRd:∀k,Rd k->¬Y k/\k<w)(hround:∀l pre x rest args S Y' W,xs=pre++x :: rest->I pre Y' W->Has x args S W->(∀k,S k->¬Y' k/\k<W/\k≠l)->Fr Y w W->aI w Y Y'->w<=l->l<W->¬Y' l->(∃r,W.1[l]?=some (.loop r)) ->
   iM P I Ix l ((ps.zip args).foldl (λt (p,v)=>t.setIfInBounds p v) a.tmps) assign body (pre++[x]) Y' W)(hdone:∀D Y' W,w.1.size<=D->¬Y' D->I xs Y' W->Fr Y w W->aI w Y Y'->W.1[D]?=some (.deferred (some []))->Q .normal {a with defers:={target:=.collected D,args:=#[]}:: a.defers} W)(hstop:∀D c pre Y' W,w.1.size<=D->¬Y' D->pre <+: xs->pre≠[]->Ix c pre Y' W->Fr Y w W->aI w Y Y'->W.1[D]?=some (.deferred (some []))->c.wpIn Fence.wide n P Q {a with defers:={target:=.collected D,args:=#[]}:: a.defers} W):
  (Code.rangeFunc g ps assign body).wpIn Fence.wide n P Q a w:=Ko (own:=False) (ch:=[]) hg eg (λl J Jx Y W a b c d e f _ g h=>(hseq l J Jx Y W a b c d e f g h).m (λ_ _ h=>.inl ⟨id,h⟩)) hps I Ix hI hIx lI lIx (λh=>h.elim) Y h0 hRd hround (λ_=>hdone) hstop (λh=>h.elim)
theorem Ql {α:Type}{a:Act}{l₀:Nat}{r₀:Loop}(hl₀:w.1[l₀]?=some (.loop r₀))(hg:a.eval g=.func (.func gf) #[] lb)(eg:∀args w,(callFunc gf args).run P w=.ok (.enter gf args) w){Has}{xs:List α}(hseq:nG P gf lb Has xs Rd w)(hps:∀x args S W,Has x args S W->args.size=ps.size)(I:List α->Bl->World->Prop)(Ix:Code->List α->Bl->World->Prop)(hI:gM I)(hIx:∀c,gM (Ix c))(lI:tG I)(lIx:∀c,tG (Ix c))(Y:Bl)(h0:I [] Y w)(hRd:∀k,Rd k->¬Y k/\k<w.1.size)(hround:∀l pre x rest args S Y' W,xs=pre++x :: rest->I pre Y' W->Has x args S W->(∀k,S k->¬Y' k/\k<W.1.size/\k≠l)->Fr Y w W->aI w Y Y'->w.1.size<=l->l<W.1.size->¬Y' l->(∃r,W.1[l]?=some (.loop r)) ->
   iM P I Ix l ((ps.zip args).foldl (λt (p,v)=>t.setIfInBounds p v) a.tmps) assign body (pre++[x]) Y' W)(hdone:∀Y' W,I xs Y' W->Fr Y w W->aI w Y Y'->Q .normal a W)(hstop:∀c pre Y' W,pre <+: xs->pre≠[]->Ix c pre Y' W->Fr Y w W->aI w Y Y'->c.wpIn (Fence.wide.inRound l₀) n P Q a W):
  (Code.rangeFunc g ps assign body).wpIn (Fence.wide.inRound l₀) n P Q a w:=by
 apply wpIn_rangeFunc;intro fn ai;have⟨j,F⟩:∃j:LoopState->Option Code->Loop,j=λst pe=>{state:=st,pending:=pe,fn,tmps:=a.tmps,params:=ps,assign,body,defers:=r₀.defers}:=⟨_,rfl⟩;obtain⟨W1,a7,-,af,ag⟩:=al1 w (.loop (j .ready none));have a2:=λZ=>a7▸(Fr.refl Z w).alloc _;have lY:=lI [] Y w h0;have a9:∀x args S W,Has x args S W->args.size=(j .ready none).params.size:=by grind
 refine⟨w,[],W1,{target:=.fn (.func gf) lb,args:=#[.func (.yield w) #[] #[]]},W1,gf,
  #[.func (.yield w) #[] #[]]++lb,W1,by rw[<-a7,F];exact run_enterLoop_inner hl₀ _ _ _ _ _,?_,by intro f' ah;trivial,by simp[invoke,go_sem,eg],λh=>by simp[Fence.wide,Fence.inRound]at h,?_⟩
 .simp only[resolve,hg];simp[go_sem]
 .let L:=w.1.size;let Z₀:Bl:=Bl.or Y (Bl.one L);let J:List α->Bl->World->Prop:=λpre Z W=>∃Y',I pre Y' W/\(∀k,Z k↔Y' k\/k=L)/\¬Y' L/\W.1[L]?=some (.loop (j .ready none));let Jx:List α->Bl->World->Prop:=λpre Z W=>∃Y' c,Ix c pre Y' W/\(∀k,Z k↔Y' k\/k=L)/\¬Y' L/\W.1[L]?=some (.loop (j .done (some c)));have ae:¬Y L:=λh=>by grind
  have H:∀W,Fr Z₀ W1 W->Fr Y w W:=λW hf=>(a2 Y).grow hf (λk i=>by
   rcases i with h|h
   .grind
   .exact .inr (by simp only[Bl.one]at h;omega))
  have O:∀Z Y',(∀k,Z k↔Y' k\/k=L)->aI W1 Z₀ Z->aI w Y Y':=λZ Y' q hg k i=>by
   rcases hg k ((q k).2 (.inl i)) with(h|h)|h
   .grind
   .exact .inr (by simp only[Bl.one]at h;omega)
   omega
  have T:∀st pe st' pe',({j st pe with state:=st',pending:=pe'}:Loop)=j st' pe':=by grind
  refine CallsIn.inRound l₀ (vD (CallsIn.m (hseq L J Jx Z₀ W1 ((a2 Bl.none).on (λk i=>⟨(hRd k i).2,λh=>h⟩)) (λk i=>⟨?_,by grind⟩) ?_ ?_ ?_ ?_ ?_ (⟨Y,hI _ _ _ _ h0 ((a2 Bl.none).on (λk i=>⟨lY k i,λh=>h⟩)),λk=>GF,ae,af⟩)) ?_))
  .rintro(h|h)
   .grind
   .have:=(hRd k i).2;simp only[Bl.one]at h;omega
  .intro s Z W W' ⟨Y',z,q,C,y⟩ ho;exact⟨Y',hI _ _ _ _ z (ho.m (λk i=>(q k).2 (.inl i))),q,C,ho.heap y ((q _).2 (.inr rfl))⟩
  .intro s Z W ⟨Y',z,q,C,y⟩ k i;rcases(q k).1 i with h|rfl
   .exact lI _ _ _ z k h
   grind
  .intro s Z W W' ⟨Y',c,z,q,C,y⟩ ho;exact⟨Y',c,hIx _ _ _ _ _ z (ho.m (λk i=>(q k).2 (.inl i))),q,C,ho.heap y ((q _).2 (.inr rfl))⟩
  .intro s Z W ⟨Y',c,z,q,C,y⟩ k i;rcases(q k).1 i with h|rfl
   .exact lIx _ _ _ _ z k h
   grind
  .intro pre x rest args S Z W hx ⟨Y',z,q,C,y⟩ hH hS hF hG;have hy:=run_yield (P:=P) (args:=args) y (a9 _ _ _ _ hH);rw[F]at hy;refine⟨fn,_,assign,body,hy,(Rj hI hIx lI lIx T (λ_ _=>by rw[F]) y C (hround L pre x rest args S Y' W hx z hH (λk i=>⟨λh=>(hS k i).1 ((q k).2 (.inl h)),(hS k i).2,λe=>(hS k i).1 ((q k).2 (.inr e))⟩) (H _ hF) (O _ _ q hG) ω ((jJ.1 y).1) C ⟨_,y⟩)).m ?_⟩;have a6:∀k,Bl.or Y' (Bl.one L) k->Z k:=λk i=>by
    rcases i with h|h
    .grind
    .exact(q k).2 (.inr h)
   have gZ:∀u,aI W Y' u->aI W Z (λk=>u k\/k=L):=λu hg k i=>by
    rcases i with h|h
    .rcases hg k h with h'|h'
     .grind
     omega
    grind
   rintro e W' (⟨rfl,u,V,hf,hg,hl,U⟩|⟨rfl,u,c,V,hf,hg,hl,U⟩)
   .exact .inl ⟨rfl,(λk=>u k\/k=L),⟨u,V,λk=>GF,U,hl⟩,hf.m (λk i=>.inl (a6 k i)),gZ _ hg⟩
   .exact .inr ⟨rfl,(λk=>u k\/k=L),⟨u,c,V,λk=>GF,U,hl⟩,hf.m (λk i=>.inl (a6 k i)),gZ _ hg⟩
  .rintro e W ⟨⟨v,rfl⟩,Z,hF,hG,(⟨Y',z,q,C,y⟩|⟨pre,aa,ab,Y',c,z,q,C,y⟩)⟩
   .have a8:=run_endLoop (P:=P) y (by grind);refine⟨none,W.putObj L (.loop (j .exhausted none)),by grind,?_⟩;exact hdone Y' _ (hI _ _ _ _ z ((pO.of_put (jJ.1 y).1 (j .exhausted none)).on C)) ((H _ hF).putObj (.inr ω) _) (O _ _ q hG)
   .have a8:=run_endLoop (P:=P) y (by grind);refine⟨some c,W.putObj L (.loop (j .exhausted (some c))),by grind,?_⟩;exact hstop c pre Y' _ aa ab (hIx _ _ _ _ _ z ((pO.of_put (jJ.1 y).1 (j .exhausted (some c))).on C)) ((H _ hF).putObj (.inr ω) _) (O _ _ q hG)
def mk(D:Nat):Deferred:={target:=.collected D,args:=#[]}
def Marks(B:Nat)(ds:List Deferred)(w:World):Prop:=∃Ds:List Nat,ds=Ds.map mk/\Ds.Nodup/\∀D∈Ds,B<=D/\w.1[D]?=some (.deferred (some []))
structure nA (B:Nat) (w w':World):Prop where
 os:w'.os=w.os
 tape:w'.tape=w.tape
 output:w'.output=w.output
 size:w'.1.size=w.1.size
 low:∀(k:Nat),k<B->w'.1[k]?=w.1[k]?
 cells:∀(k:Nat) (c:Array Value) (e:TypeId) (f:Nat×Nat),w.1[k]?=some (Obj.cells c e f)->w'.1[k]?=some (Obj.cells c e f)
theorem nA.refl(B w):nA B w w:=⟨rfl,rfl,rfl,rfl,λ_ _=>rfl,λ_ _ _ _ a=>a⟩
theorem nA.t (h:nA B a b)(k:nA B b c):nA B a c :=
 ⟨k.os.t h.os,k.tape.t h.tape,k.output.t h.output,k.size.t h.size,λd e=>(k.low d e).t (h.low d e),λd _ _ _ f=>k.cells d _ _ _ (h.cells d _ _ _ f)⟩
theorem nA.below (h:nA B w w'):Below B w w':=⟨h.os,h.tape,h.output,by rw[h.size];omega,h.low⟩
theorem nA.put {B D}(h:B<=D)(a:w.1[D]?=some (.deferred (some []))):nA B w (w.putObj D (.deferred none)):=
 ⟨rfl,rfl,rfl,σ,λe i=>World.putObj_heap_other ω,λe c f g b=>(World.putObj_heap_other (λd=>ζ)).t b⟩
theorem Marks.nil(B w):Marks B [] w:=⟨[],rfl,σ,σ⟩
def GC:=@Marks.nil
theorem Marks.on {c}(h:Marks B c w)(f:∀D,B<=D->w.1[D]?=some (.deferred (some []))->w'.1[D]?=some (.deferred (some []))):Marks B c w':=by
 obtain⟨d,rfl,e,b⟩:=h;exact⟨d,rfl,e,λD a=>⟨(b D a).1,f D (b D a).1 (b D a).2⟩⟩
theorem Marks.cons {B D:Nat}{d:List Deferred}(h:Marks B d w)(k:∀D,B<=D->w.1[D]?=some (.deferred (some []))->w'.1[D]?=some (.deferred (some [])))(f:B<=D)(g:w'.1[D]?=some (.deferred (some [])))(l:w<=D):Marks B (mk D :: d) w':=by
 obtain⟨e,rfl,j,c⟩:=h;refine⟨D :: e,rfl,MW.2 ⟨λi=>?_,j⟩,?_⟩
 .grind
 grind
theorem fL {g i u}(q:u≠.run):∀{a:List Deferred}{w:World},Marks B a w ->
  (∀w',nA B w w'->LeavesInM Fence.wide n P g i R [] u w')->LeavesInM Fence.wide n P g i R a u w:=by
 rintro a w ⟨e,rfl,o,d⟩;induction e generalizing w with
 |nil=>exact λb=>b w (nA.refl _ _)
 |cons D e ih =>
  intro b;have⟨k,l⟩:=MW.1 o;have⟨m,h⟩:=d D σ;refine⟨q,.inl ⟨D,_,rfl,run_takeDeferred h,?_⟩⟩;refine ih l (λf c=>⟨(d f (by simp[c])).1,?_⟩) (λw' p=>b w' ((nA.put m h).t p));exact(World.putObj_heap_other (λj=>ζ)).t (d f (by simp[c])).2
theorem qPq {b f a}(d:b.results=#[])(c:Marks B a w)(h:∀w',nA B w w'->R (.r (.tuple #[])) w'):
  LeavesInM Fence.wide n P b f R a .returning w :=
 fL σ c (λw' e=>⟨_,EU d _ _ _,h w' e⟩)
theorem Uv {b c a}{t:Nat}(e:b.results=#[.tmp t])(d:Marks B a w)(h:∀w',nA B w w'->R (.r (c.getD t undef)) w'):
  LeavesInM Fence.wide n P b c R a .returning w :=
 fL σ d (λw' f=>⟨_,NF e _ _ _,h w' f⟩)
theorem qPp {e a c}{p:Nat}{b}(m:e.results=#[.cell p b])(g t cs d)(l:a.getD p undef=.p g 0)(j:cW w g cs t)(o:P.underlying b=some d)(i:(match d with|.struct _|.array _ _=>true|_=>false)=true)(hi:(P.info? b).map (·.size)=some cs.size)(k:Marks B c w)(h:∀w',nA B w w'->R (.r (.agg cs)) w'):
  LeavesInM Fence.wide n P e a R c .returning w :=
 fL σ k (λw' f=>⟨_,ER m a w' g t cs _ d l (f.cells _ _ _ _ j) o i hi,h w' f⟩)
def wpB(f : FuncId)(P : Program)(c : Code)(Q : Exit -> Act -> World -> Prop)(a : Act)(w : World): Prop :=
  ∀(b : Frame) (k : List Item) (cs : List Frame), b.roundOf = none -> b.fn = f -> ∃e a' w', Q e a' w' /\ ArrivesIn (Machine.fenced P Fence.wide) P (lone (b.atR a (.code c :: k)) cs w) b k cs e a' w'
section
variable {f : FuncId}{P : Program}{Q : Exit -> Act -> World -> Prop}{a : Act}{w : World}
theorem Ao {c : Code}(h : c.wpIn Fence.wide n P Q a w): wpB f P c Q a w := λb e cs d _ => h b e cs d trivial (room_wide _)
theorem qNe{x y : Code}(h : wpB f P x (Exit.then (wpB f P y Q) Q) a w): wpB f P (.seq x y) Q a w := by
  intro b j cs m k
  have c : (lone (b.atR a (.code (.seq x y):: j)) cs w).fenced P Fence.wide := fenced_wide _ _
  obtain⟨o, g, i, e, d⟩:= h b (.code y :: j) cs m k
  cases o with
  |normal =>
    obtain⟨p, n, s, r, q⟩:= e b j cs m k
    exact⟨p, n, s, r, .of_steps (.head c stepR_seq d) q⟩
  |exit id => exact⟨_, g, i, e, .of_steps (.one c stepR_seq) (.pass (x := .code y) rfl (λ_ _ => .inl σ) d)⟩
  |goto l => exact⟨_, g, i, e, .of_steps (.one c stepR_seq) (.pass (x := .code y) rfl (λ_ _ => .inl σ) d)⟩
  |ret => exact⟨_, g, i, e, .of_steps (.one c stepR_seq) (.pass (x := .code y) rfl (λ_ _ => .inl σ) d)⟩
  |panic ch => exact⟨_, g, i, e, .of_steps (.one c stepR_seq) (.pass (x := .code y) rfl (λ_ _ => .inl σ) d)⟩
  |outgrown => exact⟨_, g, i, e, .of_steps (.one c stepR_seq) (.pass (x := .code y) rfl (λ_ _ => .inl σ) d)⟩
theorem nX{x y : Code}(h : ∀K : Act -> World -> Prop, (∀a w, wpB f P y Q a w -> K a w) -> wpB f P x (Exit.then K Q) a w): wpB f P (.seq x y) Q a w := qNe (h _ λ_ _ h => h)
theorem qDk{id : Nat}{c : Code}(h : wpB f P c (Exit.inBlock id Q) a w): wpB f P (.block id c) Q a w := by
  intro b k cs r q
  have d : (lone (b.atR a (.code (.block id c):: k)) cs w).fenced P Fence.wide := fenced_wide _ _
  obtain⟨p, i, m, g, e⟩:= h b (.inBlock id :: k) cs r q
  cases p with
  |normal => exact⟨.normal, i, m, g, .head d stepR_block (StepsIn.trans e (.one (fenced_wide _ _) stepR_inBlock))⟩
  |exit id' =>
    by_cases hid : id' = id
    . simp only[Exit.inBlock, hid, LU]at g
      exact⟨.normal, i, m, g, .head d stepR_block (e.1 k (by simp[exitTo, hid]))⟩
    . simp only[Exit.inBlock, hid, KA]at g
      have this : (id == id') = false := ζ
      have hx : exitTo id' (.inBlock id :: k) = exitTo id' k := by simp[exitTo, this]
      exact⟨.exit id', i, m, g, λo j => .head d stepR_block (e.1 o ζ),
        λn j => let ⟨k₁, h1, h2⟩:= e.2 n ζ; ⟨k₁, h1, .head d stepR_block h2⟩⟩
  |goto l =>
    have hx : gotoIn l (.inBlock id :: k) = gotoIn l k := by rfl
    exact⟨_, i, m, g, λo j => .head d stepR_block (e.1 o ζ),
      λn j => let ⟨k₁, h1, h2⟩:= e.2 n ζ; ⟨k₁, h1, .head d stepR_block h2⟩⟩
  |ret => exact⟨_, i, m, g, .of_steps (.one d stepR_block) e⟩
  |panic ch => exact⟨_, i, m, g, .of_steps (.one d stepR_block) e⟩
  |outgrown => exact⟨_, i, m, g, .of_steps (.one d stepR_block) e⟩
theorem Px {c : Code}{R : Ending -> World -> Prop}(hf : P.funcs[f]? = some fn)(hb : fn.body = some c)(h : wpB f P c (bodyPostM Fence.wide 0 P fn R) {tmps := args ++ Array.replicate (fn.ntmps - args.size) undef, defers := []} w): Calls P f args w R := by
  refine(callsIn_wide (n := 0)).1 ⟨trivial, λcs hr => ?_⟩
  let b : Frame := {(default : Frame) with fn := f, kind := .normal, roundOf := none}
  have henter : Frame.enter P f args .normal = b.atR {tmps := args ++ Array.replicate (fn.ntmps - args.size) undef, defers := []} [.code c]:= by
    simp[Frame.enter, Frame.atR, hf, hb, b]
  obtain⟨e, a', w', hq, harr⟩:= h b [] cs rfl rfl
  rw[<-henter]at harr
  cases e with
  |normal =>
    obtain⟨e', w'', fr', hR, hs, hfn, hl⟩:= leaves_stepsInM a'.defers .returning w' {b.atR a' [] with mode := .returning} cs rfl rfl rfl hf rfl trivial hr hq
    exact⟨e', w'', fr', hR, ComesIn.of_steps (StepsIn.trans harr (.one (fenced_wide _ _) (stepR_end rfl))) hs, hfn, hl⟩
  |ret =>
    obtain⟨todo, hs₀⟩:= harr.1 rfl
    obtain⟨e', w'', fr', hR, hs, hfn, hl⟩:= leaves_stepsInM a'.defers .returning w' {b.atR a' todo with mode := .returning} cs rfl rfl rfl hf rfl trivial hr hq
    exact⟨e', w'', fr', hR, ComesIn.of_steps hs₀ hs, hfn, hl⟩
  |panic chain =>
    obtain⟨todo, hs₀⟩:= harr
    obtain⟨e', w'', fr', hR, hs, hfn, hl⟩:= leaves_stepsInM a'.defers (.panicking chain) w' {b.atR a' todo with mode := .panicking chain} cs rfl rfl rfl hf rfl trivial hr hq
    exact⟨e', w'', fr', hR, ComesIn.of_steps hs₀ hs, hfn, hl⟩
  |exit id => exact hq.elim
  |goto l => exact hq.elim
  |outgrown => exact⟨.outgrown, w', b, hq, harr.resolve_left (by simp[b]), rfl, trivial⟩
theorem Jv {k m : Code}(h : ∃(l : Nat) (i : List Deferred) (q : World) (d : Deferred) (r : World) (o : FuncId) (args : Array Value) (s : World),
      (Instr.enterLoop f a.tmps ps k m none).run P w = .ok (l, i) q /\ (resolve a.eval (rangeCall g l) 0).run P q = .ok d r /\ (invoke d.target d.args).run P r = .ok (.enter o args) s /\
      CallsIn Fence.wide 0 P o args s (λe n => match e with
        |.returned _ => ∃j, (Instr.endLoop l).run P n = .ok none j /\ Q .normal {a with defers := i ++ a.defers} j
        |.panicked chain => Q (.panic chain) {a with defers := i ++ a.defers} n
        |.outgrown => False)):
    wpB f P (.rangeFunc g ps k m) Q a w := by
  intro b c cs G A
  obtain⟨l, i, q, d, r, o, args, s, u, F, D, J, B⟩:= h
  rw[<-G, <-A]at u
  have t : (lone (b.atR a (.code (.rangeFunc g ps k m):: c)) cs w).fenced P Fence.wide := fenced_wide _ _
  have x := stepR_rangeFunc (P := P) (b := b) (a := a) (k := c) (cs := cs) (w := w) u F D
  obtain⟨e, n, I, p, z, K, y⟩:= B (b.atR {a with defers := i ++ a.defers} (.inRangeFunc l :: c):: cs) (room_wide _)
  cases e with
  |outgrown => grind
  |returned v =>
    obtain⟨j, C, E⟩:= p
    have H : StepsIn (Machine.fenced P Fence.wide) P (lone (b.atR a (.code (.rangeFunc g ps k m):: c)) cs w) (lone (b.atR {a with defers := i ++ a.defers} c) cs j):= by
      refine .head t x (StepsIn.trans z (.head (fenced_wide _ _) ?_ (.one (fenced_wide _ _) (stepR_endRangeFunc C))))
      rw[<-finish_atR_inRangeFunc l v]; exact step_leave_returned y
    exact⟨.normal, _, j, E, H⟩
  |panicked chain =>
    refine⟨.panic chain, _, n, p, .inRangeFunc l :: c, .head t x (StepsIn.trans z (.one (fenced_wide _ _) ?_))⟩
    rw[<-Frame.raise_atR]; exact step_leave_panicked y
end
def qRe{α : Type}(J : List α -> Bl -> World -> Prop)(Jp : Bl -> World -> Prop)(ch : List PanicEntry)(s : List α)(Y : Bl)(W : World)(e : Ending)(W' : World): Prop :=
  (e = .returned (.bool true) /\ ∃Y', J s Y' W' /\ Fr Y W W' /\ aI W Y Y') \/
  (e = .panicked ch /\ ∃Y', Jp Y' W' /\ Fr Y W W' /\ aI W Y Y')
def Wz{α : Type}(P : Program)(g : Nat)(lb : Array Value)(Has : α -> Array Value -> Bl -> World -> Prop)(xs : List α)(Rd : Bl)(ch : List PanicEntry)(own : Prop)(w : World): Prop :=
  ∀(l : Nat) (J : List α -> Bl -> World -> Prop) (Jp : Bl -> World -> Prop) (Y : Bl) (W : World), On Rd w W -> (∀k, Rd k -> ¬Y k /\ k < W.1.size) -> gM J -> tG J -> (∀Y W W', Jp Y W -> On Y W W' -> Jp Y W') -> (∀Y W, Jp Y W -> ∀k, Y k -> k < W.1.size) -> (own -> ∀Y W, J xs Y W -> Jp Y W) ->
    (∀pre x rest args S Y' W', xs = pre ++ x :: rest -> J pre Y' W' -> Has x args S W' -> (∀k, S k -> ¬Y' k /\ k < W'.1.size) -> Fr Y W W' -> aI W Y Y' ->
      YieldAt Fence.wide 0 P l args W' (qRe J Jp ch (pre ++ [x]) Y' W')) ->
    J [] Y W -> CallsIn Fence.wide 0 P g (#[.func (.yield l) #[] #[]] ++ lb) W λe W' =>
      (¬own /\ (∃v, e = .returned v) /\ ∃Y', Fr Y W W' /\ aI W Y Y' /\ J xs Y' W') \/ (e = .panicked ch /\ ∃Y', Fr Y W W' /\ aI W Y Y' /\ Jp Y' W')
def qSd{α : Type}(I : List α -> Bl -> World -> Prop)(Ip : Bl -> World -> Prop)(ch : List PanicEntry)(s : List α)(Y : Bl)(W : World): Exit -> Act -> World -> Prop
  |.normal, _, W' => ∃Y', I s Y' W' /\ Fr Y W W' /\ aI W Y Y'
  |.panic c, a, W' => c = ch /\ a.defers = [] /\ ∃Y', Ip Y' W' /\ Fr Y W W' /\ aI W Y Y'
  |_, _, _ => False
def Qh{α : Type}(P : Program)(I : List α -> Bl -> World -> Prop)(Ip : Bl -> World -> Prop)(ch : List PanicEntry)(l : Nat)(tmps : Array Value)(assign body : Code)(s : List α)(Y : Bl)(W : World): Prop :=
  assign.wpIn (Fence.wide.inRound l) 0 P (Exit.then (λa₁ W₁ => Fr Y W W₁ /\ ∀W₂, pO l W₁ W₂ -> body.wpIn (Fence.wide.inRound l) 0 P (qSd I Ip ch s Y W₂) a₁ W₂) (λ_ _ _ => False)) {tmps := tmps, defers := []} W
def Xx(P : Program)(l : Nat)(R : Ending -> World -> Prop): Exit -> Act -> World -> Prop
  |.normal, _, w => ∃v w', (Instr.endRound l none).run P w = .ok v w' /\ R (.returned v) w'
  |.panic chain, a, w => a.defers = [] /\ R (.panicked chain) w
  |_, _, _ => False
theorem qEh {tmps : Array Value}{R : Ending -> World -> Prop}(hf : P.funcs[f]? = some fn)(h : assign.wpIn (Fence.wide.inRound l) n P (Exit.then (λa₁ w₁ => ∃w₂, (Instr.beginRound l).run P w₁ = .ok () w₂ /\ body.wpIn (Fence.wide.inRound l) n P (Xx P l R) a₁ w₂) (λ_ _ _ => False)) {tmps := tmps, defers := []} w):
    RoundIn Fence.wide n P l f tmps assign body w R := by
  refine⟨trivial, λc cs hr => ?_⟩
  let b : Frame := {(default : Frame) with fn := f, kind := .normal, roundOf := some l}
  have hb0 : Frame.round l f tmps assign body .normal = b.atR {tmps := tmps, defers := []} [.code assign, .beginRound, .code body]:= by
    rfl
  obtain⟨e, a₁, w₁, hq, harr⟩:= h b [.beginRound, .code body] (c :: cs) rfl trivial (room_wide _)
  rw[<-hb0]at harr
  cases e with
  |normal =>
    obtain⟨w₂, hbr, hbody⟩:= hq
    have s1 : StepsIn (Machine.fenced P Fence.wide) P (lone (b.atR a₁ [.beginRound, .code body]) (c :: cs) w₁) (lone (b.atR a₁ [.code body]) (c :: cs) w₂):= .one (fenced_wide _ _) (stepR_beginRound rfl hbr)
    obtain⟨e₂, a₂, w₃, hq₂, harr₂⟩:= hbody b [] (c :: cs) rfl trivial (room_wide _)
    cases e₂ with
    |normal =>
      obtain⟨v, w₄, hend, hR⟩:= hq₂
      exact⟨.returned v, w₄, hR, (StepsIn.trans harr s1).trans (StepsIn.trans harr₂ (.one (fenced_wide _ _) (stepR_round_end rfl rfl hend)))⟩
    |panic chain =>
      obtain⟨hd, hR⟩:= hq₂
      obtain⟨todo, hs⟩:= harr₂
      refine⟨.panicked chain, w₃, hR, (StepsIn.trans harr s1).trans (StepsIn.trans hs (.one (fenced_wide _ _) ?_))⟩
      exact step_leave_panicked ⟨rfl, hd, fn, hf⟩
    |ret => exact hq₂.elim
    |exit id => exact hq₂.elim
    |goto t => exact hq₂.elim
    |outgrown => exact hq₂.elim
  |exit id => exact hq.elim
  |goto t => exact hq.elim
  |ret => exact hq.elim
  |panic chain => exact hq.elim
  |outgrown => exact hq.elim
theorem Xy {R : Type}{u : List R -> Bl -> World -> Prop}{A : Bl -> World -> Prop}{D : List PanicEntry}(T : gM u){S : Func}(X : P.funcs[f]? = some S){Q : Array Value}{B C : Code}{s : List R}{b : LoopState -> Option Code -> Loop}(Z : ∀r z st' O, ({b r z with state := st', pending := O}: Loop) = b st' O)(a0 : ∀r z, (b r z).state = r)(G : W.1[l]? = some (.loop (b .ready none)))(x : ¬Y l)(hr : Qh P u A D l Q B C s Y W):
    RoundIn Fence.wide 0 P l f Q B C W (λe n =>
      (e = .returned (.bool true) /\ ∃a, u s a n /\ Fr (Bl.or Y (Bl.one l)) W n /\ aI W Y a /\ n.1[l]? = some (.loop (b .ready none)) /\ ¬a l) \/
      (e = .panicked D /\ ∃a, A a n /\ Fr (Bl.or Y (Bl.one l)) W n /\ aI W Y a /\ ¬a l)):= by
  refine qEh X (wpIn_mono hr ?_)
  have a4  := (jJ.1 G).1
  intro e a2 o j
  cases e with
  |normal =>
    obtain⟨E, U⟩:= j
    have H := E.heap G x
    have K  := (jJ.1 H).1
    refine⟨_, run_beginRound H (a0 _ _), ?_⟩
    obtain⟨i, w⟩: ∃i, o.putObj l (.loop {b .ready none with state := .busy}) = i := ⟨_, rfl⟩
    have ht  := w ▸ pO.of_put K _
    have I := w ▸ World.putObj_heap_same K
    have a5  := (jJ.1 I).1
    have v : Fr (Bl.or Y (Bl.one l)) W i := (E.m (λm d => .inl (.inl d))).t (ht.fr.m (λm d => .inl (.inr d)))
    have y : ∀a, aI i Y a -> ¬a l := λa g a1 => by
      rcases g l a1 with h | h
      . exact x h
      . omega
    have F : ∀a, aI i Y a -> aI W Y a := λa g m d => by
      rcases g m d with h | h
      . grind
      . exact .inr (vJ v.size h)
    rw[w]
    refine wpIn_mono (U i ht) ?_
    intro e a3 p k
    cases e with
    |normal =>
      obtain⟨a, hi, q, g⟩:= k
      have J := q.heap I x
      have L  := (jJ.1 J).1
      have M := run_endRound (P := P) none J
      have e : ({({b .ready none with state := .busy}: Loop) with state := if (none : Option Code).isNone then .ready else .done, pending := none}: Loop) = b .ready none := Z .ready none .ready none
      rw[e]at M
      have N : pO l p (p.putObj l (.loop (b .ready none))):= pO.of_put L _
      exact⟨_, _, M, .inl ⟨rfl, a, T _ _ _ _ hi (N.on (y _ g)), (v.t (q.m (λm d => .inl (.inl d)))).t (N.fr.m (λm d => .inl (.inr d))), F _ g, World.putObj_heap_same L, y _ g⟩⟩
    |panic c =>
      obtain⟨rfl, V, a, hi, q, g⟩:= k
      exact⟨V, .inr ⟨rfl, a, hi, v.t (q.m (λm d => .inl (.inl d))), F _ g, y _ g⟩⟩
    |ret => exact k.elim
    |exit id => exact k.elim
    |goto t => exact k.elim
    |outgrown => exact k.elim
  |exit id => exact j.elim
  |goto t => exact j.elim
  |ret => exact j.elim
  |panic chain => exact j.elim
  |outgrown => exact j.elim
theorem qDi {α : Type}{Q : Exit -> Act -> World -> Prop}{a : Act}(hf : P.funcs[f]? = some fn)(hg : a.eval g = .func (.func gf) #[] lb)(eg : ∀args w, (callFunc gf args).run P w = .ok (.enter gf args) w){Has : α -> Array Value -> Bl -> World -> Prop}{xs : List α}{own : Prop}(hseq : Wz P gf lb Has xs Rd ch own w)(hps : ∀x args S W, Has x args S W -> args.size = ps.size)(I : List α -> Bl -> World -> Prop)(Ip : Bl -> World -> Prop)(hI : gM I)(hIp : ∀Y W W', Ip Y W -> On Y W W' -> Ip Y W')(lI : tG I)(lIp : ∀Y W, Ip Y W -> ∀k, Y k -> k < W.1.size)(hown : own -> ∀Y W, I xs Y W -> Ip Y W)(Y : Bl)(h0 : I [] Y w)(hRd : ∀k, Rd k -> ¬Y k /\ k < w.1.size)(hround : ∀l pre x rest args S Y' W, xs = pre ++ x :: rest -> I pre Y' W -> Has x args S W -> (∀k, S k -> ¬Y' k /\ k < W.1.size /\ k ≠ l) -> Fr Y w W -> aI w Y Y' -> w.1.size <= l -> l < W.1.size -> ¬Y' l -> (∃r, W.1[l]? = some (.loop r)) ->
      Qh P I Ip ch l ((ps.zip args).foldl (λt (p, v) => t.setIfInBounds p v) a.tmps) assign body (pre ++ [x]) Y' W)(hdone : ¬own -> ∀D Y' W, w.1.size <= D -> ¬Y' D -> I xs Y' W -> Fr Y w W -> aI w Y Y' -> W.1[D]? = some (.deferred (some [])) -> Q .normal {a with defers := {target := .collected D, args := #[]}:: a.defers} W)(hpan : ∀D Y' W, w.1.size <= D -> ¬Y' D -> Ip Y' W -> Fr Y w W -> aI w Y Y' -> W.1[D]? = some (.deferred (some [])) -> Q (.panic ch) {a with defers := {target := .collected D, args := #[]}:: a.defers} W):
    wpB f P (Code.rangeFunc g ps assign body) Q a w := by
  refine Jv ?_
  obtain⟨rec, hrec⟩: ∃rec : LoopState -> Option Code -> Loop, rec = λst pe => {state := st, pending := pe, fn := f, tmps := a.tmps, params := ps, assign, body, defers := w.1.size}:= ⟨_, rfl⟩
  obtain⟨W1, hW1⟩: ∃W1, (w.alloc (.deferred (some []))).alloc (.loop (rec .ready none)) = W1 := ⟨_, rfl⟩
  have hL1 : W1.1[w.1.size + 1]? = some (.loop (rec .ready none)):= by
    rw[<-hW1]; have := World.alloc_heap_new (w.alloc (.deferred (some []))) (.loop (rec .ready none)); rwa[LG]at this
  have hK1 : W1.1[w.1.size]? = some (.deferred (some [])):= by
    rw[<-hW1]; exact(CY _ _ _ σ).t (World.alloc_heap_new w _)
  have fW1  := λZ => hW1 ▸ ((Fr.refl Z w).alloc _).alloc _
  have sW1 : W1.1.size = w.1.size + 2 := by rw[<-hW1]; simp
  have lY := lI [] Y w h0
  have o1  := (fW1 Bl.none).on (λk hk => ⟨lY k hk, λh => h⟩)
  have hps' : ∀x args S W, Has x args S W -> args.size = (rec .ready none).params.size := by grind
  refine⟨w + 1, [{target := .collected w.1.size, args := #[]}], W1, {target := .fn (.func gf) lb, args := #[.func (.yield (w + 1)) #[] #[]]}, W1, gf,
    #[.func (.yield (w + 1)) #[] #[]] ++ lb, W1, ?_, ?_, ?_, ?_⟩
  . rw[<-hW1, hrec]; exact run_enterLoop_outer _ _ _ _ _
  . simp only[resolve, hg]
    simp[go_sem]
  . simp[invoke, go_sem, eg]
  . let L := w.1.size + 1
    let D := w.1.size
    let Z₀ : Bl := Bl.or Y (Bl.or (Bl.one L) (Bl.one D))
    let J : List α -> Bl -> World -> Prop := λpre Z W => ∃Y', I pre Y' W /\ (∀k, Z k ↔ Y' k \/ k = L \/ k = D) /\ ¬Y' L /\ ¬Y' D /\ W.1[L]? = some (.loop (rec .ready none)) /\ W.1[D]? = some (.deferred (some []))
    let Jp : Bl -> World -> Prop := λZ W => ∃Y', Ip Y' W /\ (∀k, Y' k -> Z k) /\ Z D /\ (∀k, Z k -> k < W.1.size) /\ ¬Y' D /\ W.1[D]? = some (.deferred (some []))
    have hnY : ¬Y L /\ ¬Y D := ⟨λh => by grind, λh => by grind⟩
    have toFr : ∀W, Fr Z₀ W1 W -> Fr Y w W := λW hf => (fW1 Y).grow hf (λk hk => by
      rcases hk with h | h | h
      . grind
      . exact .inr (by simp only[Bl.one]at h; omega)
      . exact .inr (by simp only[Bl.one]at h; omega))
    have toGr : ∀Z Y', (∀k, Y' k -> Z k) -> aI W1 Z₀ Z -> aI w Y Y' := λZ Y' hZ hg k hk => by
      rcases hg k (hZ k hk) with (h | h | h) | h
      . grind
      . exact .inr (by simp only[Bl.one]at h; omega)
      . exact .inr (by simp only[Bl.one]at h; omega)
      omega
    have hrec' : ∀st pe st' pe', ({rec st pe with state := st', pending := pe'}: Loop) = rec st' pe' := by grind
    refine CallsIn.m (hseq L J Jp Z₀ W1 ((fW1 Bl.none).on (λk hk => ⟨(hRd k hk).2, λh => h⟩)) (λk hk => ⟨?_, ?_⟩) ?_ ?_ ?_ ?_ ?_ ?_ ?_) ?_
    . rintro (h | h | h)
      . grind
      . have := (hRd k hk).2; simp only[Bl.one]at h; omega
      . have := (hRd k hk).2; simp only[Bl.one]at h; omega
    . grind
    . rintro s Z W W' ⟨Y', hi, hZ, h1, h2, h3, h4⟩ ho
      exact⟨Y', hI _ _ _ _ hi (ho.m (λk hk => (hZ k).2 (.inl hk))), hZ, h1, h2, ho.heap h3 ((hZ _).2 (.inr (.inl rfl))), ho.heap h4 ((hZ _).2 (.inr (.inr rfl)))⟩
    . rintro s Z W ⟨Y', hi, hZ, h1, h2, h3, h4⟩ k hk
      rcases(hZ k).1 hk with h | rfl | rfl
      . exact lI _ _ _ hi k h
      . grind
      grind
    . rintro Z W W' ⟨Y', hi, hZ, hD, hl, h2, h4⟩ ho
      exact⟨Y', hIp _ _ _ hi (ho.m hZ), hZ, hD, λk hk => jY (hl k hk) ho.size, h2, ho.heap h4 hD⟩
    . grind
    . grind
    . -- one round
      rintro pre x rest args S Z W hx ⟨Y', hi, hZ, h1, h2, h3, h4⟩ hH hS hF hG
      have hlt  := (jJ.1 h3).1
      have hy := run_yield (P := P) (args := args) h3 (hps' _ _ _ _ hH)
      rw[hrec]at hy
      refine⟨f, _, assign, body, hy, (Xy hI hf hrec' (λ_ _ => by rw[hrec]) h3 h1 (hround L pre x rest args S Y' W hx hi hH (λk hk => ⟨λh => (hS k hk).1 ((hZ k).2 (.inl h)), (hS k hk).2, λe => (hS k hk).1 ((hZ k).2 (.inr (.inl e)))⟩) (toFr _ hF) (toGr _ _ (λk hk => (hZ k).2 (.inl hk)) hG) ω hlt h1 ⟨_, h3⟩)).m ?_⟩
      have zin : ∀k, Bl.or Y' (Bl.one L) k -> Z k := λk hk => by
        rcases hk with h | h
        . grind
        . exact(hZ k).2 (.inr (.inl h))
      have dW : ∀W', Fr (Bl.or Y' (Bl.one L)) W W' -> W'.1[D]? = some (.deferred (some [])):= λW' hf => hf.heap h4 (λh => by
        rcases h with h | h
        . exact h2 h
        . simp only[Bl.one]at h; omega)
      have nD : ∀Y'', aI W Y' Y'' -> ¬Y'' D := λY'' hg h => by
        rcases hg D h with h' | h'
        . exact h2 h'
        . omega
      rintro e W' (⟨rfl, Y'', hi', hf', hg, hl, hyl⟩ | ⟨rfl, Y'', hi', hf', hg, hyl⟩)
      . refine .inl ⟨rfl, (λk => Y'' k \/ k = L \/ k = D), ⟨Y'', hi', λk => GF, hyl, nD _ hg, hl, dW _ hf'⟩, hf'.m (λk hk => .inl (zin k hk)), λk hk => ?_⟩
        rcases hk with h | h | h
        . rcases hg k h with h' | h'
          . grind
          omega
        . grind
        grind
      . refine .inr ⟨rfl, (λk => Y'' k \/ k = D), ⟨Y'', hi', λk hk => .inl hk, .inr rfl, λk hk => hk.elim (lIp _ _ hi' k) (λe => by grind), nD _ hg, dW _ hf'⟩, hf'.m (λk hk => .inl (zin k hk)), λk hk => ?_⟩
        rcases hk with h | h
        . rcases hg k h with h' | h'
          . grind
          omega
        grind
    . exact⟨Y, hI _ _ _ _ h0 o1, λk => GF, hnY.1, hnY.2, hL1, hK1⟩
    . -- behind the iterator
      rintro e W (⟨hno, ⟨v, rfl⟩, Z, hF, hG, Y', hi, hZ, h1, h2, h3, h4⟩ | ⟨rfl, Z, hF, hG, Y', hi, hZ, hDz, hlz, h2, h4⟩)
      . have hend := run_endLoop (P := P) h3 (by grind)
        refine⟨W.putObj L (.loop (rec .exhausted none)), by grind, ?_⟩
        have ht := pO.of_put (jJ.1 h3).1 (rec .exhausted none)
        exact hdone hno D Y' _ (jU _) h2 (hI _ _ _ _ hi (ht.on h1)) ((toFr _ hF).putObj (.inr ω) _) (toGr _ _ (λk hk => (hZ k).2 (.inl hk)) hG) (ht.heap h4 ω)
      . exact hpan D Y' _ (jU _) h2 hi (toFr _ hF) (toGr _ _ hZ hG) h4
theorem qDj {α : Type}{Q : Exit -> Act -> World -> Prop}{a : Act}(hg : a.eval g = .func (.func gf) #[] lb)(eg : ∀args w, (callFunc gf args).run P w = .ok (.enter gf args) w){Has : α -> Array Value -> Bl -> World -> Prop}{xs : List α}(hseq : Wz P gf lb Has xs Rd ch True w)(hps : ∀x args S W, Has x args S W -> args.size = ps.size)(I : List α -> Bl -> World -> Prop)(hI : gM I)(lI : tG I)(Y : Bl)(h0 : I [] Y w)(hRd : ∀k, Rd k -> ¬Y k /\ k < w)(hround : ∀l pre x rest args S Y' W, xs = pre ++ x :: rest -> I pre Y' W -> Has x args S W -> (∀k, S k -> ¬Y' k /\ k < W /\ k ≠ l) -> Fr Y w W -> aI w Y Y' -> w <= l -> l < W -> ¬Y' l -> (∃r, W.1[l]? = some (.loop r)) ->
      iM P I (λ_ _ _ _ => False) l ((ps.zip args).foldl (λt (p, v) => t.setIfInBounds p v) a.tmps) assign body (pre ++ [x]) Y' W)(hpan : ∀D Y' W, w.1.size <= D -> ¬Y' D -> I xs Y' W -> Fr Y w W -> aI w Y Y' -> W.1[D]? = some (.deferred (some [])) -> Q (.panic ch) {a with defers := {target := .collected D, args := #[]}:: a.defers} W):
    (Code.rangeFunc g ps assign body).wpIn Fence.wide n P Q a w:=Ko (own:=True) (ch:=ch) hg eg (λl J Jx Y W a b c d _ _ nx g h=>(hseq l J (J xs) Y W a b c d (λY W W'=>c xs Y W W') (λY W=>d xs Y W) (λ_ _ _ h=>h) (λp x r s S Y' W' e f i j k m=>(g p x r s S Y' W' e f i j k m).mono (λ_ _ h=>h.elim .inl (λ⟨_,Y,h,_⟩=>(nx trivial _ _ _ h).elim))) h).m (λ_ _ h=>h.elim (λh=>(h.1 trivial).elim) (λ⟨a,Y,b,c,d⟩=>.inr ⟨trivial,a,Y,b,c,d⟩))) hps I (λ_ _ _ _=>False) hI (λ_ _ _ _ _ h=>h.elim) lI (λ_ _ _ _ h=>h.elim) (λ_ _ _ _ _ h=>h) Y h0 hRd hround (λh=>(h trivial).elim) (λ_ _ _ _ _ _ _ _ _ h=>h.elim) (λ_=>hpan)
