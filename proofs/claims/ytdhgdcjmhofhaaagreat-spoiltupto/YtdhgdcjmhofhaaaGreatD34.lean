import Derived.Test.YtdhgdcjmhofhaaaGreatD33
import Derived.Test.YtdhgdcjmhofhaaaGreatD31
set_option linter.all false
set_option maxRecDepth 100000
set_option maxHeartbeats 8000000
namespace Go.Proofs.YtdhgdcjmhofhaaaGreat.Tree
open Go.RowKit Pages Tryz
theorem qQ{w:World}{β a b c d e f t}(h:cW w β #[a,b,c,d,e,f] t):w.c β 0=some a/\w.c β 1=some b/\w.c β 2=some c/\w.c β 3=some d/\w.c β 4=some e/\w.c β 5=some f:=by
 simp[World.cell?,h]
theorem Iw(t β c w)(h:eX w β t)(C:cJ t.cs)(B:t.cs.length<=1000000):
  cL 40 #[.p t.b 0,.agg #[.t c.key,.t c.val,.bool c.gone]] w λe w'=>e=.r (.tuple #[])/\∃f i,eX w' β {t with cs:=dJ t.cs c,ca:=f,cc:=i}/\Fr (fpT t) w w'/\∀k,fpT {t with cs:=dJ t.cs c,ca:=f,cc:=i} k->fpT t k\/w<=k:=by
 have⟨b,aa,ac,ab,cs,d,g,a2,a9⟩:=t;dsimp only at C B⊢;have⟨m,l,u⟩:=h;dsimp only[Tx.cv,txO]at m l u;obtain⟨j,z,q,x,-⟩:=al1 w (.cells #[.t c.key,.t c.val,.bool c.gone] 101);have M:=(gL m);have A:=(q.block b M).t m;have R:=aS l (vV q (Y:=λk=>(Value.s d cs g).ownBlock=some k) (λk a=>aL l a)) (λk a=>a);have L:=qHu (.s d cs g) cs c j.drew R C B;have⟨F,G,H⟩:=eM x;have⟨T,U,V,W,a0,a1⟩:=qQ A;have Q:=aQ l m δ;have E:=x;have D:Hid _:=A;have a8:=(gL x);have K:(Value.s d cs g).ownBlock≠some w:=λe=>by have:=aL l e;omega
 go_enter func40,ntmps40;go_wp2;go_region_law (first
  |(go_simp;apply Calls.m L;rintro e X ⟨v',rfl,s,J,N⟩;obtain⟨f,i,rfl⟩:=aG s;have r:=(AE _ j).drew.t J;have n:=r.heap D Q;have⟨F,G,H⟩:=eM (r.heap E K);have⟨T,U,V,W,a0,a1⟩:=qQ n;have a4:=aF n))
 all_goals
  have P:=aQ s n δ;have I:=aC n 4 (.s f (dJ cs c) i);have O:∀k,(Value.s f (dJ cs c) i).ownBlock=some k->(Value.s d cs g).ownBlock=some k\/w<=k:=λk a=>(N k a).imp id (λh=>by have a7:j<=k:=h;omega);have y:Fr (λk=>k=b\/(Value.s d cs g).ownBlock=some k) w (X.setCell (aD b 4) (.s f (dJ cs c) i)):=((AB q).t (r.m (λk a=>.inl (.inr a)))).s b 4 (.inl (.inl rfl));have S:=u.on (y.on (Z:=λk=>a2=.map (some k)) (λk a=>by
   have⟨a6,a5,o⟩:=u.block a;exact⟨(gL o),λe=>by
    rcases e with e|e
    .grind
    .exact uI l o e⟩)) (λk a=>a)
  refine bodyPost_end (v:=.tuple #[]) ?_ rfl ⟨rfl,f,i,⟨ζ,aS s ((CM (λk=>(Value.s f (dJ cs c) i).ownBlock=some k) X).setCell (p:=(aD b 4)) (λa=>P a) _) (λk a=>a),S⟩,y.m (λk a=>.inl (by rcases a with a|a;exact .inl a;exact .inr (.inl a))),?_⟩
  .simp[results,results40]
  .rintro k (a|a|a)
   .exact .inl (.inl a)
   .exact(O k a).imp (λh=>.inr (.inl h)) id
   .exact .inl (.inr (.inr a))
theorem eX.remap{w w' β t r ks}(h:eX w β t)(e:t.tk=.map (some r))(d:Tk w' (.map (some r)) ks)(c:Fr (Bl.one r) w w'):eX w' β {t with ks:=ks}:=by
 have⟨i,g,b⟩:=h.tk.block e;refine⟨c.heap h.box (λa=>by cases a;rw[h.box]at b;cases b),eN h.row c (λj f a=>by cases a;exact uI h.row b f),ζ⟩
def sT(cs:List Ch)(j:Nat):List ByteArray:=(cs.take j).map (·.key)
theorem Dc{cs:List Ch}{j:Nat}(b:j<cs)(a):a∈sT cs (j+1)↔a∈sT cs j\/a=(cs[j]).key:=by
 unfold sT;rw[AJ b,BL,AN];simp
theorem qOd(β t)(cs:List Ch)(xa xc S w)(h:eX w β t)(hw:t.wr=true)(hR:aH w S xa (cs.flatMap Ch.cells))(hS:∀k,S k->k<w/\k≠t.b/\t.tk≠.map (some k))(hn:cs.length<=1000000):
  cL 95 #[.p t.b 0,.s xa cs xc] w λe w'=>e=.r (.tuple #[])/\∃r ks,eX w' β {t with tk:=.map (some r),ks:=ks}/\Fr (λk=>k=t.b\/t.tk=.map (some k)) w w'/\(t.tk=.map (some r)\/w.1.size<=r)/\∀y,y∈ks↔y∈t.ks\/y∈cs.map (·.key):=by
 have⟨q0,q1,q2,q3,q4,q5⟩:=qQ h.box;have a3:=aF h.box;rw[hw]at q1;have qm:=λW r=>run_eql_map_nil W _ _ _ r underlying92;have aa:=(gL h.box);have⟨tv,Q⟩:=nM (t.tk);have I:Hid (t.tk=tv):=Q;have v:=h.tk;rw[Q]at v q5;have H:Hid (eX w β t):=h;have B:Hid (∀k,S k->k<w.1.size/\k≠t.b/\t.tk≠.map (some k)):=hS;clear h hw Q hS;rcases v with⟨rfl,a4⟩|⟨r,es,cl,rfl,hb,hm⟩
 .have a9:Hid (t.ks=[]):=a4
  clear a4;have a2:Hid (∀W0,(w.setCell (aD t.b 5) (.map (some w))).alloc (.map #[] 0)=W0->eX W0 β {t with tk:=.map (some w),ks:=t.ks}/\Fr (λk=>k=t.b\/t.tk=.map (some k)) w W0/\(∀k,S k->k<W0/\k≠w)/\aH W0 S xa (cs.flatMap Ch.cells)/\(t.tk=.map (some w)\/w.1.size<=w)/\w.1.size<=W0):=by
   intro W0 q;have F0:Fr (λk=>k=t.b\/t.tk=.map (some k)) w W0:=q▸((AE _ w).s t.b 5 (.inl (.inl rfl))).alloc _;have b2:=aP (.map #[] 0) (aC H.box 5 (.map (some w)));have m2:W0.1[w.1.size]?=some (.map #[] 0):=by
    have:=aB (w.setCell (aD t.b 5) (.map (some w))) (.map #[] 0);simp_all
   refine⟨⟨ζ,eN H.row (Y:=Bl.one t.b) (q▸((AE (Bl.one t.b) w).s t.b 5).alloc _) (λk m e=>by cases e;exact aQ H.row H.box δ m),.inr ⟨_,_,_,rfl,m2,by rw[a9.o];rfl⟩⟩,F0,λk m=>⟨jY (B k m).1 F0.size,by have:=(B k m).1;omega⟩,hR.on (F0.on (λk m=>⟨(B k m).1,λe=>e.elim (B k m).2.1 (B k m).2.2⟩)),.inr (jU _),F0.size⟩
  have a6:(Instr.makeMap 92 none).run prog w=.ok (.map (some w)) (w.alloc (.map #[] 0)):=κ
  go_enter func95,ntmps95;go_wp2;have⟨W0,q⟩:=nM ((w.setCell (aD t.b 5) (.map (some w))).alloc (.map #[] 0));rw[q];have⟨z,a0,F,K,a1,ab⟩:=a2 W0 q;have⟨r,hr⟩:∃r,r=w.1.size:=⟨_,rfl⟩;rw[<-hr]at z F a1⊢;have R:Hid (t.tk=.map (some r)\/w.1.size<=r):=.inr ω;have T:Hid (∀X,Fr (Bl.one r) W0 X->Fr (λk=>k=t.b\/t.tk=.map (some k)) w X):=λX hX=>a0.grow hX (λk m=>.inr (by simp only[Bl.one]at m;omega));clear a2 a6 q0 q1 q2 q3 q4 q5 a3 q a0 a1 hr;go_loopw [22] (λa wr=>∃(j:Nat) (ks:List ByteArray),a=.i j/\j<=cs/\eX wr β {t with tk:=.map (some r),ks:=ks}/\Fr (Bl.one r) W0 wr/\Hid (∀y,y∈ks↔y∈t.ks\/y∈sT cs j)) (λa _=>cs-(intOf a).toNat)
  case atStart=>exact⟨0,t.ks,rfl,AG _,z,AE _ _,λy=>by simp[sT]⟩
  case round =>
   obtain⟨j,ks,rfl,hj,G,N,HY⟩:=hrel;clear z;by_cases hlt:j<cs
   .have E:(j:Int)<(cs.length:Int):=ω
    have oS:=N.on (λk m=>⟨(F k m).1,λe=>by simp only[Bl.one]at e;grind⟩);have⟨rb,ro,V,a7,k0,k1,k2⟩:=(K.on oS).ch hlt;have⟨c,C⟩:=nM (cs[j]);rw[C]at k0 k1 k2;obtain⟨J,a8,B1,M,-⟩:=al1 wr (.cells #[.t c.key,.t c.val,.bool c.gone] 101);have n:=G.bl B1;have⟨u0,u1,u2,u3,u4,u5⟩:=qQ n.box;have d0:J.c wr.1.size 0=some (.t c.key):=by simp[World.cell?,M]
    have v:Tk J.drew (.map (some r)) ks:=n.tk;have⟨W2,l,a5,x,u,D⟩:=v.lay c.key;have F2:=(AB B1:Fr (Bl.one r) wr J).t ((AE (Bl.one r) J).drew.t u);have A:=eX.remap (t:={t with tk:=.map (some r),ks:=ks}) (ks:=l) (n.on (CM _ _).drew) rfl x u;have x2:W2.c wr.1.size 0=some (.t c.key)/\W2.c t.b 5=some (.map (some r)):=by
     have⟨v0,v1,v2,v3,v4,v5⟩:=qQ A.box;have hz:wr.1.size≠r:=λe=>by have⟨es,cl,hb⟩:=G.tk.block rfl;grind
     have:=u.heap (o:=.cells #[.t c.key,.t c.val,.bool c.gone] 101) (k:=wr) M (λe=>by exact hz e);exact⟨by simp[World.cell?,this],v5⟩
    have⟨y0,y5⟩:=x2;rw[V];have U:Hid (cs[j]=c):=C;have L:Hid (eX W2 β {t with tk:=.map (some r),ks:=l}):=A;have Z:Hid (Fr (Bl.one r) W0 W2):=N.t F2;have O:Hid (∀y,y∈l↔y∈ks\/y=c.key):=D;clear C G n A v x u F2 D u0 u1 u2 u3 u4 oS M;go_wp2;go_region_held3 (λX=>X.c t.b 5=some (.map (some r))/\X.c wr.1.size 0=some (.t c.key))
     ((first|exact⟨y5,y0⟩|simp_all))
     (fail)
    all_goals go_wp2
    all_goals
     refine⟨⟨j+1,l,σ,ω,L,Z,λy=>?_⟩,θ⟩;rw[O.o y,HY.o y,Dc hlt,U.o];grind
   .obtain rfl:j=cs:=ω
    have E:¬(cs.length:Int)<(cs.length:Int):=ω
    go_wp2;go_end0;exact⟨rfl,r,ks,G,T _ N,R,λy=>by rw[HY.o y];simp[sT]⟩
 .have z:eX w β {t with tk:=.map (some r),ks:=t.ks}:=⟨by have:=H.box;rw[txO,I.o]at this;exact this,H.row,.inr ⟨r,es,cl,rfl,hb,hm⟩⟩
  have F:∀k,S k->k<w/\k≠r:=λk m=>⟨(B k m).1,λe=>(B k m).2.2 (by rw[I.o,e])⟩;have K:=hR;have R:Hid (t.tk=.map (some r)\/w.1.size<=r):=.inl I;have ac:Hid (∀X,Fr (Bl.one r) w X->Fr (λk=>k=t.b\/t.tk=.map (some k)) w X):=λX hX=>hX.m (λk m=>.inl (.inr (by simp only[Bl.one]at m;rw[I.o,m])));clear hb hm;go_enter func95,ntmps95;go_wp2;have⟨W0,q⟩:∃W0,W0=w:=⟨_,rfl⟩;rw[<-q]at z F K⊢;have T:Hid (∀X,Fr (Bl.one r) W0 X->Fr (λk=>k=t.b\/t.tk=.map (some k)) w X):=by simp_all
  clear q0 q1 q2 q3 q4 q5 a3 q;go_loopw [22] (λa wr=>∃(j:Nat) (ks:List ByteArray),a=.i j/\j<=cs/\eX wr β {t with tk:=.map (some r),ks:=ks}/\Fr (Bl.one r) W0 wr/\Hid (∀y,y∈ks↔y∈t.ks\/y∈sT cs j)) (λa _=>cs-(intOf a).toNat)
  case atStart=>exact⟨0,t.ks,rfl,AG _,z,AE _ _,λy=>by simp[sT]⟩
  case round =>
   obtain⟨j,ks,rfl,hj,G,N,HY⟩:=hrel;clear z;by_cases hlt:j<cs
   .have E:(j:Int)<(cs.length:Int):=ω
    have oS:=N.on (λk m=>⟨(F k m).1,λe=>by simp only[Bl.one]at e;grind⟩);have⟨rb,ro,V,a7,k0,k1,k2⟩:=(K.on oS).ch hlt;have⟨c,C⟩:=nM (cs[j]);rw[C]at k0 k1 k2;obtain⟨J,a8,B1,M,-⟩:=al1 wr (.cells #[.t c.key,.t c.val,.bool c.gone] 101);have n:=G.bl B1;have⟨u0,u1,u2,u3,u4,u5⟩:=qQ n.box;have d0:J.c wr.1.size 0=some (.t c.key):=by simp[World.cell?,M]
    have v:Tk J.drew (.map (some r)) ks:=n.tk;have⟨W2,l,a5,x,u,D⟩:=v.lay c.key;have F2:=(AB B1:Fr (Bl.one r) wr J).t ((AE (Bl.one r) J).drew.t u);have A:=eX.remap (t:={t with tk:=.map (some r),ks:=ks}) (ks:=l) (n.on (CM _ _).drew) rfl x u;have x2:W2.c wr.1.size 0=some (.t c.key)/\W2.c t.b 5=some (.map (some r)):=by
     have⟨v0,v1,v2,v3,v4,v5⟩:=qQ A.box;have hz:wr.1.size≠r:=λe=>by have⟨es,cl,hb⟩:=G.tk.block rfl;grind
     have:=u.heap (o:=.cells #[.t c.key,.t c.val,.bool c.gone] 101) (k:=wr) M (λe=>by exact hz e);exact⟨by simp[World.cell?,this],v5⟩
    have⟨y0,y5⟩:=x2;rw[V];have U:Hid (cs[j]=c):=C;have L:Hid (eX W2 β {t with tk:=.map (some r),ks:=l}):=A;have Z:Hid (Fr (Bl.one r) W0 W2):=N.t F2;have O:Hid (∀y,y∈l↔y∈ks\/y=c.key):=D;clear C G n A v x u F2 D u0 u1 u2 u3 u4 oS M;go_wp2;go_region_held3 (λX=>X.c t.b 5=some (.map (some r))/\X.c wr.1.size 0=some (.t c.key))
     ((first|exact⟨y5,y0⟩|exact⟨u5,d0⟩))
     (fail)
    all_goals go_wp2
    all_goals
     refine⟨⟨j+1,l,σ,ω,L,Z,λy=>?_⟩,θ⟩;rw[O.o y,HY.o y,Dc hlt,U.o];grind
   .obtain rfl:j=cs:=ω
    have E:¬(cs.length:Int)<(cs.length:Int):=ω
    go_wp2;go_end0;exact⟨rfl,r,ks,G,T _ N,R,λy=>by rw[HY.o y];simp[sT]⟩
theorem qOe(β t c f d w)(h:eX w β t)(a:t.wr=false):
  cL 95 #[.p t.b 0,.s c f d] w λe w'=>e=.r (.tuple #[])/\w'=w:=by
 have⟨g,b,i,j,k,l⟩:=qQ h.box;rw[a]at b;go_enter func95,ntmps95;go_wp2;apply BH (EU rfl _ _ _) rfl;simp
def qHq(t:Tx)(cs:List Ch)(t':Tx):Prop:=∃tk ks,t' = {t with tk:=tk,ks:=ks}/\(t.wr=true->∀y,y∈ks↔y∈t.ks\/y∈cs.map (·.key))
theorem qKn(β t cs b d S w)(h:eX w β t)(g:aH w S b (cs.flatMap Ch.cells))(c:∀k,S k->k<w/\¬fpT t k)(j:cs.length<=1000000):
  cL 95 #[.p t.b 0,.s b cs.length d] w λe w'=>e=.r (.tuple #[])/\∃t',qHq t cs t'/\eX w' β t'/\Fr (fpT t) w w'/\∀k,fpT t' k->fpT t k\/w<=k:=by
 cases hw:t.wr with
 |false =>
  apply(qOe β t b _ d w h hw).m;rintro e w' ⟨rfl,rfl⟩;exact⟨rfl,t,⟨t.tk,t.ks,rfl,λe=>ζ⟩,h,AE _ _,λk a=>.inl a⟩
 |true =>
  apply(qOd β t cs b d S w h hw g (λk a=>⟨(c k a).1,λe=>(c k a).2 (.inl e),λe=>(c k a).2 (.inr (.inr e))⟩) j).m;rintro e w' ⟨rfl,r,n,i,f,l,m⟩;refine⟨rfl,_,⟨_,_,rfl,λ_=>m⟩,i,f.m (λk a=>.inl (a.elim (λh=>.inl h) (λh=>.inr (.inr h)))),?_⟩;rintro k (a|a|a)
  .exact .inl (.inl a)
  .exact .inl (.inr (.inl a))
  .have e:r=k:=ζ
   subst e;exact l.imp (λh=>.inr (.inr h)) id
