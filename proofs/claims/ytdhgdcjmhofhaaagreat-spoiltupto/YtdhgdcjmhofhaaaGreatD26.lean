import Derived.Test.YtdhgdcjmhofhaaaGreatD25
set_option linter.all false
set_option maxRecDepth 100000
set_option maxHeartbeats 8000000
namespace Go.Proofs.YtdhgdcjmhofhaaaGreat.Tree
open Go.RowKit Pages Tryz
variable {B:Nat} {S:Bl} {e:TypeId} {w w':World} {xs:List Value}
theorem qBw {z g n c}(h:w.ownsRow B e z (.q g n c) n xs){m}(o:m<=n):w.ownsRow B e z (.q g m c) m (xs.take (m * z)):=by
 obtain⟨d,f⟩:=h;have p:=JP z o;refine⟨by rw[AX,d];omega,?_⟩;rcases f with⟨a,_⟩|⟨s,r,b,a,i,l,t,j,k,q⟩
 .simp at a
 .simp only[AR,BB,CD,DC,CV]at a;obtain⟨rfl,rfl⟩:=a;refine .inr ⟨g,c,b,rfl,i,l,ω,j,k,?_⟩;rw[<-q,List.take_take,GI p]
inductive Nd where
 |mk (s:Sp) (place:Nat) (es:List En) (kids:List Nd)
def Nd.sp:Nd->Sp|.mk s _ _ _=>s
def Nd.kids:Nd->List Nd|.mk _ _ _ ks=>ks
variable {n:Nd} {ns:List Nd}
inductive jM (w:World) (S:Bl):Nd->MN->Prop
 |mk (s:Sp) (place:Nat) (es:List En) (kids:List Nd) (m:MN) (ms:List MN) (h1:m.lo=s.lo) (h2:m.hi=s.hi) (h3:m.place=place) (h4:m.en=es.length) (h5:m.kn=kids.length) (h6:es.length<=m.ec) (h7:kids.length<=m.kc)
   (h8:aH w S m.ea (aU es)) (h9:aH w S m.ka (aM ms)) (h10:ms.length=kids.length) (h11:∀(i:Nat) (k:Nd) (x:MN),kids[i]?=some k->ms[i]?=some x->jM w S k x):jM w S (.mk s place es kids) m
theorem jM.on {m}(h:jM w S n m)(a:On S w w'):jM w' S n m:=by
 induction h with
 |mk s place es kids m ms h1 h2 h3 h4 h5 h6 h7 h8 h9 h10 h11 ih=>exact .mk s place es kids m ms h1 h2 h3 h4 h5 h6 h7 (h8.on a) (h9.on a) h10 ih
theorem jM.m {S S':Bl}{m:MN}(h:jM w S n m)(a:∀k,S k->S' k):jM w S' n m:=by
 induction h with
 |mk s place es kids m ms h1 h2 h3 h4 h5 h6 h7 h8 h9 h10 h11 ih=>exact .mk s place es kids m ms h1 h2 h3 h4 h5 h6 h7 (h8.m a) (h9.m a) h10 ih
def bK(w:World)(S:Bl)(ns:List Nd)(ms:List MN):Prop:=ms.length=ns.length/\∀(i:Nat) (k:Nd) (x:MN),ns[i]?=some k->ms[i]?=some x->jM w S k x
theorem bK.on {ms}(h:bK w S ns ms)(c:On S w w'):bK w' S ns ms:=⟨h.1,λd e f a b=>(h.2 d e f a b).on c⟩
theorem bK.m {S S':Bl}{ms:List MN}(h:bK w S ns ms)(c:∀k,S k->S' k):bK w S' ns ms:=⟨h.1,λd k e a b=>(h.2 d k e a b).m c⟩
theorem bK.nil(w S):bK w S [] []:=⟨rfl,λb c d a _=>by simp at a⟩
theorem bK.append {ns ns' ms ms'}(h:bK w S ns ms)(c:bK w S ns' ms'):bK w S (ns++ns') (ms++ms'):=by
 refine⟨by rw[jK,jK,h.1,c.1],λd e f a b=>?_⟩;by_cases hi:d<ns
 .rw[BK hi]at a;rw[BK (h.1▸hi)]at b;exact h.2 d e f a b
 .rw[AZ ω]at a;rw[AZ (by rw[h.1];omega),h.1]at b;exact c.2 _ e f a b
theorem bK.take {ms}(h:bK w S ns ms)(n):bK w S (ns.take n) (ms.take n):=by
 refine⟨by rw[AX,AX,h.1],λc d e a b=>?_⟩;rw[DF]at a b;split at a
 .rename_i hi;rw[AU hi]at b;exact h.2 c d e a b
 .simp at a
theorem bK.drop {ms}(h:bK w S ns ms)(n):bK w S (ns.drop n) (ms.drop n):=by
 refine⟨by rw[BJ,BJ,h.1],λe c d a b=>?_⟩;rw[DE]at a b;exact h.2 _ c d a b
theorem bK.one {m}(h:jM w S n m):bK w S [n] [m]:=⟨rfl,λc d e a b=>by
 grind⟩
def Bn(es:List En):Nd:=.mk ⟨jI es,⟨#[]⟩⟩ 0 es []
theorem qOh {q:Pc En}(b:q.l<=q.c)(c:aH w S q.a (aU q.l)):jM w S (Bn q.l) (mL q):=
 .mk _ 0 q.l [] (mL q) [] rfl rfl rfl rfl rfl b (AG _) c (.inl rfl) rfl (λd e f a _=>by simp at a)
theorem Bm {qs:List (Pc En)}(h:∀q∈qs,q.l<=q.c/\aH w S q.a (aU q.l)):bK w S ((qs.map (·.l)).map Bn) (qs.map mL):=by
 refine⟨σ,λc d e a b=>?_⟩;rw[GO,BM]at a;rw[BM]at b;cases hq:qs[c]? with
 |none=>grind
 |some q =>
  rw[hq]at a b;simp at a b;subst a b;have:=h q (BI hq);exact qOh this.1 this.2
def Im(ns:List Nd):ByteArray:=match ns with|[]=>⟨#[]⟩|n :: _=>n.sp.lo
def Jf(ks:List Nd):Nd:=.mk ⟨Im ks,⟨#[]⟩⟩ 0 [] ks
theorem jM.lo {m}(h:jM w S n m):m.lo=n.sp.lo:=by cases h;assumption
theorem bK.first {ms}(h:bK w S ns ms):Ex ms=Im ns:=by
 cases ns with
 |nil=>have:=AH (h.1.t rfl);subst this;rfl
 |cons n ns =>
  cases ms with
  |nil=>have:=h.1;grind
  |cons m ms=>exact(h.2 0 n m rfl rfl).lo
theorem qPc {q:Pc MN}{ks:List Nd}(b:q.l<=q.c)(c:aH w S q.a (aM q.l))(a:bK w S ks q.l):jM w S (Jf ks) (mP q):=
 .mk _ 0 [] ks (mP q) q.l a.first rfl rfl rfl a.1 (AG _) (a.1▸b) (.inl rfl) c a.1 a.2
def xT(n:Nd):Nat:=n.sp.lo.size+3
theorem Lv {ms}(h:bK w S ns ms):ns.map xT=ms.map ksz:=by
 apply CZ;intro a;rw[BM,BM];cases hn:ns[a]? with
 |none =>
  have:ms[a]?=none:=by
   rw[NH]at hn⊢;rw[h.1];exact hn
  grind
 |some n =>
  have b:ms[a]?=some (ms[a]'(by rw[h.1];exact ((AD.1 hn).1))):=jQ _;rw[b];have:=(h.2 a n _ hn b).lo;simp[xT,ksz,this]
theorem Ei{b}(a)(l:List b):tot a l=(l.map a).sum:=rfl
theorem Nz{b β}(f g a):∀(l:List b) (m:List β) (c:Nat),l.map f=m.map g->shN f a l c=shN g a m c
 |[],[],_,_=>rfl
 |[],_ :: _,_,h=>by simp at h
 |_ :: _,[],_,h=>by simp at h
 |x :: l,y :: m,c,h=>by
  simp only[BE,GJ]at h;simp only[shN,h.1,Nz f g a l m _ h.2]
theorem qCc:∀(k:Nat) (ns:List Nd) (ms:List MN),bK w S ns ms->(lX xT k ns).length=(lX ksz k ms)/\∀(i:Nat) (p:List Nd) (q:List MN),(lX xT k ns)[i]?=some p->(lX ksz k ms)[i]?=some q->bK w S p q
 |0,ns,ms,h=>⟨rfl,λi p q a _=>by simp[lX]at a⟩
 |k+1,ns,ms,h=>by
  have c:=Lv h;have e:tot xT ns=tot ksz ms:=by rw[Ei,Ei,c]
  have d:shN xT (tot ksz ms) ns 0=shN ksz (tot ksz ms) ms 0:=Nz _ _ _ _ _ _ c;simp only[lX,e,d,<-h.1];split
  .grind
  .have⟨f,g⟩:=qCc k _ _ (h.drop (shN ksz (tot ksz ms) ms 0));refine⟨by rw[jB,jB,f],λi p q a b=>?_⟩;cases i with
   |zero=>simp at a b;subst a b;exact h.take _
   |succ i=>grind
theorem qKe {ms:List MN}(h:bK w S ns ms):(fA xT ns).length=(fA ksz ms)/\∀(i:Nat) (p:List Nd) (q:List MN),(fA xT ns)[i]?=some p->(fA ksz ms)[i]?=some q->bK w S p q:=by
 unfold fA;rw[h.1];exact qCc _ ns ms h
theorem Jc {w w':World}{ms:List MN}{qs:List (Pc MN)}(h:bK w' S ns ms)(d:qs.map (·.l)=fA ksz ms)(j:∀q∈qs,q.l<=q.c/\aH w' S q.a (aM q.l)):bK w' S ((fA xT ns).map Jf) (qs.map mP):=by
 have⟨e,f⟩:=qKe h;have g:qs.length=(fA ksz ms):=ζ
 refine⟨by rw[AF,AF,e,g],λc k l a b=>?_⟩;rw[BM]at a b;cases hp:(fA xT ns)[c]? with
 |none=>grind
 |some p =>
  cases hx:qs[c]? with
  |none=>rw[hx]at b;simp at b
  |some q =>
   rw[hp]at a;rw[hx]at b;simp at a b;subst a b;have i:(fA ksz ms)[c]?=some q.l:=by rw[<-d,BM,hx];rfl
   have:=j q (BI hx);exact qPc this.1 this.2 (f c p q.l hp i)
theorem dT {z g n c:Nat}(h:w.ownsRow B e z (.q g n c) n xs)(k)(s:k<xs.length)(u):(w.setCell (aD g k) u).ownsRow B e z (.q g n c) n (xs.set k u):=by
 have⟨b,d⟩:=h;refine⟨ζ,?_⟩;rcases d with⟨a,_⟩|⟨r,p,q,a,f,l,m,i,j,o⟩
 .simp at a
 .simp only[AR,BB,CD,DC,CV]at a;obtain⟨rfl,rfl⟩:=a;refine .inr ⟨g,c,_,rfl,f,aC l k u,m,i,ζ,?_⟩;rw[NE,List.take_set,o]
theorem zB {z g n c a b d f i}(h:w.ownsRow B e z (.q g n c) n (xs++[a,b,d,f,i]))(k)(r:xs.length=k)(m:MN):
  (((((w.setCell (aD g k) (.t m.lo)).setCell (aD g (k+1)) (.t m.hi)).setCell (aD g (k+2)) (.i m.place)).setCell (aD g (k+3)) (.s m.ea m.en m.ec)).setCell (aD g (k+4)) (.s m.ka m.kn m.kc)).ownsRow B e z (.q g n c) n (xs++m.cells):=by
 subst r;have p:=dT (dT (dT (dT h xs σ (.t m.lo)) (xs+1) σ (.t m.hi)) (xs+2) σ (.i m.place)) (xs+3) σ (.s m.ea m.en m.ec);have q:=dT p (xs+4) σ (.s m.ka m.kn m.kc);simpa[List.set_append,MN.cells] using q
abbrev MN.obj(m:MN):Obj:=.cells #[.string m.lo,.string m.hi,.int .i64 m.place,.slice m.ea m.en m.ec,.slice m.ka m.kn m.kc] 242
abbrev Oo:Obj:=.cells #[.string ⟨#[]⟩,.string ⟨#[]⟩,.int .i64 0,.slice none 0 0,.slice none 0 0] 242
theorem Hi(β root h j i)(m:MN)(L:((m.place:Int)==0)=true)(w):
  cL 219 #[.agg #[.p β 0,.i root,.s h j i],.agg #[.t m.lo,.t m.hi,.i m.place,.s m.ea m.en m.ec,.s m.ka m.kn m.kc]] w λe w'=>e=.r (.agg #[.t m.lo,.t m.hi,.i m.place,.s m.ea m.en m.ec,.s m.ka m.kn m.kc])/\bW w w':=by
 have⟨b,k⟩:=nM (w.alloc (.cells #[.p β 0,.i root,.s h j i] 90));have⟨c,f⟩:=nM (b.alloc m.obj);have⟨a,g⟩:=nM (c.alloc Oo);have l:b.1.size=w+1:=by rw[<-k];simp
 have z:c.1.size=w+1+1:=by rw[<-f];simp[l]
 have y:a.1[w.1.size+1]?=some m.obj:=by rw[<-l];exact g▸aP _ (f▸aB b _)
 have d:a.1[w.1.size+1+1]?=some Oo:=by rw[<-z];exact g▸aB c _
 have⟨A,B,C,D,E⟩:=cS y;obtain⟨F,G,H,I,J⟩:=cS d;have K:=aF d;have u:=aC (aC (aC (aC (aC d 0 (.t m.lo)) 1 (.t m.hi)) 2 (.i m.place)) 3 (.s m.ea m.en m.ec)) 4 (.s m.ka m.kn m.kc);obtain⟨o,q,r,s,t⟩:=cS (w:=(((((a.setCell (aD (w+1+1) 0) (.t m.lo)).setCell (aD (w+1+1) 1) (.t m.hi)).setCell (aD (w+1+1) 2) (.i m.place)).setCell (aD (w+1+1) 3) (.s m.ea m.en m.ec)).setCell (aD (w+1+1) 4) (.s m.ka m.kn m.kc))) (by simpa using u);have n:Hid (bW w (((((a.setCell (aD (w+1+1) 0) (.t m.lo)).setCell (aD (w+1+1) 1) (.t m.hi)).setCell (aD (w+1+1) 2) (.i m.place)).setCell (aD (w+1+1) 3) (.s m.ea m.en m.ec)).setCell (aD (w+1+1) 4) (.s m.ka m.kn m.kc))):=by
  have x:bW w a:=by rw[<-g,<-f,<-k];exact((bA _ _).alloc σ _).alloc χ _
  exact((((x.setCell (p:=(aD (w+1+1) 0)) χ _).setCell (p:=(aD (w+1+1) 1)) χ _).setCell (p:=(aD (w+1+1) 2)) χ _).setCell (p:=(aD (w+1+1) 3)) χ _).setCell (p:=(aD (w+1+1) 4)) χ _
 go_enter func219,ntmps219;go_wp2;refine BH (v:=.agg #[.t m.lo,.t m.hi,.i m.place,.s m.ea m.en m.ec,.s m.ka m.kn m.kc]) ?_ rfl ⟨rfl,n⟩;simp[results,results219,go_sem,o,q,r,s,t]
open Go.Shelf
attribute [local go_sem] CE
theorem nA.cell{w w' B b o u}(f:nA B w w')(h:w.c b o=some u):w'.cell? (aD b o)=some u:=by
 have:∃c d e,w.1[b]?=some (.cells c d e):=by
  cases a:w.1[b]? with
  |none=>simp[World.cell?,a]at h
  |some x =>
   cases x with
   |cells c d e=>exact⟨c,d,e,rfl⟩
   |_=>simp[World.cell?,a]at h
 have⟨c,d,e,a⟩:=this;rw[CP (w:=w) ((f.cells _ _ _ _ a).t a.symm)];exact h
theorem aH.took{w w' S a c B}(h:aH w S a c)(g:nA B w w'):aH w' S a c:=by
 rcases h with h|⟨b,k,d,f,e⟩
 .exact .inl h
 .exact .inr ⟨b,k,d,f,λj l i=>g.cell (e j l i)⟩
theorem Do{g:Pg}{es}(h:g.ents=es.map (·.e)):g.ents.flatMap Ent.cells=aU es:=by rw[aU,h]
theorem Yx(β sv lv fs)(b9:(fs.life==0)=false)(root t v u)(m:MN)(ce:((m.place:Int)==0)=false)(es w)(be:aZ fs 0 (.leaf m.place es) ⟨m.lo,m.hi⟩)(ab:aA w β sv lv fs):
  cL 219 #[.agg #[.p β 0,.i root,.s t v u],.agg #[.t m.lo,.t m.hi,.i m.place,.s m.ea m.en m.ec,.s m.ka m.kn m.kc]] w λe w' =>
   ∃f h,e=.r (.agg #[.t m.lo,.t m.hi,.i 0,.s f es h,.n])/\aH w' (New w w') f (aU es)/\es<=h/\bW w w':=by
 obtain⟨g,Y,F,B,bc,b8,cd⟩:=be;obtain⟨c,y,T,bx,aj,ai,d8⟩:=al3 w (.cells #[.p β 0,.i root,.s t v u] 90) m.obj Oo; obtain⟨d4,d5,d6⟩:=eM bx;obtain⟨cu,cv,cw,cx,cy⟩:=cS aj;have b7:=ab.bl T;obtain⟨am,bv,bw⟩:=gB Y;have b5:0<g.ents.length:=by rw[B,AF];exact BX.2 bc
 have aa:g.ents.length=es:=by rw[B,AF]
 have ac:∀e∈g.ents,(⟨m.lo,m.hi⟩:Sp).has e.key=true:=λe a9=>by rw[B,AY]at a9;obtain⟨x,H,rfl⟩:=a9;exact b8 x H
 have a7:=vU β sv lv fs root t v u m.place ⟨m.lo,m.hi⟩ g c b7 b9 Y (by simp[F]) (by simp[F]) b5 (ac _ (AA _)) (ac _ (AA _)) am bw;obtain⟨bn,ae⟩:=uB Y F;have av:Hid _:=ae;have ar:Hid _:=B;have a4:Hid _:=aa;clear F B bn ae aa;refine(BG (n:=0)).1 (CH func219 rfl trivial ?_ rfl);simp only[ntmps219,jA,jB,jN,Nat.reduceAdd,Nat.reduceSub,jR,jO,jP,jT,jE,jF];gi_wp2_with (first
  |(refine⟨trivial,rfl,?_⟩;gi_at_call 144;refine(BG.2 a7).m ?_;clear a7;rintro e i ⟨d7,rfl,⟨L,J,f,M,K,h,rfl,ag,ah,a1,O⟩,a8⟩;obtain⟨d,X,-,a2,-⟩:=al1 i (pgO g L J f M K h);obtain⟨cg,ch,ci,cj,ck,cl,cm,cn⟩:=bU a2;have a5:Fr Bl.none c d:=(AB a8).t (X▸(AE _ i).alloc _);have ak:=a5.heap aj (λa=>a);obtain⟨cz,d0,d1,d2,d3⟩:=cS ak;have al:=aP (.cells #[.t m.lo,.t m.hi,.i 0,.s f g.ents h,.n] 242) ak;obtain⟨bq,br,bs,bt,bu⟩:=cS al;have an:=aP (.cells #[.t m.lo,.t m.hi,.i 0,.s f g.ents h,.n] 242) a2;obtain⟨bf,bg,bh,bi,bj,bk,bl,bm⟩:=bU an;have a6:=rL g ⟨m.lo,m.hi⟩ L J f M K h (d.alloc (.cells #[.t m.lo,.t m.hi,.i 0,.s f g.ents h,.n] 242)))
  |(refine⟨trivial,rfl,?_⟩;gi_at_call 145;refine(BG.2 a6).m ?_;clear a6;rintro e r ⟨rfl,a3,R,E⟩))
 clear bq br bs bt bu bf bg bh bi bj bk bl bm;obtain⟨o,z,-,ao,c2⟩:=al1 d (.cells #[.t m.lo,.t m.hi,.i 0,.s f g.ents h,.n] 242);rw[z]at a3 R E al an;have b1:=a5.t (z▸(AE _ d).alloc _);rw[c2]at a3 R;have V:=b1.t (AB E);have da:=(gL a2);have c1:=(gL ao);have d9:=a8.size;have db:=(gL R);have N:=((X▸(CM _ i).alloc (λj b=>b.2) _:On (New c i) i d).t (z▸(CM _ d).alloc (λj b=>by have:=b.2;omega) _:On (New c i) d o)).t (vV E (λj b=>by have:=b.2;omega));let Rd:Bl:=λj=>j=d+1\/j=d+1+1\/New c i j;have bd:=wA (d+1+1) (d+1) ⟨m.lo,m.hi⟩ g.kind g.ver g.root g.next L J f M K g.ents h g.data g.keys g.kids Rd r R a3 ((ag.on N).m (λj b=>.inr (.inr b))) ((ah.on N).m (λj b=>.inr (.inr b))) (.inr (.inl rfl)) (.inl rfl) am bv O.1 O.2.1;have ad:parts ⟨m.lo,m.hi⟩ g.keys g.kids=[]:=by rw[av.o];cases g.keys<;>rfl
 have aw:Hid (parts ⟨m.lo,m.hi⟩ g.keys g.kids=[]):=ad;clear ad;let I:List (Int×Sp)->Bl->World->Prop:=λa0 U W=>True/\U=Bl.none;refine gF (P:=prog) (Has:=vG) (Rd:=Rd) rfl (enters_of func167 κ rfl) bd (λx az S W b4=>by rw[b4];rfl) I (λ_ _ _ _=>False) ?_ (λ_ _ _ _ _ a=>a.elim) ?_ (λ_ _ _ _ a=>a.elim) Bl.none ⟨trivial,rfl⟩ ?_ ?_ ?_ (λ_ _ _ _ _ _ _ _ _ a=>a.elim)
 .rintro a0 U W c3 ⟨_,rfl⟩ cc
  exact⟨trivial,rfl⟩
 .rintro a0 U W ⟨_,rfl⟩ j b
  exact b.elim
 .rintro j (rfl|rfl|b)
  .exact⟨λa=>a,ω⟩
  .exact⟨λa=>a,ω⟩
  .exact⟨λa=>a,by have:=b.2;omega⟩
 .intro l a0 x ct az S ay W H
  rw[aw.o]at H;simp at H
 .rintro D ay W b2 cb ⟨_,rfl⟩ s ca b3;have c0:=s.heap ((E.block _ c1).t ao) (λa=>a);have Q:=s.heap (V.heap ai (λa=>a)) (λa=>a);obtain⟨co,cp,cq,cr,cs⟩:=cS c0;obtain⟨c4,c5,c6,c7,c8⟩:=cS Q;have c9:=aF Q;have ba:=(GC w r).cons (λD' _ a=>s.heap a (λe=>e)) (η T.size) b3 b2;have ap:=(AB T).t (V.t s);have dc:=s.size;have b6:=O.2.2;have bo:Hid (aH i (New c i) f (g.ents.flatMap Ent.cells)):=a1;have au:Hid (es<=h):=by have:=a4.o;show _<=_;omega
  have b0:=aC (aC (aC (aC (aC Q 0 (.t m.lo)) 1 (.t m.hi)) 2 (.i 0)) 3 (.s f g.ents h)) 4 .n;clear ag ah a1 b6 O;gi_wp2;obtain⟨k,A⟩:=nM (((((W.setCell (aD (w+1+1) 0) (.t m.lo)).setCell (aD (w+1+1) 1) (.t m.hi)).setCell (aD (w+1+1) 2) (.i 0)).setCell (aD (w+1+1) 3) (.s f g.ents h)).setCell (aD (w+1+1) 4) .n);have C:Fr (Bl.one (w+1+1)) W k:=by
   rw[<-A];exact((((((AE (Bl.one (w+1+1)) W).s (w+1+1) 0).s (w+1+1) 1).s (w+1+1) 2).s (w+1+1) 3).s (w+1+1) 4)
  have bz:cW k (w+1+1) #[.t m.lo,.t m.hi,.i 0,.s f g.ents h,.n] 242:=by rw[<-A];simpa using b0
  have bb:=ba.on (λD' _ a=>C.heap a (λe=>by cases e;rw[Q]at a;simp at a));have aq:=ap.grow C (λj b=>.inr (by simp only[Bl.one]at b;omega));have ax:aH k (New w k) f (aU es):=by
   have q:=(bo.o.on N).on (s.on (λj b=>⟨by have:=b.2;omega,λa=>a⟩));have af:=q.on (C.on (Z:=New c i) (λj b=>⟨by have:=b.2;omega,λe=>by simp only[Bl.one]at e;have:=b.1;omega⟩));rw[Do ar.o]at af;exact af.m (λj b=>⟨by have:=b.1;omega,by have:=b.2;have:=C.size;omega⟩)
  refine qPp (p:=4) rfl (w+1+1) _ _ _ rfl (A▸bz) underlying242 rfl κ (A▸bb) ?_;intro w' G;rw[A]at G;refine⟨f,h,by rw[<-a4.o],?_,au.o,(aq.took G (jU _)).below0⟩;have cf:=G.size;exact aH.took (ax.m (λj b=>⟨b.1,by have:=b.2;omega⟩)) G
attribute [local go_sem] CE
theorem Zf(ch bw bp s kind ver root next ka ia ea kc ic en ec data keys kids Rd w)(hw:cW w bw #[.t s.lo,.t s.hi] 154)(hp:cW w bp #[.i kind,.i ver,.i root,.i next,.s ka keys.length kc,.s ia kids.length ic,.s ea en ec,.t data] 80)(hK:aH w Rd ka (keys.map .string))(hI:aH w Rd ia (kids.map (.int .i64)))(rw_:Rd bw)(rp:Rd bp)(hkn:keys.length<=1000)(hin:kids.length<=1000)(hkc:keys.length<=kc)(hic:kids.length<=ic):Wz prog 167 #[.p bw 0,.p bp 0] vG (parts s keys kids) Rd ch False w:=λl J Jp Y W z o X lJ _ _ _ hY h0=>(Hr ch bw bp s kind ver root next ka ia ea kc ic en ec data keys kids Rd w hw hp hK hI rw_ rp hkn hin hkc hic l J (λ_ _ _=>False) Jp Y W z o X lJ (λa b c d e f g h i j k m n=>(hY a b c d e f g h i j k m n).mono (λ_ _ h=>h.imp .inl id)) h0).m (λ_ _ h=>h.imp (λ⟨a,Y',b,c,d⟩=>⟨id,a,Y',b,c,d.resolve_right (λ⟨_,_,_,h⟩=>h)⟩) id)
theorem qDf{P}(w T j a zero z bytes)(l:P.underlying T=some (.slice a))(hi:(P.info? a).map (λi=>(i.zero,i.size,i.bytes))=some (some zero,z,bytes))(C:zero.cells.size=z)(p:0<z)(v n xs)(f:w.ownsRow 0 a z v n xs)(k m c S d)(o:d.length=m * z)(s:aH w S k d)(q:∀u∈d,u.oneCell'=true)(r:n+m<=140737488355328)(t:(n+m) * bytes<=140737488355328):
  ∃v' w',(Builtin.append_ #[T,T] j #[v,.s k m c]).run P w=.ok v' w'/\fO a z v n xs d m w v' w':=by
 rcases s with rfl|⟨b,h,rfl,_,x⟩
 .have A:m=0:=by
   rcases KB m with e|e
   .exact e
   .have:=Nat.mul_pos e p;grind
  subst A;exact⟨v,w,Ri w T j a zero z bytes l hi v n xs f k c,by simpa using f,AE _ _,λD y=>.inl y⟩
 .refine Ai w T j a zero z bytes l hi C p v n xs f (aD b h) m c d o (λg u B=>?_) q r t;have:=x g u B;rw[show((aD b h):Addr).add g=(aD b (h+g)) by unfold Addr.add;split<;>simp_all];exact this
theorem qDs{P ops o a K Q F}(w)(r:o.guard=none)(f x T b zero z bytes)(t:o.op=.call {callee:=.builtin .append,args:=#[f,x],argTypes:=#[T,T]})(p:P.underlying T=some (.slice b))(hi:(P.info? b).map (λi=>(i.zero,i.size,i.bytes))=some (some zero,z,bytes))(G:zero.cells.size=z)(B:0<z)(v n xs)(A:a.eval f=v)(C:w.ownsRow 0 b z v n xs)(e m c S d)(E:a.eval x=.s e m c)(s:d.length=m * z)(l:aH w S e d)(j:∀u∈d,u.oneCell'=true)(k:n+m<=140737488355328)(q:(n+m) * bytes<=140737488355328)(h:∀v' w',fO b z v n xs d m w v' w'->K (a.put o.dst v') w'):
  if Region.wanted o (yielded ops a.tmps)=true then Oper.wp P o a w K Q else F:=by
 have D:Region.wanted o (yielded ops a.tmps)=true:=by simp[Region.wanted,r]
 rw[AU D];have⟨v',w',y,g⟩:=qDf (P:=P) w T o.type b zero z bytes p hi G B v n xs C e m c S d s l j k q;unfold Oper.wp execOp;simp only[t,resolve,invoke,builtin,EK,ED,DN,DQ,BE,DB,A,E,y];exact h v' w' g
