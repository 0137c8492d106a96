import Derived.Test.YtdhgdcjmhofhaaaGreatD25
set_option linter.all false
set_option maxRecDepth 100000
set_option maxHeartbeats 8000000
namespace Go.Proofs.YtdhgdcjmhofhaaaGreat.Tree
open Go.RowKit Pages
variable {B:Nat} {S:Bl} {e:TypeId} {w w':World} {xs:List Value}
def Yj {z g n c}(h:w.ownsRow B e z (.q g n c) n xs){m}(o:m<=n):w.ownsRow B e z (.q g m c) m (xs.take (m * z)):=by
 obtain⟨d,f⟩:=h;have p:=FV z o;refine⟨by rw[AY,d];omega,?_⟩;rcases f with⟨a,_⟩|⟨s,r,b,a,i,l,t,j,k,q⟩
 .simp at a
 .simp only[AQ,BB,CC,DD,CV]at a
  obtain⟨rfl,rfl⟩:=a;refine .inr ⟨g,c,b,rfl,i,l,by omega,j,k,?_⟩;rw[<-q,List.take_take,GL p]
inductive Nd where
 |mk (s:Sp) (place:Nat) (es:List En) (kids:List Nd)
def Nd.sp:Nd->Sp|.mk s _ _ _=>s
def Nd.kids:Nd->List Nd|.mk _ _ _ ks=>ks
variable {n:Nd} {ns:List Nd}
inductive gH (w:World) (S:Bl):Nd->MN->Prop
 |mk (s:Sp) (place:Nat) (es:List En) (kids:List Nd) (m:MN) (ms:List MN) (h1:m.lo=s.lo) (h2:m.hi=s.hi) (h3:m.place=place) (h4:m.en=es.length) (h5:m.kn=kids.length) (h6:es.length<=m.ec) (h7:kids.length<=m.kc)
   (h8:aH w S m.ea (aT es)) (h9:aH w S m.ka (aM ms)) (h10:ms.length=kids.length) (h11:∀(i:Nat) (k:Nd) (x:MN),kids[i]?=some k->ms[i]?=some x->gH w S k x):gH w S (.mk s place es kids) m
def gH.on {m}(h:gH w S n m)(a:On S w w'):gH w' S n m:=by
 induction h with
 |mk s place es kids m ms h1 h2 h3 h4 h5 h6 h7 h8 h9 h10 h11 ih=>exact .mk s place es kids m ms h1 h2 h3 h4 h5 h6 h7 (h8.on a) (h9.on a) h10 ih
def gH.m {S S':Bl}{m:MN}(h:gH w S n m)(a:∀k,S k->S' k):gH w S' n m:=by
 induction h with
 |mk s place es kids m ms h1 h2 h3 h4 h5 h6 h7 h8 h9 h10 h11 ih=>exact .mk s place es kids m ms h1 h2 h3 h4 h5 h6 h7 (h8.m a) (h9.m a) h10 ih
def bH(w:World)(S:Bl)(ns:List Nd)(ms:List MN):Prop:=ms.length=ns.length/\∀(i:Nat) (k:Nd) (x:MN),ns[i]?=some k->ms[i]?=some x->gH w S k x
def bH.on {ms}(h:bH w S ns ms)(c:On S w w'):bH w' S ns ms:=⟨h.1,λd e f a b=>(h.2 d e f a b).on c⟩
def bH.m {S S':Bl}{ms:List MN}(h:bH w S ns ms)(c:∀k,S k->S' k):bH w S' ns ms:=⟨h.1,λd k e a b=>(h.2 d k e a b).m c⟩
def bH.nil(w S):bH w S [] []:=⟨rfl,λb c d a _=>by simp at a⟩
def bH.append {ns ns' ms ms'}(h:bH w S ns ms)(c:bH w S ns' ms'):bH w S (ns++ns') (ms++ms'):=by
 refine⟨by rw[jK,jK,h.1,c.1],λd e f a b=>?_⟩;by_cases hi:d<ns.length
 .rw[BO hi]at a
  rw[BO (by rw[h.1];exact hi)]at b;exact h.2 d e f a b
 .rw[BC (by omega)]at a
  rw[BC (by rw[h.1];omega),h.1]at b;exact c.2 _ e f a b
def bH.take {ms}(h:bH w S ns ms)(n):bH w S (ns.take n) (ms.take n):=by
 refine⟨by rw[AY,AY,h.1],λc d e a b=>?_⟩;rw[DE]at a b;split at a
 .rename_i hi
  rw[AU hi]at b;exact h.2 c d e a b
 .simp at a
def bH.drop {ms}(h:bH w S ns ms)(n):bH w S (ns.drop n) (ms.drop n):=by
 refine⟨by rw[BE,BE,h.1],λe c d a b=>?_⟩;rw[DX]at a b;exact h.2 _ c d a b
def bH.one {m}(h:gH w S n m):bH w S [n] [m]:=⟨rfl,λc d e a b=>by
 grind⟩
def zH(es:List En):Nd:=.mk ⟨iW es,⟨#[]⟩⟩ 0 es []
def qJn {q}(b:q.l.length<=q.c)(c:aH w S q.a (aT q.l)):gH w S (zH q.l) (lU q):=
 .mk _ 0 q.l [] (lU q) [] rfl rfl rfl rfl rfl b (AG _) c (.inl rfl) rfl (λd e f a _=>by simp at a)
def zG {qs:List (Pc En)}(h:∀q∈qs,q.l.length<=q.c/\aH w S q.a (aT q.l)):bH w S ((qs.map (·.l)).map zH) (qs.map lU):=by
 refine⟨by simp,λc d e a b=>?_⟩;rw[GA,BN]at a;rw[BN]at b;cases hq:qs[c]? with
 |none=>grind
 |some q =>
  rw[hq]at a b;simp at a b;subst a b;have:=h q (BL hq);exact qJn this.1 this.2
def Gg(ns:List Nd):ByteArray:=match ns with|[]=>⟨#[]⟩|n :: _=>n.sp.lo
def Gz(ks:List Nd):Nd:=.mk ⟨Gg ks,⟨#[]⟩⟩ 0 [] ks
def gH.lo {m}(h:gH w S n m):m.lo=n.sp.lo:=by cases h;assumption
def bH.first {ms}(h:bH w S ns ms):Cv ms=Gg ns:=by
 cases ns with
 |nil=>have:=AH (h.1.t rfl);subst this;rfl
 |cons n ns =>
  cases ms with
  |nil=>have:=h.1;grind
  |cons m ms=>exact(h.2 0 n m rfl rfl).lo
def qKh {q ks}(b:q.l.length<=q.c)(c:aH w S q.a (aM q.l))(a:bH w S ks q.l):gH w S (Gz ks) (mB q):=
 .mk _ 0 [] ks (mB q) q.l a.first rfl rfl rfl a.1 (AG _) (by rw[<-a.1];exact b) (.inl rfl) c a.1 a.2
def vW(n:Nd):Nat:=n.sp.lo.size+3
def Jj {ms}(h:bH w S ns ms):ns.map vW=ms.map ksz:=by
 apply DU;intro a;rw[BN,BN];cases hn:ns[a]? with
 |none =>
  have:ms[a]?=none:=by
   rw[ML]at hn⊢;rw[h.1];exact hn
  grind
 |some n =>
  have b:ms[a]?=some (ms[a]'(by rw[h.1];exact ((AD.1 hn).1))):=jQ _;rw[b];have:=(h.2 a n _ hn b).lo;simp[vW,ksz,this]
def Cj{b}(a)(l:List b):tot a l=(l.map a).sum:=rfl
def Lh{b β}(f g a):∀(l:List b) (m:List β) (c:Nat),l.map f=m.map g->shN f a l c=shN g a m c
 |[],[],_,_=>rfl
 |[],_ :: _,_,h=>by simp at h
 |_ :: _,[],_,h=>by simp at h
 |x :: l,y :: m,c,h=>by
  simp only[BH,GM]at h;simp only[shN,h.1,Lh f g a l m _ h.2]
def Yo:∀(k:Nat) (ns:List Nd) (ms:List MN),bH w S ns ms->(lH vW k ns).length=(lH ksz k ms).length/\∀(i:Nat) (p:List Nd) (q:List MN),(lH vW k ns)[i]?=some p->(lH ksz k ms)[i]?=some q->bH w S p q
 |0,ns,ms,h=>⟨rfl,λi p q a _=>by simp[lH]at a⟩
 |k+1,ns,ms,h=>by
  have c:=Jj h;have e:tot vW ns=tot ksz ms:=by rw[Cj,Cj,c]
  have d:shN vW (tot ksz ms) ns 0=shN ksz (tot ksz ms) ms 0:=Lh _ _ _ _ _ _ c;simp only[lH,e,d,<-h.1];split
  .grind
  .have⟨f,g⟩:=Yo k _ _ (h.drop (shN ksz (tot ksz ms) ms 0))
   refine⟨by rw[jB,jB,f],λi p q a b=>?_⟩;cases i with
   |zero=>simp at a b;subst a b;exact h.take _
   |succ i=>grind
def qFz {ms}(h:bH w S ns ms):(dV vW ns).length=(dV ksz ms).length/\∀(i:Nat) (p:List Nd) (q:List MN),(dV vW ns)[i]?=some p->(dV ksz ms)[i]?=some q->bH w S p q:=by
 unfold dV;rw[h.1];exact Yo _ ns ms h
def Gw {w w':World}{ms}{qs:List (Pc MN)}(h:bH w' S ns ms)(d:qs.map (·.l)=dV ksz ms)(j:∀q∈qs,q.l.length<=q.c/\aH w' S q.a (aM q.l)):bH w' S ((dV vW ns).map Gz) (qs.map mB):=by
 have⟨e,f⟩:=qFz h;have g:qs.length=(dV ksz ms).length:=by grind
 refine⟨by rw[AF,AF,e,g],λc k l a b=>?_⟩;rw[BN]at a b;cases hp:(dV vW ns)[c]? with
 |none=>grind
 |some p =>
  cases hx:qs[c]? with
  |none=>rw[hx]at b;simp at b
  |some q =>
   rw[hp]at a;rw[hx]at b;simp at a b;subst a b;have i:(dV ksz ms)[c]?=some q.l:=by rw[<-d,BN,hx];rfl
   have:=j q (BL hx);exact qKh this.1 this.2 (f c p q.l hp i)
def dR {z g n c:Nat}(h:w.ownsRow B e z (.q g n c) n xs)(k)(s:k<xs.length)(u):(w.setCell (aD g k) u).ownsRow B e z (.q g n c) n (xs.set k u):=by
 have⟨b,d⟩:=h;refine⟨by grind,?_⟩;rcases d with⟨a,_⟩|⟨r,p,q,a,f,l,m,i,j,o⟩
 .simp at a
 .simp only[AQ,BB,CC,DD,CV]at a
  obtain⟨rfl,rfl⟩:=a;refine .inr ⟨g,c,_,rfl,f,aB l k u,m,i,by grind,?_⟩;rw[MH,List.take_set,o]
def xC {z g n c a b d f i}(h:w.ownsRow B e z (.q g n c) n (xs++[a,b,d,f,i]))(k)(r:xs.length=k)(m:MN):
  (((((w.setCell (aD g k) (.t m.lo)).setCell (aD g (k+1)) (.t m.hi)).setCell (aD g (k+2)) (.i m.place)).setCell (aD g (k+3)) (.s m.ea m.en m.ec)).setCell (aD g (k+4)) (.s m.ka m.kn m.kc)).ownsRow B e z (.q g n c) n (xs++m.cells):=by
 subst r;have p:=dR (dR (dR (dR h xs.length (by simp) (.t m.lo)) (xs.length+1) (by simp) (.t m.hi)) (xs.length+2) (by simp) (.i m.place)) (xs.length+3) (by simp) (.s m.ea m.en m.ec);have q:=dR p (xs.length+4) (by simp) (.s m.ka m.kn m.kc);simpa[List.set_append,MN.cells] using q
abbrev MN.obj(m:MN):Obj:=.cells #[.string m.lo,.string m.hi,.int .i64 m.place,.slice m.ea m.en m.ec,.slice m.ka m.kn m.kc] 242
abbrev Lv:Obj:=.cells #[.string ⟨#[]⟩,.string ⟨#[]⟩,.int .i64 0,.slice none 0 0,.slice none 0 0] 242
def Ey(β root h j i)(m:MN)(L:((m.place:Int)==0)=true)(w):
  cL 219 #[.agg #[.p β 0,.i root,.s h j i],.agg #[.t m.lo,.t m.hi,.i m.place,.s m.ea m.en m.ec,.s m.ka m.kn m.kc]] w λe w'=>e=.r (.agg #[.t m.lo,.t m.hi,.i m.place,.s m.ea m.en m.ec,.s m.ka m.kn m.kc])/\bW w w':=by
 have⟨b,k⟩:=nM (w.alloc (.cells #[.p β 0,.i root,.s h j i] 90));have⟨c,f⟩:=nM (b.alloc m.obj);have⟨a,g⟩:=nM (c.alloc Lv);have l:b.heap.size=w.heap.size+1:=by rw[<-k];simp
 have z:c.heap.size=w.heap.size+1+1:=by rw[<-f];simp[l]
 have y:a.heap[w.heap.size+1]?=some m.obj:=by rw[<-l];exact g▸aQ _ (f▸aC b _)
 have d:a.heap[w.heap.size+1+1]?=some Lv:=by rw[<-z];exact g▸aC c _
 have⟨A,B,C,D,E⟩:=cV y;obtain⟨F,G,H,I,J⟩:=cV d;have K:=aA d;have u:=aB (aB (aB (aB (aB d 0 (.t m.lo)) 1 (.t m.hi)) 2 (.i m.place)) 3 (.s m.ea m.en m.ec)) 4 (.s m.ka m.kn m.kc);obtain⟨o,q,r,s,t⟩:=cV (w:=(((((a.setCell (aD (w.heap.size+1+1) 0) (.t m.lo)).setCell (aD (w.heap.size+1+1) 1) (.t m.hi)).setCell (aD (w.heap.size+1+1) 2) (.i m.place)).setCell (aD (w.heap.size+1+1) 3) (.s m.ea m.en m.ec)).setCell (aD (w.heap.size+1+1) 4) (.s m.ka m.kn m.kc))) (by simpa using u);have n:Hid (bW w (((((a.setCell (aD (w.heap.size+1+1) 0) (.t m.lo)).setCell (aD (w.heap.size+1+1) 1) (.t m.hi)).setCell (aD (w.heap.size+1+1) 2) (.i m.place)).setCell (aD (w.heap.size+1+1) 3) (.s m.ea m.en m.ec)).setCell (aD (w.heap.size+1+1) 4) (.s m.ka m.kn m.kc))):=by
  have x:bW w a:=by rw[<-g,<-f,<-k];exact((bA _ _).alloc (by simp) _).alloc (by simp;omega) _
  exact((((x.setCell (p:=(aD (w.heap.size+1+1) 0)) (by simp;omega) _).setCell (p:=(aD (w.heap.size+1+1) 1)) (by simp;omega) _).setCell (p:=(aD (w.heap.size+1+1) 2)) (by simp;omega) _).setCell (p:=(aD (w.heap.size+1+1) 3)) (by simp;omega) _).setCell (p:=(aD (w.heap.size+1+1) 4)) (by simp;omega) _
 go_enter Tryz.func219,Tryz.ntmps219;go_wp2;refine BI (v:=.agg #[.t m.lo,.t m.hi,.i m.place,.s m.ea m.en m.ec,.s m.ka m.kn m.kc]) ?_ rfl ⟨rfl,n⟩;simp[results,Tryz.results219,go_sem,o,q,r,s,t]
open Go.Shelf
attribute [local go_sem] CM
def mP.cell{w w' B b o u}(f:mP B w w')(h:w.cell? (aD b o)=some u):w'.cell? (aD b o)=some u:=by
 have:∃c d e,w.heap[b]?=some (.cells c d e):=by
  cases a:w.heap[b]? with
  |none=>simp[World.cell?,a]at h
  |some x =>
   cases x with
   |cells c d e=>exact⟨c,d,e,rfl⟩
   |_=>simp[World.cell?,a]at h
 have⟨c,d,e,a⟩:=this;rw[CK (w:=w) ((f.cells _ _ _ _ a).t a.symm)];exact h
def aH.took{w w' S a c B}(h:aH w S a c)(g:mP B w w'):aH w' S a c:=by
 rcases h with h|⟨b,k,d,f,e⟩
 .exact .inl h
 .exact .inr ⟨b,k,d,f,λj l i=>g.cell (e j l i)⟩
def Bo{g:Pg}{es}(h:g.ents=es.map (·.e)):g.ents.flatMap Ent.cells=aT es:=by rw[aT,h]
def Ve(β sv lv fs)(b9:(fs.life==0)=false)(root t v u)(m:MN)(ce:((m.place:Int)==0)=false)(es w)(be:aV fs 0 (.leaf m.place es) ⟨m.lo,m.hi⟩)(ab:aF w β sv lv fs):
  cL 219 #[.agg #[.p β 0,.i root,.s t v u],.agg #[.t m.lo,.t m.hi,.i m.place,.s m.ea m.en m.ec,.s m.ka m.kn m.kc]] w λe w' =>
   ∃f h,e=.r (.agg #[.t m.lo,.t m.hi,.i 0,.s f es.length h,.n])/\aH w' (New w w') f (aT es)/\es.length<=h/\bW w w':=by
 obtain⟨g,Y,F,B,bc,b8,cd⟩:=be;obtain⟨c,y,T,bx,aj,ai,d8⟩:=al3 w (.cells #[.p β 0,.i root,.s t v u] 90) m.obj Lv; obtain⟨d4,d5,d6⟩:=eC bx;obtain⟨cu,cv,cw,cx,cy⟩:=cV aj;have b7:aF c β sv lv fs:=ab.on (vV T ab.lies);obtain⟨am,bv,bw⟩:=gK Y;have b5:0<g.ents.length:=by rw[B,AF];exact BQ.2 bc
 have aa:g.ents.length=es.length:=by rw[B,AF]
 have ac:∀e∈g.ents,(⟨m.lo,m.hi⟩:Sp).has e.key=true:=λe a9=>by rw[B,AW]at a9;obtain⟨x,H,rfl⟩:=a9;exact b8 x H
 have a7:=uG β sv lv fs root t v u m.place ⟨m.lo,m.hi⟩ g c b7 b9 Y (by simp[F]) (by simp[F]) b5 (ac _ (AA _)) (ac _ (AA _)) am bw;obtain⟨bn,ae⟩:=sR Y F;have av:Hid (g.kids=[]):=ae;have ar:Hid (g.ents=es.map (·.e)):=B;have a4:Hid (g.ents.length=es.length):=aa;clear F B bn ae aa;refine(AZ (n:=0)).1 (BX Tryz.func219 rfl trivial ?_ rfl);simp only[Tryz.ntmps219,jA,jB,jN,Nat.reduceAdd,Nat.reduceSub,jR,jO,jP,jT,jE,jF];gi_wp2_with (first
  |(refine⟨trivial,rfl,?_⟩;gi_at_call 144;refine(AZ.2 a7).m ?_;clear a7;rintro e i ⟨d7,rfl,⟨L,J,f,M,K,h,rfl,ag,ah,a1,O⟩,a8⟩;obtain⟨d,X,-,a2,-⟩:=al1 i (pgO g L J f M K h);obtain⟨cg,ch,ci,cj,ck,cl,cm,cn⟩:=bO a2;have a5:Fr Bl.none c d:=(AB a8).t (X▸(AE _ i).alloc _);have ak:=a5.heap aj (λa=>a);obtain⟨cz,d0,d1,d2,d3⟩:=cV ak;have al:=aQ (.cells #[.t m.lo,.t m.hi,.i 0,.s f g.ents.length h,.n] 242) ak;obtain⟨bq,br,bs,bt,bu⟩:=cV al;have an:=aQ (.cells #[.t m.lo,.t m.hi,.i 0,.s f g.ents.length h,.n] 242) a2;obtain⟨bf,bg,bh,bi,bj,bk,bl,bm⟩:=bO an;have a6:=nT g ⟨m.lo,m.hi⟩ L J f M K h (d.alloc (.cells #[.t m.lo,.t m.hi,.i 0,.s f g.ents.length h,.n] 242)))
  |(refine⟨trivial,rfl,?_⟩;gi_at_call 145;refine(AZ.2 a6).m ?_;clear a6;rintro e r ⟨rfl,a3,R,E⟩))
 clear bq br bs bt bu bf bg bh bi bj bk bl bm;obtain⟨o,z,-,ao,c2⟩:=al1 d (.cells #[.t m.lo,.t m.hi,.i 0,.s f g.ents.length h,.n] 242);rw[z]at a3 R E al an;have b1:Fr Bl.none c o:=a5.t (z▸(AE _ d).alloc _);rw[c2]at a3 R;have V:Fr Bl.none c r:=b1.t (AB E);have da:i.heap.size<d.heap.size:=(gL a2);have c1:d.heap.size<o.heap.size:=(gL ao);have d9:=a8.size;have db:d.heap.size+1+1<r.heap.size:=(gL R);have N:On (New c i) i r:=((X▸(CN _ i).alloc (λj b=>b.2) _:On (New c i) i d).t (z▸(CN _ d).alloc (λj b=>by have:=b.2;omega) _:On (New c i) d o)).t (vV E (λj b=>by have:=b.2;omega));let Rd:Bl:=λj=>j=d.heap.size+1\/j=d.heap.size+1+1\/New c i j;have bd:=nS (d.heap.size+1+1) (d.heap.size+1) ⟨m.lo,m.hi⟩ g.kind g.ver g.root g.next L J f M K g.ents.length h g.data g.keys g.kids Rd r R a3 ((ag.on N).m (λj b=>.inr (.inr b))) ((ah.on N).m (λj b=>.inr (.inr b))) (.inr (.inl rfl)) (.inl rfl) am bv O.1 O.2.1;have ad:parts ⟨m.lo,m.hi⟩ g.keys g.kids=[]:=by rw[av.o];cases g.keys<;>rfl
 have aw:Hid (parts ⟨m.lo,m.hi⟩ g.keys g.kids=[]):=ad;clear ad;let I:List (Int×Sp)->Bl->World->Prop:=λa0 U W=>True/\U=Bl.none;refine fI (P:=Tryz.prog) (Has:=sA) (Rd:=Rd) rfl (enters_of Tryz.func167 (by kernel_rfl) rfl) bd (λx az S W b4=>by rw[b4];rfl) I (λ_ _ _ _=>False) ?_ (λ_ _ _ _ _ a=>a.elim) ?_ (λ_ _ _ _ a=>a.elim) Bl.none ⟨trivial,rfl⟩ ?_ ?_ ?_ (λ_ _ _ _ _ _ _ _ _ a=>a.elim)
 .rintro a0 U W c3 ⟨_,rfl⟩ cc
  exact⟨trivial,rfl⟩
 .rintro a0 U W ⟨_,rfl⟩ j b
  exact b.elim
 .rintro j (rfl|rfl|b)
  .exact⟨λa=>a,by omega⟩
  .exact⟨λa=>a,by omega⟩
  .exact⟨λa=>a,by have:=b.2;omega⟩
 .intro l a0 x ct az S ay W H
  rw[aw.o]at H;simp at H
 .rintro D ay W b2 cb ⟨_,rfl⟩ s ca b3;have c0:=s.heap ((E.block _ c1).t ao) (λa=>a);have Q:=s.heap (V.heap ai (λa=>a)) (λa=>a);obtain⟨co,cp,cq,cr,cs⟩:=cV c0;obtain⟨c4,c5,c6,c7,c8⟩:=cV Q;have c9:=aA Q;have ba:Marks w.heap.size [mk D] W:=(FQ w.heap.size r).cons (λD' _ a=>s.heap a (λe=>e)) (by have:=T.size;omega) b3 b2;have ap:Fr Bl.none w W:=(AB T).t (V.t s);have dc:r.heap.size<=W.heap.size:=s.size;have dd:c.heap.size<=r.heap.size:=V.size;have bp:aH W (New c i) f (g.ents.flatMap Ent.cells):=(a1.on N).on (s.on (λj b=>⟨by have:=b.2;omega,λa=>a⟩));have b6:=O.2.2;have bo:Hid (aH i (New c i) f (g.ents.flatMap Ent.cells)):=a1;have au:Hid (es.length<=h):=by have:=a4.o;show _<=_;omega
  have b0:=aB (aB (aB (aB (aB Q 0 (.t m.lo)) 1 (.t m.hi)) 2 (.i 0)) 3 (.s f g.ents.length h)) 4 .n;clear ag ah a1 bp b6 O;gi_wp2;obtain⟨k,A⟩:=nM (((((W.setCell (aD (w.heap.size+1+1) 0) (.t m.lo)).setCell (aD (w.heap.size+1+1) 1) (.t m.hi)).setCell (aD (w.heap.size+1+1) 2) (.i 0)).setCell (aD (w.heap.size+1+1) 3) (.s f g.ents.length h)).setCell (aD (w.heap.size+1+1) 4) .n);have C:Fr (Bl.one (w.heap.size+1+1)) W k:=by
   rw[<-A];exact((((((AE (Bl.one (w.heap.size+1+1)) W).s (w.heap.size+1+1) 0).s (w.heap.size+1+1) 1).s (w.heap.size+1+1) 2).s (w.heap.size+1+1) 3).s (w.heap.size+1+1) 4)
  have bz:cW k (w.heap.size+1+1) #[.t m.lo,.t m.hi,.i 0,.s f g.ents.length h,.n] 242:=by rw[<-A];simpa using b0
  have bb:Marks w.heap.size [mk D] k:=ba.on (λD' _ a=>C.heap a (λe=>by simp only[Bl.one]at e;subst e;rw[Q]at a;simp at a));have aq:Fr Bl.none w k:=ap.grow C (λj b=>.inr (by simp only[Bl.one]at b;omega));have de:w.heap.size+1+1<c.heap.size:=(gL ai);have ax:aH k (New w k) f (aT es):=by
   have q:=(bo.o.on N).on (s.on (λj b=>⟨by have:=b.2;omega,λa=>a⟩));have af:=q.on (C.on (Z:=New c i) (λj b=>⟨by have:=b.2;omega,λe=>by simp only[Bl.one]at e;have:=b.1;omega⟩));rw[Bo ar.o]at af;exact af.m (λj b=>⟨by have:=b.1;omega,by have:=b.2;have:=C.size;omega⟩)
  refine qKt (p:=4) rfl (w.heap.size+1+1) _ _ _ rfl (A▸bz) Tryz.underlying242 rfl (by kernel_rfl) (A▸bb) ?_;intro w' G;rw[A]at G;refine⟨f,h,by rw[<-a4.o],?_,au.o,(aq.took G (jU _)).below0⟩;have cf:=G.size;exact aH.took (ax.m (λj b=>⟨b.1,by have:=b.2;omega⟩)) G
def Zo{P}(w T j a zero z bytes)(l:P.underlying T=some (.slice a))(hi:(P.info? a).map (λi=>(i.zero,i.size,i.bytes))=some (some zero,z,bytes))(C:zero.cells.size=z)(p:0<z)(v n xs)(f:w.ownsRow 0 a z v n xs)(k m c S d)(o:d.length=m * z)(s:aH w S k d)(q:∀u∈d,u.oneCell'=true)(r:n+m<=140737488355328)(t:(n+m) * bytes<=140737488355328):
  ∃v' w',(Builtin.append_ #[T,T] j #[v,.s k m c]).run P w=.ok v' w'/\fF a z v n xs d m w v' w':=by
 rcases s with rfl|⟨b,h,rfl,_,x⟩
 .have A:m=0:=by
   rcases JJ m with e|e
   .exact e
   .have:=Nat.mul_pos e p;grind
  subst A;exact⟨v,w,Nw w T j a zero z bytes l hi v n xs f k c,by simpa using f,AE _ _,λD y=>.inl y⟩
 .refine yF w T j a zero z bytes l hi C p v n xs f (aD b h) m c d o (λg u B=>?_) q r t
  have:=x g u B;rw[show((aD b h):Addr).add g=(aD b (h+g)) by unfold Addr.add;split<;>simp_all];exact this
def Zz{P ops o a K Q F}(w)(r:o.guard=none)(f x T b zero z bytes)(t:o.op=.call {callee:=.builtin .append,args:=#[f,x],argTypes:=#[T,T]})(p:P.underlying T=some (.slice b))(hi:(P.info? b).map (λi=>(i.zero,i.size,i.bytes))=some (some zero,z,bytes))(G:zero.cells.size=z)(B:0<z)(v n xs)(A:a.eval f=v)(C:w.ownsRow 0 b z v n xs)(e m c S d)(E:a.eval x=.s e m c)(s:d.length=m * z)(l:aH w S e d)(j:∀u∈d,u.oneCell'=true)(k:n+m<=140737488355328)(q:(n+m) * bytes<=140737488355328)(h:∀v' w',fF b z v n xs d m w v' w'->K (a.put o.dst v') w'):
  if Region.wanted o (yielded ops a.tmps)=true then Oper.wp P o a w K Q else F:=by
 have D:Region.wanted o (yielded ops a.tmps)=true:=by simp[Region.wanted,r]
 rw[AU D];have⟨v',w',y,g⟩:=Zo (P:=P) w T o.type b zero z bytes p hi G B v n xs C e m c S d s l j k q;unfold Oper.wp execOp;simp only[t,resolve,invoke,builtin,EG,DZ,DJ,DM,BH,DB,A,E,y];exact h v' w' g
