import Derived.Test.YtdhgdcjmhofhaaaGreatD35
set_option linter.all false
set_option maxRecDepth 100000
set_option maxHeartbeats 8000000
namespace Go.Proofs.YtdhgdcjmhofhaaaGreat.Tree
open Go.RowKit Go.Shelf Pages
variable {ms:List MN}
attribute [local go_sem] CM
def nA(ch:T×Sp->List NT)(cs:List Ch)(x:T×Sp):List NT:=if (dF cs x.2).length=0 then [.kept x.1 x.2] else ch x
def mU(ch:T×Sp->List NT)(s:Sp)(ks:List ByteArray)(kids:List T)(cs:List Ch)(j:Nat):List NT:=((parts s ks kids).take j).flatMap (nA ch cs)
def Wl(a s ks b cs j x)(h:(parts s ks b)[j]?=some x):mU a s ks b cs (j+1)=mU a s ks b cs j++nA a cs x:=by
 have⟨c,d⟩:=AD.1 h;unfold mU;rw[AN c,BV,d];simp
def Qx(b s ks a cs j):(mU b s ks a cs j).length<=((parts s ks a).flatMap (nA b cs)).length:=by
 unfold mU;conv=>rhs;rw[<-CD j (parts s ks a),BV,jK]
 omega
abbrev qEe(s:Sp):Obj:=.cells #[.string s.lo,.string s.hi] 154
abbrev Xz(β:Nat)(root:Int)(ca:Option Addr)(cn cc:Nat):Obj:=.cells #[.pointer (some (aD β 0)),.int .i64 root,.slice ca cn cc] 90
abbrev pR(v:Value):Obj:=.cells #[v] 239
structure Ab (w W:World) (b:Nat) (v:Value) (ns:List NT) (ms:List MN) (Z:Bl):Prop where
 box:W.heap[b]?=some (pR v)
 row:W.ownsRow 0 242 5 v ms.length (aM ms)
 nds:bH W Z (ns.map ndT) ms
 new:∀k,v.ownBlock=some k->w.heap.size<=k
 apart:∀k,Z k->w.heap.size<=k/\k<W.heap.size/\v.ownBlock≠some k/\k≠b
def gH.tookT{w w' S B n m}(h:gH w S n m)(a:mP B w w'):gH w' S n m:=by
 induction h with
 |mk s place es kids m ms h1 h2 h3 h4 h5 h6 h7 h8 h9 h10 h11 ih=>exact .mk s place es kids m ms h1 h2 h3 h4 h5 h6 h7 (aH.took h8 a) (aH.took h9 a) h10 ih
def bH.tookT {w w' S B ns}(h:bH w S ns ms)(c:mP B w w'):bH w' S ns ms:=⟨h.1,λd e f a b=>(h.2 d e f a b).tookT c⟩
def Ab.more{w f e b v v' ns ns' ms ms' Z Z'}(d:Ab w f b v ns ms Z)(l:Fr (λk=>k=b\/v.ownBlock=some k) f e)(p:e.heap[b]?=some (pR v'))(r:e.ownsRow 0 242 5 v' (ms.length+ms'.length) (aM ms++aM ms'))(m:∀k,v'.ownBlock=some k->v.ownBlock=some k\/f.heap.size<=k)(q:bH e Z' (ns'.map ndT) ms')(o:∀k,Z' k->f.heap.size<=k/\k<e.heap.size/\v'.ownBlock≠some k)(u:w.heap.size<=f.heap.size):
  Ab w e b v' (ns++ns') (ms++ms') (Or2 Z Z'):=by
 have s:=(gL d.box);have t:=l.size;refine⟨p,by rw[jK,iC];exact r,?_,?_,?_⟩
 .rw[BM]
  refine bH.append ?_ (q.m (λk a=>.inr a));exact(d.nds.on (l.on (λk a=>⟨(d.apart k a).2.1,λc=>by rcases c with c|c;exact(d.apart k a).2.2.2 c;exact(d.apart k a).2.2.1 c⟩))).m (λk a=>.inl a)
 .intro k a
  rcases m k a with g|g
  .exact d.new k g
  .omega
 .rintro k (a|a)
  .have⟨i,j,h,n⟩:=d.apart k a
   refine⟨i,by omega,λc=>?_,n⟩;rcases m k c with g|g
   .exact h g
   .omega
  .have⟨i,j,h⟩:=o k a
   exact⟨by omega,j,h,by omega⟩
def Qh(w t a):bH w Bl.none ([NT.kept t a].map ndT) [eE (t,a)]:=Qi w [(t,a)]
def Ab.push {w i f b g c v ns Z}(t a)(j:Ab w i b v ns ms Z)(B:w.heap.size<=i.heap.size)(h:fF 242 5 v ms.length (aM ms) [.e,.e,.i 0,.n,.n] 1 i (.q g (ms.length+1) c) f):
  Ab w ((Uk f g (ms.length * 5) (eE (t,a))).setCell (aD b 0) (.q g (ms.length+1) c)) b (.q g (ms.length+1) c) (ns++[.kept t a]) (ms++[eE (t,a)]) (Or2 Z Bl.none) /\
  Ab w (Uk (f.setCell (aD b 0) (.q g (ms.length+1) c)) g (ms.length * 5) (eE (t,a))) b (.q g (ms.length+1) c) (ns++[.kept t a]) (ms++[eE (t,a)]) (Or2 Z Bl.none) /\
  Fr (λk=>k=b\/v.ownBlock=some k) i ((Uk f g (ms.length * 5) (eE (t,a))).setCell (aD b 0) (.q g (ms.length+1) c)) /\
  Fr (λk=>k=b\/v.ownBlock=some k) i (Uk (f.setCell (aD b 0) (.q g (ms.length+1) c)) g (ms.length * 5) (eE (t,a))):=by
 have n:=h.fr.heap j.box (aP j.row j.box (by decide));have m:g≠b:=λe=>aP h.row n (by decide) (by rw[e];rfl);have A:=iQ ms;have r:Fr (λk=>k=b\/v.ownBlock=some k) i f:=h.fr.m (λk d=>.inl (.inr d));have x:∀k,Bl.one g k->(k=b\/v.ownBlock=some k)\/i.heap.size<=k:=λk d=>by
  simp only[Bl.one]at d;subst d;exact(h.lies k rfl).imp (λE=>.inr E) id
 have l:∀(X:World),Fr (Bl.one b) X (X.setCell (aD b 0) (.q g (ms.length+1) c)):=λX=>(AE (Bl.one b) X).s b 0;have y:∀k,Bl.one b k->(k=b\/v.ownBlock=some k)\/i.heap.size<=k:=λk d=>.inl (.inl d);have s:=(r.grow (rG f g (ms.length * 5) (eE (t,a))) x).grow (l _) y;have u:=(r.grow (l f) y).grow (rG (f.setCell (aD b 0) (.q g (ms.length+1) c)) g (ms.length * 5) (eE (t,a))) x;have z:aM [eE (t,a)]=(eE (t,a)).cells:=by simp[aM]
 refine⟨?_,?_,s,u⟩
 .have o:=aB ((rG f g (ms.length * 5) (eE (t,a))).heap n (λe=>m (by simp only[Bl.one]at e;exact e.symm))) 0 (.q g (ms.length+1) c);refine j.more s (by simpa using o) ?_ h.lies (Qh _ t a) (λk d=>d.elim) B;rw[z];exact eJ (xC h.row (ms.length * 5) A (eE (t,a))) (l _) (λk d e=>by simp only[Bl.one]at e;subst e;exact m (by simpa[Value.ownBlock] using d))
 .have G:=xC (eJ h.row (l f) (λk d e=>by simp only[Bl.one]at e;subst e;exact m (by simpa[Value.ownBlock] using d))) (ms.length * 5) A (eE (t,a));have D:=(rG (f.setCell (aD b 0) (.q g (ms.length+1) c)) g (ms.length * 5) (eE (t,a))).heap (aB n 0 (.q g (ms.length+1) c)) (λe=>m (by simp only[Bl.one]at e;exact e.symm));refine j.more u (by simpa using D) ?_ h.lies (Qh _ t a) (λk d=>d.elim) B;rw[z];exact G
def ChR(ns:List NT)(W:World)(e:Ending)(w':World):Prop:=∃v ms,e=.returned v/\w'.ownsRow 0 242 5 v ms.length (aM ms)/\bH w' (New W w') (ns.map ndT) ms/\bW W w'/\∀k,v.ownBlock=some k->W.heap.size<=k
def Xb(β sv lv fs)(g8:(fs.life==0)=false)(root a2 a4 a3 h p s ks u cs ac aq S w)(bd:aV fs (h+1) (.branch p ks u) s)(a5:aF w β sv lv fs)(fy:aH w S ac (cs.flatMap Ch.cells))(az:lW S w)(gl:cF cs)(im:cs.length<=1000000)(g2:cs.length<=aq)(gs:(ac=none/\aq=0)\/∃b cw,ac=some (aD b cw))(y)(g4:∀x∈parts s ks u,(dF cs x.2).length≠0->∀(ak:Option Addr) (ao:Nat) (W:World),aF W β sv lv fs->aH W S ak ((dF cs x.2).flatMap Ch.cells)->(lW S W)->(dF cs x.2).length<=ao->((ak=none/\ao=0)\/∃b cw,ak=some (aD b cw))->cL 191 #[.agg #[.p β 0,.i root,.s a2 a4 a3],.i x.1.place,.agg #[.t x.2.lo,.t x.2.hi],.s ak (dF cs x.2).length ao] W (ChR (y x) W))(g5:((parts s ks u).flatMap (nA y cs)).length<=1000000)(ai)(bv:ai.length<=1000000)(gc:∀n∈ai,n.sp.lo.size<=24)(di:∀(ms:List MN) (e8:Option Addr) (e9:Nat) (Z:Bl) (W:World),aF W β sv lv fs->aH W Z e8 (aM ms)->bH W Z (((parts s ks u).flatMap (nA y cs)).map ndT) ms->(lW Z W)->((parts s ks u).flatMap (nA y cs)).length<=e9->cL 206 #[.agg #[.p β 0,.i root,.s a2 a4 a3],.s e8 ((parts s ks u).flatMap (nA y cs)).length e9] W λe w' =>
   ∃v rs,e=.r v/\w'.ownsRow 0 242 5 v rs.length (aM rs)/\bH w' (Apart Z W.heap.size v w') (ai.map ndT) rs/\bW W w'/\nW v W):
  cL 191 #[.agg #[.p β 0,.i root,.s a2 a4 a3],.i p,.agg #[.t s.lo,.t s.hi],.s ac cs.length aq] w (ChR (eH ai) w):=by
 obtain⟨g,dw,co,ba,dx,dz,⟨fe,ex,ey⟩,i9⟩:=bd;obtain⟨H,b7,d1,ei,ee,et,ek⟩:=al3 w (Xz β root a2 a4 a3) (qEe s) (.cells #[.s ac cs.length aq] 88); obtain⟨j9,ja,jb⟩:=eC ei;obtain⟨j7,j8⟩:=bY ee;have g6:aF H β sv lv fs:=a5.on (vV d1 a5.lies);obtain⟨eh,hj,hk⟩:=gK dw;have dm:=pF β sv lv fs root a2 a4 a3 p s g H g6 g8 dw (by simp[co]) (by rw[ba];exact fe) (by simp only[ba];exact ex) (by simp only[ba];exact ey) eh hk;have en:Hid (g.keys=ks):=ba;have em:Hid (g.kids=u.map (λt=>(t.place:Int))):=dx;have hu:Hid (u.length=ks.length+1):=dz;have er:Hid (H.heap.size=w.heap.size+3):=ek;have ih:(g.kind==3)=false:=by rw[co];rfl
 clear co ba dx dz ek;refine(AZ (n:=0)).1 (BX Tryz.func191 rfl trivial ?_ rfl);simp only[Tryz.ntmps191,jA,jB,jN,Nat.reduceAdd,Nat.reduceSub,jR,jO,jP,jT,jE,jF];gi_wp2_with (first
  |(refine⟨trivial,rfl,?_⟩;gi_at_call 144;refine(AZ.2 dm).m ?_;clear dm;rintro e Q ⟨ji,rfl,⟨c2,c0,bl,c3,c1,bm,rfl,ec,ed,he,cx⟩,dr⟩;obtain⟨d,ck,-,cz,-⟩:=al1 Q (pgO g c2 c0 bl c3 c1 bm);obtain⟨gv,gw,gx,gy,gz,h0,h1,h2⟩:=bO cz;have db:Fr Bl.none H d:=(AB dr).t (ck▸(AE _ Q).alloc _);have hg:=db.heap ee (λh=>h);have ef:=aQ (pR .n) hg;obtain⟨hh,hi⟩:=bY ef;have b0:=aQ (pR .n) cz;obtain⟨h3,h4,h5,h6,h7,h8,h9,ha⟩:=bO b0;have dj:=nT g s c2 c0 bl c3 c1 bm (d.alloc (pR .n)))
  |(refine⟨trivial,rfl,?_⟩;gi_at_call 145;refine(AZ.2 dj).m ?_;clear dj;rintro e af ⟨rfl,d0,c6,br⟩))
 clear hh hi h3 h4 h5 h6 h7 h8 h9 ha gv gw gx gy gz h0 h1 h2;obtain⟨av,b8,-,hb,hr⟩:=al1 d (pR .n);rw[b8]at d0 c6 br ef b0; rw[hr]at d0 c6;have f5:Fr Bl.none H av:=db.t (b8▸(AE _ d).alloc _);have cc:Fr Bl.none H af:=f5.t (AB br);have ju:=dr.size;have jv:Q.heap.size<d.heap.size:=(gL cz);have jx:d.heap.size+1+1<af.heap.size:=(gL c6);have e7:=(br.block _ (by omega)).t hb;have ej:=cc.heap ei (λh=>h);have eu:=cc.heap et (λh=>h);have c7:Fr Bl.none w af:=(AB d1).t cc;have ib:aF af β sv lv fs:=a5.on (c7.on (λk c=>⟨a5.lies k c,λh=>h⟩));have jz:=er.o;have ct:On (New H Q) Q af:=((ck▸(CN _ Q).alloc (λk c=>c.2) _:On (New H Q) Q d).t (b8▸(CN _ d).alloc (λk c=>by have:=c.2;omega) _:On (New H Q) d av)).t (vV br (λk c=>by have:=c.2;omega));let Rd:Bl:=λk=>k=d.heap.size+1\/k=d.heap.size+1+1\/New H Q k;have gq:=nS (d.heap.size+1+1) (d.heap.size+1) s g.kind g.ver g.root g.next c2 c0 bl c3 c1 g.ents.length bm g.data g.keys g.kids Rd af c6 d0 ((ec.on ct).m (λk c=>.inr (.inr c))) ((ed.on ct).m (λk c=>.inr (.inr c))) (.inr (.inl rfl)) (.inl rfl) eh hj cx.1 cx.2.1;have e5:parts s g.keys g.kids=(parts s ks u).map (λx=>((x.1.place:Int),x.2)):=by rw[en.o,em.o,nL]
 have ca:Hid (parts s g.keys g.kids=(parts s ks u).map (λx=>((x.1.place:Int),x.2))):=e5;clear e5 ec ed he cx ct;let NA:=d.heap.size;let I:List (Int×Sp)->Bl->World->Prop:=λC Y W=>∃v ms Z,Ab w W NA v (mU y s ks u cs C.length) ms Z/\(∀k,Y k↔k=NA\/v.ownBlock=some k\/Z k);refine fI (P:=Tryz.prog) (Has:=sA) (Rd:=Rd) rfl (enters_of Tryz.func167 (by kernel_rfl) rfl) gq (λx d7 S W ch=>by rw[ch];rfl) I (λ_ _ _ _=>False) ?_ (λ_ _ _ _ _ h=>h.elim) ?_ (λ_ _ _ _ h=>h.elim) (Bl.one NA) ⟨.n,[],Bl.none,⟨e7,by simpa[aM] using AL _ _ _ _,by simpa[mU] using bH.nil _ _,by simp[Value.ownBlock],λk c=>c.elim⟩,λk=>by simp[Bl.one,Bl.none,Value.ownBlock]⟩ ?_ ?_ ?_ (λ_ _ _ _ _ _ _ _ _ h=>h.elim)
 .rintro C Y A B ⟨v,ms,Z,⟨a0,a8,ce,de,b3⟩,ay⟩ bw
  exact⟨v,ms,Z,⟨bw.heap a0 ((ay _).2 (.inl rfl)),aS a8 bw (λk c=>(ay k).2 (.inr (.inl c))),ce.on (bw.m (λk c=>(ay k).2 (.inr (.inr c)))),de,λk c=>⟨(b3 k c).1,jY (b3 k c).2.1 bw.size,(b3 k c).2.2⟩⟩,ay⟩
 .rintro C Y A ⟨v,ms,Z,⟨a0,a8,ce,de,b3⟩,ay⟩ k c
  rcases(ay k).1 c with rfl|h|h
  .exact(gL a0)
  .exact aK a8 h
  .exact(b3 k h).2.1
 .rintro k (rfl|rfl|c)
  .exact⟨λh=>by simp only[Bl.one,NA]at h;omega,by omega⟩
  .exact⟨λh=>by simp only[Bl.one,NA]at h;omega,by omega⟩
  .exact⟨λh=>by simp only[Bl.one,NA]at h;have:=c.2;omega,by have:=c.2;omega⟩
 .
  rintro l C x j6 d7 hx al W ah ⟨v,ms,Z,E,N⟩ ch bp ag fq ii ij g9 ⟨r,ip⟩;have bv:C.length<u.length:=by
   have:=CI List.length ah;rw[ca.o]at this;simp[cO]at this;omega
  obtain⟨G,dy⟩:=nM (u[C.length]'bv);obtain⟨f,e3⟩:=nM ((⟨lF s ks C.length,pZ s ks C.length⟩:Sp));have bc:=fL s ks u C.length bv;rw[dy,e3]at bc;have gt:x=((G.place:Int),f):=by
   have a0:(parts s g.keys g.kids)[C.length]?=some x:=by rw[ah];simp
   rw[ca.o,BN,bc]at a0;simpa using a0.symm
  have gj:=BL bc;have dh:=g4 _ gj;have c9:Hid (mU y s ks u cs (C.length+1)=mU y s ks u cs C.length++nA y cs (G,f)):=Wl y s ks u cs C.length (G,f) bc;have ic:=Qx y s ks u cs C.length;have ie:=Qx y s ks u cs (C.length+1);subst gt;have fr:d7=#[.i G.place,.agg #[.t f.lo,.t f.hi]]:=ch;subst fr;have ht:af.heap.size<=W.heap.size:=ag.size;have cy:=ag.heap ej (λh=>by simp only[Bl.one,NA]at h;omega);have ev:=ag.heap eu (λh=>by simp only[Bl.one,NA]at h;omega);have a7:Fr (Bl.one NA) w W:=(c7.m (λ_ h=>h.elim)).t ag;have c4:∀k,k<w.heap.size->¬Bl.one NA k:=λk c e=>by simp only[Bl.one,NA]at e;omega
  have bu:aF W β sv lv fs:=a5.on (a7.on (λk c=>⟨a5.lies k c,c4 k (a5.lies k c)⟩));have g0:aH W S ac (cs.flatMap Ch.cells):=fy.on (a7.on (λk c=>⟨az k c,c4 k (az k c)⟩));have gu:lW al W:=by
   intro k c;rcases(N k).1 c with rfl|h|h
   .exact(gL E.box)
   .exact aK E.row h
   .exact(E.apart k h).2.1
  clear dy e3 bc ah;unfold iY;gi_wp2;refine⟨(AE _ W).alloc _,?_⟩;intro R bq;have cb:Fr Bl.none W (W.alloc (qEe f)):=(AE _ W).alloc _;have c5:=bq.heap (aC W (qEe f)) (by omega);have bf:=bq.heap (cb.heap cy (λh=>h)) (by omega);have ew:=bq.heap (cb.heap ev (λh=>h)) (by omega);have bn:Fr (Bl.one l) W R:=(cb.m (λ_ h=>h.elim)).t bq.fr;have jt:=bn.size;have el:W.heap.size<R.heap.size:=(gL c5);have eb:∀k,k<w.heap.size->¬Bl.one l k:=λk c e=>by simp only[Bl.one]at e;omega
  have du:aF R β sv lv fs:=bu.on (bn.on (λk c=>⟨bu.lies k c,eb k (a5.lies k c)⟩));have dn:aH R S ac (cs.flatMap Ch.cells):=g0.on (bn.on (λk c=>⟨by have:=az k c;have:=a7.size;omega,eb k (az k c)⟩));have cu:On al W R:=bn.on (λk c=>⟨gu k c,λe=>by simp only[Bl.one]at e;subst e;exact g9 c⟩);have F:Ab w R NA v (mU y s ks u cs C.length) ms Z:=⟨cu.heap E.box ((N _).2 (.inl rfl)),aS E.row cu (λk c=>(N k).2 (.inr (.inl c))),E.nds.on (cu.m (λk c=>(N k).2 (.inr (.inr c)))),E.new,λk c=>⟨(E.apart k c).1,by have:=(E.apart k c).2.1;omega,(E.apart k c).2.2⟩⟩;obtain⟨f2,f3,f4⟩:=eC bf;obtain⟨i1,da⟩:=bY c5;have i0:=bJ ew;have b9:=Dd ac aq cs f S R dn (λk c=>by have:=az k c;have:=a7.size;omega) gl (by omega) g2 gs;obtain⟨own,cq⟩:=nM (dF cs f);rw[cq]at b9;have dp:lW S R:=λk c=>by have:=az k c;have:=a7.size;omega
  have au:Hid (dF cs f=own):=cq;clear cq;by_cases hz:own.length=0
  .gi_wp2_with (refine⟨trivial,rfl,?_⟩;gi_at_call 176;refine(EA l (AZ.2 b9)).m ?_;clear b9;rintro e i ⟨ak,ao,rfl,bt,L⟩)
   have hq:=L.size;have ab:=(L.block _ el).t c5;have ap:=(L.block _ (by have:=(gL bf);omega)).t bf;have J:Ab w i NA v (mU y s ks u cs C.length) ms Z:=⟨(L.block _ (gL F.box)).t F.box,aS F.row (vV L (Y:=λk=>v.ownBlock=some k) (λk c=>aK F.row c)) (λk c=>c),F.nds.on (vV L (λk c=>(F.apart k c).2.1)),F.new,λk c=>⟨(F.apart k c).1,by have:=(F.apart k c).2.1;omega,(F.apart k c).2.2⟩⟩;have bb:ms.length<=1000000:=by have:=J.nds.1;rw[AF]at this;omega
   obtain⟨m,o,rfl⟩:=aG J.row;have V:i.heap[d.heap.size]?=some (pR (.s m ms.length o)):=J.box;obtain⟨dc,dd⟩:=bY ab;obtain⟨hn,ho,hp⟩:=eC ap;have d9:=bJ V;have ar:Hid (∀a1 v' aj U,Ab w a1 NA v' (mU y s ks u cs C.length++nA y cs (G,f)) aj (Or2 Z U)->Fr (λk=>k=NA\/(Value.slice m ms.length o).ownBlock=some k) i a1->(∀k,v'.ownBlock=some k->(Value.slice m ms.length o).ownBlock=some k\/i.heap.size<=k)->(∀k,U k->i.heap.size<=k)->∃b2,I (C++[((G.place:Int),f)]) b2 a1/\Fr al R a1/\aJ R al b2):=by
    intro a1 v' aj U b4 cg cr cm;refine⟨λk=>k=NA\/v'.ownBlock=some k\/Or2 Z U k,⟨v',aj,Or2 Z U,?_,λk=>FT⟩,(AB L).t (cg.m (λk c=>.inl ((N k).2 (by rcases c with c|c;exact .inl c;exact .inr (.inl c))))),?_⟩
    .rw[jK,AM,c9.o];exact b4
    .rintro k (c|c|c|c)
     .exact .inl ((N k).2 (.inl c))
     .exact(cr k c).imp (λh=>(N k).2 (.inr (.inl h))) (λh=>by omega)
     .exact .inl ((N k).2 (.inr (.inr c)))
     .exact .inr (by have:=cm k c;omega)
   have b1:Hid (nA y cs (G,f)=[.kept G f]):=by
    show _=_
    unfold nA;rw[AU (by rw[au.o];exact hz)]
   have b5:=(show(λX:World=>X.c W.heap.size 0=some (.t f.lo)/\X.c W.heap.size 1=some (.t f.hi)/\X.c d.heap.size 0=some (.s m ms.length o)) i.drew from ⟨dc,dd,d9⟩);refine kW (S:=λX=>X.c W.heap.size 0=some (.t f.lo)/\X.c W.heap.size 1=some (.t f.hi)/\X.c d.heap.size 0=some (.s m ms.length o)) 9 (by kernel_rfl) (by kernel_rfl) (λ_ _ h=>h) ?_;refine tks [(0,.s m ms.length o),(1,.agg #[.t f.lo,.t f.hi]),(2,.i G.place),(3,.agg #[.t f.lo,.t f.hi,.i G.place,.n,.n]),(4,.i ms.length)] (by assumption) ?_;iterate 5 (refine⟨_,rfl,by kernel_rfl,λ_ _ _ h=>h,.inl ⟨by rfl,λw b6=>by(try dsimp only at b6);go_simp⟩,?_⟩;try simp only[pS])
   refine tke ?_;obtain⟨fc,fd⟩:=bY (aQ (.cells #[.e,.e,.i 0,.n,.n] 242) ab);have ez:=bJ (aQ (.cells #[.e,.e,.i 0,.n,.n] 242) V);refine aR (i:=5) (by kernel_rfl) rfl (λK z=>?_);go_simp;refine z.out _ _ (λ_=>⟨fc,fd,ez⟩) ?_;clear z K;try simp only[pS]
   refine aR (i:=6) (by kernel_rfl) rfl (λK z=>?_);refine iZ i.drew rfl (.tmp 39) (.tmp 44) 239 242 _ 5 88 rfl Tryz.underlying239 iT rfl (by decide) (.s m ms.length o) ms.length (aM ms) (by simp[Act.eval,Act.put]) J.row [.e,.e,.i 0,.n,.n] (by simp[Act.eval,Act.put]) rfl (by simp[Value.oneCell']) (by omega) (by omega) ?_;intro hl M bg;obtain⟨ax,e6,rfl⟩:=bg.shape (by decide);have ad:fF 242 5 (.s m ms.length o) ms.length (aM ms) [.e,.e,.i 0,.n,.n] 1 i (.q ax (ms.length+1) e6) M:=⟨bg.row,(AE _ i).drew.t bg.fr,bg.lies⟩;obtain⟨fu,fv,fw,fx⟩:=J.push G f (by have:=a7.size;omega) ad;have b0:=ad.fr.heap ab (aP J.row ab (by decide));obtain⟨df,dg⟩:=bY b0;have bi:M.heap[d.heap.size]?=some (pR (.s m ms.length o)):=ad.fr.heap V (aP J.row V (by decide));have ea:ax≠d.heap.size:=λe=>aP ad.row bi (by decide) (by rw[e];rfl);have hd:ax≠W.heap.size:=λe=>aP ad.row b0 (by decide) (by rw[e];rfl);have bk:=bJ bi;have fb:=aA bi;have a9:∀t,t<(ms.length+1) * 5->_:=λt bd=>eK ad.row t bd;have fa:Fr (Bl.one d.heap.size) M (M.setCell (aD d.heap.size 0) (.q ax (ms.length+1) e6)):=(AE (Bl.one d.heap.size) M).s d.heap.size 0;have hf:=eJ ad.row fa (λk c e=>by simp only[Bl.one]at e;subst e;exact ea (by simpa[Value.ownBlock] using c));have aa:∀t,t<(ms.length+1) * 5->_:=λt bd=>eK hf t bd;have eg:=rG M ax (ms.length * 5) (eE (G,f));have d8:=eg.heap bi (λe=>ea (by simp only[Bl.one]at e;exact e.symm));have f1:=bJ d8;have i2:=aA d8;obtain⟨ff,fg⟩:=bY (eg.heap b0 (λe=>hd (by simp only[Bl.one]at e;exact e.symm)));have ig:(ms.length:Int)<(ms.length:Int)+1:=by omega
   have ep:=ar.o _ _ _ Bl.none (by rw[b1.o];exact fu) fw ad.lies (λk c=>c.elim);have eq:=ar.o _ _ _ Bl.none (by rw[b1.o];exact fv) fx ad.lies (λk c=>c.elim);have b5:=(show(λX:World=>X.c W.heap.size 0=some (.t f.lo)/\X.c W.heap.size 1=some (.t f.hi)/\X.c d.heap.size 0=some (.s m ms.length o)) M from ⟨df,dg,bk⟩);refine z.out _ _ (λ_=>⟨df,dg,bk⟩) ?_;clear z K;try simp only[pS]
   refine zZ (i:=7) (v:=.p ax (ms.length * 5)) rfl (by kernel_rfl) (λ_ _ _ h=>h) (.inl ⟨by rfl,λw b6=>by(try dsimp only at b6);go_simp⟩) (by assumption) (λb5=>?_);try simp only[pS]
   obtain⟨jc,ir⟩:=BJ.1 (a9 (ms.length * 5) (by omega)).1;obtain⟨jd,iu⟩:=BJ.1 (a9 (ms.length * 5+1) (by omega)).1;obtain⟨je,iv⟩:=BJ.1 (a9 (ms.length * 5+2) (by omega)).1;obtain⟨jf,iw⟩:=BJ.1 (a9 (ms.length * 5+3) (by omega)).1;obtain⟨jg,ix⟩:=BJ.1 (a9 (ms.length * 5+4) (by omega)).1;have i3:=(a9 (ms.length * 5) (by omega)).2;have i4:=(a9 (ms.length * 5+1) (by omega)).2;have i5:=(a9 (ms.length * 5+2) (by omega)).2;have i6:=(a9 (ms.length * 5+3) (by omega)).2;have i7:=(a9 (ms.length * 5+4) (by omega)).2;clear ar b5;refine mO (i:=8) (j:=9) (by kernel_rfl) rfl rfl (λK z=>?_) (λK z=>?_)
   .go_simp
    refine z.out _ _ (λ_=>⟨ff,fg,f1⟩) ?_;clear z K;try simp only[pS]
    refine aR (i:=9) (by kernel_rfl) rfl (λK z=>?_);go_simp;refine z.out _ _ (λe=>by cases e) ?_;clear z K;refine dC (by kernel_rfl) ?_ _;gi_wp2;exact ep
   .go_simp
    obtain⟨jj,iz⟩:=BJ.1 (aa (ms.length * 5) (by omega)).1;obtain⟨jk,j0⟩:=BJ.1 (aa (ms.length * 5+1) (by omega)).1;obtain⟨jl,j1⟩:=BJ.1 (aa (ms.length * 5+2) (by omega)).1;obtain⟨jm,j2⟩:=BJ.1 (aa (ms.length * 5+3) (by omega)).1;obtain⟨jn,j3⟩:=BJ.1 (aa (ms.length * 5+4) (by omega)).1;have jo:=(aa (ms.length * 5) (by omega)).2;have jp:=(aa (ms.length * 5+1) (by omega)).2;have jq:=(aa (ms.length * 5+2) (by omega)).2;have jr:=(aa (ms.length * 5+3) (by omega)).2;have js:=(aa (ms.length * 5+4) (by omega)).2;refine z.out _ _ (λe=>by cases e) ?_;clear z K;try simp only[pS]
    refine aR (i:=8) (by kernel_rfl) rfl (λK z=>?_);go_simp;refine z.out _ _ (λe=>by cases e) ?_;clear z K;refine dC (by kernel_rfl) ?_ _;gi_wp2;exact eq
  .have j4:¬own=[]:=λe=>hz (by rw[e];rfl)
   gi_wp2_with (refine⟨trivial,rfl,?_⟩;gi_at_call 176;refine(EA l (AZ.2 b9)).m ?_;clear b9;rintro e i ⟨ak,ao,rfl,bt,L⟩);have hq:=L.size;have ab:=(L.block _ el).t c5;have ap:=(L.block _ (by have:=(gL bf);omega)).t bf;have J:Ab w i NA v (mU y s ks u cs C.length) ms Z:=⟨(L.block _ (gL F.box)).t F.box,aS F.row (vV L (Y:=λk=>v.ownBlock=some k) (λk c=>aK F.row c)) (λk c=>c),F.nds.on (vV L (λk c=>(F.apart k c).2.1)),F.new,λk c=>⟨(F.apart k c).1,by have:=(F.apart k c).2.1;omega,(F.apart k c).2.2⟩⟩;have bb:ms.length<=1000000:=by have:=J.nds.1;rw[AF]at this;omega
   obtain⟨m,o,rfl⟩:=aG J.row;have V:i.heap[d.heap.size]?=some (pR (.s m ms.length o)):=J.box;obtain⟨dc,dd⟩:=bY ab;obtain⟨hn,ho,hp⟩:=eC ap;have d9:=bJ V;have ar:Hid (∀a1 v' aj U,Ab w a1 NA v' (mU y s ks u cs C.length++nA y cs (G,f)) aj (Or2 Z U)->Fr (λk=>k=NA\/(Value.slice m ms.length o).ownBlock=some k) i a1->(∀k,v'.ownBlock=some k->(Value.slice m ms.length o).ownBlock=some k\/i.heap.size<=k)->(∀k,U k->i.heap.size<=k)->∃b2,I (C++[((G.place:Int),f)]) b2 a1/\Fr al R a1/\aJ R al b2):=by
    intro a1 v' aj U b4 cg cr cm;refine⟨λk=>k=NA\/v'.ownBlock=some k\/Or2 Z U k,⟨v',aj,Or2 Z U,?_,λk=>FT⟩,(AB L).t (cg.m (λk c=>.inl ((N k).2 (by rcases c with c|c;exact .inl c;exact .inr (.inl c))))),?_⟩
    .rw[jK,AM,c9.o];exact b4
    .rintro k (c|c|c|c)
     .exact .inl ((N k).2 (.inl c))
     .exact(cr k c).imp (λh=>(N k).2 (.inr (.inl h))) (λh=>by omega)
     .exact .inl ((N k).2 (.inr (.inr c)))
     .exact .inr (by have:=cm k c;omega)
   have b1:Hid (nA y cs (G,f)=y (G,f)):=by
    show _=_
    unfold nA;rw[AR (by rw[au.o];exact hz)]
   have dt:aF i β sv lv fs:=du.on (vV L du.lies);have fz:=bt.2.1 i (dn.on (vV L dp));have cf:=dh (by rw[au.o];exact hz) ak ao i.drew (dt.on (vV (AC _ i).drew dt.lies)) (by rw[au.o];exact fz) (λk c=>by have:=dp k c;show k<i.heap.size;omega) (by rw[au.o];exact bt.1) bt.2.2;rw[au.o]at cf;have d4:Hid (∀X,bW i.drew X->X.c w.heap.size 0=some (.p β 0)/\X.c w.heap.size 1=some (.i root)/\X.c w.heap.size 2=some (.s a2 a4 a3)/\X.c W.heap.size 0=some (.t f.lo)/\X.c W.heap.size 1=some (.t f.hi)/\X.c d.heap.size 0=some (.s m ms.length o)):=by
    intro X cl;obtain⟨da,f6,f7⟩:=eC ((cl.block w.heap.size (gL ap)).t ap);obtain⟨f8,f9⟩:=bY ((cl.block W.heap.size (gL ab)).t ab);exact⟨da,f6,f7,f8,f9,bJ ((cl.block d.heap.size (gL V)).t V)⟩
   have b5:=d4.o i.drew (AC _ _);clear hz dh;refine kW (S:=λX=>X.c w.heap.size 0=some (.p β 0)/\X.c w.heap.size 1=some (.i root)/\X.c w.heap.size 2=some (.s a2 a4 a3)/\X.c W.heap.size 0=some (.t f.lo)/\X.c W.heap.size 1=some (.t f.hi)/\X.c d.heap.size 0=some (.s m ms.length o)) 7 (by kernel_rfl) (by kernel_rfl) (λ_ _ h=>h) ?_;refine tks [(0,.s m ms.length o),(1,.agg #[.p β 0,.i root,.s a2 a4 a3]),(2,.i G.place),(3,.agg #[.t f.lo,.t f.hi]),(4,.s ak own.length ao)] (by assumption) ?_;iterate 5 (refine⟨_,rfl,by kernel_rfl,λ_ _ _ h=>h,.inl ⟨by rfl,λw b6=>by(try dsimp only at b6);go_simp⟩,?_⟩;try simp only[pS])
   refine tke ?_;refine aR (i:=5) (by kernel_rfl) rfl (λK z=>?_);go_simp;go_at_call 191;refine Calls.m cf ?_;clear cf;rintro e M ⟨hl,a6,rfl,gg,dk,ds,ik⟩;try simp only[]
   refine z.out _ _ (λ_=>d4.o M ds) ?_;clear z K b5;try simp only[pS]
   have bo:bW i M:=(AC _ i).drew.t ds;have cv:∀k,(Value.slice m ms.length o).ownBlock=some k->k<i.heap.size:=λk c=>aK J.row c;have gh:M.ownsRow 0 242 5 (.s m ms.length o) ms.length (aM ms):=aS J.row (vV bo (Y:=λk=>(Value.slice m ms.length o).ownBlock=some k) cv) (λk c=>c);obtain⟨es,bk,rfl,ia,gn⟩:=bR gg;have il:a6.length<=1000000:=by
    have a0:=dk.1;rw[AF]at a0;have a8:=CI List.length c9.o;rw[b1.o,jK]at a8;omega
   refine aR (i:=6) (by kernel_rfl) rfl (λK z=>?_);refine Zz M rfl (.tmp 47) (.tmp 52) 239 242 _ 5 88 rfl Tryz.underlying239 iT rfl (by decide) (.s m ms.length o) ms.length (aM ms) (by simp[Act.eval,Act.put]) gh es a6.length bk _ (aM a6) (by simp[Act.eval,Act.put]) (iQ a6) gn (oM a6) (by omega) (by omega) ?_;intro hm aw ae;obtain⟨am,an,rfl⟩:=aG ae.row;have bj:aw.heap[d.heap.size]?=some (pR (.s m ms.length o)):=ae.fr.heap ((bo.block _ (gL V)).t V) (aP J.row V (by decide));have f0:=bJ bj;have fb:=aA bj;have c8:Fr (λk=>(Value.slice m ms.length o).ownBlock=some k) i aw:=(AB bo).t ae.fr;obtain⟨fh,fi⟩:=bY (c8.heap ab (aP J.row ab (by decide)));obtain⟨fj,fk,fl⟩:=eC (c8.heap ap (aP J.row ap (by decide)));have cd:Fr (Bl.one d.heap.size) aw (aw.setCell (aD d.heap.size 0) (.s am (ms.length+a6.length) an)):=(AE (Bl.one d.heap.size) aw).s d.heap.size 0;have jw:=bo.size;have hs:=ae.fr.size;have j5:d.heap.size<i.heap.size:=(gL V);have hc:(Value.slice am (ms.length+a6.length) an).ownBlock≠some d.heap.size:=aP ae.row bj (by decide);have d2:Fr (λk=>k=NA\/(Value.slice m ms.length o).ownBlock=some k) i (aw.setCell (aD d.heap.size 0) (.s am (ms.length+a6.length) an)):=(c8.m (λk c=>.inl (.inr c))).t (cd.m (λk c=>.inl (.inl (by simp only[Bl.one]at c;exact c))));have bz:∀k,(Value.slice am (ms.length+a6.length) an).ownBlock=some k->(Value.slice m ms.length o).ownBlock=some k\/i.heap.size<=k:=λk c=>(ae.lies k c).imp id (λh=>by omega);have b4:=J.more (ns':=y (G,f)) (ms':=a6) (Z':=New i M) d2 (by have:=aB bj 0 (.s am (ms.length+a6.length) an);simpa using this) (eJ ae.row cd (λk c e=>by simp only[Bl.one]at e;subst e;exact hc c)) bz
    ((dk.on (ae.fr.on (λk c=>⟨c.2,λe=>by have a0:=cv k e;have a8:i.heap.size<=k:=c.1;omega⟩))).on (cd.on (λk c=>⟨by have:=c.2;omega,λe=>by simp only[Bl.one]at e;have a8:i.heap.size<=k:=c.1;omega⟩)))
    (λk c=>⟨c.1,by have:=c.2;simp;omega,λe=>by have a8:i.heap.size<=k:=c.1;have ce:=c.2;rcases ae.lies k e with h|h;exact absurd (cv k h) (by omega);omega⟩) (by have:=a7.size;omega)
   have eo:=ar.o _ _ _ (New i M) (by rw[b1.o];exact b4) d2 bz (λk c=>c.1);refine z.out _ _ (λ_=>⟨fj,fk,fl,fh,fi,f0⟩) ?_;clear z K ar;try simp only[pS]
   refine aR (i:=7) (by kernel_rfl) rfl (λK z=>?_);go_simp;refine z.out _ _ (λe=>by cases e) ?_;clear z K;refine dC (by kernel_rfl) ?_ _;gi_wp2;exact eo
 .rintro D al W fo i8 ⟨v,ms,Z,E,N⟩ ag fq fp
  have dq:mU y s ks u cs (parts s g.keys g.kids).length=(parts s ks u).flatMap (nA y cs):=by
   rw[ca.o,AF];unfold mU;rw[BK]
  rw[dq]at E;obtain⟨be,cp⟩:=nM ((parts s ks u).flatMap (nA y cs));rw[cp]at E di g5;have hw:Hid ((parts s ks u).flatMap (nA y cs)=be):=cp;clear cp dq;have ht:af.heap.size<=W.heap.size:=ag.size;have cy:=ag.heap ej (λh=>by simp only[Bl.one,NA]at h;omega);have a7:Fr (Bl.one NA) w W:=(c7.m (λ_ h=>h.elim)).t ag;have c4:∀k,k<w.heap.size->¬Bl.one NA k:=λk c e=>by simp only[Bl.one,NA]at e;omega
  have bu:aF W β sv lv fs:=a5.on (a7.on (λk c=>⟨a5.lies k c,c4 k (a5.lies k c)⟩));have bb:ms.length=be.length:=by have:=E.nds.1;rwa[AF]at this
  obtain⟨m,o,gr,iy,gm⟩:=bR E.row;subst gr;have hy:W.c d.heap.size 0=some (.s m ms.length o):=bJ E.box;have bp:∀b,((Value.slice m ms.length o).ownBlock=some b\/Z b)->b<W.heap.size:=λb g1=>g1.elim (λh=>aK E.row h) (λh=>(E.apart b h).2.1);have ci:=di ms m o (λk=>(Value.slice m ms.length o).ownBlock=some k\/Z k) W bu (gm.m (λk c=>.inl c)) (E.nds.m (λk c=>.inr c)) bp (by omega);rw[<-bb]at ci;have hv:Hid (ms.length=be.length):=bb;clear bb;obtain⟨f2,f3,f4⟩:=eC cy;have gd:Marks w.heap.size [mk D] W:=(FQ w.heap.size af).cons (λD' _ h=>ag.heap h (λe=>by simp only[Bl.one,NA]at e;subst e;rw[e7]at h;simp at h)) (by omega) fp fo;have d5:Hid (bW w W):=a7.below (jU _) (λk c=>by simp only[Bl.one,NA]at c;omega);have gf:∀k,((Value.slice m ms.length o).ownBlock=some k\/Z k)->w.heap.size<=k:=λk c=>c.elim (E.new k) (λh=>(E.apart k h).1);have e4:=d5.o.size;gi_wp2_with (first
   |(refine⟨trivial,rfl,?_⟩;gi_at_call 206;refine(AZ.2 ci).m ?_;clear ci;rintro e d6 ⟨hm,rs,rfl,e0,cj,cn,ga⟩;obtain⟨am,an,bz,g3,gp⟩:=bR e0;subst bz;have d3:Hid (rs.length=ai.length):=(by have:=cj.1;rwa[AF]at this);have io:=bv;have hs:=cn.size;have dv:∀x∈rs,x.lo.size<=24:=(λx ah=>(by obtain⟨O,g7,rfl⟩:=AV ah;have a0:O<ai.length:=(by have:=d3.o;omega);have a8:=(cj.2 O (ndT ai[O]) rs[O] (by rw[BN,jQ a0];rfl) (jQ g7)).lo;rw[a8,tC];exact gc _ (AA a0)));have dl:=mQ am an rs (λk=>w.heap.size<=k/\k<d6.heap.size) d6 (gp.m (λk c=>⟨vJ e4 (ga k c),aK e0 c⟩)) (λk c=>c.2) (by have:=d3.o;omega) g3 (λx ah=>dv x ah) (λx ah=>(by have:=dv x ah;unfold ksz;omega)))
   |(refine⟨trivial,rfl,?_⟩;gi_at_call 192;refine(AZ.2 dl).m ?_;clear dl;rintro e bh ⟨jh,qs,rfl,gi,gk,e2,bs,gb⟩))
  have jy:=bs.size;have ge:Marks w.heap.size [mk D] bh:=gd.on (λD' _ h=>(bs.block _ (by have:=(gL h);omega)).t ((cn.block _ (gL h)).t h));refine Rn rfl ge ?_;intro w' bx;have iq:=bx.size;have fm:bW w bh:=(d5.o.t (cn.m e4)).t (bs.m (by omega));have ft:bH bh (New w bh) (ai.map ndT) rs:=(cj.on (vV bs (λk c=>by rcases c.1 with h|h;have:=bp k h;omega;exact h.2))).m (λk c=>by
   rcases c.1 with h|h
   .exact⟨gf k h,by have:=bp k h;omega⟩
   .exact⟨by omega,by omega⟩)
  have fn:=Gw (w:=w) ft gk (λq e1=>⟨(e2 q e1).1,(e2 q e1).2.m (λk c=>⟨c.1,by omega⟩)⟩);refine⟨_,qs.map mB,rfl,?_,?_,fm.t bx.below,λk c=>by have:=gb k c;omega⟩
  .rw[AF];exact sW gi bx
  .rw[zA]
   refine bH.tookT (fn.m (λk c=>⟨c.1,by have:=c.2;omega⟩)) bx
