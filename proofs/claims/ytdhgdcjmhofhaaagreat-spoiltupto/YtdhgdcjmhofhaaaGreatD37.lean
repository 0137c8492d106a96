import Derived.Test.YtdhgdcjmhofhaaaGreatD36
set_option linter.all false
set_option maxRecDepth 100000
set_option maxHeartbeats 8000000
namespace Go.Proofs.YtdhgdcjmhofhaaaGreat.Tree
open Go.RowKit Go.Shelf Pages Tryz
variable {ms:List MN}
attribute [local go_sem] CE
def pM(ch:T×Sp->List NT)(cs:List Ch)(x:T×Sp):List NT:=if (dH cs x.2).length=0 then [.kept x.1 x.2] else ch x
def pZ(ch:T×Sp->List NT)(s:Sp)(ks:List ByteArray)(kids:List T)(cs:List Ch)(j:Nat):List NT:=((parts s ks kids).take j).flatMap (pM ch cs)
theorem Zz(a s ks b cs j x)(h:(parts s ks b)[j]?=some x):pZ a s ks b cs (j+1)=pZ a s ks b cs j++pM a cs x:=by
 have⟨c,d⟩:=AD.1 h;unfold pZ;rw[AJ c,BS,d];simp
theorem Uj(b s ks a cs j):(pZ b s ks a cs j).length<=((parts s ks a).flatMap (pM b cs)):=by
 unfold pZ;conv=>rhs;rw[<-BU j (parts s ks a),BS,jK]
 omega
abbrev qIk(s:Sp):Obj:=.cells #[.string s.lo,.string s.hi] 154
abbrev qHz(β:Nat)(root:Int)(ca:Option Addr)(cn cc:Nat):Obj:=.cells #[.pointer (some (aD β 0)),.int .i64 root,.slice ca cn cc] 90
abbrev sM(v:Value):Obj:=.cells #[v] 239
structure Jr (w W:World) (b:Nat) (v:Value) (ns:List NT) (ms:List MN) (Z:Bl):Prop where
 box:W.1[b]?=some (sM v)
 row:W.ownsRow 0 242 5 v ms.length (aM ms)
 nds:bK W Z (ns.map ndT) ms
 new:∀k,v.ownBlock=some k->w.1.size<=k
 apart:∀k,Z k->w.1.size<=k/\k<W.1.size/\v.ownBlock≠some k/\k≠b
theorem jM.tookT{w w' S B n m}(h:jM w S n m)(a:nA B w w'):jM w' S n m:=by
 induction h with
 |mk s place es kids m ms h1 h2 h3 h4 h5 h6 h7 h8 h9 h10 h11 ih=>exact .mk s place es kids m ms h1 h2 h3 h4 h5 h6 h7 (aH.took h8 a) (aH.took h9 a) h10 ih
theorem bK.tookT {w w' S B ns}(h:bK w S ns ms)(c:nA B w w'):bK w' S ns ms:=⟨h.1,λd e f a b=>(h.2 d e f a b).tookT c⟩
theorem Jr.more{w f e:World}{b:Nat}{v v':Value}{ns ns':List NT}{ms ms':List MN}{Z Z':Bl}(d:Jr w f b v ns ms Z)(l:Fr (λk=>k=b\/v.ownBlock=some k) f e)(p:e.1[b]?=some (sM v'))(r:e.ownsRow 0 242 5 v' (ms+ms') (aM ms++aM ms'))(m:∀k,v'.ownBlock=some k->v.ownBlock=some k\/f<=k)(q:bK e Z' (ns'.map ndT) ms')(o:∀k,Z' k->f<=k/\k<e/\v'.ownBlock≠some k)(u:w.1.size<=f):
  Jr w e b v' (ns++ns') (ms++ms') (Or2 Z Z'):=by
 have s:=(gL d.box);have t:=l.size;refine⟨p,by rw[jK,iK];exact r,?_,?_,?_⟩
 .rw[BL];refine bK.append ?_ (q.m (λk a=>.inr a));exact(d.nds.on (l.on (λk a=>⟨(d.apart k a).2.1,λc=>by rcases c with c|c;exact(d.apart k a).2.2.2 c;exact(d.apart k a).2.2.1 c⟩))).m (λk a=>.inl a)
 .intro k a;rcases m k a with g|g
  .exact d.new k g
  .omega
 .rintro k (a|a)
  .have⟨i,j,h,n⟩:=d.apart k a;refine⟨i,ω,λc=>?_,n⟩;rcases m k c with g|g
   .exact h g
   .omega
  .have⟨i,j,h⟩:=o k a;exact⟨ω,j,h,ω⟩
theorem Tp(w t a):bK w Bl.none ([NT.kept t a].map ndT) [eI (t,a)]:=Tq w [(t,a)]
theorem Jr.push {w i f:World}{b g c:Nat}{v:Value}{ns:List NT}{Z:Bl}(t a)(j:Jr w i b v ns ms Z)(B:w.1.size<=i)(h:fO 242 5 v ms (aM ms) [.e,.e,.i 0,.n,.n] 1 i (.q g (ms+1) c) f):
  Jr w ((Ye f g (ms * 5) (eI (t,a))).setCell (aD b 0) (.q g (ms+1) c)) b (.q g (ms+1) c) (ns++[.kept t a]) (ms++[eI (t,a)]) (Or2 Z Bl.none) /\
  Jr w (Ye (f.setCell (aD b 0) (.q g (ms+1) c)) g (ms * 5) (eI (t,a))) b (.q g (ms+1) c) (ns++[.kept t a]) (ms++[eI (t,a)]) (Or2 Z Bl.none) /\
  Fr (λk=>k=b\/v.ownBlock=some k) i ((Ye f g (ms * 5) (eI (t,a))).setCell (aD b 0) (.q g (ms+1) c)) /\
  Fr (λk=>k=b\/v.ownBlock=some k) i (Ye (f.setCell (aD b 0) (.q g (ms+1) c)) g (ms * 5) (eI (t,a))):=by
 have n:=h.fr.heap j.box (aQ j.row j.box δ);have m:g≠b:=λe=>aQ h.row n δ (by rw[e];rfl);have A:=iY ms;have r:Fr (λk=>k=b\/v.ownBlock=some k) i f:=h.fr.m (λk d=>.inl (.inr d));have x:∀k,Bl.one g k->(k=b\/v.ownBlock=some k)\/i<=k:=λk d=>by
  simp only[Bl.one]at d;subst d;exact(h.lies k rfl).imp (λE=>.inr E) id
 have l:∀(X:World),Fr (Bl.one b) X (X.setCell (aD b 0) (.q g (ms+1) c)):=λX=>(AE (Bl.one b) X).s b 0;have y:∀k,Bl.one b k->(k=b\/v.ownBlock=some k)\/i<=k:=λk d=>.inl (.inl d);have s:=(r.grow (sI f g (ms * 5) (eI (t,a))) x).grow (l _) y;have u:=(r.grow (l f) y).grow (sI (f.setCell (aD b 0) (.q g (ms+1) c)) g (ms * 5) (eI (t,a))) x;have z:aM [eI (t,a)]=(eI (t,a)).cells:=by simp[aM]
 refine⟨?_,?_,s,u⟩
 .have o:=aC ((sI f g (ms * 5) (eI (t,a))).heap n (λe=>m (MO e))) 0 (.q g (ms+1) c);refine j.more s (by simpa using o) ?_ h.lies (Tp _ t a) (λk d=>d.elim) B;rw[z];exact eN (zB h.row (ms * 5) A (eI (t,a))) (l _) (λk d e=>by cases e;exact m (by simpa[Value.ownBlock] using d))
 .have G:=zB (eN h.row (l f) (λk d e=>by cases e;exact m (by simpa[Value.ownBlock] using d))) (ms * 5) A (eI (t,a));have D:=(sI (f.setCell (aD b 0) (.q g (ms+1) c)) g (ms * 5) (eI (t,a))).heap (aC n 0 (.q g (ms+1) c)) (λe=>m (MO e));refine j.more u (by simpa using D) ?_ h.lies (Tp _ t a) (λk d=>d.elim) B;rw[z];exact G
def ChR(ns:List NT)(W:World)(e:Ending)(w':World):Prop:=∃v ms,e=.returned v/\w'.ownsRow 0 242 5 v ms.length (aM ms)/\bK w' (New W w') (ns.map ndT) ms/\bW W w'/\∀k,v.ownBlock=some k->W.1.size<=k
theorem qAp(β sv lv fs)(g8:(fs.life==0)=false)(root a2 a4 a3 h p s ks u cs ac aq S w)(bd:aZ fs (h+1) (.branch p ks u) s)(a5:aA w β sv lv fs)(fy:aH w S ac (cs.flatMap Ch.cells))(az:lW S w)(gl:cJ cs)(im:cs.length<=1000000)(g2:cs.length<=aq)(gs:(ac=none/\aq=0)\/∃b cw,ac=some (aD b cw))(y)(g4:∀x∈parts s ks u,(dH cs x.2).length≠0->∀(ak:Option Addr) (ao:Nat) (W:World),aA W β sv lv fs->aH W S ak ((dH cs x.2).flatMap Ch.cells)->(lW S W)->(dH cs x.2).length<=ao->((ak=none/\ao=0)\/∃b cw,ak=some (aD b cw))->cL 191 #[.agg #[.p β 0,.i root,.s a2 a4 a3],.i x.1.place,.agg #[.t x.2.lo,.t x.2.hi],.s ak (dH cs x.2) ao] W (ChR (y x) W))(g5:((parts s ks u).flatMap (pM y cs)).length<=1000000)(ai)(bv:ai.length<=1000000)(gc:∀n∈ai,n.sp.lo.size<=24)(di:∀(ms:List MN) (e8:Option Addr) (e9:Nat) (Z:Bl) (W:World),aA W β sv lv fs->aH W Z e8 (aM ms)->bK W Z (((parts s ks u).flatMap (pM y cs)).map ndT) ms->(lW Z W)->((parts s ks u).flatMap (pM y cs)).length<=e9->cL 206 #[.agg #[.p β 0,.i root,.s a2 a4 a3],.s e8 ((parts s ks u).flatMap (pM y cs)) e9] W λe w' =>
   ∃v rs,e=.r v/\w'.ownsRow 0 242 5 v rs.length (aM rs)/\bK w' (Apart Z W v w') (ai.map ndT) rs/\bW W w'/\nW v W):
  cL 191 #[.agg #[.p β 0,.i root,.s a2 a4 a3],.i p,.agg #[.t s.lo,.t s.hi],.s ac cs aq] w (ChR (eL ai) w):=by
 obtain⟨g,dw,co,ba,dx,dz,⟨fe,ex,ey⟩,i9⟩:=bd;obtain⟨H,b7,d1,ei,ee,et,ek⟩:=al3 w (qHz β root a2 a4 a3) (qIk s) (.cells #[.s ac cs aq] 88); obtain⟨j9,ja,jb⟩:=eM ei;obtain⟨j7,j8⟩:=cM ee;have g6:aA H β sv lv fs:=a5.bl d1;obtain⟨eh,hj,hk⟩:=gB dw;have dm:=pX β sv lv fs root a2 a4 a3 p s g H g6 g8 dw (by simp[co]) (by rw[ba];exact fe) (by simp only[ba];exact ex) (by simp only[ba];exact ey) eh hk;have en:Hid (g.keys=ks):=ba;have em:Hid (g.kids=u.map (λt=>(t.place:Int))):=dx;have er:Hid (H.1.size=w+3):=ek;have ih:(g.kind==3)=false:=by rw[co];rfl
 clear co ba dx dz ek;refine(BG (n:=0)).1 (CH func191 rfl trivial ?_ rfl);simp only[ntmps191,jA,jB,jN,Nat.reduceAdd,Nat.reduceSub,jR,jO,jP,jT,jE,jF];gi_wp2_with (first
  |(refine⟨trivial,rfl,?_⟩;gi_at_call 144;refine(BG.2 dm).m ?_;clear dm;rintro e Q ⟨ji,rfl,⟨c2,c0,bl,c3,c1,bm,rfl,ec,ed,he,cx⟩,dr⟩;obtain⟨d,ck,-,cz,-⟩:=al1 Q (pgO g c2 c0 bl c3 c1 bm);obtain⟨gv,gw,gx,gy,gz,h0,h1,h2⟩:=bU cz;have db:Fr Bl.none H d:=(AB dr).t (ck▸(AE _ Q).alloc _);have hg:=db.heap ee (λh=>h);have ef:=aP (sM .n) hg;obtain⟨hh,hi⟩:=cM ef;have b0:=aP (sM .n) cz;obtain⟨h3,h4,h5,h6,h7,h8,h9,ha⟩:=bU b0;have dj:=rL g s c2 c0 bl c3 c1 bm (d.alloc (sM .n)))
  |(refine⟨trivial,rfl,?_⟩;gi_at_call 145;refine(BG.2 dj).m ?_;clear dj;rintro e af ⟨rfl,d0,c6,br⟩))
 clear hh hi h3 h4 h5 h6 h7 h8 h9 ha gv gw gx gy gz h0 h1 h2;obtain⟨av,b8,-,hb,hr⟩:=al1 d (sM .n);rw[b8]at d0 c6 br ef b0; rw[hr]at d0 c6;have f5:Fr Bl.none H av:=db.t (b8▸(AE _ d).alloc _);have cc:Fr Bl.none H af:=f5.t (AB br);have ju:=dr.size;have jv:Q.1.size<d:=(gL cz);have jx:d.1.size+1+1<af:=(gL c6);have e7:=(br.block _ ω).t hb;have ej:=cc.heap ei (λh=>h);have eu:=cc.heap et (λh=>h);have c7:Fr Bl.none w af:=(AB d1).t cc;have jz:=er.o;have ct:On (New H Q) Q af:=((ck▸(CM _ Q).alloc (λk c=>c.2) _:On (New H Q) Q d).t (b8▸(CM _ d).alloc (λk c=>by have:=c.2;omega) _:On (New H Q) d av)).t (vV br (λk c=>by have:=c.2;omega));let Rd:Bl:=λk=>k=d+1\/k=d+1+1\/New H Q k;have gq:=wA (d+1+1) (d+1) s g.kind g.ver g.root g.next c2 c0 bl c3 c1 g.ents bm g.data g.keys g.kids Rd af c6 d0 ((ec.on ct).m (λk c=>.inr (.inr c))) ((ed.on ct).m (λk c=>.inr (.inr c))) (.inr (.inl rfl)) (.inl rfl) eh hj cx.1 cx.2.1;have e5:parts s g.keys g.kids=(parts s ks u).map (λx=>((x.1.place:Int),x.2)):=by rw[en.o,em.o,rA]
 have ca:Hid (parts s g.keys g.kids=(parts s ks u).map (λx=>((x.1.place:Int),x.2))):=e5;clear e5 ec ed he cx ct;let NA:=d;let I:List (Int×Sp)->Bl->World->Prop:=λC Y W=>∃v ms Z,Jr w W NA v (pZ y s ks u cs C) ms Z/\(∀k,Y k↔k=NA\/v.ownBlock=some k\/Z k);refine gF (P:=prog) (Has:=vG) (Rd:=Rd) rfl (enters_of func167 κ rfl) gq (λx d7 S W ch=>by rw[ch];rfl) I (λ_ _ _ _=>False) ?_ (λ_ _ _ _ _ h=>h.elim) ?_ (λ_ _ _ _ h=>h.elim) (Bl.one NA) ⟨.n,[],Bl.none,⟨e7,by simpa[aM] using AO _ _ _ _,by simpa[pZ] using bK.nil _ _,ι,λk c=>c.elim⟩,λk=>by simp[Bl.one,Bl.none,Value.ownBlock]⟩ ?_ ?_ ?_ (λ_ _ _ _ _ _ _ _ _ h=>h.elim)
 .rintro C Y A B ⟨v,ms,Z,⟨a0,a8,ce,de,b3⟩,ay⟩ bw
  exact⟨v,ms,Z,⟨bw.heap a0 ((ay _).2 (.inl rfl)),aS a8 bw (λk c=>(ay k).2 (.inr (.inl c))),ce.on (bw.m (λk c=>(ay k).2 (.inr (.inr c)))),de,λk c=>⟨(b3 k c).1,jY (b3 k c).2.1 bw.size,(b3 k c).2.2⟩⟩,ay⟩
 .rintro C Y A ⟨v,ms,Z,⟨a0,a8,ce,de,b3⟩,ay⟩ k c
  rcases(ay k).1 c with rfl|h|h
  .exact(gL a0)
  .exact aL a8 h
  .exact(b3 k h).2.1
 .rintro k (rfl|rfl|c)
  .exact⟨λh=>by simp only[Bl.one,NA]at h;omega,ω⟩
  .exact⟨λh=>by simp only[Bl.one,NA]at h;omega,ω⟩
  .exact⟨λh=>by simp only[Bl.one,NA]at h;have:=c.2;omega,by have:=c.2;omega⟩
 .
  rintro l C x j6 d7 hx al W ah ⟨v,ms,Z,E,N⟩ ch bp ag fq ii ij g9 ⟨r,ip⟩;have bv:C.length<u:=by
   have:=BR List.length ah;rw[ca.o]at this;simp[dA]at this;omega
  obtain⟨G,dy⟩:=nM (u[C.length]'bv);obtain⟨f,e3⟩:=nM ((⟨kQ s ks C,rO s ks C⟩:Sp));have bc:=fF s ks u C bv;rw[dy,e3]at bc;have gt:x=((G.place:Int),f):=by
   have a0:(parts s g.keys g.kids)[C.length]?=some x:=by rw[ah];simp
   rw[ca.o,BM,bc]at a0;simpa using a0.symm
  have gj:=BI bc;have dh:=g4 _ gj;have c9:Hid (pZ y s ks u cs (C+1)=pZ y s ks u cs C.length++pM y cs (G,f)):=Zz y s ks u cs C (G,f) bc;have ic:=Uj y s ks u cs C;have ie:=Uj y s ks u cs (C+1);subst gt;have fr:d7=#[.i G.place,.agg #[.t f.lo,.t f.hi]]:=ch;subst fr;have ht:af.1.size<=W:=ag.size;have cy:=ag.heap ej (λh=>by simp only[Bl.one,NA]at h;omega);have ev:=ag.heap eu (λh=>by simp only[Bl.one,NA]at h;omega);have a7:Fr (Bl.one NA) w W:=(c7.m (λ_ h=>h.elim)).t ag;have c4:∀k,k<w.1.size->¬Bl.one NA k:=λk c e=>by simp only[Bl.one,NA]at e;omega
  have bu:aA W β sv lv fs:=a5.on (a7.on (λk c=>⟨a5.lies k c,c4 k (a5.lies k c)⟩));have g0:aH W S ac (cs.flatMap Ch.cells):=fy.on (a7.on (λk c=>⟨az k c,c4 k (az k c)⟩));have gu:lW al W:=by
   intro k c;rcases(N k).1 c with rfl|h|h
   .exact(gL E.box)
   .exact aL E.row h
   .exact(E.apart k h).2.1
  clear dy e3 bc ah;unfold iM;gi_wp2;refine⟨(AE _ W).alloc _,?_⟩;intro R bq;have cb:Fr Bl.none W (W.alloc (qIk f)):=(AE _ W).alloc _;have c5:=bq.heap (aB W (qIk f)) ω;have bf:=bq.heap (cb.heap cy (λh=>h)) ω;have ew:=bq.heap (cb.heap ev (λh=>h)) ω;have bn:Fr (Bl.one l) W R:=(cb.m (λ_ h=>h.elim)).t bq.fr;have el:W.1.size<R:=(gL c5);have eb:∀k,k<w.1.size->¬Bl.one l k:=λk c e=>by simp only[Bl.one]at e;omega
  have du:aA R β sv lv fs:=bu.on (bn.on (λk c=>⟨bu.lies k c,eb k (a5.lies k c)⟩));have dn:aH R S ac (cs.flatMap Ch.cells):=g0.on (bn.on (λk c=>⟨by have:=az k c;have:=a7.size;omega,eb k (az k c)⟩));have cu:On al W R:=bn.on (λk c=>⟨gu k c,λe=>by cases e;exact g9 c⟩);have F:Jr w R NA v (pZ y s ks u cs C) ms Z:=⟨cu.heap E.box ((N _).2 (.inl rfl)),aS E.row cu (λk c=>(N k).2 (.inr (.inl c))),E.nds.on (cu.m (λk c=>(N k).2 (.inr (.inr c)))),E.new,λk c=>⟨(E.apart k c).1,by have:=(E.apart k c).2.1;omega,(E.apart k c).2.2⟩⟩;obtain⟨f2,f3,f4⟩:=eM bf;obtain⟨i1,da⟩:=cM c5;have i0:=bM ew;have b9:=Fg ac aq cs f S R dn (λk c=>by have:=az k c;have:=a7.size;omega) gl ω g2 gs;obtain⟨own,cq⟩:=nM (dH cs f);rw[cq]at b9;have dp:lW S R:=λk c=>by have:=az k c;have:=a7.size;omega
  have au:Hid (dH cs f=own):=cq;clear cq;by_cases hz:own.length=0;rotate_left
  rotate_left
  all_goals
   gi_wp2_with (refine⟨trivial,rfl,?_⟩;gi_at_call 176;refine(EN l (BG.2 b9)).m ?_;clear b9;rintro e i ⟨ak,ao,rfl,bt,L⟩);have hq:=L.size;have ab:=(L.block _ el).t c5;have ap:=(L.block _ (η ((gL bf)))).t bf;have J:Jr w i NA v (pZ y s ks u cs C) ms Z:=⟨L.kp F.box,aS F.row (vV L (Y:=λk=>v.ownBlock=some k) (λk c=>aL F.row c)) (λk c=>c),F.nds.on (vV L (λk c=>(F.apart k c).2.1)),F.new,λk c=>⟨(F.apart k c).1,by have:=(F.apart k c).2.1;omega,(F.apart k c).2.2⟩⟩;have bb:ms.length<=1000000:=by have:=J.nds.1;rw[AF]at this;omega
   obtain⟨m,o,rfl⟩:=aG J.row;have V:i.1[d.1.size]?=some (sM (.s m ms o)):=J.box;obtain⟨dc,dd⟩:=cM ab;obtain⟨hn,ho,hp⟩:=eM ap;have d9:=bM V;have ar:Hid (∀a1 v' aj U,Jr w a1 NA v' (pZ y s ks u cs C++pM y cs (G,f)) aj (Or2 Z U)->Fr (λk=>k=NA\/(Value.s m ms o).ownBlock=some k) i a1->(∀k,v'.ownBlock=some k->(Value.s m ms o).ownBlock=some k\/i<=k)->(∀k,U k->i<=k)->∃b2,I (C++[((G.place:Int),f)]) b2 a1/\Fr al R a1/\aI R al b2):=by
    intro a1 v' aj U b4 cg cr cm;refine⟨λk=>k=NA\/v'.ownBlock=some k\/Or2 Z U k,⟨v',aj,Or2 Z U,?_,λk=>GF⟩,(AB L).t (cg.m (λk c=>.inl ((N k).2 (by rcases c with c|c;exact .inl c;exact .inr (.inl c))))),?_⟩
    .rw[jK,AP,c9.o];exact b4
    .rintro k (c|c|c|c)
     .exact .inl ((N k).2 (.inl c))
     .exact(cr k c).imp (λh=>(N k).2 (.inr (.inl h))) (λh=>ω)
     .exact .inl ((N k).2 (.inr (.inr c)))
     .exact .inr (η (cm k c))
  .have b1:Hid (pM y cs (G,f)=[.kept G f]):=by
    show _=_
    unfold pM;rw[AU (by rw[au.o];exact hz)]
   refine lG (S:=λX=>X.c W 0=some (.t f.lo)/\X.c W 1=some (.t f.hi)/\X.c d 0=some (.s m ms o)) 9 κ κ (λ_ _ h=>h) ?_;refine tks [(0,.s m ms o),(1,.agg #[.t f.lo,.t f.hi]),(2,.i G.place),(3,.agg #[.t f.lo,.t f.hi,.i G.place,.n,.n]),(4,.i ms.length)] ⟨dc,dd,d9⟩ ?_;iterate 5 (refine tk1 rfl ?_;try simp only[pS])
   refine tke ?_;obtain⟨fc,fd⟩:=cM (aP (.cells #[.e,.e,.i 0,.n,.n] 242) ab);have ez:=bM (aP (.cells #[.e,.e,.i 0,.n,.n] 242) V);refine aR (i:=5) κ rfl (λK z=>?_);go_simp;refine z.out _ _ (λ_=>⟨fc,fd,ez⟩) ?_;clear z K;try simp only[pS]
   refine aR (i:=6) κ rfl (λK z=>?_);refine kA i.drew rfl (.tmp 39) (.tmp 44) 239 242 _ 5 88 rfl underlying239 jD rfl δ (.s m ms o) ms (aM ms) ξ J.row [.e,.e,.i 0,.n,.n] ξ rfl υ ω ω ?_;intro hl M bg;obtain⟨ax,e6,rfl⟩:=bg.shape δ;have ad:fO 242 5 (.s m ms o) ms (aM ms) [.e,.e,.i 0,.n,.n] 1 i (.q ax (ms+1) e6) M:=⟨bg.row,(AE _ i).drew.t bg.fr,bg.lies⟩;obtain⟨fu,fv,fw,fx⟩:=J.push G f (η a7.size) ad;have b0:=ad.fr.heap ab (aQ J.row ab δ);obtain⟨df,dg⟩:=cM b0;have bi:M.1[d.1.size]?=some (sM (.s m ms o)):=ad.fr.heap V (aQ J.row V δ);have ea:ax≠d:=λe=>aQ ad.row bi δ (by rw[e];rfl);have hd:ax≠W:=λe=>aQ ad.row b0 δ (by rw[e];rfl);have bk:=bM bi;have fb:=aF bi;have fa:Fr (Bl.one d) M (M.setCell (aD d 0) (.q ax (ms+1) e6)):=(AE (Bl.one d) M).s d 0;have hf:=eN ad.row fa (λk c e=>by cases e;exact ea (by simpa[Value.ownBlock] using c));have eg:=sI M ax (ms * 5) (eI (G,f));have d8:=eg.heap bi (λe=>ea (MO e));have f1:=bM d8;have i2:=aF d8;obtain⟨ff,fg⟩:=cM (eg.heap b0 (λe=>hd (MO e)));have ig:(ms.length:Int)<(ms.length:Int)+1:=ω
   have ep:=ar.o _ _ _ Bl.none (by rw[b1.o];exact fu) fw ad.lies (λk c=>c.elim);have eq:=ar.o _ _ _ Bl.none (by rw[b1.o];exact fv) fx ad.lies (λk c=>c.elim);have b5:=JN df (JN dg bk);refine z.out _ _ (λ_=>⟨df,dg,bk⟩) ?_;clear z K;try simp only[pS]
   refine Cf (i:=7) (v:=.p ax (ms * 5)) rfl κ (λ_ _ _ h=>h) τ b5 (λb5=>?_);try simp only[pS]
   obtain⟨jc,jd,je,jf,jg,ir,iu,iv,iw,ix,i3,i4,i5,i6,i7⟩:=qDa ad.row;clear ar b5;refine mZ (i:=8) (j:=9) κ rfl rfl (λK z=>?_) (λK z=>?_)
   .go_simp
    refine z.out _ _ (λ_=>⟨ff,fg,f1⟩) ?_;clear z K;try simp only[pS]
    refine aR (i:=9) κ rfl (λK z=>?_);go_simp;refine z.out _ _ (λe=>by cases e) ?_;clear z K;refine dF κ ?_ _;gi_wp2;exact ep
   .go_simp
    obtain⟨jj,jk,jl,jm,jn,iz,j0,j1,j2,j3,jo,jp,jq,jr,js⟩:=qDa hf;refine z.out _ _ (λe=>by cases e) ?_;clear z K;try simp only[pS]
    refine aR (i:=8) κ rfl (λK z=>?_);go_simp;refine z.out _ _ (λe=>by cases e) ?_;clear z K;refine dF κ ?_ _;gi_wp2;exact eq
  .have b1:Hid (pM y cs (G,f)=y (G,f)):=by
    show _=_
    unfold pM;rw[AQ (by rw[au.o];exact hz)]
   have dt:aA i β sv lv fs:=du.bl L;have fz:=bt.2.1 i (dn.on (vV L dp));have cf:=dh (by rw[au.o];exact hz) ak ao i.drew (dt.on (vV (AC _ i).drew dt.lies)) (by rw[au.o];exact fz) (λk c=>by have:=dp k c;show k<i;omega) (by rw[au.o];exact bt.1) bt.2.2;rw[au.o]at cf;have d4:Hid (∀X,bW i.drew X->X.c w 0=some (.p β 0)/\X.c w 1=some (.i root)/\X.c w 2=some (.s a2 a4 a3)/\X.c W 0=some (.t f.lo)/\X.c W 1=some (.t f.hi)/\X.c d 0=some (.s m ms o)):=by
    intro X cl;obtain⟨da,f6,f7⟩:=eM ((cl.block w (gL ap)).t ap);obtain⟨f8,f9⟩:=cM ((cl.block W (gL ab)).t ab);exact⟨da,f6,f7,f8,f9,bM ((cl.block d (gL V)).t V)⟩
   have b5:=d4.o i.drew (AC _ _);clear hz dh;refine lG (S:=λX=>X.c w 0=some (.p β 0)/\X.c w 1=some (.i root)/\X.c w 2=some (.s a2 a4 a3)/\X.c W 0=some (.t f.lo)/\X.c W 1=some (.t f.hi)/\X.c d 0=some (.s m ms o)) 7 κ κ (λ_ _ h=>h) ?_;refine tks [(0,.s m ms o),(1,.agg #[.p β 0,.i root,.s a2 a4 a3]),(2,.i G.place),(3,.agg #[.t f.lo,.t f.hi]),(4,.s ak own ao)] b5 ?_;iterate 5 (refine tk1 rfl ?_;try simp only[pS])
   refine tke ?_;refine aR (i:=5) κ rfl (λK z=>?_);go_simp;refine Calls.m cf ?_;clear cf;rintro e M ⟨hl,a6,rfl,gg,dk,ds,ik⟩;try simp only[]
   refine z.out _ _ (λ_=>d4.o M ds) ?_;clear z K b5;try simp only[pS]
   have bo:bW i M:=(AC _ i).drew.t ds;have cv:∀k,(Value.s m ms o).ownBlock=some k->k<i:=λk c=>aL J.row c;have gh:M.ownsRow 0 242 5 (.s m ms o) ms (aM ms):=aS J.row (vV bo (Y:=λk=>(Value.s m ms o).ownBlock=some k) cv) (λk c=>c);obtain⟨es,bk,rfl,ia,gn⟩:=cA gg;have il:a6.length<=1000000:=by
    have a0:=dk.1;rw[AF]at a0;have a8:=BR List.length c9.o;rw[b1.o,jK]at a8;omega
   refine aR (i:=6) κ rfl (λK z=>?_);refine qDs M rfl (.tmp 47) (.tmp 52) 239 242 _ 5 88 rfl underlying239 jD rfl δ (.s m ms o) ms (aM ms) ξ gh es a6 bk _ (aM a6) ξ (iY a6) gn (pB a6) ω ω ?_;intro hm aw ae;obtain⟨am,an,rfl⟩:=aG ae.row;have bj:aw.1[d.1.size]?=some (sM (.s m ms o)):=ae.fr.heap (bo.kp V) (aQ J.row V δ);have f0:=bM bj;have fb:=aF bj;have c8:Fr (λk=>(Value.s m ms o).ownBlock=some k) i aw:=(AB bo).t ae.fr;obtain⟨fh,fi⟩:=cM (c8.heap ab (aQ J.row ab δ));obtain⟨fj,fk,fl⟩:=eM (c8.heap ap (aQ J.row ap δ));have cd:Fr (Bl.one d) aw (aw.setCell (aD d 0) (.s am (ms+a6) an)):=(AE (Bl.one d) aw).s d 0;have jw:=bo.size;have hs:=ae.fr.size;have j5:d.1.size<i:=(gL V);have hc:(Value.s am (ms+a6) an).ownBlock≠some d:=aQ ae.row bj δ;have d2:Fr (λk=>k=NA\/(Value.s m ms o).ownBlock=some k) i (aw.setCell (aD d 0) (.s am (ms+a6) an)):=(c8.m (λk c=>.inl (.inr c))).t (cd.m (λk c=>.inl (.inl c)));have bz:∀k,(Value.s am (ms+a6) an).ownBlock=some k->(Value.s m ms o).ownBlock=some k\/i<=k:=λk c=>(ae.lies k c).imp id (λh=>ω);have b4:=J.more (ns':=y (G,f)) (ms':=a6) (Z':=New i M) d2 (by have:=aC bj 0 (.s am (ms+a6) an);simpa using this) (eN ae.row cd (λk c e=>by cases e;exact hc c)) bz
    ((dk.on (ae.fr.on (λk c=>⟨c.2,λe=>by have a0:=cv k e;have a8:i<=k:=c.1;omega⟩))).on (cd.on (λk c=>⟨by have:=c.2;omega,λe=>by simp only[Bl.one]at e;have a8:i<=k:=c.1;omega⟩)))
    (λk c=>⟨c.1,by have:=c.2;simp;omega,λe=>by have a8:i<=k:=c.1;have ce:=c.2;rcases ae.lies k e with h|h;exact absurd (cv k h) ω;omega⟩) (η a7.size)
   have eo:=ar.o _ _ _ (New i M) (by rw[b1.o];exact b4) d2 bz (λk c=>c.1);refine z.out _ _ (λ_=>⟨fj,fk,fl,fh,fi,f0⟩) ?_;clear z K ar;try simp only[pS]
   refine aR (i:=7) κ rfl (λK z=>?_);go_simp;refine z.out _ _ (λe=>by cases e) ?_;clear z K;refine dF κ ?_ _;gi_wp2;exact eo
 .rintro D al W fo i8 ⟨v,ms,Z,E,N⟩ ag fq fp
  have dq:pZ y s ks u cs (parts s g.keys g.kids).length=(parts s ks u).flatMap (pM y cs):=by
   rw[ca.o,AF];unfold pZ;rw[BN]
  rw[dq]at E;obtain⟨be,cp⟩:=nM ((parts s ks u).flatMap (pM y cs));rw[cp]at E di g5;clear cp dq;have ht:af.1.size<=W:=ag.size;have cy:=ag.heap ej (λh=>by simp only[Bl.one,NA]at h;omega);have a7:Fr (Bl.one NA) w W:=(c7.m (λ_ h=>h.elim)).t ag;have c4:∀k,k<w.1.size->¬Bl.one NA k:=λk c e=>by simp only[Bl.one,NA]at e;omega
  have bu:aA W β sv lv fs:=a5.on (a7.on (λk c=>⟨a5.lies k c,c4 k (a5.lies k c)⟩));have bb:ms.length=be:=by have:=E.nds.1;rwa[AF]at this
  obtain⟨m,o,gr,iy,gm⟩:=cA E.row;subst gr;have hy:W.c d 0=some (.s m ms o):=bM E.box;have bp:∀b,((Value.s m ms o).ownBlock=some b\/Z b)->b<W:=λb g1=>g1.elim (λh=>aL E.row h) (λh=>(E.apart b h).2.1);have ci:=di ms m o (λk=>(Value.s m ms o).ownBlock=some k\/Z k) W bu (gm.m (λk c=>.inl c)) (E.nds.m (λk c=>.inr c)) bp ω;rw[<-bb]at ci;clear bb;obtain⟨f2,f3,f4⟩:=eM cy;have gd:Marks w [mk D] W:=(GC w af).cons (λD' _ h=>ag.heap h (λe=>by simp only[Bl.one,NA]at e;subst e;rw[e7]at h;simp at h)) ω fp fo;have d5:Hid (bW w W):=a7.below (jU _) (λk c=>by simp only[Bl.one,NA]at c;omega);have gf:∀k,((Value.s m ms o).ownBlock=some k\/Z k)->w.1.size<=k:=λk c=>c.elim (E.new k) (λh=>(E.apart k h).1);have e4:=d5.o.size;gi_wp2_with (first
   |(refine⟨trivial,rfl,?_⟩;gi_at_call 206;refine(BG.2 ci).m ?_;clear ci;rintro e d6 ⟨hm,rs,rfl,e0,cj,cn,ga⟩;obtain⟨am,an,bz,g3,gp⟩:=cA e0;subst bz;have d3:Hid (rs.length=ai.length):=(by have:=cj.1;rwa[AF]at this);have hs:=cn.size;have dv:∀x∈rs,x.lo.size<=24:=(λx ah=>(by obtain⟨O,g7,rfl⟩:=AW ah;have a0:O<ai:=(η d3.o);have a8:=(cj.2 O (ndT ai[O]) rs[O] (by rw[BM,jQ a0];rfl) (jQ g7)).lo;rw[a8,uM];exact gc _ (AA a0)));have dl:=nC am an rs (λk=>w<=k/\k<d6) d6 (gp.m (λk c=>⟨vJ e4 (ga k c),aL e0 c⟩)) (λk c=>c.2) (η d3.o) g3 (λx ah=>dv x ah) (λx ah=>(by have:=dv x ah;unfold ksz;omega)))
   |(refine⟨trivial,rfl,?_⟩;gi_at_call 192;refine(BG.2 dl).m ?_;clear dl;rintro e bh ⟨jh,qs,rfl,gi,gk,e2,bs,gb⟩))
  have jy:=bs.size;have ge:Marks w [mk D] bh:=gd.on (λD' _ h=>(bs.block _ (η ((gL h)))).t (cn.kp h));refine Uv rfl ge ?_;intro w' bx;have iq:=bx.size;have fm:bW w bh:=(d5.o.t (cn.m e4)).t (bs.m ω);have ft:bK bh (New w bh) (ai.map ndT) rs:=(cj.on (vV bs (λk c=>by rcases c.1 with h|h;have:=bp k h;omega;exact h.2))).m (λk c=>by
   rcases c.1 with h|h
   .exact⟨gf k h,by have:=bp k h;omega⟩
   .exact⟨ω,ω⟩)
  have fn:=Jc (w:=w) ft gk (λq e1=>⟨(e2 q e1).1,(e2 q e1).2.m (λk c=>⟨c.1,ω⟩)⟩);refine⟨_,qs.map mP,rfl,?_,?_,fm.t bx.below,λk c=>by have:=gb k c;omega⟩
  .rw[AF];exact uG gi bx
  .rw[Bg]
   refine bK.tookT (fn.m (λk c=>⟨c.1,by have:=c.2;omega⟩)) bx
