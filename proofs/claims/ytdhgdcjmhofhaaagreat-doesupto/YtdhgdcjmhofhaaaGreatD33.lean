import Derived.Test.YtdhgdcjmhofhaaaGreatD32
set_option linter.all false
set_option maxRecDepth 100000
set_option maxHeartbeats 8000000
namespace Go.Proofs.YtdhgdcjmhofhaaaGreat.Tree
open Go.RowKit Pages
variable {S:Bl} {a:Option Addr} {e:Nat} {w:World}
theorem aD.rowAt {c B}(h:aD w S a c)(d:∀b,S b->b<B):eX w B a c:=by
 rcases h with h|⟨b,i,e,g,f⟩
 ·exact .inl h
 ·exact .inr ⟨b,i,e,d b g,f⟩
structure Fz (w:World) (S:Bl) (g:Pg) (ka ia ea:Option Addr) (kc ic ec:Nat):Prop where
 keys:aD w S ka (g.keys.map .string)
 kids:aD w S ia (g.kids.map (.int .i64))
 ents:aD w S ea (g.ents.flatMap Ent.cells)
theorem Fz.on {w w' g f d b i e c}(h:Fz w S g f d b i e c)(a:On S w w'):Fz w' S g f d b i e c:=⟨h.keys.on a,h.kids.on a,h.ents.on a⟩
theorem Af(g i f c j h d S w)(x:Fz w S g i f c j h d)(o:∀b,S b->b<w.heap.size)(z:g.small)(u:g.encE=0):
  cL 117 #[.agg #[.i g.kind,.i g.ver,.i g.root,.i g.next,.slice i g.keys.length j,.slice f g.kids.length h,.slice c g.ents.length d,.string g.data]] w λe w'=>e=.returned (.string g.encS)/\bW w w':=by
 obtain⟨a,p,k,A,-⟩:=al1 w (pgO g i f c j h d);have⟨B,C,D,E,F,G,H,I⟩:=bM A;have n:∀b,S b->b<a.heap.size:=λb t=>jY (o b t) k.size;have m:=x.on (vV k o);have l:=rC g.kind g.ver g.root g.next i f c j h d g.data g.keys g.kids g.ents a (m.keys.rowAt n) (m.kids.rowAt n) (m.ents.rowAt n) z;have v:Pages.dO g.kind g.ver g.root g.next g.keys g.kids g.ents g.data=0:=u;rw[v]at l;have⟨s,q⟩:=nM (Pages.encS g.kind g.ver g.root g.next g.keys g.kids g.ents g.data);rw[q]at l;have r:Hid (g.encS=s):=q;go_enter Tryz.func117,Tryz.ntmps117;go_wp2_with (go_at_call 146;(with_reducible apply jC l);rintro e J ⟨rfl,y⟩);go_ret;exact⟨by rw[r.out];rfl,k.trans (y.mono k.size)⟩
structure fD (w:World) (b:Nat) (Sf:Bl) (fa:Option Addr) (fc:Nat) (fr:List Nat) (wv:Value) (ws:List (Nat×ByteArray)):Prop where
 box:w.heap[b]?=some (.cells #[.slice fa fr.length fc,wv] 238)
 free:aD w Sf fa (fr.map (λn:Nat=>Value.int .i64 n))
 some':fr≠[]->∃b0 o0,fa=some ⟨b0,o0,none⟩
 cap:fr.length<=fc
 own:w.ownsRow 0 226 2 wv ws.length (ws.flatMap dD)
 apart:∀k,Sf k->k<w.heap.size/\k≠b/\wv.ownBlock≠some k
def fpL(b:Nat)(wv:Value):Bl:=λk=>k=b\/wv.ownBlock=some k
theorem fD.lies {b c d fr a g}(h:fD w b c d e fr a g):∀k,fpL b a k->k<w.heap.size:=by
 rintro k (rfl|f)
 ·exact(gL h.box)
 ·exact aM h.own f
theorem fD.fr{w w' b d e g fr j i}(h:fD w b d e g fr j i)(f:bW w w'):fD w' b d e g fr j i :=
 ⟨(f.block _ (h.lies b (.inl rfl))).trans h.box,h.free.on (vV f (λc a=>(h.apart c a).1)),h.some',h.cap,aS h.own (vV (Y:=λc=>c<w.heap.size) f (λc a=>a)) (λc a=>aM h.own a),λc a=>⟨jY (h.apart c a).1 f.size,(h.apart c a).2⟩⟩
theorem qJe:(Tryz.prog.info? 226).map (λi=>(i.zero,i.size,i.bytes))=some (some (.agg #[.i 0,.string ⟨#[]⟩]),2,24):=by kernel_rfl
theorem aD.tail {e c v d}(h:aD w S (some ⟨e,c,none⟩) (v :: d))(i:d≠[]->a=some ⟨e,c+1,none⟩):aD w S a d:=by
 rcases h with h|⟨b,n,g,k,j⟩
 ·simp at h
 ·by_cases hv:d=[]
  ·exact .inl hv
  ·simp only[AX,CA,DA]at g
   obtain⟨rfl,rfl⟩:=g;refine .inr ⟨e,c+1,i hv,k,λf m l=>?_⟩;have:=j (f+1) m (by simpa using l);rw[show c+1+f=c+(f+1) by omega];exact this
theorem qDn(b a7 au y p fr d m g t r o u s q S w)(h:fD w b a7 au y (p :: fr) d m)(ay:Fz w S g t r o u s q)(a0:∀b,S b->b<w.heap.size)(b0:¬S b)(b9:g.small)(ax:g.encE=0)(bv:m.length<=100000):
  cL 209 #[.p b 0,.agg #[.i g.kind,.i g.ver,.i g.root,.i g.next,.slice t g.keys.length u,.slice r g.kids.length s,.slice o g.ents.length q,.string g.data]] w λe w'=>e=.returned (.i p) /\
   ∃av ap,fD w' b a7 av (y-1) fr ap (m++[(p,g.encS)])/\Fr (fpL b d) w w'/\∀k,ap.ownBlock=some k->d.ownBlock=some k\/w.heap.size<=k:=by
 obtain⟨E,W,rfl⟩:=h.some' (by simp);have br:fr.length+1<=y:=by have:=h.cap;simpa using this
 have⟨c1,c2,ak,b8,al⟩:=h.free.at (f:=λn:Nat=>Value.i n) (l:=p :: fr) (j:=0) (by simp);simp only[AX,CA,DA]at ak;obtain⟨rfl,rfl⟩:=ak;simp only[DR,CS]at al;obtain⟨z,ah,A,bm,-⟩:=al1 w (pgO g t r o u s q);have a8:=h.fr A;have ab:=a8.box;have⟨bx,bz⟩:=bS ab;have c0:=aB ab;have bq:=h.lies b (.inl rfl);have bt:z.cell? ⟨E,W,none⟩=some (.i p):=by rw[CF (w:=w) (A.block E (h.apart E b8).1)];exact al
 have⟨x,aw⟩:=nM ((if y=1 then (some ⟨E,W,none⟩:Option Addr) else some ⟨E,W+1,none⟩));have⟨c,ai⟩:=nM (z.setCell ⟨b,0,none⟩ (.slice x fr.length (y-1)));have a4:c.heap[b]?=some (.cells #[.slice x fr.length (y-1),d] 238):=by rw[<-ai];have:=aC ab 0 (.slice x fr.length (y-1));simpa using this
 have G:Fr (Bl.one b) z c:=ai▸(AF (Bl.one b) z).setCell (p:=⟨b,0,none⟩) (.inl rfl) _;have ad:=G.heap bm (oN (by omega));have⟨J,L,M,N,O,P,Q,R⟩:=bM ad;have⟨an,I⟩:=bS a4;have bc:=aB a4;have ao:=aS a8.own (G.on (Z:=λk=>d.ownBlock=some k) (λk a=>⟨aM a8.own a,λe=>by simp only[Bl.one]at e;subst e;exact (aQ h.own h.box (by decide)) a⟩)) (λk a=>a);have az:∀{X:World},bW c X->On S w X:=λ{X} C=>((vV A a0).trans (G.on (λk a=>⟨jY (a0 k a) A.size,λe=>by simp only[Bl.one]at e;subst e;exact b0 a⟩))).trans (vV C (λk a=>jY (jY (a0 k a) A.size) G.size));have af:Hid (∀X,bW c X->cL 117 #[.agg #[.i g.kind,.i g.ver,.i g.root,.i g.next,.slice t g.keys.length u,.slice r g.kids.length s,.slice o g.ents.length q,.string g.data]] X λe w'=>e=.returned (.string g.encS)/\bW X w'):=λX C=>Af g t r o u s q S X (ay.on (az C)) (λk a=>jY (jY (a0 k a) A.size) (vJ G.size C.size)) b9 ax;have aq:Hid (∀X,bW c X->X.heap[w.heap.size]?=some (pgO g t r o u s q)/\X.heap[b]?=some (.cells #[.slice x fr.length (y-1),d] 238)/\X.ownsRow 0 226 2 d m.length (m.flatMap dD)):=λX C=>⟨(C.block _ (gL ad)).trans ad,(C.block _ (gL a4)).trans a4,aS ao (vV (Y:=λk=>k<c.heap.size) C (λk h=>h)) (λk a=>aM ao a)⟩;have ae:Hid ((if y=1 then (some ⟨E,W,none⟩:Option Addr) else some ⟨E,W+1,none⟩)=x):=aw;have⟨B,b3⟩:=nM (g.encS);rw[b3]at af⊢;have ag:bW c c:=AC _ _;have bs:((fr.length:Int)+1==0)=false:=by simp;omega
 go_enter Tryz.func209,Tryz.ntmps209;go_wp2;apply dF (S:=(λX=>X.cell? ⟨w.heap.size,0,none⟩=some (.i g.kind)/\X.cell? ⟨w.heap.size,1,none⟩=some (.i g.ver)/\X.cell? ⟨w.heap.size,2,none⟩=some (.i g.root)/\X.cell? ⟨w.heap.size,3,none⟩=some (.i g.next)/\X.cell? ⟨w.heap.size,4,none⟩=some (.slice t g.keys.length u)/\X.cell? ⟨w.heap.size,5,none⟩=some (.slice r g.kids.length s)/\X.cell? ⟨w.heap.size,6,none⟩=some (.slice o g.ents.length q)/\X.cell? ⟨w.heap.size,7,none⟩=some (.string g.data)/\X.cell? ⟨b,1,none⟩=some d)) 13 (by kernel_rfl);have a9:=(show((λX=>X.cell? ⟨w.heap.size,0,none⟩=some (.i g.kind)/\X.cell? ⟨w.heap.size,1,none⟩=some (.i g.ver)/\X.cell? ⟨w.heap.size,2,none⟩=some (.i g.root)/\X.cell? ⟨w.heap.size,3,none⟩=some (.i g.next)/\X.cell? ⟨w.heap.size,4,none⟩=some (.slice t g.keys.length u)/\X.cell? ⟨w.heap.size,5,none⟩=some (.slice r g.kids.length s)/\X.cell? ⟨w.heap.size,6,none⟩=some (.slice o g.ents.length q)/\X.cell? ⟨w.heap.size,7,none⟩=some (.string g.data)/\X.cell? ⟨b,1,none⟩=some d)) c.drew from ⟨J,L,M,N,O,P,Q,R,I⟩);apply tks [(0,.p b 0),(1,.p b 0),(2,.p b 0),(3,.p b 1),(4,d),(5,.i p),(6,.agg #[.i g.kind,.i g.ver,.i g.root,.i g.next,.slice t g.keys.length u,.slice r g.kids.length s,.slice o g.ents.length q,.string g.data])] (by assumption);iterate 7 (refine⟨_,rfl,by kernel_rfl,λ_ _ _ h=>h,.inl ⟨by rfl,λw U=>by(try dsimp only at U);go_simp⟩,?_⟩;try simp only[pS])
 apply tke;refine aR (i:=7) (by kernel_rfl) rfl (λK H=>?_);go_simp
 (go_at_call 117;(with_reducible refine jC (af.out _ ?_) ?_);exact ag.drew;rintro e a2 ⟨rfl,b2⟩;have aa:bW c a2:=ag.drew.trans b2;have⟨a3,a6,ac⟩:=aq.out a2 aa;have⟨J,L,M,N,O,P,Q,R⟩:=bM a3;have⟨an,I⟩:=bS a6;have⟨be,bf,bg,bh,bi,bj,bk,bl⟩:=bM (aI (.cells #[.i p,.string B] 226) a3);have⟨bw,bd⟩:=bS (aI (.cells #[.i p,.string B] 226) a6))
 simp only[];apply H.out _ _ (λ_=>⟨J,L,M,N,O,P,Q,R,I⟩);try simp only[pS]
 have a9:=(show((λX=>X.cell? ⟨w.heap.size,0,none⟩=some (.i g.kind)/\X.cell? ⟨w.heap.size,1,none⟩=some (.i g.ver)/\X.cell? ⟨w.heap.size,2,none⟩=some (.i g.root)/\X.cell? ⟨w.heap.size,3,none⟩=some (.i g.next)/\X.cell? ⟨w.heap.size,4,none⟩=some (.slice t g.keys.length u)/\X.cell? ⟨w.heap.size,5,none⟩=some (.slice r g.kids.length s)/\X.cell? ⟨w.heap.size,6,none⟩=some (.slice o g.ents.length q)/\X.cell? ⟨w.heap.size,7,none⟩=some (.string g.data)/\X.cell? ⟨b,1,none⟩=some d)) a2 from ⟨J,L,M,N,O,P,Q,R,I⟩);refine lS (i:=8) (v:=.agg #[.i p,.string B]) rfl (by kernel_rfl) (λ_ _ _ h=>h) (.inl ⟨by rfl,λw U=>by(try dsimp only at U);go_simp⟩) (by assumption) (λa9=>?_);try simp only[pS]
 refine aR (i:=9) (by kernel_rfl) rfl (λK H=>?_);go_simp;apply H.out _ _ (λ_=>⟨be,bf,bg,bh,bi,bj,bk,bl,bd⟩);try simp only[pS]
 refine aR (i:=10) (by kernel_rfl) rfl (λK H=>?_)
 (apply iO a2 rfl (.tmp 31) (.tmp 36) 191 226 _ 2 24 rfl Tryz.underlying191 qJe rfl (by decide) d m.length (m.flatMap dD) (by simp[Act.eval,Act.put]) ac [.i p,.string B] (by simp[Act.eval,Act.put]) rfl (by simp[Value.oneCell']) (by omega) (by omega);intro v3 a1 D;obtain⟨T,V,rfl⟩:=D.shape (by decide);have a5:=D.fr.heap a6 (aQ ac a6 (by decide));have⟨J,L,M,N,O,P,Q,R⟩:=bM (D.fr.heap a3 (aQ ac a3 (by decide)));have⟨an,I⟩:=bS a5;have bc:=aB a5)
 refine H.out _ _ (λ_=>⟨J,L,M,N,O,P,Q,R,I⟩) ?_;try simp only[pS]
 have a9:=(show((λX=>X.cell? ⟨w.heap.size,0,none⟩=some (.i g.kind)/\X.cell? ⟨w.heap.size,1,none⟩=some (.i g.ver)/\X.cell? ⟨w.heap.size,2,none⟩=some (.i g.root)/\X.cell? ⟨w.heap.size,3,none⟩=some (.i g.next)/\X.cell? ⟨w.heap.size,4,none⟩=some (.slice t g.keys.length u)/\X.cell? ⟨w.heap.size,5,none⟩=some (.slice r g.kids.length s)/\X.cell? ⟨w.heap.size,6,none⟩=some (.slice o g.ents.length q)/\X.cell? ⟨w.heap.size,7,none⟩=some (.string g.data)/\X.cell? ⟨b,1,none⟩=some d)) a1 from ⟨J,L,M,N,O,P,Q,R,I⟩);apply tks [(11,.p b 0),(12,.p b 1)] (by assumption);iterate 2 (refine⟨_,rfl,by kernel_rfl,λ_ _ _ h=>h,.inl ⟨by rfl,λw U=>by(try dsimp only at U);go_simp⟩,?_⟩;try simp only[pS])
 apply tke;refine aR (i:=13) (by kernel_rfl) rfl (λK H=>?_);go_simp;apply H.out _ _ (λe=>by cases e);try simp only[pS]
 refine cY (by kernel_rfl) ?_ _
 all_goals go_wp2
 all_goals go_ret
 all_goals
  have b4:=aC a5 1 (.q T (m.length+1) V);have bu:=vJ (vJ A.size G.size) aa.size;have F:Fr (fpL b d) w (a1.setCell ⟨b,1,none⟩ (.q T (m.length+1) V)):=((((AA A).trans (G.mono (λk a=>.inl (.inl a)))).trans ((AA aa).mono (λk a=>.inl a))).trans (D.fr.mono (λk a=>.inl (.inr a)))).setCell (p:=⟨b,1,none⟩) (.inl (.inl rfl)) _;have aj:∀k,(Value.q T (m.length+1) V).ownBlock=some k->d.ownBlock=some k\/w.heap.size<=k:=λk a=>(D.lies k a).imp id (λh=>by omega);refine⟨rfl,x,_,⟨by simpa using b4,?_,?_,by omega,?_,?_⟩,F,aj⟩
  ·have b7:aD w a7 x (fr.map (λn:Nat=>Value.i n)):=by
    refine aD.tail (v:=.i p) (by simpa using h.free) (λam=>?_);rw[<-ae.out,AQ];intro e;have:fr.length≠0:=λar=>am (by rw[AG ar];rfl);omega
   exact b7.on (F.on (λk a=>⟨(h.apart k a).1,λe=>by rcases e with e|e;exact(h.apart k a).2.1 e;exact(h.apart k a).2.2 e⟩))
  ·intro am
   rw[<-ae.out];split
   ·exact⟨_,_,rfl⟩
   ·exact⟨_,_,rfl⟩
  ·have:a1.ownsRow 0 226 2 (.q T (m.length+1) V) (m++[(p,B)]).length ((m++[(p,B)]).flatMap dD):=by
    rw[jK,AM,BU];exact D.row
   exact aS this ((CJ (λk=>(Value.q T (m.length+1) V).ownBlock=some k) a1).setCell (p:=⟨b,1,none⟩) (λa=>(aQ D.row a5 (by decide)) a) _) (λk a=>a)
  ·intro k a
   refine⟨jY (h.apart k a).1 F.size,(h.apart k a).2.1,λe=>?_⟩;rcases aj k e with e|e
   ·exact(h.apart k a).2.2 e
   ·have:=(h.apart k a).1;omega
theorem Lf(β sv lv fs)(bn:(fs.life==0)=false)(root r u t p s es cs f h S w)(a0:aU fs 0 (.leaf p es) s)(af:aH w β sv lv fs)(bf:aD w S f (cs.flatMap Ch.cells))(V:∀b,S b->b<w.heap.size)(ak:cJ cs)(bm:∀c∈cs,c.good)(cm:cs.length<=1000000)(bj:cs.length<=h)(c1:(f=none/\h=0)\/∃b c2,f=some ⟨b,c2,none⟩)(bt:(bD es cs).length<=1000000):
  cL 191 #[.agg (tA β root r u t),.i p,.agg #[.string s.lo,.string s.hi],.slice f cs.length h] w λe w' =>
   ∃v ms,e=.returned v/\w'.ownsRow 0 242 5 v ms.length (aL ms)/\bG w' (New w w') ((cT (bD es cs)).map nd0) ms/\bW w w'/\∀k,v.ownBlock=some k->w.heap.size<=k:=by
 have Y:∀y∈bD es cs,y.good fs:=jW (fs:=fs) (dV (h:=0) a0) ak (jL a0) bm;obtain⟨g,ag,O,F,bq,ah,bs⟩:=a0;obtain⟨i,D,J,c9,c5,b8,b4⟩:=al3 w (.cells (tA β root r u t) 90) (.cells #[.string s.lo,.string s.hi] 154) (.cells #[.slice f cs.length h] 88); obtain⟨ca,cb,cc⟩:=eQ c9;obtain⟨c6,c7⟩:=bS c5;have bl:aH i β sv lv fs:=af.on (vV J af.lies);obtain⟨c8,cq,b0⟩:=gB ag;have bk:0<g.ents.length:=by rw[F,AE];exact BR.2 bq
 have ae:g.ents.length=es.length:=by rw[F,AE]
 have Z:∀e∈g.ents,s.has e.key=true:=λe ad=>by rw[F,AY]at ad;obtain⟨G,a1,rfl⟩:=ad;exact ah G a1
 have a8:=tM β sv lv fs root r u t p s g i bl bn ag (by simp[O]) (by simp[O]) bk (Z _ (AB _)) (Z _ (AB _)) c8 b0;have cl:(g.kind==3)=true:=by simp[O]
 have b5:Hid (g.ents=es.map (·.e)):=F;have R:Hid (g.ents.length=es.length):=ae;have a6:Hid (i.heap.size=w.heap.size+3):=b4;have b7:Hid (g.ents.length<=1000):=b0;clear O F ae b4 Z ah bs;go_enter Tryz.func191,Tryz.ntmps191;go_wp2_with (first
  |(go_at_call 144;(with_reducible refine jC a8 ?_);rintro e l ⟨cu,rfl,⟨an,al,j,ao,am,m,rfl,c3,c4,ay,az⟩,W⟩;have H:=aA l (pgO g an al j ao am m);obtain⟨ap,aq,ar,au,av,aw,a3,ax⟩:=bM H))
 obtain⟨a,N,T,-⟩:=al1 l (pgO g an al j ao am m);rw[N];rw[N]at H ap aq ar au av aw a3 ax;have ci:=W.size;have cj:l.heap.size<a.heap.size:=(gL H);have A:bW w a:=(J.trans (W.mono J.size)).trans (T.mono (vJ J.size ci));have L:a.heap[w.heap.size+1+1]?=some (.cells #[.slice f cs.length h] 88):=(T.block _ (by have:=a6.out;omega)).trans ((W.block _ (by have:=a6.out;omega)).trans b8);have x:a.c l.heap.size 6=some (.slice j g.ents.length m):=a3;have z:a.c (w.heap.size+1+1) 0=some (.slice f cs.length h):=by simp[World.cell?,L]
 have K:Hid (∀X,bW a X->X.c l.heap.size 6=some (.slice j g.ents.length m)/\X.c (w.heap.size+1+1) 0=some (.slice f cs.length h)):=by
  intro X q;have b9:=(q.block _ cj).trans H;have ba:=(q.block _ (gL L)).trans L;exact⟨(bM b9).2.2.2.2.2.2.1,by simp[World.cell?,ba]⟩
 have bc:bW a a:=AC _ _;have aj:aD a (λk=>k<a.heap.size) j (aT es):=by
  have:=(ay.on (vV T (λk d=>d.2))).mono (S':=λk=>k<a.heap.size) (λk d=>by have:=d.2;omega);rw[Ag b5.out]at this;exact this
 have ck:=az.2.2;have a4:Hid (∀X,bW a X->∀(B o:Nat),X.heap[B]?=some (.cells #[.slice j g.ents.length m] 67)->X.heap[o]?=some (.cells #[.func (.func 214) #[] #[.p B 0]] 151)->X.heap[o+1]?=some (.cells #[.slice f cs.length h] 88) ->
   cL 190 #[.func (.func 195) #[] #[.p (o+1) 0,.p o 0]] X λe w'=>∃v,e=.returned v/\w'.ownsRow 0 69 4 v (bD es cs).length (aT (bD es cs))/\bW X w'/\∀k,v.ownBlock=some k->X.heap.size<=k):=by
  intro X q B o E ab aa;have bu:aD X (λk=>k<X.heap.size) j (aT es):=(aj.on (vV q (λk d=>d))).mono (λk d=>jY d q.size);have bg:aD X (λk=>k<X.heap.size) f (cs.flatMap Ch.cells):=((bf.on (vV A V)).on (vV q (λk d=>jY (V k d) A.size))).mono (λk d=>jY (jY (V k d) A.size) q.size);rw[R.out]at E;have bh:=Lz B j m es (λk=>k<X.heap.size) (λk=>k<X.heap.size) X E bu (by have:=b7.out;have:=R.out;omega) (by have:=R.out;omega) (gL E) (λk n=>n);have be:=Hv 214 #[.p B 0] (enters_of Tryz.func214 (by kernel_rfl) rfl) es (λk=>k<X.heap.size) (o+1) o f h cs (λk=>k<X.heap.size) (λk=>k<X.heap.size) X bh aa ab bg ak (by omega) bj c1 (gL aa) (gL ab) (λk n=>n) (λk n=>n);exact Am 195 _ (enters_of Tryz.func195 (by kernel_rfl) rfl) (bD es cs) (λk=>k<X.heap.size) X be (λk n=>n) (by omega)
 obtain⟨I,a2⟩:=nM (bD es cs);rw[a2]at a4 bt Y;have b6:Hid ((cT (bD es cs)).map nd0=(dP esz I).map xZ):=by show _=_;rw[uT,a2]
 have a5:Hid (∀G∈I,G.good fs):=Y;clear Y a2 aj N H L ap aq ar au av aw a3 ax c3 c4 ay az ca cb cc c6 c7 a8;go_region_held3 (λX=>X.c l.heap.size 6=some (.slice j g.ents.length m)/\X.c (w.heap.size+1+1) 0=some (.slice f cs.length h))
  ((first|(with_reducible exact⟨x,z⟩)|(simp[x,z])))
  (first
   |(go_at_call 205;(with_reducible refine jC (Ma j g.ents.length m _) ?_);rintro e b2 ⟨rfl,b3,E⟩;have U:bW a b2:=bc.drew.trans E;obtain⟨x,z⟩:=K.out b2 U)
   |(go_at_call 175;(with_reducible refine jC (uB _ _ _ _ _ _) ?_);rintro e Q ⟨rfl,cf,cg,ac⟩;have C:bW a Q:=U.trans (ac.mono U.size);obtain⟨x,z⟩:=K.out Q C;have ch:=(ac.block _ (gL b3)).trans b3;have bb:=a4.out Q C _ _ ch cf cg)
   |(go_at_call 190;(with_reducible refine jC bb ?_);rintro e P ⟨cr,rfl,ai,bi,bp⟩;have M:bW a P:=C.trans (bi.mono C.size);obtain⟨x,z⟩:=K.out P M;obtain⟨cd,ce,rfl,c0,bx⟩:=bR ai;have bd:=pB cd ce I (λk=>k<P.heap.size/\Q.heap.size<=k) P (bx.mono (λk d=>⟨aM ai d,bp k d⟩)) (λk d=>d.1) (by omega) c0 (λG a1=>qA (a5.out G a1)) (oQ a5.out))
   |(go_at_call 189;(with_reducible refine jC bd ?_);rintro e b1 ⟨ct,qs,rfl,br,bv,bw,a9,bo⟩;have a7:bW a b1:=M.trans (a9.mono M.size);obtain⟨x,z⟩:=K.out b1 a7))
 all_goals go_wp2
 all_goals go_ret
 all_goals
  have bz:=A.size;have cn:=C.size;have co:=M.size;have cp:=a9.size;refine⟨_,qs.map lL,rfl,by rw[AE];exact br,?_,A.trans (a7.mono bz),λk d=>vJ (by omega) (bo k d)⟩;rw[b6.out,<-bv];exact(xY bw).mono (λk d=>⟨by have:=d.2;omega,by have:=d.1;omega⟩)
def Vx(nd:NT->Nd)(k:List NT)(S:Bl)(W:World)(e:Ending)(w':World):Prop:=∃lo hi ea ec ka kc ms,e=.returned (.agg #[.string lo,.string hi,.int .i64 0,.slice ea 0 ec,.slice ka k.length kc])/\aD w' (Or2 S (New W w')) ka (aL ms)/\bG w' (Or2 S (New W w')) (k.map nd) ms/\k.length<=kc/\bW W w'
theorem bG.past {w W c:World}{ns ms}(h:bG c (Or2 S (New W c)) ns ms)(d:∀b,S b->b<w.heap.size)(e:w.heap.size+3<=W.heap.size)(f:w.heap.size<=c.heap.size):bG c (λk=>Rx w.heap.size c k/\(S k\/w.heap.size<=k)) ns ms :=
 h.mono (λk a=>by
  rcases a with a|a
  ·exact⟨⟨jY (d k a) f,.inl (d k a)⟩,.inl a⟩
  ·exact⟨⟨a.2,.inr (vJ e a.1)⟩,.inr (by have:_<=k:=a.1;omega)⟩)
def lE(S:Bl)(n:Nat)(w:World):Bl:=λk=>Rx n w k/\(S k\/n<=k)
theorem aD.past4 {w W d:World}{g}(h:aD d (Or2 S (New W d)) a g)(f:∀b,S b->b<w.heap.size)(i:w.heap.size+3<=W.heap.size)(j:w.heap.size<=d.heap.size):aD d (lE S w.heap.size d) a g :=
 h.mono (λe c=>by
  rcases c with c|c
  ·exact⟨⟨jY (f e c) j,.inl (f e c)⟩,.inl c⟩
  ·exact⟨⟨c.2,.inr (vJ i c.1)⟩,.inr (by have:_<=e:=c.1;omega)⟩)
theorem aD.step4 {n W c e}(h:aD W (lE S n W) a e)(d:bW W c):aD c (lE S n c) a e :=
 (h.on (vV d (λf b=>b.1.1))).mono (λf b=>⟨⟨jY b.1.1 d.size,b.1.2⟩,b.2⟩)
theorem bG.step4 {n W b ns ms}(h:bG W (lE S n W) ns ms)(c:bW W b):bG b (lE S n b) ns ms :=
 (h.on (vV c (λd a=>a.1.1))).mono (λd a=>⟨⟨jY a.1.1 c.size,a.1.2⟩,a.2⟩)
theorem Me(β root m p o D)(i l Y:List NT)(c mb:MN)(S w)(b1:∀b,S b->b<w.heap.size)(cf:∀W,bW w W->cL 219 #[.agg (tA β root m p o),.agg #[.string c.lo,.string c.hi,.i c.place,.slice c.ea c.en c.ec,.slice c.ka c.kn c.kc]] W λe w'=>Vx D i S W e w')(cg:∀W,bW w W->cL 219 #[.agg (tA β root m p o),.agg #[.string mb.lo,.string mb.hi,.i mb.place,.slice mb.ea mb.en mb.ec,.slice mb.ka mb.kn mb.kc]] W λe w'=>Vx D l S W e w')(cn:0<i.length)(dl:i.length+l.length<=1000000)(dk:Y.length<=1000000)(d7:∀n∈Y,(D n).sp.lo.size<=24)(br:∀(ms:List MN) (b4:Option Addr) (b5:Nat) (Z:Bl) (W:World),bW w W->aD W Z b4 (aL ms)->bG W Z ((i++l).map D) ms->(∀b,Z b->b<W.heap.size)->(i++l).length<=b5->cL 206 #[.agg (tA β root m p o),.slice b4 (i++l).length b5] W λe w' =>
   ∃v rs,e=.returned v/\w'.ownsRow 0 242 5 v rs.length (aL rs)/\bG w' (Apart Z W.heap.size v w') (Y.map D) rs/\bW W w'/\∀k,v.ownBlock=some k->W.heap.size<=k):
  cL 216 #[.agg (tA β root m p o),c.val,mb.val] w λe w' =>
   ∃v ms,e=.returned v/\w'.ownsRow 0 242 5 v ms.length (aL ms)/\bG w' (Or2 S (New w w')) ((dP uW (Y.map D)).map Ft) ms/\bW w w'/\∀k,v.ownBlock=some k->w.heap.size<=k:=by
 obtain⟨s,am,cu,b6,ba,bi,ct⟩:=al3 w (.cells (tA β root m p o) 90) c.obj mb.obj; have cx:Hid (s.heap.size=w.heap.size+3):=ct;have Q:∀W,Below (w.heap.size+3) s W->bW w W:=λW d=>cu.trans (d.mono (by omega));have cz:=λW d=>cf W (Q W d);have d0:=λW d=>cg W (Q W d);have j:Below (w.heap.size+3) s s:=AC _ _;have C:w.heap.size+3<=s.heap.size:=by omega
 obtain⟨ae,af,ag⟩:=eQ b6;obtain⟨a0,a1,a2,a3,a4⟩:=cU ba;obtain⟨a6,a7,a8,a9,aa⟩:=cU bi;clear ct cf cg;go_enter Tryz.func216,Tryz.ntmps216;go_wp2;refine dF (S:=(λX=>X.c w.heap.size 0=some (.p β 0)/\X.c w.heap.size 1=some (.i root)/\X.c w.heap.size 2=some (.slice m p o)/\X.c (w.heap.size+1) 0=some (.string c.lo)/\X.c (w.heap.size+1) 1=some (.string c.hi)/\X.c (w.heap.size+1) 2=some (.i c.place)/\X.c (w.heap.size+1) 3=some (.slice c.ea c.en c.ec)/\X.c (w.heap.size+1) 4=some (.slice c.ka c.kn c.kc)/\X.c (w.heap.size+1+1) 0=some (.string mb.lo)/\X.c (w.heap.size+1+1) 1=some (.string mb.hi)/\X.c (w.heap.size+1+1) 2=some (.i mb.place)/\X.c (w.heap.size+1+1) 3=some (.slice mb.ea mb.en mb.ec)/\X.c (w.heap.size+1+1) 4=some (.slice mb.ka mb.kn mb.kc))) 6 (by kernel_rfl) ?_;have V:=(show((λX=>X.c w.heap.size 0=some (.p β 0)/\X.c w.heap.size 1=some (.i root)/\X.c w.heap.size 2=some (.slice m p o)/\X.c (w.heap.size+1) 0=some (.string c.lo)/\X.c (w.heap.size+1) 1=some (.string c.hi)/\X.c (w.heap.size+1) 2=some (.i c.place)/\X.c (w.heap.size+1) 3=some (.slice c.ea c.en c.ec)/\X.c (w.heap.size+1) 4=some (.slice c.ka c.kn c.kc)/\X.c (w.heap.size+1+1) 0=some (.string mb.lo)/\X.c (w.heap.size+1+1) 1=some (.string mb.hi)/\X.c (w.heap.size+1+1) 2=some (.i mb.place)/\X.c (w.heap.size+1+1) 3=some (.slice mb.ea mb.en mb.ec)/\X.c (w.heap.size+1+1) 4=some (.slice mb.ka mb.kn mb.kc))) s.drew from ⟨ae,af,ag,a0,a1,a2,a3,a4,a6,a7,a8,a9,aa⟩);refine tks [(0,.agg (tA β root m p o)),(1,.agg #[.string c.lo,.string c.hi,.i c.place,.slice c.ea c.en c.ec,.slice c.ka c.kn c.kc]),(3,.agg (tA β root m p o)),(4,.agg #[.string mb.lo,.string mb.hi,.i mb.place,.slice mb.ea mb.en mb.ec,.slice mb.ka mb.kn mb.kc])] (by assumption) ?_;iterate 4 (refine⟨_,rfl,by kernel_rfl,λ_ _ _ d=>d,.inl ⟨by rfl,λw H=>by(try dsimp only at H);go_simp⟩,?_⟩;try simp only[pS])
 refine tke ?_;refine aR (i:=2) (by kernel_rfl) rfl (λK f=>?_);go_simp
 (go_at_call 219;(with_reducible refine jC (cz _ ?_) ?_);(first|exact j|exact j.drew);rintro e h ⟨bh,bg,be,bf,t,y,E,rfl,aj,ai,di,P⟩;have G:=j;have j:Below (w.heap.size+3) s h:=(by first|exact cK G C P|exact cK G.drew C P);have aj:aD h (lE S w.heap.size h) t (aL E):=aj.past4 b1 (by first|exact C|exact vJ C G.size) (Q _ j).size;have ai:bG h (lE S w.heap.size h) (i.map D) E:=ai.past b1 (by first|exact C|exact vJ C G.size) (Q _ j).size;clear G;obtain⟨ae,af,ag⟩:=eQ ((j.block w.heap.size (by omega)).trans b6);have R:=(j.block (w.heap.size+1) (by omega)).trans ba;have U:=(j.block (w.heap.size+1+1) (by omega)).trans bi;obtain⟨a0,a1,a2,a3,a4⟩:=cU R;obtain⟨a6,a7,a8,a9,aa⟩:=cU U;have c8:=aB R;have cb:=aB U)
 simp only[];refine f.out _ _ (λ_=>⟨ae,af,ag,a0,a1,a2,a3,a4,a6,a7,a8,a9,aa⟩) ?_;clear f K;try simp only[pS]
 refine aR (i:=5) (by kernel_rfl) rfl (λK f=>?_);go_simp
 (go_at_call 219;(with_reducible refine jC (d0 _ ?_) ?_);(first|exact j|exact j.drew);rintro e h ⟨bq,bp,bn,bo,z,A,F,rfl,al,ak,dj,P⟩;have G:=j;have j:Below (w.heap.size+3) s h:=(by first|exact cK G C P|exact cK G.drew C P);have al:aD h (lE S w.heap.size h) z (aL F):=al.past4 b1 (by first|exact C|exact vJ C G.size) (Q _ j).size;have ak:bG h (lE S w.heap.size h) (l.map D) F:=ak.past b1 (by first|exact C|exact vJ C G.size) (Q _ j).size;clear G;obtain⟨ae,af,ag⟩:=eQ ((j.block w.heap.size (by omega)).trans b6);have R:=(j.block (w.heap.size+1) (by omega)).trans ba;have U:=(j.block (w.heap.size+1+1) (by omega)).trans bi;obtain⟨a0,a1,a2,a3,a4⟩:=cU R;obtain⟨a6,a7,a8,a9,aa⟩:=cU U;have c8:=aB R;have cb:=aB U)
 simp only[];refine f.out _ _ (λ_=>⟨ae,af,ag,a0,a1,a2,a3,a4,a6,a7,a8,a9,aa⟩) ?_;clear f K;try simp only[pS]
 refine aR (i:=6) (by kernel_rfl) rfl (λK f=>?_);go_simp;refine f.out _ _ (λe=>by cases e) ?_;clear f K;try simp only[pS]
 refine aR (i:=7) (by kernel_rfl) rfl (λK f=>?_);go_simp;refine f.out _ _ (λe=>by cases e) ?_;clear f K;try simp only[pS]
 refine cY (by kernel_rfl) ?_ _
 all_goals (first|(have bd:=aD.step4 aj P;have bb:=bG.step4 ai P;have bl:=al;have bj:=ak)|(have bl:=aD.step4 al P;have bj:=bG.step4 ak P;have bd:=aj;have bb:=ai))
 all_goals
  have c4:=vM R (.string bh) (.string bg) (.i 0) (.slice be 0 bf) (.slice t i.length y);have ay:=Be h (w.heap.size+1) (.string bh) (.string bg) (.i 0) (.slice be 0 bf) (.slice t i.length y);obtain⟨b9,c1⟩:=nM (Ml h (w.heap.size+1) (.string bh) (.string bg) (.i 0) (.slice be 0 bf) (.slice t i.length y));rw[c1]at c4 ay;have ca:=ay.heap U (oN (by omega));have c5:=vM ca (.string bq) (.string bp) (.i 0) (.slice bn 0 bo) (.slice z l.length A);have az:=Be b9 (w.heap.size+1+1) (.string bq) (.string bp) (.i 0) (.slice bn 0 bo) (.slice z l.length A);obtain⟨g,c2⟩:=nM (Ml b9 (w.heap.size+1+1) (.string bq) (.string bp) (.i 0) (.slice bn 0 bo) (.slice z l.length A));rw[c2]at c5 az;have cs:=az.heap c4 (oN (by omega));have au:Fr (λk=>k=w.heap.size+1\/k=w.heap.size+1+1) h g:=(ay.mono (λk a=>.inl (.inl a))).trans (az.mono (λk a=>.inl (.inr a)));have aq:On (lE S w.heap.size h) h g:=au.on (λk a=>⟨a.1.1,λe=>by have:=a.1.2;omega⟩);have c7:=bd.on aq;have c9:=bl.on aq;have bc:=bb.on aq;have bk:=bj.on aq;have dq:=(Q _ j).size;have O:bW w g:=(Q _ j).trans (au.below (by omega) (λk a=>by omega));have dn:=au.size;have cq:=au.heap ((j.block w.heap.size (by omega)).trans b6) (λe=>by omega);obtain⟨dr,ds,dt,du,I⟩:=cU cs;obtain⟨dv,dw,dx,dy,J⟩:=cU c5;obtain⟨L,M,N⟩:=eQ cq;have dm:¬i=[]:=λe=>by rw[e]at cn;simp at cn
  clear c4 ay ca az aj al ai ak bd bl bb bj a0 a1 a2 a3 a4 a6 a7 a8 a9 aa R U c8 cb ae af ag aq;unfold Ml at c1 c2;rw[c1,c2];go_wp2;obtain⟨B,cp⟩:=nM (g.drew.alloc (.cells #[.slice t i.length y,.slice z l.length A] 239));have T:bW g B:=cp▸(AC g.heap.size g).drew.alloc (jU _) _;have c3:B.heap[g.heap.size]?=some (.cells #[.slice t i.length y,.slice z l.length A] 239):=cp▸aA g.drew _;have df:=(gL c3);have dp:w.heap.size+3<=g.heap.size:=by have:=j.size;have:=cx.out;omega
  have av:Hid (∀X,bW g X->(X.c w.heap.size 0=some (.p β 0)/\X.c w.heap.size 1=some (.i root)/\X.c w.heap.size 2=some (.slice m p o))/\X.c (w.heap.size+1) 4=some (.slice t i.length y)/\X.c (w.heap.size+1+1) 4=some (.slice z l.length A)):=λX bt=>⟨eQ ((bt.block _ (by omega)).trans cq),(cU ((bt.block _ (by omega)).trans cs)).2.2.2.2,(cU ((bt.block _ (by omega)).trans c5)).2.2.2.2⟩;have ap:On (lE S w.heap.size h) g B:=vV T (λk a=>by have:=a.1.1;omega);have bu:E.length=i.length:=by have:=bc.1;rwa[AE]at this
  have bx:F.length=l.length:=by have:=bk.1;rwa[AE]at this
  have b0:∀k,lE S w.heap.size h k->k<B.heap.size:=λk a=>by have:=a.1.1;have:=T.size;omega
  have cd:=Qr [⟨t,y,E⟩,⟨z,A,F⟩] (some ⟨g.heap.size,0,none⟩) 2 (λk=>k<B.heap.size) B
   (.inr ⟨g.heap.size,0,rfl,df,λr u an=>by
    rcases r with _|_|r
    ·simp[Pc.val,bu]at an;subst an;simp[World.cell?,c3]
    ·simp[Pc.val,bx]at an;subst an;simp[World.cell?,c3]
    ·simp at an⟩)
   (λq co=>by
    simp only[AR,FC,KI]at co;rcases co with rfl|rfl
    ·exact⟨by show E.length<=y;omega,(c7.on ap).mono b0⟩
    ·exact⟨by show F.length<=A;omega,(c9.on ap).mono b0⟩)
   (λk a=>a) (by simp[lens];omega) (by simp) (by simp)
  have cl:lens [(⟨t,y,E⟩:Pc MN),⟨z,A,F⟩]=(i++l).length:=by simp[lens,bu,bx]
  have ck : [(⟨t,y,E⟩:Pc MN),⟨z,A,F⟩].flatMap (·.l)=E++F:=by simp
  obtain⟨ad,bz⟩:=nM ((i++l).length);rw[cl,ck,bz]at cd;simp only[bz]at br;have ch:bG B (λk=>lE S w.heap.size h k) ((i++l).map D) (E++F):=by
   rw[BM];exact(bc.on ap).append (bk.on ap)
  have dh:bW w B:=O.trans (T.mono (by have:=O.size;omega));have cw:Hid (bG B (λk=>lE S w.heap.size h k) ((i++l).map D) (E++F)):=ch;have aw:Hid (∀k,lE S w.heap.size h k->k<B.heap.size/\(S k\/w.heap.size<=k)):=λk a=>⟨b0 k a,a.2⟩;have cv:Hid (∀(ms:List MN) (b4:Option Addr) (b5:Nat) (Z:Bl) (W:World),bW w W->aD W Z b4 (aL ms)->bG W Z ((i++l).map D) ms->(∀b,Z b->b<W.heap.size)->ad<=b5->_):=br;have V:=(show(λX:World=>X.c w.heap.size 0=some (.p β 0)/\X.c w.heap.size 1=some (.i root)/\X.c w.heap.size 2=some (.slice m p o)/\X.c (w.heap.size+1) 4=some (.slice t i.length y)/\X.c (w.heap.size+1+1) 4=some (.slice z l.length A)) g.drew from ⟨L,M,N,I,J⟩);clear ch b0 cl ck bu bx ap bz c7 c9 bc bk br;refine wp_region_held_drew (S:=(λX=>X.c w.heap.size 0=some (.p β 0)/\X.c w.heap.size 1=some (.i root)/\X.c w.heap.size 2=some (.slice m p o)/\X.c (w.heap.size+1) 4=some (.slice t i.length y)/\X.c (w.heap.size+1+1) 4=some (.slice z l.length A))) (by kernel_rfl) ⟨L,M,N,I,J⟩ (λV=>?_);refine wpAnyH_take (i:=0) (v:=.agg (tA β root m p o)) rfl (by kernel_rfl) (by kernel_rfl) (by kernel_rfl) (λ_ _ _ d=>d) (FG ⟨by rfl,λw H=>by(try dsimp only at H);go_simp⟩) (by assumption) ?_;try simp only[pS]
  refine wpAnyH_take (i:=1) (v:=.p (w.heap.size+1) 4) rfl (by kernel_rfl) (by kernel_rfl) (by kernel_rfl) (λ_ _ _ d=>d) (FG ⟨by rfl,λw H=>by(try dsimp only at H);go_simp⟩) (by assumption) ?_;try simp only[pS]
  refine wpAnyH_take (i:=2) (v:=.slice t i.length y) rfl (by kernel_rfl) (by kernel_rfl) (by kernel_rfl) (λ_ _ _ d=>d) (FG ⟨by rfl,λw H=>by(try dsimp only at H);go_simp⟩) (by assumption) ?_;try simp only[pS]
  refine wpAnyH_take (i:=3) (v:=.p (w.heap.size+1+1) 4) rfl (by kernel_rfl) (by kernel_rfl) (by kernel_rfl) (λ_ _ _ d=>d) (FG ⟨by rfl,λw H=>by(try dsimp only at H);go_simp⟩) (by assumption) ?_;try simp only[pS]
  refine wpAnyH_take (i:=4) (v:=.slice z l.length A) rfl (by kernel_rfl) (by kernel_rfl) (by kernel_rfl) (λ_ _ _ d=>d) (FG ⟨by rfl,λw H=>by(try dsimp only at H);go_simp⟩) (by assumption) ?_;try simp only[pS]
  refine wpAnyH_ready (rs:=[5]) (by kernel_rfl) (by simp) (AllReadyH.cons rfl (λK f=>?_) AllReadyH.nil);go_simp;obtain⟨⟨L,M,N⟩,I,J⟩:=av.out B T;refine f.out _ _ ⟨L,M,N,I,J⟩ (λV=>?_);clear f K;try simp only[pS]
  refine wpAnyH_ready (rs:=[6]) (by kernel_rfl) (by simp) (AllReadyH.cons rfl (λK f=>?_) AllReadyH.nil);go_simp
  (go_at_call 221;(with_reducible refine jC cd ?_);rintro e ar ⟨v,rfl,c0,b3,d6⟩)
  have a5:bW g ar:=T.trans (b3.mono T.size);obtain⟨⟨L,M,N⟩,I,J⟩:=av.out ar a5;obtain⟨b7,b8,rfl,dd,db⟩:=bR c0;have ce:=cv.out (E++F) b7 b8 (λk=>lE S w.heap.size h k\/(Value.slice b7 ad b8).ownBlock=some k) ar (O.trans (a5.mono (by have:=O.size;omega))) (db.mono (λk a=>.inr a)) ((cw.out.on (vV b3 (λk a=>(aw.out k a).1))).mono (λk a=>.inl a)) (λk a=>a.elim (λd=>jY (aw.out k d).1 b3.size) (λd=>aM c0 d)) dd;try simp only[]
  refine f.out _ _ ⟨L,M,N,I,J⟩ (λV=>?_);clear f K;try simp only[pS]
  refine wpAnyH_ready (rs:=[7]) (by kernel_rfl) (by simp) (AllReadyH.cons rfl (λK f=>?_) AllReadyH.nil);go_simp
  (go_at_call 206;(with_reducible refine jC ce ?_);clear ce;rintro e ah ⟨dz,rs,rfl,cm,bs,bv,d4⟩)
  have ax:bW g ah:=a5.trans (bv.mono a5.size);obtain⟨⟨L,M,N⟩,I,J⟩:=av.out ah ax;obtain⟨ab,ac,rfl,d3,dc⟩:=bR cm;have c6:Hid (rs.length=Y.length):=by show _=_;rw[bs.1,AE]
  have cj:∀x∈rs,x.lo.size<=24:=λx ao=>by
   obtain⟨r,d2,rfl⟩:=AU ao;have cc:r<Y.length:=by have:=c6.out;omega
   have cy:=(bs.2 r (D Y[r]) rs[r] (by rw[BN,jQ cc];rfl) (jQ d2)).lo;rw[cy];exact d7 _ (AB cc)
  have b2:∀k,((Value.slice ab rs.length ac).ownBlock=some k\/Apart (λk=>lE S w.heap.size h k\/(Value.slice b7 ad b8).ownBlock=some k) ar.heap.size (.slice ab rs.length ac) ah k)->k<ah.heap.size/\(S k\/w.heap.size<=k):=by
   rintro k (a|a)
   ·exact⟨aM cm a,.inr (by have:=d4 k a;have:=a5.size;have:=O.size;omega)⟩
   ·rcases a.1 with(d|d)|d
    ·exact⟨jY (aw.out k d).1 (vJ b3.size bv.size),(aw.out k d).2⟩
    ·exact⟨jY (aM c0 d) bv.size,.inr (by have:=d6 k d;have:=T.size;have:=O.size;omega)⟩
    ·exact⟨d.2,.inr (by have:=d.1;have:=a5.size;have:=O.size;omega)⟩
  have ci:=mD ab ac rs (λk=>(Value.slice ab rs.length ac).ownBlock=some k\/Apart (λk=>lE S w.heap.size h k\/(Value.slice b7 ad b8).ownBlock=some k) ar.heap.size (.slice ab rs.length ac) ah k) ah (dc.mono (λk a=>.inl a)) (λk a=>(b2 k a).1) (by have:=c6.out;omega) d3 (λx ao=>cj x ao) (λx ao=>by have:=cj x ao;unfold ksz;omega);try simp only[]
  refine f.out _ _ ⟨L,M,N,I,J⟩ (λV=>?_);clear f K;try simp only[pS]
  refine wpAnyH_ready (rs:=[8]) (by kernel_rfl) (by simp) (AllReadyH.cons rfl (λK f=>?_) AllReadyH.nil);go_simp
  (go_at_call 192;(with_reducible refine jC ci ?_);clear ci;rintro e cr ⟨de,qs,rfl,d8,d9,da,bw,d5⟩)
  have bm:bW g cr:=ax.trans (bw.mono ax.size);obtain⟨⟨L,M,N⟩,I,J⟩:=av.out cr bm;try simp only[]
  refine f.out _ _ ⟨L,M,N,I,J⟩ (λV=>?_);clear f K;try simp only[pS]
  refine wpAnyH_ready (rs:=[9]) (by kernel_rfl) (by simp) (AllReadyH.cons rfl (λK f=>?_) AllReadyH.nil);go_simp;try simp only[]
  refine f.out _ _ ⟨L,M,N,I,J⟩ (λV=>?_);clear f K;try simp only[pS]
  refine wpAnyH_done (by kernel_rfl) ?_ _;go_wp2;go_ret;have dg:=O.size;have e1:=bm.size;have e0:=ax.size;refine⟨de,rfl,qs.map lQ,by rw[AE];exact d8,?_,O.trans (bm.mono dg),λk a=>by have:=d5 k a;omega⟩;have d1:=(bs.mono (λk a=>(.inr a:(Value.slice ab rs.length ac).ownBlock=some k\/_))).on (vV bw (λk a=>(b2 k a).1));exact(Fo (w:=w) d1 d9 da).mono (λk a=>(b2 k a).2.imp id (λd=>⟨d,by have:=(b2 k a).1;have:=bw.size;omega⟩))
