import Derived.Test.YtdhgdcjmhofhaaaGreatD28
import Derived.Deep.RegionHeld3
set_option linter.all false
set_option maxRecDepth 100000
set_option maxHeartbeats 8000000
namespace Go.Proofs.YtdhgdcjmhofhaaaGreat.Tree
open Go.RowKit Pages
variable {L:Array Bool} {a:Act} {i n:Nat} {w:World}
def oG(P:Program)(md:Region.Mode)(ops:Array Oper)(Q:Exit->Act->World->Prop)(S:World->Prop)(s:Nat):Nat->Array Bool->Act->World->Prop
 |0,L,a,w=>Region.ready md ops L=[]/\Q .normal a w
 |n+1,L,a,w=>(Region.ready md ops L=[]->Q .normal a w)/\∀i∈Region.ready md ops L,wpOp P ops Q i (λa' w'=>((L.setIfInBounds i true).getD s true=false->S w')/\oG P md ops Q S s n (L.setIfInBounds i true) a' w') a w
section
variable {P:Program}{md:Region.Mode}{ops:Array Oper}{Q:Exit->Act->World->Prop}{S:World->Prop}{s:Nat}
theorem oG.any:∀{n:Nat}{L:Array Bool}{a:Act}{w:World},oG P md ops Q S s n L a w->wpAny P md ops Q n L a w
 |0,_,_,_,h=>h
 |_+1,_,_,_,h=>⟨h.1,λc b=>wpOp_mono (λ_ _ d=>d.2.any) (h.2 c b)⟩
def xD(md:Region.Mode)(ops:Array Oper)(s i:Nat):Bool:=((ops[s]?).map (λo=>o.after.any (λe=>Region.binds md e&&e.on==i))).getD false
def uJ(md:Region.Mode)(ops:Array Oper)(s i:Nat):Bool:=xD md ops s i||(List.range ops.size).any (λj=>xD md ops s j&&xD md ops j i)
def Clo(md:Region.Mode)(ops:Array Oper)(L:Array Bool):Prop:=∀j oj,ops[j]?=some oj->L.getD j false=true->∀e∈oj.after,Region.binds md e=true->L.getD e.on false=true
def qId(md:Region.Mode)(ops:Array Oper)(L:Array Bool):Bool:=(List.range ops.size).all (λj=>!L.getD j false||((ops[j]?).map (λo=>o.after.all (λe=>!Region.binds md e||L.getD e.on false))).getD true)
theorem Jh (h:qId md ops L=true):Clo md ops L:=λi j c g d f e=>by
 have a:=LD.1 h i (KK.2 (gL c));rw[c,g]at a;simp only[LN,Option.getD_some,Bool.not_true,Bool.false_or]at a;have b:=Array.all_eq_true_iff_forall_mem.1 a d f;grind
theorem Iu {j x}(h:L.getD x false=true):(L.setIfInBounds j true).getD x false=true:=by
 by_cases e:j=x
 ·subst e
  rcases BS j L.size with a|a
  ·simp[a]
  grind
 simp_all
theorem Clo.set {j}(h:Clo md ops L)(k:j∈Region.ready md ops L):Clo md ops (L.setIfInBounds j true):=λf g d e a c b=>by
 by_cases ek:j=f
 ·subst ek
  have⟨_,m,l,i⟩:=GV.1 k;obtain rfl:g=m:=LJ (d.symm.trans l);exact Iu (i a c b)
 ·rw[JR false ek]at e
  exact Iu (h f g d e a c b)
theorem Cb{s i}(h:xD md ops s i=true):∃o,ops[s]?=some o/\∃e∈o.after,Region.binds md e=true/\e.on=i:=by
 unfold xD at h;grind
theorem vF (c:L.getD i true=false)(a:L.getD i false=true):False:=by
 grind
theorem xR (p:Clo md ops L)(j:uJ md ops s i=true)(hi:i∈Region.ready md ops L):s ∉ Region.ready md ops L:=by
 intro v;have⟨_,o,r,n⟩:=GV.1 v;have f:=(GV.1 hi).1;have g:∀e,xD md ops s e=true->L.getD e false=true:=λe q=>by
  obtain⟨o',t,a,d,c,rfl⟩:=Cb q;grind
 rw[uJ,DN]at j;rcases j with b|b
 ·grind
 ·have⟨k,_,h⟩:=List.any_eq_true.1 b
  rw[AN]at h;have⟨l,m⟩:=h;obtain⟨w,u,a,d,c,rfl⟩:=Cb m;exact vF f (p k w u (g k l) a d c)
theorem Fy {g v}(hi:ops[i]?=some g)(m:∀(j:Nat) (o:Oper) cs b,ops[j]?=some o->o.op≠.select cs b)(t:∀c a w,Q (.panic c) (a.put g.dst v) w->Q (.panic c) a w)(p:uJ md ops s i=true):
  ∀(n:Nat) (L:Array Bool) (a:Act) (w:World),Clo md ops L->(∀j d,ops[j]?=some d->j≠i->L.getD j true=false->(∀e∈d.after,Region.binds md e=true->e.on≠i)->g.apart ops d=true)->i∈Region.ready md ops L->L.getD s true=false->YieldsIf P ops S g v a->S w->oG P md ops Q S s n (L.setIfInBounds i true) (a.put g.dst v) w->oG P md ops Q S s (n+1) L a w
 |0,L,a,w,_,_,hr,hs,hy,hS,H=>by
  refine⟨λk=>(by grind),λj f=>?_⟩;by_cases e:j=i
  ·subst e;exact hy.wpOp hi hS ⟨λ_=>hS,H⟩
  ·have:=GW f e
   rw[H.1]at this;cases this
 |n+1,L,a,w,hc,hf,hr,hs,hy,hS,H=>by
  refine⟨λk=>(by grind),λj f=>?_⟩;by_cases e:j=i
  ·subst e;exact hy.wpOp hi hS ⟨λ_=>hS,H⟩
  ·have x:j≠s:=λh=>xR hc p hr (h▸f)
   have G:i≠s:=λh=>xR hc p hr (h▸hr);have⟨y,d,l,C⟩:=GV.1 f;have J:∀e∈d.after,Region.binds md e=true->e.on≠i:=λe E D F=>vF (GV.1 hr).1 (F▸C e E D);refine wpOp_mono (λA w' r=>?_) (wpOp_putIf l (hf j d l e y J) (λcs b=>m i g cs b hi) (λcs b=>m j d cs b l) t hy (H.2 j (GW f e)));have N:(L.setIfInBounds j true).getD s true=false:=by simp_all
   have u:S w':=r.2.1 (by simp_all);refine⟨λ_=>u,Fy hi m t p n (L.setIfInBounds j true) A w' (hc.set f) (λq O K M z I=>hf q O K M ?_ I) (GW hr (Ne.symm e)) N r.1 u ?_⟩
   ·by_cases hjq:j=q
    ·grind
    simp_all
   ·rw[FZ _ _ e];exact r.2.2
theorem lS {b v}(hi:ops[i]?=some b)(e:(Region.noSelect ops&&Region.free md ops L i&&(Region.ready md ops L).contains i&&uJ md ops s i&&!L.getD s true&&qId md ops L)=true)(o:∀c a w,Q (.panic c) (a.put b.dst v) w->Q (.panic c) a w)(p:YieldsIf P ops S b v a)(d:S w)(h:S w->oG P md ops Q S s n (L.setIfInBounds i true) (a.put b.dst v) w):oG P md ops Q S s (n+1) L a w:=by
 simp only[AN,KX]at e;have⟨⟨⟨⟨⟨f,g⟩,j⟩,k⟩,l⟩,m⟩:=e;exact Fy hi (KQ f) o k n L a w (Jh m) (LR hi g) (by grind) l p d (h d)
theorem aR {o}(d:Region.ready md ops L=[i])(j:ops[i]?=some o)(h:∀K':Act->World->Prop,Go.Shut (∀a w,((L.setIfInBounds i true).getD s true=false->S w)->oG P md ops Q S s n (L.setIfInBounds i true) a w->K' a w)->if Region.wanted o (yielded ops a.tmps)=true then Oper.wp P o a w K' Q else K' (a.put o.dst undef) w):oG P md ops Q S s (n+1) L a w:=by
 refine⟨λb=>(by grind),λk c=>?_⟩;rw[d,AS]at c;subst c;exact wpOp_step j (λK' e=>h K' (λa w f g=>e a w ⟨f,g⟩))
theorem cY (b:Region.ready md ops L=[])(h:Q .normal a w):∀n,oG P md ops Q S s n L a w
 |0=>⟨b,h⟩
 |_+1=>⟨λ_=>h,by rw[b];simp⟩
def tkA(P:Program)(md:Region.Mode)(ops:Array Oper)(Q:Exit->Act->World->Prop)(S:World->Prop)(s:Nat):List (Nat×Value)->Nat->Array Bool->Act->World->Prop
 |[],n,L,a,w=>oG P md ops Q S s n L a w
 |_ :: _,0,_,_,_=>False
 |(i,v):: l,n+1,L,a,w=>∃oi,ops[i]?=some oi/\(Region.noSelect ops&&Region.free md ops L i&&(Region.ready md ops L).contains i&&uJ md ops s i&&!L.getD s true&&qId md ops L)=true/\(∀c a w,Q (.panic c) (a.put oi.dst v) w->Q (.panic c) a w)/\YieldsIf P ops S oi v a/\tkA P md ops Q S s l n (L.setIfInBounds i true) (a.put oi.dst v) w
theorem tks:∀(l:List (Nat×Value)) {n:Nat}{L:Array Bool}{a:Act}{w:World},S w->tkA P md ops Q S s l n L a w->oG P md ops Q S s n L a w
 |[],_,_,_,_,_,h=>h
 |_ :: _,0,_,_,_,_,h=>h.elim
 |(i,v):: l,n+1,L,a,w,b,⟨oi,h1,h2,h3,h4,h5⟩=>lS h1 h2 h3 h4 b (λb=>tks l b h5)
theorem tke (h:oG P md ops Q S s n L a w):tkA P md ops Q S s [] n L a w:=h
theorem dF {id}(s)(b:P.follows .mixedOrders=true)(h:oG P .any ops Q S s ops.size (Array.replicate ops.size false) a w.drew):(Code.region id ops true).wp P Q a w :=
 wp_region_any b h.any
end
variable {S:Bl} {a:Option Addr} {n z:Nat} {v:Value} {w:World} {xs:List Value}
def nd0:NT->Nd
 |.kept t s=>.mk s t.place [] []
 |.leaf s es=>.mk s 0 es []
 |.bran s _=>.mk s 0 [] []
theorem uT(es):(cT es).map nd0=(dP esz es).map xZ:=by rw[cT,FN];rfl
def yN(n:NT):Prop:=∀t s,n=.kept t s->0<t.place
def Or2(A B:Bl):Bl:=λk=>A k\/B k
theorem qJa(β sv lv fs)(G:(fs.life==0)=false)(root g i h n)(k:Ok0 fs n)(H:yN n)(m S w)(F:aH w β sv lv fs)(y:fZ w S (nd0 n) m)(D:∀b,S b->b<w.heap.size):
  cL 219 #[.agg (tA β root g i h),.agg #[.string m.lo,.string m.hi,.i m.place,.slice m.ea m.en m.ec,.slice m.ka m.kn m.kc]] w λe w' =>
   ∃lo hi a c L M,e=.returned (.agg #[.string lo,.string hi,.i 0,.slice a n.ents0.length c,.slice L 0 M])/\aD w' (Or2 S (New w w')) a (aT n.ents0)/\n.ents0.length<=c/\bW w w':=by
 cases n with
 |bran=>exact k.elim
 |leaf s es =>
  have⟨_,_,_,_,_,N,l,o,d,r,u,v,B,x,C,z,A⟩:=y;apply(Dw β root g i h m (by simp[d]) w).mono;rintro e w' ⟨rfl,f⟩;refine⟨m.lo,m.hi,m.ea,m.ec,m.ka,m.kc,?_,(x.on (vV f D)).mono (λK j=>.inl j),v,f⟩;rw[d,r,u];rfl
 |kept t s =>
  cases t with
  |branch=>exact k.elim
  |leaf p es =>
   have⟨_,_,_,_,_,N,l,o,d,r,u,v,B,x,C,z,A⟩:=y;have O:0<p:=H _ _ rfl;have q:m.place=p:=d;have J:aU fs 0 (.leaf m.place es) ⟨m.lo,m.hi⟩:=by rw[q,l,o];exact k
   apply(Tt β sv lv fs G root g i h m (by simp[q];omega) es w J F).mono;rintro e w' ⟨a,c,rfl,I,E,f⟩;exact⟨m.lo,m.hi,a,c,none,0,rfl,I.mono (λK j=>.inr j),E,f⟩
theorem bR {e}(h:w.ownsRow 0 e z v n xs):∃a c,v=.slice a n c/\n<=c/\aD w (λk=>v.ownBlock=some k) a xs:=by
 obtain⟨a,c,rfl⟩:=aF h;have i:=h;have⟨j,l⟩:=h;rcases l with⟨b,m⟩|⟨g,q,r,b,t,y,o,u,x,A⟩
 ·simp only[AP]at b
  refine⟨a,c,rfl,by omega,.inl ?_⟩;have:xs.length=0:=by rw[j,m];simp
  exact AG this
 ·simp only[AP,CT]at b
  obtain⟨rfl,rfl⟩:=b;refine⟨_,c,rfl,o,.inr ⟨g,0,rfl,rfl,λB C p=>?_⟩⟩;have⟨s,d,_,_,f⟩:=kP i p;simp only[AX,CA,DA]at d;subst d;simpa using f
def Rx(n:Nat)(w:World):Bl:=λk=>k<w.heap.size/\(k<n\/n+3<=k)
theorem aD.past {w W d:World}{g}(h:aD d (Or2 S (New W d)) a g)(e:∀b,S b->b<w.heap.size)(i:w.heap.size+3<=W.heap.size)(j:w.heap.size<=d.heap.size):aD d (Rx w.heap.size d) a g :=
 h.mono (λf c=>by
  rcases c with c|c
  ·exact⟨jY (e f c) j,.inl (e f c)⟩
  ·exact⟨c.2,.inr (vJ i c.1)⟩)
theorem aD.step {W c e}(h:aD W (Rx n W) a e)(d:bW W c):aD c (Rx n c) a e :=
 (h.on (vV d (λf b=>b.1))).mono (λf b=>⟨jY b.1 d.size,b.2⟩)
theorem cD {b a o o' v u}(c:a≠b)(h:w.cell? ⟨b,o,none⟩=some u):(w.setCell ⟨a,o',none⟩ v).cell? ⟨b,o,none⟩=some u:=by
 rw[EC _ _ _ _ (by simp[c])];exact h
abbrev Ml(w:World)(b:Nat)(v0 v1 v2 v3 v4:Value):World:=((((w.setCell ⟨b,0,none⟩ v0).setCell ⟨b,1,none⟩ v1).setCell ⟨b,2,none⟩ v2).setCell ⟨b,3,none⟩ v3).setCell ⟨b,4,none⟩ v4
theorem Be(w b a c d v3 e):Fr (Bl.one b) w (Ml w b a c d v3 e):=
 (((((AF (Bl.one b) w).setCell (p:=⟨b,0,none⟩) (.inl rfl) _).setCell (p:=⟨b,1,none⟩) (.inl rfl) _).setCell (p:=⟨b,2,none⟩) (.inl rfl) _).setCell (p:=⟨b,3,none⟩) (.inl rfl) _).setCell (p:=⟨b,4,none⟩) (.inl rfl) _
theorem vM {b f g i j k t}(h:w.heap[b]?=some (.cells #[f,g,i,j,k] t))(a c d v3 e):(Ml w b a c d v3 e).heap[b]?=some (.cells #[a,c,d,v3,e] t):=by
 have:=aC (aC (aC (aC (aC h 0 a) 1 c) 2 d) 3 v3) 4 e;simpa using this
theorem Ye(β sv lv fs)(bu:(fs.life==0)=false)(root i l j a b)(b3:Ok0 fs a)(b4:Ok0 fs b)(c5:yN a)(c6:yN b)(c mb S w)(b7:aH w β sv lv fs)(c0:fZ w S (nd0 a) c)(c1:fZ w S (nd0 b) mb)(a6:∀b,S b->b<w.heap.size)(cm:a.ents0.length<=1000)(cn:b.ents0.length<=1000):
  cL 216 #[.agg (tA β root i l j),c.val,mb.val] w λe w' =>
   ∃v ms,e=.returned v/\w'.ownsRow 0 242 5 v ms.length (aL ms)/\bG w' (New w w') ((qGo a b).map nd0) ms/\bW w w'/\∀k,v.ownBlock=some k->w.heap.size<=k:=by
 obtain⟨g,Y,bd,ar,a9,ae,ci⟩:=al3 w (.cells (tA β root i l j) 90) c.obj mb.obj; have ck:Hid (g.heap.size=w.heap.size+3):=ci;have b2:∀(n:NT) (h:MN),Ok0 fs n->yN n->fZ w S (nd0 n) h->∀W,bW w W->cL 219 #[.agg (tA β root i l j),.agg #[.string h.lo,.string h.hi,.i h.place,.slice h.ea h.en h.ec,.slice h.ka h.kn h.kc]] W λe w' =>
   ∃ce bt b0 b1 cc cd,e=.returned (.agg #[.string ce,.string bt,.i 0,.slice b0 n.ents0.length b1,.slice cc 0 cd])/\aD w' (Or2 S (New W w')) b0 (aT n.ents0)/\n.ents0.length<=b1/\bW W w':=λn h c2 c4 bz W am =>
  qJa β sv lv fs bu root i l j n c2 c4 h S W (b7.on (vV am b7.lies)) (bz.on (vV am a6)) (λb o=>jY (a6 b o) am.size)
 have G:∀W,Below (w.heap.size+3) g W->bW w W:=λW o=>bd.trans (o.mono (by omega));have bn:=λW o=>b2 a c b3 c5 c0 W (G W o);have bo:=λW o=>b2 b mb b4 c6 c1 W (G W o);have bs:∀z∈a.ents0++b.ents0,z.good fs:=λz aq=>(AO.1 aq).elim ((Nf b3).2.2 z) ((Nf b4).2.2 z);have f:Below (w.heap.size+3) g g:=AC _ _;have x:w.heap.size+3<=g.heap.size:=by omega
 obtain⟨a0,a1,a2⟩:=eQ ar;obtain⟨J,L,M,N,O⟩:=cU a9;obtain⟨Q,R,T,U,V⟩:=cU ae;go_enter Tryz.func216,Tryz.ntmps216;go_wp2;refine dF (S:=(λX=>X.c w.heap.size 0=some (.p β 0)/\X.c w.heap.size 1=some (.i root)/\X.c w.heap.size 2=some (.slice i l j)/\X.c (w.heap.size+1) 0=some (.string c.lo)/\X.c (w.heap.size+1) 1=some (.string c.hi)/\X.c (w.heap.size+1) 2=some (.i c.place)/\X.c (w.heap.size+1) 3=some (.slice c.ea c.en c.ec)/\X.c (w.heap.size+1) 4=some (.slice c.ka c.kn c.kc)/\X.c (w.heap.size+1+1) 0=some (.string mb.lo)/\X.c (w.heap.size+1+1) 1=some (.string mb.hi)/\X.c (w.heap.size+1+1) 2=some (.i mb.place)/\X.c (w.heap.size+1+1) 3=some (.slice mb.ea mb.en mb.ec)/\X.c (w.heap.size+1+1) 4=some (.slice mb.ka mb.kn mb.kc))) 6 (by kernel_rfl) ?_;have cl:=(show((λX=>X.c w.heap.size 0=some (.p β 0)/\X.c w.heap.size 1=some (.i root)/\X.c w.heap.size 2=some (.slice i l j)/\X.c (w.heap.size+1) 0=some (.string c.lo)/\X.c (w.heap.size+1) 1=some (.string c.hi)/\X.c (w.heap.size+1) 2=some (.i c.place)/\X.c (w.heap.size+1) 3=some (.slice c.ea c.en c.ec)/\X.c (w.heap.size+1) 4=some (.slice c.ka c.kn c.kc)/\X.c (w.heap.size+1+1) 0=some (.string mb.lo)/\X.c (w.heap.size+1+1) 1=some (.string mb.hi)/\X.c (w.heap.size+1+1) 2=some (.i mb.place)/\X.c (w.heap.size+1+1) 3=some (.slice mb.ea mb.en mb.ec)/\X.c (w.heap.size+1+1) 4=some (.slice mb.ka mb.kn mb.kc))) g.drew from ⟨a0,a1,a2,J,L,M,N,O,Q,R,T,U,V⟩);refine tks [(0,.agg (tA β root i l j)),(1,.agg #[.string c.lo,.string c.hi,.i c.place,.slice c.ea c.en c.ec,.slice c.ka c.kn c.kc]),(3,.agg (tA β root i l j)),(4,.agg #[.string mb.lo,.string mb.hi,.i mb.place,.slice mb.ea mb.en mb.ec,.slice mb.ka mb.kn mb.kc])] (by assumption) ?_;iterate 4 (refine⟨_,rfl,by kernel_rfl,λ_ _ _ o=>o,.inl ⟨by rfl,λw bq=>by(try dsimp only at bq);go_simp⟩,?_⟩;try simp only[pS])
 refine tke ?_;refine aR (i:=2) (by kernel_rfl) rfl (λK B=>?_);go_simp
 (go_at_call 219;(with_reducible refine jC (bn _ ?_) ?_);(first|exact f|exact f.drew);rintro e I ⟨ad,aa,p,r,ab,ac,rfl,a4,bg,C⟩;have A:=f;have f:Below (w.heap.size+3) g I:=(by first|exact cK A x C|exact cK A.drew x C);have a4:=a4.past a6 (by first|exact x|exact vJ x A.size) (G _ f).size;obtain⟨a0,a1,a2⟩:=eQ ((f.block w.heap.size (by omega)).trans ar);have D:=(f.block (w.heap.size+1) (by omega)).trans a9;have F:=(f.block (w.heap.size+1+1) (by omega)).trans ae;obtain⟨J,L,M,N,O⟩:=cU D;obtain⟨Q,R,T,U,V⟩:=cU F;have bi:=aB D;have bm:=aB F)
 simp only[];refine B.out _ _ (λ_=>⟨a0,a1,a2,J,L,M,N,O,Q,R,T,U,V⟩) ?_;try simp only[pS]
 refine aR (i:=5) (by kernel_rfl) rfl (λK B=>?_);go_simp
 (go_at_call 219;(with_reducible refine jC (bo _ ?_) ?_);(first|exact f|exact f.drew);rintro e I ⟨ai,af,s,t,ag,ah,rfl,a5,bj,C⟩;have A:=f;have f:Below (w.heap.size+3) g I:=(by first|exact cK A x C|exact cK A.drew x C);have a5:=a5.past a6 (by first|exact x|exact vJ x A.size) (G _ f).size;obtain⟨a0,a1,a2⟩:=eQ ((f.block w.heap.size (by omega)).trans ar);have D:=(f.block (w.heap.size+1) (by omega)).trans a9;have F:=(f.block (w.heap.size+1+1) (by omega)).trans ae;obtain⟨J,L,M,N,O⟩:=cU D;obtain⟨Q,R,T,U,V⟩:=cU F;have bi:=aB D;have bm:=aB F)
 simp only[];refine B.out _ _ (λ_=>⟨a0,a1,a2,J,L,M,N,O,Q,R,T,U,V⟩) ?_;try simp only[pS]
 refine aR (i:=6) (by kernel_rfl) rfl (λK B=>?_);go_simp;refine B.out _ _ (λe=>by cases e) ?_;try simp only[pS]
 refine aR (i:=7) (by kernel_rfl) rfl (λK B=>?_);go_simp;refine B.out _ _ (λe=>by cases e) ?_;try simp only[pS]
 refine cY (by kernel_rfl) ?_ _
 all_goals (first|(have ay:=aD.step a4 C;have az:=a5)|(have az:=aD.step a5 C;have ay:=a4))
 all_goals
  have bb:=vM D (.string ad) (.string aa) (.i 0) (.slice p a.ents0.length r) (.slice ab 0 ac);have aj:=Be I (w.heap.size+1) (.string ad) (.string aa) (.i 0) (.slice p a.ents0.length r) (.slice ab 0 ac);obtain⟨a8,an⟩:=nM (Ml I (w.heap.size+1) (.string ad) (.string aa) (.i 0) (.slice p a.ents0.length r) (.slice ab 0 ac));rw[an]at bb aj;have bl:=aj.heap F (oN (by omega));have bc:=vM bl (.string ai) (.string af) (.i 0) (.slice s b.ents0.length t) (.slice ag 0 ah);have ak:=Be a8 (w.heap.size+1+1) (.string ai) (.string af) (.i 0) (.slice s b.ents0.length t) (.slice ag 0 ah);obtain⟨m,ap⟩:=nM (Ml a8 (w.heap.size+1+1) (.string ai) (.string af) (.i 0) (.slice s b.ents0.length t) (.slice ag 0 ah));rw[ap]at bc ak;have ch:=ak.heap bb (oN (by omega));have a3:Fr (λk=>k=w.heap.size+1\/k=w.heap.size+1+1) I m:=(aj.mono (λk d=>.inl (.inl d))).trans (ak.mono (λk d=>.inl (.inr d)));have bh:=ay.on (a3.on (λk d=>⟨d.1,λe=>by have:=d.2;omega⟩));have bk:=az.on (a3.on (λk d=>⟨d.1,λe=>by have:=d.2;omega⟩));have cs:=(G _ f).size;have aw:=(G _ f).trans (a3.below (by omega) (λk d=>by omega));have cq:=a3.size;obtain⟨ct,cu,cv,cw,cx⟩:=cU ch;obtain⟨cy,cz,d0,d1,d2⟩:=cU bc;obtain⟨y,ao,P,au,cr⟩:=al1 m (.cells #[.slice p a.ents0.length r,.slice s b.ents0.length t] 67);have cj:=(gL au);have al:=Qs [⟨p,r,a.ents0⟩,⟨s,t,b.ents0⟩] (some ⟨m.heap.size,0,none⟩) 2 (λk=>k<y.heap.size) y
   (.inr ⟨m.heap.size,0,rfl,cj,λH u Z=>by
    rcases H with _|_|H
    ·simp[Pc.val]at Z;subst Z;simp[World.cell?,au]
    ·simp[Pc.val]at Z;subst Z;simp[World.cell?,au]
    ·simp at Z⟩)
   (λq b9=>by
    simp only[AR,FC,KI]at b9;rcases b9 with rfl|rfl
    ·exact⟨bg,(bh.on (vV P (λk d=>by have:=d.1;omega))).mono (λk d=>by have:=d.1;have:=P.size;omega)⟩
    ·exact⟨bj,(bk.on (vV P (λk d=>by have:=d.1;omega))).mono (λk d=>by have:=d.1;have:=P.size;omega)⟩)
   (λk d=>d) (by simp[lens];omega) (by simp) (by simp)
  have bw:lens [(⟨p,r,a.ents0⟩:Pc En),⟨s,t,b.ents0⟩]=(a.ents0++b.ents0).length:=by simp[lens]
  have br : [(⟨p,r,a.ents0⟩:Pc En),⟨s,t,b.ents0⟩].flatMap (·.l)=a.ents0++b.ents0:=by simp
  rw[bw,br]at al;obtain⟨E,a7⟩:=nM (a.ents0++b.ents0);rw[a7]at al;have ax:Hid (∀z∈E,z.good fs):=by rw[<-a7];exact bs
  have be:Hid (E.length<=1000000):=by show _<=_;rw[<-a7,jK];omega
  have bf:Hid ((qGo a b).map nd0=(dP esz E).map xZ):=by show _=_;rw[qGo,uT,a7]
  have av:=aw.trans (P.mono (by have:=aw.size;omega));unfold Ml at an ap;rw[an,ap];go_wp2_with (first
   |(go_at_call 220;(with_reducible refine jC al ?_);rintro e ba ⟨v,rfl,b8,b5,bx⟩;obtain⟨cf,cg,rfl,cb,c9⟩:=bR b8;have bp:=pB cf cg E (λk=>k<ba.heap.size/\y.heap.size<=k) ba (c9.mono (λk d=>⟨aM b8 d,bx k d⟩)) (λk d=>d.1) be.out cb (λz aq=>qA (ax.out z aq)) (oQ ax.out))
   |(go_at_call 189;(with_reducible refine jC bp ?_);rintro e d4 ⟨d3,qs,rfl,c3,c7,c8,b6,bv⟩))
  go_ret;have ca:=av.size;have co:=b5.size;have cp:=b6.size;refine⟨_,qs.map lL,rfl,by rw[AE];exact c3,?_,(av.trans (b5.mono ca)).trans (b6.mono (by omega)),λk d=>vJ (by omega) (bv k d)⟩;rw[bf.out,<-c7];exact(xY c8).mono (λk d=>⟨by have:=d.2;omega,by have:=d.1;omega⟩)
theorem qIw {fs n}(r:Ok0 fs n)(A:yN n){m}(q:fZ w S (nd0 n) m)(p:∀b,S b->b<w.heap.size)(z:n.ents0.length<=1000):
  cL 215 #[.agg #[.string m.lo,.string m.hi,.i m.place,.slice m.ea m.en m.ec,.slice m.ka m.kn m.kc]] w λe w'=>e=.returned (.bool (dE n))/\bW w w':=by
 cases n with
 |bran=>exact r.elim
 |leaf s es =>
  have⟨_,_,_,_,_,o,u,x,d,f,g,h,i,j,k,c,v⟩:=q;have a:o=[]:=AG c;subst a;apply(mJ m es [] S w f g h i j k p (by have:es.length<=1000:=z;omega) (by simp) (λC B=>qA (r.2.2.2.2 C B)) (by simp)).mono;rintro e w' ⟨rfl,l⟩;refine⟨?_,l⟩;apply BZ (λb=>Ending.returned (.bool b));rw[d,EU];simp[dE,Js]<;>exact JF
 |kept t s =>
  have⟨_,_,_,_,_,o,u,x,d,f,g,h,i,j,k,c,v⟩:=q;have a:o=[]:=AG c;subst a;apply(mJ m [] [] S w f g h i j k p (by simp) (by simp) (by simp) (by simp)).mono;rintro e w' ⟨rfl,l⟩;refine⟨?_,l⟩;have D:=A t s rfl;have:(m.place==0)=false:=by rw[d];simp;omega
  rw[this];rfl
theorem Pm{a β:Type}(f:β->a->β)(b)(l:List a)(j)(h:j<l.length):(l.take (j+1)).foldl f b=f ((l.take j).foldl f b) l[j]:=by
 rw[AK h,GK];rfl
abbrev Gy(tog:NT->NT->List NT)(ns:List NT)(j:Nat):List NT:=(ns.take j).foldl (wH tog) []
def qJb:Value->Nat
 |.slice _ n _=>n
 |_=>0
def Apart(S:Bl)(n:Nat)(v:Value)(w:World):Bl:=λk=>(S k\/(n<=k/\k<w.heap.size))/\v.ownBlock≠some k
theorem qHe {j d h q g x v3 y z n m xs E acc w rs v Q}(C:∀b,S b->b<d.heap.size)(B:bG d (Apart S j g d) acc rs)(s:bW d h)(D:bG h Q w v)(e:∀k,Q k->(S k\/j<=k)/\k<h.heap.size/\g.ownBlock≠some k)(p:x.ownBlock=g.ownBlock)(i:fB y z x n xs E m h v3 q):
  bG q (Apart S j v3 q) (acc++w) (rs++v):=by
 have t:=s.size;have F:=i.fr.size;have u:∀k,k<h.heap.size->g.ownBlock≠some k->v3.ownBlock≠some k:=λk r f A=>by
  rcases i.lies k A with c|c
  ·exact f (p▸c)
  ·omega
 have o:∀b,Apart S j g d b->b<d.heap.size:=λb c=>c.1.elim (C b) (λc=>c.2);refine bG.append ?_ ?_
 ·have f:=(B.on (vV s o)).on (i.fr.on (λk a=>⟨jY (o k a) t,λl=>a.2 (p▸l)⟩));refine f.mono (λk a=>⟨a.1.imp id (λc=>⟨c.1,by have:=c.2;omega⟩),u k (jY (o k a) t) a.2⟩)
 ·refine (D.on (i.fr.on (λk a=>⟨(e k a).2.1,λl=>(e k a).2.2 (p▸l)⟩))).mono (λk a=>⟨(e k a).1.imp id (λc=>⟨c,by have:=(e k a).2.1;omega⟩),u k (e k a).2.1 (e k a).2.2⟩)
theorem vU {e}(h:w.ownsRow 0 e z v n xs)(y:0<n):∃g c,v=.q g n c/\g<w.heap.size/\∀j u,xs[j]?=some u->w.cell? ((⟨g,0,none⟩:Addr).add j)=some u:=by
 have i:=h;have⟨q,k⟩:=h;rcases k with⟨_,r⟩|⟨g,d,o,b,s,l,A,t,x,B⟩
 ·omega
 ·refine⟨g,d,b,(gL l),λj u m=>?_⟩
  subst b;have⟨p,a,_,_,f⟩:=kP i m;simp only[AX,CA,DA]at a;subst a;have e:(⟨g,0,none⟩:Addr).add j=⟨g,j,none⟩:=by unfold Addr.add;split<;>simp_all
  rw[e];exact f
theorem qBl(g i):(⟨g,0,none⟩:Addr).add i=⟨g,i,none⟩:=by unfold Addr.add;split<;>simp_all
theorem Kj {n c rs}(h:w.ownsRow 0 242 5 (.slice a n c) n (aL rs)){i m}(hi:rs[i]?=some m):∃g,a=some ⟨g,0,none⟩/\g<w.heap.size/\n<=c/\w.c g (i * 5)=some (.string m.lo)/\w.c g (i * 5+1)=some (.string m.hi)/\w.c g (i * 5+2)=some (.i m.place)/\w.c g (i * 5+3)=some (.slice m.ea m.en m.ec)/\w.c g (i * 5+4)=some (.slice m.ka m.kn m.kc):=by
 have⟨q,r⟩:=AD.1 hi;have e:∀o (j:Value),o<5->m.cells[o]?=some j->∃g,a=some ⟨g,0,none⟩/\g<w.heap.size/\n<=c/\w.c g (i * 5+o)=some j:=λo j s t=>vZ h (by rw[mX q s,r];exact t);obtain⟨g,rfl,l,p,k⟩:=e 0 _ (by decide) rfl;exact⟨g,rfl,l,p,k,by have⟨f,d,_,_,b⟩:=e 1 _ (by decide) rfl;cases d;exact b,by have⟨f,d,_,_,b⟩:=e 2 _ (by decide) rfl;cases d;exact b,by have⟨f,d,_,_,b⟩:=e 3 _ (by decide) rfl;cases d;exact b,by have⟨f,d,_,_,b⟩:=e 4 _ (by decide) rfl;cases d;exact b⟩
structure InJ (tog:NT->NT->List NT) (J:List NT->Prop) (nd:NT->Nd) (ns:List NT) (j:Nat) (S:Bl) (n0:Nat) (a b:Value) (wq:World) (A N:List NT) (ra rn:List MN):Prop where
 inv:J (A++(N++ns.drop (j+1)))
 goes:sQ tog A N=Gy tog ns (j+1)
 pos:0<rn.length
 arow:wq.ownsRow 0 242 5 a ra.length (aL ra)
 nrow:wq.ownsRow 0 242 5 b rn.length (aL rn)
 na:bG wq (Apart S n0 a wq) (A.map nd) ra
 nn:bG wq (Apart S n0 a wq) (N.map nd) rn
 new:∀k,a.ownBlock=some k->n0+1<=k
theorem qHq(β sv lv fs root ca cn cc nd tog)(J:List NT->Prop)(hJt:∀A l n B,J (A++l :: n :: B)->J (A++(tog l n++B))/\tog l n≠[])(hJc:∀L,J L->L.length<=1000000)(hsm:∀L,J L->∀n∈L,∀(m:MN) (S:Bl) (w:World),fZ w S (nd n) m->(∀b,S b->b<w.heap.size)->cL 215 #[m.val] w λe w'=>e=.returned (.bool (dE n))/\bW w w')(htg:∀A l n B,J (A++l :: n :: B)->∀(ma mb:MN) (S:Bl) (w:World),aH w β sv lv fs->fZ w S (nd l) ma->fZ w S (nd n) mb->(∀b,S b->b<w.heap.size)->cL 216 #[.agg (tA β root ca cn cc),ma.val,mb.val] w λe w' =>
   ∃v ms,e=.returned v/\w'.ownsRow 0 242 5 v ms.length (aL ms)/\bG w' (Or2 S (New w w')) ((tog l n).map nd) ms/\bW w w'/\∀k,v.ownBlock=some k->w.heap.size<=k)(ns ms na nc S w)(hf:aH w β sv lv fs)(hJ:J ns)(hR:aD w S na (aL ms))(hm:bG w S (ns.map nd) ms)(hS:∀b,S b->b<w.heap.size)(hnc:ns.length<=nc):
  cL 206 #[.agg (tA β root ca cn cc),.slice na ns.length nc] w λe w' =>
   ∃v rs,e=.returned v/\w'.ownsRow 0 242 5 v rs.length (aL rs)/\bG w' (Apart S w.heap.size v w') ((pZ tog ns).map nd) rs/\bW w w'/\∀k,v.ownBlock=some k->w.heap.size<=k:=by
 have hml:ms.length=ns.length:=by rw[hm.1,AE]
 have hn:=hJc ns hJ
 obtain⟨W1,hW1,B1,t1,-⟩:=al1 w (.cells (tA β root ca cn cc) 90)
 have z1:=(gL t1)
 go_enter Tryz.func206,Tryz.ntmps206
 go_wp2
 go_loopw [5,12] (λa b wr=>∃(j:Nat) (rs:List MN),b=.int .i64 j/\j<=ns.length/\Hid (J (Gy tog ns j++ns.drop j))/\wr.ownsRow 0 242 5 a rs.length (aL rs)/\bG wr (Apart S w.heap.size a wr) ((Gy tog ns j).map nd) rs/\Below (w.heap.size+1) W1 wr/\∀k,a.ownBlock=some k->w.heap.size+1<=k) (λ_ b _=>ns.length-(intOf b).toNat)
 case atStart=>exact⟨0,[],rfl,AH _,hJ,AL _ _ _ _,bG.nil _ _,hW1▸AC _ _,by simp[Value.ownBlock]⟩
 case round =>
  obtain⟨j,rs,rfl,hj,hJj,ho,hN,hB,hk⟩:=hrel
  obtain⟨aa,ac,rfl⟩:=aF ho
  have zwr:=hB.size
  have hwrw:bW w wr:=B1.trans (hB.mono (by omega))
  by_cases hlt:j<ns.length
  ·obtain⟨n,hnj⟩:=nM (ns[j])
   obtain⟨m,hmj⟩:=nM (ms[j]'(by omega))
   have hlt2:j<ms.length:=by omega
   obtain⟨rb,ro,hna,hrb,n0,n1,n2,n3,n4⟩:=(hR.on (vV hwrw hS)).nod hlt2
   rw[hmj]at n0 n1 n2 n3 n4
   subst hna
   have hnm:fZ wr S (nd n) m:=(hm.2 j (nd n) m (by rw[BN,jQ hlt,hnj];rfl) (by rw[jQ hlt2,hmj])).on (vV hwrw hS)
   obtain⟨lo,hi,pl,ea,en,ec,ka,kn,kc⟩:=m
   dsimp only at n0 n1 n2 n3 n4
   have hSw:∀b,S b->b<wr.heap.size:=λb h=>jY (hS b h) hwrw.size
   obtain⟨WC,hWC,bC,-,-,zC⟩:=al2 wr (.cells #[.string lo,.string hi,.int .i64 pl,.slice ea en ec,.slice ka kn kc] 242) (.cells #[.string lo,.string hi,.int .i64 pl,.slice ea en ec,.slice ka kn kc] 242)
   have oC:WC.ownsRow 0 242 5 (.q (wr.heap.size+1) 1 1) 1 (aL [⟨lo,hi,pl,ea,en,ec,ka,kn,kc⟩]):=by
    rw[<-hWC]
    have:=World.ownsRow_lit (base:=0) (e:=242) (size:=5) (wr.alloc (.cells #[.string lo,.string hi,.int .i64 pl,.slice ea en ec,.slice ka kn kc] 242)) #[.string lo,.string hi,.int .i64 pl,.slice ea en ec,.slice ka kn kc] 1 (AH _) (by decide) rfl
    simpa[aL,MN.cells] using this
   have hApL:∀b,Apart S w.heap.size (.slice aa rs.length ac) wr b->b<wr.heap.size:=λb h=>h.1.elim (hSw b) (λh=>h.2)
   have I0:InJ tog J nd ns j S w.heap.size (.slice aa rs.length ac) (.q (wr.heap.size+1) 1 1) WC (Gy tog ns j) [n] rs [⟨lo,hi,pl,ea,en,ec,ka,kn,kc⟩]:=by
    refine⟨?_,?_,Nat.one_pos,aS ho (vV (Y:=λk=>k<wr.heap.size) bC (λk h=>h)) (λk hk=>aM ho hk),oC,(hN.on (vV bC hApL)).mono (λk hk=>⟨hk.1.imp id (λh=>⟨h.1,by omega⟩),hk.2⟩),((bG.one hnm).on (vV bC hSw)).mono (λk h=>⟨.inl h,λe=>by have h1:=hk k e;have h2:=hS k h;omega⟩),hk⟩
    ·have h:=hJj.out
     rw[CC hlt,hnj]at h
     exact h
    ·show _=(ns.take (j+1)).foldl (wH tog) []
     rw[Pm _ _ _ _ hlt,hnj];rfl
   have hBC:Below (w.heap.size+1) W1 WC:=hB.trans (bC.mono (by omega))
   clear hnj hmj oC hN hJj
   have q0:=cU (aA wr (.cells #[.string lo,.string hi,.int .i64 pl,.slice ea en ec,.slice ka kn kc] 242))
   obtain⟨q0,q1,q2,q3,q4⟩:=q0
   go_wp2
   go_loopw [5,8] (λa b wq=>∃(A N:List NT) (ra rn:List MN),InJ tog J nd ns j S w.heap.size a b wq A N ra rn/\Below (w.heap.size+1) W1 wq) (λa _ _=>qJb a)
   case atStart=>exact⟨_,_,_,_,I0,hBC⟩
   case round =>
    obtain⟨A,N,ra,rn,I,hB⟩:=hrel
    obtain⟨aa,ac,rfl⟩:=aF I.arow
    obtain⟨ba,bc,rfl⟩:=aF I.nrow
    have hpos:=I.pos
    have harow:=I.arow
    have hwq:bW w wr:=B1.trans (hB.mono (by omega))
    have zwr:=hB.size
    have hSw:∀b,S b->b<wr.heap.size:=λb h=>jY (hS b h) hwq.size
    have hApL:∀b,Apart S w.heap.size (.slice aa ra.length ac) wr b->b<wr.heap.size:=λb h=>h.1.elim (hSw b) (λh=>h.2)
    have hAl:ra.length=A.length:=by have:=I.na.1;rwa[AE]at this
    have hNl:rn.length=N.length:=by have:=I.nn.1;rwa[AE]at this
    have hcnt:ra.length+rn.length<=1000000:=by
     have:=hJc _ I.inv
     rw[jK,jK]at this;omega
    obtain⟨gb,hba,hbl,hbc,hbcell⟩:∃gb,ba=some ⟨gb,0,none⟩/\gb<wr.heap.size/\rn.length<=bc/\∀i u,(aL rn)[i]?=some u->wr.cell? ((⟨gb,0,none⟩:Addr).add i)=some u:=by
     obtain⟨g,c,h1,h2,h3⟩:=vU I.nrow hpos
     cases h1
     obtain⟨m0,hm0⟩:∃m0,rn[0]?=some m0:=⟨rn[0],jQ hpos⟩
     obtain⟨g',h4,_,h5,_⟩:=Kj I.nrow hm0
     exact⟨g,rfl,h2,h5,h3⟩
    subst hba
    have HEND:Hid (sQ tog A N=A++N->∀(v3:Value) (w3 wX:World),bW wr wX->fB 242 5 (.slice aa ra.length ac) ra.length (aL ra) (aL rn) rn.length wX v3 w3->Hid (J (Gy tog ns (j+1)++ns.drop (j+1)))/\w3.ownsRow 0 242 5 v3 (ra++rn).length (aL (ra++rn))/\bG w3 (Apart S w.heap.size v3 w3) ((Gy tog ns (j+1)).map nd) (ra++rn)/\Below (w.heap.size+1) W1 w3/\∀k,v3.ownBlock=some k->w.heap.size+1<=k):=by
     intro hE v3 w3 wX hX A3
     have e:Gy tog ns (j+1)=A++N:=I.goes.symm.trans hE
     have zX:=hX.size
     refine⟨?_,?_,?_,(hB.trans (hX.mono (by omega))).trans (A3.fr.below (by omega) I.new),?_⟩
     ·rw[e,BX];exact I.inv
     ·have:=A3.row
      rw[jK,gS];exact this
     ·rw[e,BM]
      exact qHe hSw I.na hX (I.nn.on (vV hX hApL)) (λk hk=>⟨hk.1.imp id (λh=>h.1),jY (hApL k hk) zX,hk.2⟩) rfl A3
     ·intro k h
      rcases A3.lies k h with h|h
      ·exact I.new k h
      ·omega
    by_cases hN1:rn.length=1
    ·obtain⟨mn,rfl⟩:∃mn,rn=[mn]:=EL.1 hN1
     obtain⟨n',rfl⟩:∃n',N=[n']:=EL.1 (hNl.symm.trans hN1)
     rcases KB ra with rfl|⟨ra',ml,rfl⟩
     ·have hA0:A=[]:=AG hAl.symm
      have hE:=HEND.out (by rw[hA0];rfl)
      clear HEND I hAl hNl hA0
      simp only[AM,jN]at *
      go_wp2_with (at_builtin;refine wZ wr rfl (.tmp 54) (.tmp 55) 239 242 _ 5 88 rfl Tryz.underlying239 iF rfl (by decide) (.slice aa 0 ac) 0 (aL []) rfl harow ⟨gb,0,none⟩ 1 bc (aL [mn]) rfl rfl hbcell (nR [mn]) (by omega) (by omega) ?_;intro v3 w3 A3;obtain⟨g3,k3,rfl⟩:=A3.shape (by omega))
      obtain⟨h1,h2,h3,h4,h5⟩:=hE _ _ _ (AC _ _) A3
      exact⟨⟨j+1,_,by go_num,by omega,h1,h2,h3,h4,h5⟩,by simp[intOf];omega⟩
     ·simp only[KC]at *
      obtain⟨L,hL⟩:=nM (ra'.length)
      have hLr:(ra'++[ml]).length=L+1:=by simp[hL]
      obtain⟨A',l,rfl⟩:∃A' l,A=A'++[l]:=by
       rcases KB A with h|⟨a,b,h⟩
       ·rw[h,hLr]at hAl;simp at hAl
       ·exact⟨a,b,by rw[h,KC]⟩
      have hA':A'.length=L:=by rw[hLr]at hAl;simp at hAl;omega
      have hlm:fZ wr (Apart S w.heap.size (.slice aa (ra'++[ml]).length ac) wr) (nd l) ml:=I.na.2 L (nd l) ml (by rw[BM,BJ (by simp;omega)];simp[hA']) (by rw[BJ (by omega)];simp[hL])
      have hnm':fZ wr (Apart S w.heap.size (.slice aa (ra'++[ml]).length ac) wr) (nd n') mn:=I.nn.2 0 (nd n') mn rfl rfl
      have hNA:bG wr (Apart S w.heap.size (.slice aa (ra'++[ml]).length ac) wr) (A'.map nd) ra':=by
       have:=I.na.take L
       rw[BM,GT (by simp[hA']),GT (by omega),CW (by simp[hA']),CW (by omega)]at this
       exact this
      have hinv:J (A'++l :: n' :: ns.drop (j+1)):=by have:=I.inv;simpa using this
      have hsl:=λW (hW:bW wr W)=>hsm _ hinv l (by simp) ml _ W (hlm.on (vV hW hApL)) (λb h=>jY (hApL b h) hW.size)
      have hsn:=λW (hW:bW wr W)=>hsm _ hinv n' (by simp) mn _ W (hnm'.on (vV hW hApL)) (λb h=>jY (hApL b h) hW.size)
      have hfr:aH wr β sv lv fs:=hf.on (vV hwq hf.lies)
      have hTG:=λX (hX:bW wr X)=>htg _ _ _ _ hinv ml mn _ X (hfr.on (vV hX hfr.lies)) (hlm.on (vV hX hApL)) (hnm'.on (vV hX hApL)) (λb h=>jY (hApL b h) hX.size)
      obtain⟨g,hg,hgl,hgc,e0,e1,e2,e3,e4⟩:=Kj I.arow (i:=L) (m:=ml) (by rw[BJ (by omega)];simp[hL])
      subst hg
      obtain⟨gb',hgb,_,_,q0,q1,q2,q3,q4⟩:=Kj I.nrow (i:=0) (m:=mn) rfl
      cases hgb
      obtain⟨llo,lhi,lpl,lea,len,lec,lka,lkn,lkc⟩:=ml
      obtain⟨lo,hi,pl,ea,en,ec,ka,kn,kc⟩:=mn
      have t1':wr.heap[w.heap.size]?=some (.cells (tA β root ca cn cc) 90):=(hB.block _ (by omega)).trans t1
      have HMK:Hid (∀X,bW wr X->(X.cell? ⟨w.heap.size,0,none⟩=some (.pointer (some ⟨β,0,none⟩))/\X.cell? ⟨w.heap.size,1,none⟩=some (.int .i64 root)/\X.cell? ⟨w.heap.size,2,none⟩=some (.slice ca cn cc))/\X.ownsRow 0 242 5 (.q g (ra'++[(⟨llo,lhi,lpl,lea,len,lec,lka,lkn,lkc⟩:MN)]).length ac) (ra'++[(⟨llo,lhi,lpl,lea,len,lec,lka,lkn,lkc⟩:MN)]).length (aL (ra'++[⟨llo,lhi,lpl,lea,len,lec,lka,lkn,lkc⟩]))/\(X.cell? ⟨g,L * 5,none⟩=some (.string llo)/\X.cell? ⟨g,L * 5+1,none⟩=some (.string lhi)/\X.cell? ⟨g,L * 5+2,none⟩=some (.int .i64 lpl)/\X.cell? ⟨g,L * 5+3,none⟩=some (.slice lea len lec)/\X.cell? ⟨g,L * 5+4,none⟩=some (.slice lka lkn lkc))/\(X.cell? ⟨gb,0,none⟩=some (.string lo)/\X.cell? ⟨gb,1,none⟩=some (.string hi)/\X.cell? ⟨gb,2,none⟩=some (.int .i64 pl)/\X.cell? ⟨gb,3,none⟩=some (.slice ea en ec)/\X.cell? ⟨gb,4,none⟩=some (.slice ka kn kc))):=by
       intro X hX
       have cX:∀{b o:Nat}{u:Value},b<wr.heap.size->wr.cell? ⟨b,o,none⟩=some u->X.cell? ⟨b,o,none⟩=some u:=λhb h=>by rw[CF (w:=wr) (hX.block _ hb)];exact h
       exact⟨eQ ((hX.block _ (gL t1')).trans t1'),aS I.arow (vV (Y:=λk=>k<wr.heap.size) hX (λk h=>h)) (λk hk=>aM I.arow hk),⟨cX hgl e0,cX hgl e1,cX hgl e2,cX hgl e3,cX hgl e4⟩,⟨cX hbl q0,cX hbl q1,cX hbl q2,cX hbl q3,cX hbl q4⟩⟩
      obtain⟨tz0,tz1,tz2⟩:=eQ t1'
      simp only[hLr,DV,DO,AM]at *
      have hw1:IntKind.i64.wrap (((L+1:Nat):Int)-1)=(L:Int):=by rw[CO];omega
      have hnneg:¬(L:Int)<0:=by omega
      have hbb:bW wr wr:=AC _ _
      have HBC:Hid (∀X,bW wr X->∀i u,(aL [(⟨lo,hi,pl,ea,en,ec,ka,kn,kc⟩:MN)])[i]?=some u->X.cell? ((⟨gb,0,none⟩:Addr).add i)=some u):=λX hX i u hu=>by
       have h:=hbcell i u hu
       rw[qBl]at h⊢
       rw[CF (w:=wr) (hX.block _ hbl)];exact h
      dsimp only[MN.val]at hsl hsn hTG
      have HTG:Hid (∀X,bW wr X->_):=hTG
      clear hTG
      by_cases hgo:dE l=true\/dE n'=true
      ·have HGO:Hid (sQ tog A' (tog l n')=Gy tog ns (j+1)):=(qAi hgo).symm.trans I.goes
       have HJ2:Hid (J (A'++(tog l n'++ns.drop (j+1)))):=(hJt _ _ _ _ hinv).1
       have HNE:Hid (tog l n'≠[]):=(hJt _ _ _ _ hinv).2
       have HNW:Hid (∀k,(Value.q g L ac).ownBlock=some k->w.heap.size+1<=k):=I.new
       have HNA:Hid (bG wr (Apart S w.heap.size (.q g L ac) wr) (A'.map nd) ra'):=hNA
       have HCUT:Hid (∀{X:World},X.ownsRow 0 242 5 (.q g L ac) L ((aL (ra'++[⟨llo,lhi,lpl,lea,len,lec,lka,lkn,lkc⟩])).take (L * 5))->X.ownsRow 0 242 5 (.q g L ac) ra'.length (aL ra')):=by
        intro X hX
        rw[gS,GT (by rw[iD,hL];omega),CW (by rw[iD,hL];omega)]at hX
        rw[hL];exact hX
       have HSL:Hid (∀W,bW wr W->_):=hsl
       have HSN:Hid (∀W,bW wr W->_):=hsn
       have hor:dE l=true\/(dE l=false/\dE n'=true):=by cases h:dE l;exact .inr ⟨rfl,by rcases hgo with h'|h';rw[h]at h';simp at h';exact h'⟩;exact .inl rfl
       clear HEND I hAl hNl hsl hsn hgo hlm hnm' hNA hJt hJc hsm htg hL hLr hA'
       rcases hor with hs|⟨hs,hs2⟩
       ·rw[hs]at HSL
        clear HSN hs
        go_wp2_with (go_at_call 215;(with_reducible refine jC (HSL.out _ hbb) ?_;clear HSL);rintro e wt ⟨rfl,hb1⟩;have hbb:=hbb.trans (hb1.mono hbb.size);obtain⟨⟨tz0,tz1,tz2⟩,x3,⟨e0,e1,e2,e3,e4⟩,⟨q0,q1,q2,q3,q4⟩⟩:=HMK.out _ hbb)
        have hix:(L:Int)<(L:Int)+1:=by omega
        have hca:(L:Int)<=(ac:Int):=by omega
        have hl0:(0:Int)<=(L:Int):=by omega
        refine wp_region_held_drew (S:=(λX=>X.cell? ⟨w.heap.size,0,none⟩=some (.pointer (some ⟨β,0,none⟩))/\X.cell? ⟨w.heap.size,1,none⟩=some (.int .i64 root)/\X.cell? ⟨w.heap.size,2,none⟩=some (.slice ca cn cc)/\X.cell? ⟨g,L * 5,none⟩=some (.string llo)/\X.cell? ⟨g,L * 5+1,none⟩=some (.string lhi)/\X.cell? ⟨g,L * 5+2,none⟩=some (.int .i64 lpl)/\X.cell? ⟨g,L * 5+3,none⟩=some (.slice lea len lec)/\X.cell? ⟨g,L * 5+4,none⟩=some (.slice lka lkn lkc)/\X.cell? ⟨gb,0,none⟩=some (.string lo)/\X.cell? ⟨gb,1,none⟩=some (.string hi)/\X.cell? ⟨gb,2,none⟩=some (.int .i64 pl)/\X.cell? ⟨gb,3,none⟩=some (.slice ea en ec)/\X.cell? ⟨gb,4,none⟩=some (.slice ka kn kc))) (by kernel_rfl) (by(first|exact⟨tz0,tz1,tz2,e0,e1,e2,e3,e4,q0,q1,q2,q3,q4⟩|(with_reducible exact⟨tz0,tz1,tz2,e0,e1,e2,e3,e4,q0,q1,q2,q3,q4⟩)|(simp[tz0,tz1,tz2,e0,e1,e2,e3,e4,q0,q1,q2,q3,q4]))) (λhHeld=>?_)
        refine wpAnyH_take (i:=0) (v:=.agg (tA β root ca cn cc)) rfl (by kernel_rfl) (by kernel_rfl) (by kernel_rfl) (λ_ _ _ h=>h) (FG ⟨by rfl,λw hSw=>by(try dsimp only at hSw);go_simp⟩) (by assumption) ?_
        try simp only[pS]
        refine wpAnyH_take (i:=1) (v:=.q g (L+1) ac) rfl (by kernel_rfl) (by kernel_rfl) (by kernel_rfl) (λ_ _ _ h=>h) (FG ⟨by rfl,λw hSw=>by(try dsimp only at hSw);go_simp⟩) (by assumption) ?_
        try simp only[pS]
        refine wpAnyH_take (i:=2) (v:=.int .i64 (L:Nat)) rfl (by kernel_rfl) (by kernel_rfl) (by kernel_rfl) (λ_ _ _ h=>h) (FG ⟨by rfl,λw hSw=>by(try dsimp only at hSw);go_simp⟩) (by assumption) ?_
        try simp only[pS]
        refine wpAnyH_take (i:=3) (v:=.pointer (some ⟨g,L * 5,none⟩)) rfl (by kernel_rfl) (by kernel_rfl) (by kernel_rfl) (λ_ _ _ h=>h) (FG ⟨by rfl,λw hSw=>by(try dsimp only at hSw);go_simp⟩) (by assumption) ?_
        try simp only[pS]
        refine wpAnyH_take (i:=4) (v:=.agg #[.string llo,.string lhi,.int .i64 lpl,.slice lea len lec,.slice lka lkn lkc]) rfl (by kernel_rfl) (by kernel_rfl) (by kernel_rfl) (λ_ _ _ h=>h) (FG ⟨by rfl,λw hSw=>by(try dsimp only at hSw);go_simp⟩) (by assumption) ?_
        try simp only[pS]
        refine wpAnyH_take (i:=5) (v:=.q gb 1 bc) rfl (by kernel_rfl) (by kernel_rfl) (by kernel_rfl) (λ_ _ _ h=>h) (FG ⟨by rfl,λw hSw=>by(try dsimp only at hSw);go_simp⟩) (by assumption) ?_
        try simp only[pS]
        refine wpAnyH_take (i:=6) (v:=.pointer (some ⟨gb,0,none⟩)) rfl (by kernel_rfl) (by kernel_rfl) (by kernel_rfl) (λ_ _ _ h=>h) (FG ⟨by rfl,λw hSw=>by(try dsimp only at hSw);go_simp⟩) (by assumption) ?_
        try simp only[pS]
        refine wpAnyH_take (i:=7) (v:=.agg #[.string lo,.string hi,.int .i64 pl,.slice ea en ec,.slice ka kn kc]) rfl (by kernel_rfl) (by kernel_rfl) (by kernel_rfl) (λ_ _ _ h=>h) (FG ⟨by rfl,λw hSw=>by(try dsimp only at hSw);go_simp⟩) (by assumption) ?_
        try simp only[pS]
        refine wpAnyH_ready (rs:=[8]) (by kernel_rfl) (by simp) (AllReadyH.cons rfl (λK hK=>?_) AllReadyH.nil)
        go_simp
        (go_at_call 216;(with_reducible refine jC (HTG.out _ ?_) ?_);exact hbb.drew;rintro e wT ⟨vT,msT,rfl,hoT,hNT,hbT,hlT⟩;have hbT2:bW wr wT:=hbb.drew.trans (hbT.mono hbb.size);obtain⟨⟨tz0,tz1,tz2⟩,x3,⟨e0,e1,e2,e3,e4⟩,⟨q0,q1,q2,q3,q4⟩⟩:=HMK.out wT hbT2)
        simp only[]
        refine hK.out _ _ (by(first|exact⟨tz0,tz1,tz2,e0,e1,e2,e3,e4,q0,q1,q2,q3,q4⟩|(with_reducible exact⟨tz0,tz1,tz2,e0,e1,e2,e3,e4,q0,q1,q2,q3,q4⟩)|(simp[tz0,tz1,tz2,e0,e1,e2,e3,e4,q0,q1,q2,q3,q4]))) (λhHeld=>?_)
        clear hK K
        try simp only[pS]
        refine wpAnyH_ready (rs:=[9]) (by kernel_rfl) (by simp) (AllReadyH.cons rfl (λK hK=>?_) AllReadyH.nil)
        go_simp
        refine hK.out _ _ (by(first|exact⟨tz0,tz1,tz2,e0,e1,e2,e3,e4,q0,q1,q2,q3,q4⟩|(with_reducible exact⟨tz0,tz1,tz2,e0,e1,e2,e3,e4,q0,q1,q2,q3,q4⟩)|(simp[tz0,tz1,tz2,e0,e1,e2,e3,e4,q0,q1,q2,q3,q4]))) (λhHeld=>?_)
        clear hK K
        try simp only[pS]
        refine wpAnyH_done (by kernel_rfl) ?_ _
        rotate_left
        all_goals go_wp2
        all_goals
         have zT:=hbT2.size
         have hNE:0<msT.length:=by rw[hNT.1,AE];exact BR.2 HNE.out
         refine⟨⟨A',tog l n',ra',msT,⟨HJ2.out,HGO.out,hNE,HCUT.out (Kk x3 (DL L)),hoT,?_,?_,HNW.out⟩,hB.trans (hbT2.mono (by omega))⟩,by simp only[qJb];omega⟩
         ·exact(HNA.out.on (vV hbT2 hApL)).mono (λk hk=>⟨hk.1.imp id (λh=>⟨h.1,by omega⟩),hk.2⟩)
         ·refine hNT.mono (λk hk=>?_)
          rcases hk with hk|hk
          ·exact⟨hk.1.imp id (λh=>⟨h.1,by omega⟩),hk.2⟩
          ·have h1:_<=k:=hk.1
           refine⟨.inr ⟨by have:=hwq.size;have:=hbb.size;simp at h1;omega,hk.2⟩,λe=>?_⟩
           simp[Value.ownBlock]at e
           have:=hbb.size
           simp at h1;omega
       ·rw[hs]at HSL
        rw[hs2]at HSN
        clear hs hs2
        go_wp2_with (go_at_call 215;(first|(with_reducible refine jC (HSL.out _ hbb) ?_;clear HSL)|(with_reducible refine jC (HSN.out _ hbb) ?_;clear HSN));rintro e wt ⟨rfl,hb1⟩;have hbb:=hbb.trans (hb1.mono hbb.size);obtain⟨⟨tz0,tz1,tz2⟩,x3,⟨e0,e1,e2,e3,e4⟩,⟨q0,q1,q2,q3,q4⟩⟩:=HMK.out _ hbb)
        have hix:(L:Int)<(L:Int)+1:=by omega
        have hca:(L:Int)<=(ac:Int):=by omega
        have hl0:(0:Int)<=(L:Int):=by omega
        refine wp_region_held_drew (S:=(λX=>X.cell? ⟨w.heap.size,0,none⟩=some (.pointer (some ⟨β,0,none⟩))/\X.cell? ⟨w.heap.size,1,none⟩=some (.int .i64 root)/\X.cell? ⟨w.heap.size,2,none⟩=some (.slice ca cn cc)/\X.cell? ⟨g,L * 5,none⟩=some (.string llo)/\X.cell? ⟨g,L * 5+1,none⟩=some (.string lhi)/\X.cell? ⟨g,L * 5+2,none⟩=some (.int .i64 lpl)/\X.cell? ⟨g,L * 5+3,none⟩=some (.slice lea len lec)/\X.cell? ⟨g,L * 5+4,none⟩=some (.slice lka lkn lkc)/\X.cell? ⟨gb,0,none⟩=some (.string lo)/\X.cell? ⟨gb,1,none⟩=some (.string hi)/\X.cell? ⟨gb,2,none⟩=some (.int .i64 pl)/\X.cell? ⟨gb,3,none⟩=some (.slice ea en ec)/\X.cell? ⟨gb,4,none⟩=some (.slice ka kn kc))) (by kernel_rfl) (by(first|exact⟨tz0,tz1,tz2,e0,e1,e2,e3,e4,q0,q1,q2,q3,q4⟩|(with_reducible exact⟨tz0,tz1,tz2,e0,e1,e2,e3,e4,q0,q1,q2,q3,q4⟩)|(simp[tz0,tz1,tz2,e0,e1,e2,e3,e4,q0,q1,q2,q3,q4]))) (λhHeld=>?_)
        refine wpAnyH_take (i:=0) (v:=.agg (tA β root ca cn cc)) rfl (by kernel_rfl) (by kernel_rfl) (by kernel_rfl) (λ_ _ _ h=>h) (FG ⟨by rfl,λw hSw=>by(try dsimp only at hSw);go_simp⟩) (by assumption) ?_
        try simp only[pS]
        refine wpAnyH_take (i:=1) (v:=.q g (L+1) ac) rfl (by kernel_rfl) (by kernel_rfl) (by kernel_rfl) (λ_ _ _ h=>h) (FG ⟨by rfl,λw hSw=>by(try dsimp only at hSw);go_simp⟩) (by assumption) ?_
        try simp only[pS]
        refine wpAnyH_take (i:=2) (v:=.int .i64 (L:Nat)) rfl (by kernel_rfl) (by kernel_rfl) (by kernel_rfl) (λ_ _ _ h=>h) (FG ⟨by rfl,λw hSw=>by(try dsimp only at hSw);go_simp⟩) (by assumption) ?_
        try simp only[pS]
        refine wpAnyH_take (i:=3) (v:=.pointer (some ⟨g,L * 5,none⟩)) rfl (by kernel_rfl) (by kernel_rfl) (by kernel_rfl) (λ_ _ _ h=>h) (FG ⟨by rfl,λw hSw=>by(try dsimp only at hSw);go_simp⟩) (by assumption) ?_
        try simp only[pS]
        refine wpAnyH_take (i:=4) (v:=.agg #[.string llo,.string lhi,.int .i64 lpl,.slice lea len lec,.slice lka lkn lkc]) rfl (by kernel_rfl) (by kernel_rfl) (by kernel_rfl) (λ_ _ _ h=>h) (FG ⟨by rfl,λw hSw=>by(try dsimp only at hSw);go_simp⟩) (by assumption) ?_
        try simp only[pS]
        refine wpAnyH_take (i:=5) (v:=.q gb 1 bc) rfl (by kernel_rfl) (by kernel_rfl) (by kernel_rfl) (λ_ _ _ h=>h) (FG ⟨by rfl,λw hSw=>by(try dsimp only at hSw);go_simp⟩) (by assumption) ?_
        try simp only[pS]
        refine wpAnyH_take (i:=6) (v:=.pointer (some ⟨gb,0,none⟩)) rfl (by kernel_rfl) (by kernel_rfl) (by kernel_rfl) (λ_ _ _ h=>h) (FG ⟨by rfl,λw hSw=>by(try dsimp only at hSw);go_simp⟩) (by assumption) ?_
        try simp only[pS]
        refine wpAnyH_take (i:=7) (v:=.agg #[.string lo,.string hi,.int .i64 pl,.slice ea en ec,.slice ka kn kc]) rfl (by kernel_rfl) (by kernel_rfl) (by kernel_rfl) (λ_ _ _ h=>h) (FG ⟨by rfl,λw hSw=>by(try dsimp only at hSw);go_simp⟩) (by assumption) ?_
        try simp only[pS]
        refine wpAnyH_ready (rs:=[8]) (by kernel_rfl) (by simp) (AllReadyH.cons rfl (λK hK=>?_) AllReadyH.nil)
        go_simp
        (go_at_call 216;(with_reducible refine jC (HTG.out _ ?_) ?_);exact hbb.drew;rintro e wT ⟨vT,msT,rfl,hoT,hNT,hbT,hlT⟩;have hbT2:bW wr wT:=hbb.drew.trans (hbT.mono hbb.size);obtain⟨⟨tz0,tz1,tz2⟩,x3,⟨e0,e1,e2,e3,e4⟩,⟨q0,q1,q2,q3,q4⟩⟩:=HMK.out wT hbT2)
        simp only[]
        refine hK.out _ _ (by(first|exact⟨tz0,tz1,tz2,e0,e1,e2,e3,e4,q0,q1,q2,q3,q4⟩|(with_reducible exact⟨tz0,tz1,tz2,e0,e1,e2,e3,e4,q0,q1,q2,q3,q4⟩)|(simp[tz0,tz1,tz2,e0,e1,e2,e3,e4,q0,q1,q2,q3,q4]))) (λhHeld=>?_)
        clear hK K
        try simp only[pS]
        refine wpAnyH_ready (rs:=[9]) (by kernel_rfl) (by simp) (AllReadyH.cons rfl (λK hK=>?_) AllReadyH.nil)
        go_simp
        refine hK.out _ _ (by(first|exact⟨tz0,tz1,tz2,e0,e1,e2,e3,e4,q0,q1,q2,q3,q4⟩|(with_reducible exact⟨tz0,tz1,tz2,e0,e1,e2,e3,e4,q0,q1,q2,q3,q4⟩)|(simp[tz0,tz1,tz2,e0,e1,e2,e3,e4,q0,q1,q2,q3,q4]))) (λhHeld=>?_)
        clear hK K
        try simp only[pS]
        refine wpAnyH_done (by kernel_rfl) ?_ _
        rotate_left
        all_goals go_wp2
        all_goals
         have zT:=hbT2.size
         have hNE:0<msT.length:=by rw[hNT.1,AE];exact BR.2 HNE.out
         refine⟨⟨A',tog l n',ra',msT,⟨HJ2.out,HGO.out,hNE,HCUT.out (Kk x3 (DL L)),hoT,?_,?_,HNW.out⟩,hB.trans (hbT2.mono (by omega))⟩,by simp only[qJb];omega⟩
         ·exact(HNA.out.on (vV hbT2 hApL)).mono (λk hk=>⟨hk.1.imp id (λh=>⟨h.1,by omega⟩),hk.2⟩)
         ·refine hNT.mono (λk hk=>?_)
          rcases hk with hk|hk
          ·exact⟨hk.1.imp id (λh=>⟨h.1,by omega⟩),hk.2⟩
          ·have h1:_<=k:=hk.1
           refine⟨.inr ⟨by have:=hwq.size;have:=hbb.size;simp at h1;omega,hk.2⟩,λe=>?_⟩
           simp[Value.ownBlock]at e
           have:=hbb.size
           simp at h1;omega
      ·have hE:=HEND.out (qAh hgo)
       have hs1:dE l=false:=by cases h:dE l;rfl;exact absurd (.inl h) hgo
       have hs2:dE n'=false:=by cases h:dE n';rfl;exact absurd (.inr h) hgo
       rw[hs1]at hsl
       rw[hs2]at hsn
       have HSL:Hid (∀W,bW wr W->_):=hsl
       have HSN:Hid (∀W,bW wr W->_):=hsn
       clear HEND I hAl hNl hsl hsn HTG hgo hs1 hs2 hlm hnm' hNA
       go_wp2_with (first
        |(go_at_call 215;(first|(with_reducible refine jC (HSL.out _ hbb) ?_;clear HSL)|(with_reducible refine jC (HSN.out _ hbb) ?_;clear HSN));rintro e wt ⟨rfl,hb1⟩;have hbb:=hbb.trans (hb1.mono hbb.size);obtain⟨_,x3,⟨e0,e1,e2,e3,e4⟩,⟨q0,q1,q2,q3,q4⟩⟩:=HMK.out _ hbb)
        |(at_builtin;refine wZ wt rfl (.tmp 54) (.tmp 55) 239 242 _ 5 88 rfl Tryz.underlying239 iF rfl (by decide) (.q g (L+1) ac) (L+1) (aL (ra'++[⟨llo,lhi,lpl,lea,len,lec,lka,lkn,lkc⟩])) rfl x3 ⟨gb,0,none⟩ 1 bc (aL [⟨lo,hi,pl,ea,en,ec,ka,kn,kc⟩]) rfl rfl (HBC.out _ hbb) (nR _) (by omega) (by omega) ?_;intro v3 w3 A3;obtain⟨g3,k3,rfl⟩:=A3.shape (by omega)))
       obtain⟨h1,h2,h3,h4,h5⟩:=hE _ _ _ hbb A3
       exact⟨⟨j+1,_,by go_num,by omega,h1,h2,h3,h4,h5⟩,by simp[intOf];omega⟩
    ·have hE:=HEND.out (Uj (by omega))
     have hne:¬((rn.length:Int)=1):=by omega
     clear HEND I hAl hNl
     go_wp2_with (at_builtin;refine wZ wr rfl (.tmp 54) (.tmp 55) 239 242 _ 5 88 rfl Tryz.underlying239 iF rfl (by decide) (.slice aa ra.length ac) ra.length (aL ra) rfl harow ⟨gb,0,none⟩ rn.length bc (aL rn) rfl (by rw[iD]) hbcell (nR rn) (by omega) (by omega) ?_;intro v3 w3 A3;obtain⟨g3,k3,rfl⟩:=A3.shape (by omega))
     obtain⟨h1,h2,h3,h4,h5⟩:=hE _ _ _ (AC _ _) A3
     exact⟨⟨j+1,_,by go_num,by omega,h1,h2,h3,h4,h5⟩,by simp[intOf];omega⟩
  ·obtain rfl:j=ns.length:=by omega
   go_wp2
   go_ret
   refine⟨_,rs,rfl,ho,?_,B1.trans (hB.mono (by omega)),λk h=>vJ (DL _) (hk k h)⟩
   have e:Gy tog ns ns.length=pZ tog ns:=by rw[Gy,BG];rfl
   rw[e]at hN
   exact hN
