import Derived.Test.YtdhgdcjmhofhaaaGreatD26
import Derived.Deep.RegionHeld3
set_option linter.all false
set_option maxRecDepth 100000
set_option maxHeartbeats 8000000
namespace Go.Proofs.YtdhgdcjmhofhaaaGreat.Tree
open Go.RowKit Pages Tryz
variable {L:Array Bool} {a:Act} {i n:Nat} {v:Value} {w:World}
def pN(P:Program)(md:Region.Mode)(ops:Array Oper)(Q:Exit->Act->World->Prop)(S:World->Prop)(s:Nat):Nat->Array Bool->Act->World->Prop
 |0,L,a,w=>Region.ready md ops L=[]/\Q .normal a w
 |n+1,L,a,w=>(Region.ready md ops L=[]->Q .normal a w)/\∀i∈Region.ready md ops L,wpOp P ops Q i (λa' w'=>((L.setIfInBounds i true).getD s true=false->S w')/\pN P md ops Q S s n (L.setIfInBounds i true) a' w') a w
section
variable {P:Program}{md:Region.Mode}{ops:Array Oper}{Q:Exit->Act->World->Prop}{S:World->Prop}{s:Nat}
theorem pN.any:∀{n:Nat}{L:Array Bool}{a:Act}{w:World},pN P md ops Q S s n L a w->wpAny P md ops Q n L a w
 |0,_,_,_,h=>h
 |_+1,_,_,_,h=>⟨h.1,λc b=>wpOp_mono (λ_ _ d=>d.2.any) (h.2 c b)⟩
def Ap(md:Region.Mode)(ops:Array Oper)(s i:Nat):Bool:=((ops[s]?).map (λo=>o.after.any (λe=>Region.binds md e&&e.on==i))).getD false
def tN(md:Region.Mode)(ops:Array Oper)(s i:Nat):Bool:=Ap md ops s i||(List.range ops.size).any (λj=>Ap md ops s j&&Ap md ops j i)
def Clo(md:Region.Mode)(ops:Array Oper)(L:Array Bool):Prop:=∀j oj,ops[j]?=some oj->L.getD j false=true->∀e∈oj.after,Region.binds md e=true->L.getD e.on false=true
def qMh(md:Region.Mode)(ops:Array Oper)(L:Array Bool):Bool:=(List.range ops.size).all (λj=>!L.getD j false||((ops[j]?).map (λo=>o.after.all (λe=>!Region.binds md e||L.getD e.on false))).getD true)
theorem Ng (h:qMh md ops L=true):Clo md ops L:=λi j c g d f e=>by
 have a:=JM.1 h i (JG.2 (gL c));rw[c,g]at a;simp only[MX,Option.getD_some,Bool.not_true,Bool.false_or]at a;have b:=Array.all_eq_true_iff_forall_mem.1 a d f;grind
theorem Mp {j x}(h:L.getD x false=true):(L.setIfInBounds j true).getD x false=true:=by
 by_cases e:j=x
 .subst e;rcases BT j L.size with a|a
  .simp[a]
  grind
 simp_all
theorem Clo.set {j}(h:Clo md ops L)(k:j∈Region.ready md ops L):Clo md ops (L.setIfInBounds j true):=λf g d e a c b=>by
 by_cases ek:j=f
 .subst ek;have⟨_,m,l,i⟩:=JR.1 k;obtain rfl:g=m:=GY (d.symm.t l);exact Mp (i a c b)
 .rw[KW false ek]at e;exact Mp (h f g d e a c b)
theorem Fi{s i}(h:Ap md ops s i=true):∃o,ops[s]?=some o/\∃e∈o.after,Region.binds md e=true/\e.on=i:=by
 unfold Ap at h;grind
theorem yF (c:L.getD i true=false)(a:L.getD i false=true):False:=by
 grind
theorem Bd (p:Clo md ops L)(j:tN md ops s i=true)(hi:i∈Region.ready md ops L):s ∉ Region.ready md ops L:=by
 intro v;have⟨_,o,r,n⟩:=JR.1 v;have f:=(JR.1 hi).1;have g:∀e,Ap md ops s e=true->L.getD e false=true:=λe q=>by
  obtain⟨y,t,a,d,c,rfl⟩:=Fi q;grind
 rw[tN,DZ]at j;rcases j with b|b
 .grind
 .have⟨k,_,h⟩:=List.any_eq_true.1 b;rw[AM]at h;have⟨l,m⟩:=h;obtain⟨w,u,a,d,c,rfl⟩:=Fi m;exact yF f (p k w u (g k l) a d c)
theorem Jk {g}(hi:ops[i]?=some g)(m:∀(j:Nat) (o:Oper) cs b,ops[j]?=some o->o.op≠.select cs b)(t:∀c a w,Q (.panic c) (a.put g.dst v) w->Q (.panic c) a w)(p:tN md ops s i=true):
  ∀(n:Nat) (L:Array Bool) (a:Act) (w:World),Clo md ops L->(∀j d,ops[j]?=some d->j≠i->L.getD j true=false->(∀e∈d.after,Region.binds md e=true->e.on≠i)->g.apart ops d=true)->i∈Region.ready md ops L->L.getD s true=false->YieldsIf P ops S g v a->S w->pN P md ops Q S s n (L.setIfInBounds i true) (a.put g.dst v) w->pN P md ops Q S s (n+1) L a w
 |0,L,a,w,_,_,hr,hs,hy,hS,H=>by
  refine⟨λk=>ζ,λj f=>?_⟩;by_cases e:j=i
  .subst e;exact hy.wpOp hi hS ⟨λ_=>hS,H⟩
  .have:=JS f e;rw[H.1]at this;cases this
 |n+1,L,a,w,hc,hf,hr,hs,hy,hS,H=>by
  refine⟨λk=>ζ,λj f=>?_⟩;by_cases e:j=i
  .subst e;exact hy.wpOp hi hS ⟨λ_=>hS,H⟩
  .have x:j≠s:=λh=>Bd hc p hr (h▸f);have G:i≠s:=λh=>Bd hc p hr (h▸hr);have⟨y,d,l,C⟩:=JR.1 f;have J:∀e∈d.after,Region.binds md e=true->e.on≠i:=λe E D F=>yF (JR.1 hr).1 (F▸C e E D);refine wpOp_mono (λA w' r=>?_) (wpOp_putIf l (hf j d l e y J) (λcs b=>m i g cs b hi) (λcs b=>m j d cs b l) t hy (H.2 j (JS f e)));have N:(L.setIfInBounds j true).getD s true=false:=by simp_all
   have u:=r.2.1 (by simp_all);refine⟨λ_=>u,Jk hi m t p n (L.setIfInBounds j true) A w' (hc.set f) (λq O K M z I=>hf q O K M ?_ I) (JS hr (Ne.symm e)) N r.1 u ?_⟩
   .by_cases hjq:j=q
    .grind
    simp_all
   .rw[GV _ _ e];exact r.2.2
theorem mR {b}(hi:ops[i]?=some b)(e:(Region.noSelect ops&&Region.free md ops L i&&(Region.ready md ops L).contains i&&tN md ops s i&&!L.getD s true&&qMh md ops L)=true)(o:∀c a w,Q (.panic c) (a.put b.dst v) w->Q (.panic c) a w)(p:YieldsIf P ops S b v a)(d:S w)(h:S w->pN P md ops Q S s n (L.setIfInBounds i true) (a.put b.dst v) w):pN P md ops Q S s (n+1) L a w:=by
 simp only[AM,MJ]at e;have⟨⟨⟨⟨⟨f,g⟩,j⟩,k⟩,l⟩,m⟩:=e;exact Jk hi (MA f) o k n L a w (Ng m) (MZ hi g) ζ l p d (h d)
theorem aR {o}(d:Region.ready md ops L=[i])(j:ops[i]?=some o)(h:∀K':Act->World->Prop,Go.Shut (∀a w,((L.setIfInBounds i true).getD s true=false->S w)->pN P md ops Q S s n (L.setIfInBounds i true) a w->K' a w)->if Region.wanted o (yielded ops a.tmps)=true then Oper.wp P o a w K' Q else K' (a.put o.dst undef) w):pN P md ops Q S s (n+1) L a w:=by
 refine⟨λb=>ζ,λk c=>?_⟩;rw[d,AL]at c;subst c;exact wpOp_step j (λK' e=>h K' (λa w f g=>e a w ⟨f,g⟩))
theorem dF (b:Region.ready md ops L=[])(h:Q .normal a w):∀n,pN P md ops Q S s n L a w
 |0=>⟨b,h⟩
 |_+1=>⟨λ_=>h,by rw[b];simp⟩
def tkA(P:Program)(md:Region.Mode)(ops:Array Oper)(Q:Exit->Act->World->Prop)(S:World->Prop)(s:Nat):List (Nat×Value)->Nat->Array Bool->Act->World->Prop
 |[],n,L,a,w=>pN P md ops Q S s n L a w
 |_ :: _,0,_,_,_=>False
 |(i,v):: l,n+1,L,a,w=>∃oi,ops[i]?=some oi/\(Region.noSelect ops&&Region.free md ops L i&&(Region.ready md ops L).contains i&&tN md ops s i&&!L.getD s true&&qMh md ops L)=true/\(∀c a w,Q (.panic c) (a.put oi.dst v) w->Q (.panic c) a w)/\YieldsIf P ops S oi v a/\tkA P md ops Q S s l n (L.setIfInBounds i true) (a.put oi.dst v) w
theorem tks:∀(l:List (Nat×Value)) {n:Nat}{L:Array Bool}{a:Act}{w:World},S w->tkA P md ops Q S s l n L a w->pN P md ops Q S s n L a w
 |[],_,_,_,_,_,h=>h
 |_ :: _,0,_,_,_,_,h=>h.elim
 |(i,v):: l,n+1,L,a,w,b,⟨oi,h1,h2,h3,h4,h5⟩=>mR h1 h2 h3 h4 b (λb=>tks l b h5)
theorem tk1 {l:List (Nat×Value)}{oi:Oper}(e:ops[i]?=some oi)(h:tkA P md ops Q S s l n (L.setIfInBounds i true) (a.put oi.dst v) w)(b:(Region.noSelect ops&&Region.free md ops L i&&(Region.ready md ops L).contains i&&tN md ops s i&&!L.getD s true&&qMh md ops L)=true:=by kernel_rfl)(c:∀c a w,Q (.panic c) (a.put oi.dst v) w->Q (.panic c) a w:=by exact λ_ _ _ h=>h)(d:YieldsIf P ops S oi v a:=by exact τ):tkA P md ops Q S s ((i,v):: l) (n+1) L a w:=⟨oi,e,b,c,d,h⟩
theorem tH {oi:Oper}(e:ops[i]?=some oi)(g:S w)(h:wpAnyH P md ops Q S n (L.setIfInBounds i true) (a.put oi.dst v) w)(b:(Region.noSelect ops&&Region.free md ops L i&&(Region.ready md ops L).contains i)=true:=by kernel_rfl)(c:∀c a w,Q (.panic c) (a.put oi.dst v) w->Q (.panic c) a w:=by exact λ_ _ _ h=>h)(d:YieldsIf P ops S oi v a:=by exact τ):wpAnyH P md ops Q S (n+1) L a w:=by
 simp only[AM]at b;exact wpAnyH_take e b.1.1 b.1.2 b.2 c d g h
theorem tke (h:pN P md ops Q S s n L a w):tkA P md ops Q S s [] n L a w:=h
theorem cY {id}(s)(b:P.follows .mixedOrders=true)(h:pN P .any ops Q S s ops.size (Array.replicate ops.size false) a w.drew):(Code.region id ops true).wp P Q a w :=
 wp_region_any b h.any
end
variable {S:Bl} {W c d w:World} {a:Option Addr} {b e n z:Nat} {v:Value} {xs:List Value}
def nd0:NT->Nd
 |.kept t s=>.mk s t.place [] []
 |.leaf s es=>.mk s 0 es []
 |.bran s _=>.mk s 0 [] []
theorem xO(es):(dE es).map nd0=(fA esz es).map Bn:=by rw[dE,GO];rfl
def Cg(n:NT):Prop:=∀t s,n=.kept t s->0<t.place
def Or2(A B:Bl):Bl:=λk=>A k\/B k
theorem qQm(β sv lv fs)(G:(fs.life==0)=false)(root g i h n)(k:Ok0 fs n)(H:Cg n)(m S w)(F:aA w β sv lv fs)(y:jM w S (nd0 n) m)(D:lW S w):
  cL 219 #[.agg #[.p β 0,.i root,.s g i h],.agg #[.t m.lo,.t m.hi,.i m.place,.s m.ea m.en m.ec,.s m.ka m.kn m.kc]] w λe w' =>
   ∃lo hi a c L M,e=.r (.agg #[.t lo,.t hi,.i 0,.s a n.ents0 c,.s L 0 M])/\aH w' (Or2 S (New w w')) a (aU n.ents0)/\n.ents0<=c/\bW w w':=by
 cases n with
 |bran=>exact k.elim
 |leaf s es =>
  have⟨_,_,_,_,_,N,l,o,d,r,u,v,B,x,C,z,A⟩:=y;apply(Hi β root g i h m (by simp[d]) w).m;rintro e w' ⟨rfl,f⟩;refine⟨m.lo,m.hi,m.ea,m.ec,m.ka,m.kc,?_,(x.on (vV f D)).m (λK j=>.inl j),v,f⟩;rw[d,r,u];rfl
 |kept t s =>
  cases t with
  |branch=>exact k.elim
  |leaf p es =>
   have⟨_,_,_,_,_,N,l,o,d,r,u,v,B,x,C,z,A⟩:=y;have O:=H _ _ rfl;have q:=d;have J:aZ fs 0 (.leaf m.place es) ⟨m.lo,m.hi⟩:=by rw[q,l,o];exact k
   apply(Yx β sv lv fs G root g i h m (by simp[q];omega) es w J F).m;rintro e w' ⟨a,c,rfl,I,E,f⟩;exact⟨m.lo,m.hi,a,c,none,0,rfl,I.m (λK j=>.inr j),E,f⟩
theorem cA {e}(h:w.ownsRow 0 e z v n xs):∃a c,v=.s a n c/\n<=c/\aH w (λk=>v.ownBlock=some k) a xs:=by
 obtain⟨a,c,rfl⟩:=aG h;have i:=h;have⟨j,l⟩:=h;rcases l with⟨b,m⟩|⟨g,q,r,b,t,y,o,u,x,A⟩
 .simp only[AR]at b;refine⟨a,c,rfl,ω,.inl ?_⟩;have:xs.length=0:=by rw[j,m];simp
  exact AH this
 .simp only[AR,CV]at b;obtain⟨rfl,rfl⟩:=b;refine⟨_,c,rfl,o,.inr ⟨g,0,rfl,rfl,λB C p=>?_⟩⟩;have⟨s,d,_,_,f⟩:=gU i p;simp only[BB,CD,DC]at d;subst d;simpa using f
def Wu(n:Nat)(w:World):Bl:=λk=>k<w.1.size/\(k<n\/n+3<=k)
theorem aH.past {g:List Value}(h:aH d (Or2 S (New W d)) a g)(e:lW S w)(i:w.1.size+3<=W)(j:w.1.size<=d):aH d (Wu w d) a g :=
 h.m (λf c=>by
  rcases c with c|c
  .exact⟨jY (e f c) j,.inl (e f c)⟩
  .exact⟨c.2,.inr (vJ i c.1)⟩)
theorem aH.step {e}(h:aH W (Wu n W) a e)(d:bW W c):aH c (Wu n c) a e :=
 (h.on (vV d (λf b=>b.1))).m (λf b=>⟨jY b.1 d.size,b.2⟩)
theorem cO {b a o o' v u}(c:a≠b)(h:w.c b o=some u):(w.setCell (aD a o') v).cell? (aD b o)=some u:=by
 rw[DU _ _ _ _ (by simp[c])];exact h
abbrev Rb(w:World)(b:Nat)(v0 v1 v2 v3 v4:Value):World:=((((w.setCell (aD b 0) v0).setCell (aD b 1) v1).setCell (aD b 2) v2).setCell (aD b 3) v3).setCell (aD b 4) v4
theorem El(w b a c d v3 e):Fr (Bl.one b) w (Rb w b a c d v3 e):=
 (((((AE (Bl.one b) w).s b 0).s b 1).s b 2).s b 3).s b 4
theorem yO {f g i j k t}(h:cW w b #[f,g,i,j,k] t)(a c d v3 e):(Rb w b a c d v3 e).1[b]?=some (.cells #[a,c,d,v3,e] t):=by
 have:=aC (aC (aC (aC (aC h 0 a) 1 c) 2 d) 3 v3) 4 e;simpa using this
theorem qDn(β sv lv fs)(bu:(fs.life==0)=false)(root i l j a b)(b3:Ok0 fs a)(b4:Ok0 fs b)(c5:Cg a)(c6:Cg b)(c mb S w)(b7:aA w β sv lv fs)(c0:jM w S (nd0 a) c)(c1:jM w S (nd0 b) mb)(a6:lW S w)(cm:a.ents0.length<=1000)(cn:b.ents0.length<=1000):
  cL 216 #[.agg #[.p β 0,.i root,.s i l j],c.val,mb.val] w λe w' =>
   ∃v ms,e=.r v/\w'.ownsRow 0 242 5 v ms.length (aM ms)/\bK w' (New w w') ((qNg a b).map nd0) ms/\bW w w'/\nW v w:=by
 obtain⟨g,Y,bd,ar,a9,ae,ci⟩:=al3 w (.cells #[.p β 0,.i root,.s i l j] 90) c.obj mb.obj; have b2:∀(n:NT) (h:MN),Ok0 fs n->Cg n->jM w S (nd0 n) h->∀W,bW w W->cL 219 #[.agg #[.p β 0,.i root,.s i l j],.agg #[.t h.lo,.t h.hi,.i h.place,.s h.ea h.en h.ec,.s h.ka h.kn h.kc]] W λe w' =>
   ∃ce bt b0 b1 cc cd,e=.r (.agg #[.t ce,.t bt,.i 0,.s b0 n.ents0 b1,.s cc 0 cd])/\aH w' (Or2 S (New W w')) b0 (aU n.ents0)/\n.ents0<=b1/\bW W w':=λn h c2 c4 bz W am =>
  qQm β sv lv fs bu root i l j n c2 c4 h S W (b7.bl am) (bz.on (vV am a6)) (λb o=>jY (a6 b o) am.size)
 have G:∀W,Below (w+3) g W->bW w W:=λW o=>bd.t (o.m ω);have bn:=λW o=>b2 a c b3 c5 c0 W (G W o);have bo:=λW o=>b2 b mb b4 c6 c1 W (G W o);have bs:=λz aq=>(AN.1 aq).elim ((Sa b3).2.2 z) ((Sa b4).2.2 z);have f:Below (w+3) g g:=AC _ _;have x:w.1.size+3<=g:=ω;obtain⟨a0,a1,a2⟩:=eM ar;obtain⟨J,L,M,N,O⟩:=cS a9;obtain⟨Q,R,T,U,V⟩:=cS ae;go_enter func216,ntmps216;go_wp2;refine cY (S:=(λX=>X.c w 0=some (.p β 0)/\X.c w 1=some (.i root)/\X.c w 2=some (.s i l j)/\X.c (w+1) 0=some (.t c.lo)/\X.c (w+1) 1=some (.t c.hi)/\X.c (w+1) 2=some (.i c.place)/\X.c (w+1) 3=some (.s c.ea c.en c.ec)/\X.c (w+1) 4=some (.s c.ka c.kn c.kc)/\X.c (w+1+1) 0=some (.t mb.lo)/\X.c (w+1+1) 1=some (.t mb.hi)/\X.c (w+1+1) 2=some (.i mb.place)/\X.c (w+1+1) 3=some (.s mb.ea mb.en mb.ec)/\X.c (w+1+1) 4=some (.s mb.ka mb.kn mb.kc))) 6 κ ?_;have cl:=(show((λX=>X.c w 0=some (.p β 0)/\X.c w 1=some (.i root)/\X.c w 2=some (.s i l j)/\X.c (w+1) 0=some (.t c.lo)/\X.c (w+1) 1=some (.t c.hi)/\X.c (w+1) 2=some (.i c.place)/\X.c (w+1) 3=some (.s c.ea c.en c.ec)/\X.c (w+1) 4=some (.s c.ka c.kn c.kc)/\X.c (w+1+1) 0=some (.t mb.lo)/\X.c (w+1+1) 1=some (.t mb.hi)/\X.c (w+1+1) 2=some (.i mb.place)/\X.c (w+1+1) 3=some (.s mb.ea mb.en mb.ec)/\X.c (w+1+1) 4=some (.s mb.ka mb.kn mb.kc))) g.drew from ⟨a0,a1,a2,J,L,M,N,O,Q,R,T,U,V⟩);refine tks [(0,.agg #[.p β 0,.i root,.s i l j]),(1,.agg #[.t c.lo,.t c.hi,.i c.place,.s c.ea c.en c.ec,.s c.ka c.kn c.kc]),(3,.agg #[.p β 0,.i root,.s i l j]),(4,.agg #[.t mb.lo,.t mb.hi,.i mb.place,.s mb.ea mb.en mb.ec,.s mb.ka mb.kn mb.kc])] ψ ?_;iterate 4 (refine tk1 rfl ?_;try simp only[pS])
 refine tke ?_;refine aR (i:=2) κ rfl (λK B=>?_);go_simp;((with_reducible refine Calls.m (bn _ ?_) ?_);(first|exact f|exact f.drew);rintro e I ⟨ad,aa,p,r,ab,ac,rfl,a4,bg,C⟩;have A:=f;have f:=(by first|exact cR A x C|exact cR A.drew x C);have a4:=a4.past a6 (by first|exact x|exact vJ x A.size) (G _ f).size;obtain⟨a0,a1,a2⟩:=eM ((f.block w ω).t ar);have D:=(f.block (w+1) ω).t a9;have F:=(f.block (w+1+1) ω).t ae;obtain⟨J,L,M,N,O⟩:=cS D;obtain⟨Q,R,T,U,V⟩:=cS F;have bi:=aF D;have bm:=aF F);simp only[];refine B.out _ _ (λ_=>⟨a0,a1,a2,J,L,M,N,O,Q,R,T,U,V⟩) ?_;try simp only[pS]
 refine aR (i:=5) κ rfl (λK B=>?_);go_simp;((with_reducible refine Calls.m (bo _ ?_) ?_);(first|exact f|exact f.drew);rintro e I ⟨ai,af,s,t,ag,ah,rfl,a5,bj,C⟩;have A:=f;have f:=(by first|exact cR A x C|exact cR A.drew x C);have a5:=a5.past a6 (by first|exact x|exact vJ x A.size) (G _ f).size;obtain⟨a0,a1,a2⟩:=eM ((f.block w ω).t ar);have D:=(f.block (w+1) ω).t a9;have F:=(f.block (w+1+1) ω).t ae;obtain⟨J,L,M,N,O⟩:=cS D;obtain⟨Q,R,T,U,V⟩:=cS F;have bi:=aF D;have bm:=aF F);simp only[];refine B.out _ _ (λ_=>⟨a0,a1,a2,J,L,M,N,O,Q,R,T,U,V⟩) ?_;try simp only[pS]
 refine aR (i:=6) κ rfl (λK B=>?_);go_simp;refine B.out _ _ (λe=>by cases e) ?_;try simp only[pS]
 refine aR (i:=7) κ rfl (λK B=>?_);go_simp;refine B.out _ _ (λe=>by cases e) ?_;try simp only[pS]
 refine dF κ ?_ _
 all_goals (first|(have ay:=aH.step a4 C;have az:=a5)|(have az:=aH.step a5 C;have ay:=a4))
 all_goals
  have bb:=yO D (.t ad) (.t aa) (.i 0) (.s p a.ents0 r) (.s ab 0 ac);have aj:=El I (w+1) (.t ad) (.t aa) (.i 0) (.s p a.ents0 r) (.s ab 0 ac);obtain⟨a8,an⟩:=nM (Rb I (w+1) (.t ad) (.t aa) (.i 0) (.s p a.ents0 r) (.s ab 0 ac));rw[an]at bb aj;have bl:=aj.heap F φ;have bc:=yO bl (.t ai) (.t af) (.i 0) (.s s b.ents0 t) (.s ag 0 ah);have ak:=El a8 (w+1+1) (.t ai) (.t af) (.i 0) (.s s b.ents0 t) (.s ag 0 ah);obtain⟨m,ap⟩:=nM (Rb a8 (w+1+1) (.t ai) (.t af) (.i 0) (.s s b.ents0 t) (.s ag 0 ah));rw[ap]at bc ak;have ch:=ak.heap bb φ;have a3:Fr (λk=>k=w+1\/k=w+1+1) I m:=(aj.m (λk d=>.inl (.inl d))).t (ak.m (λk d=>.inl (.inr d)));have bh:=ay.on (a3.on (λk d=>⟨d.1,λe=>by have:=d.2;omega⟩));have bk:=az.on (a3.on (λk d=>⟨d.1,λe=>by have:=d.2;omega⟩));have cs:=(G _ f).size;have aw:=(G _ f).t (a3.below ω (λk d=>ω));have cq:=a3.size;obtain⟨ct,cu,cv,cw,cx⟩:=cS ch;obtain⟨cy,cz,d0,d1,d2⟩:=cS bc;obtain⟨y,ao,P,au,cr⟩:=al1 m (.cells #[.s p a.ents0 r,.s s b.ents0 t] 67);have cj:=(gL au);have al:=Vn [⟨p,r,a.ents0⟩,⟨s,t,b.ents0⟩] (some (aD m 0)) 2 (λk=>k<y) y
   (.inr ⟨m,0,rfl,cj,λH u Z=>by
    rcases H with _|_|H
    .simp[Pc.val]at Z;subst Z;simp[World.cell?,au]
    .simp[Pc.val]at Z;subst Z;simp[World.cell?,au]
    .simp at Z⟩)
   (λq b9=>by
    simp only[AS,FG,KO]at b9;rcases b9 with rfl|rfl
    .exact⟨bg,(bh.on (vV P (λk d=>by have:=d.1;omega))).m (λk d=>by have:=d.1;have:=P.size;omega)⟩
    .exact⟨bj,(bk.on (vV P (λk d=>by have:=d.1;omega))).m (λk d=>by have:=d.1;have:=P.size;omega)⟩)
   (λk d=>d) (by simp[lens];omega) σ σ
  have bw:lens [(⟨p,r,a.ents0⟩:Pc En),⟨s,t,b.ents0⟩]=(a.ents0++b.ents0):=by simp[lens]
  have br : [(⟨p,r,a.ents0⟩:Pc En),⟨s,t,b.ents0⟩].flatMap (·.l)=a.ents0++b.ents0:=σ;rw[bw,br]at al;obtain⟨E,a7⟩:=nM (a.ents0++b.ents0);rw[a7]at al;have ax:Hid (∀z∈E,z.good fs):=by rw[<-a7];exact bs
  have be:Hid (E.length<=1000000):=by show _<=_;rw[<-a7,jK];omega
  have bf:Hid ((qNg a b).map nd0=(fA esz E).map Bn):=by show _=_;rw[qNg,xO,a7]
  have av:=aw.t (P.m (η aw.size));unfold Rb at an ap;rw[an,ap];go_wp2_with (first
   |(apply Calls.m al;rintro e ba ⟨v,rfl,b8,b5,bx⟩;obtain⟨cf,cg,rfl,cb,c9⟩:=cA b8;have bp:=qN cf cg E (λk=>k<ba/\y<=k) ba (c9.m (λk d=>⟨aL b8 d,bx k d⟩)) (λk d=>d.1) be.o cb (λz aq=>rP (ax.o z aq)) (qA ax.o))
   |(apply Calls.m bp;rintro e d4 ⟨d3,qs,rfl,c3,c7,c8,b6,bv⟩))
  go_ret;have ca:=av.size;have co:=b5.size;have cp:=b6.size;refine⟨_,qs.map mL,rfl,by rw[AF];exact c3,?_,(av.t (b5.m ca)).t (b6.m ω),λk d=>vJ ω (bv k d)⟩;rw[bf.o,<-c7];exact(Bm c8).m (λk d=>⟨by have:=d.2;omega,by have:=d.1;omega⟩)
theorem qQe {fs n}(r:Ok0 fs n)(A:Cg n){m}(q:jM w S (nd0 n) m)(p:lW S w)(z:n.ents0.length<=1000):
  cL 215 #[.agg #[.t m.lo,.t m.hi,.i m.place,.s m.ea m.en m.ec,.s m.ka m.kn m.kc]] w λe w'=>e=.r (.bool (dP n))/\bW w w':=by
 cases n with
 |bran=>exact r.elim
 |leaf s es =>
  have⟨_,_,_,_,_,o,u,x,d,f,g,h,i,j,k,c,v⟩:=q;have a:=AH c;subst a;apply(nO m es [] S w f g h i j k p (by have:es.length<=1000:=z;omega) σ (λC B=>rP (r.2.2.2.2 C B)) σ).m;rintro e w' ⟨rfl,l⟩;refine⟨?_,l⟩;apply BR (λb=>Ending.returned (.bool b));rw[d,FN];simp[dP,Nt]<;>exact KC
 |kept t s =>
  have⟨_,_,_,_,_,o,u,x,d,f,g,h,i,j,k,c,v⟩:=q;have a:=AH c;subst a;apply(nO m [] [] S w f g h i j k p σ σ σ σ).m;rintro e w' ⟨rfl,l⟩;refine⟨?_,l⟩;have D:=A t s rfl;have:(m.place==0)=false:=by rw[d];simp;omega
  rw[this];rfl
theorem Ug{a β:Type}(f:β->a->β)(b)(l:List a)(j)(h:j<l.length):(l.take (j+1)).foldl f b=f ((l.take j).foldl f b) l[j]:=by
 rw[AJ h,EX];rfl
abbrev Qf(tog:NT->NT->List NT)(ns:List NT)(j:Nat):List NT:=(ns.take j).foldl (zU tog) []
def qRo:Value->Nat
 |.slice _ n _=>n
 |_=>0
def Apart(S:Bl)(n:Nat)(v:Value)(w:World):Bl:=λk=>(S k\/(n<=k/\k<w.1.size))/\v.ownBlock≠some k
theorem qOa {j:Nat}{d h q:World}{g x v3:Value}{y:TypeId}{z n m:Nat}{xs E:List Value}{acc w:List Nd}{rs v:List MN}{Q:Bl}(C:lW S d)(B:bK d (Apart S j g d) acc rs)(s:bW d h)(D:bK h Q w v)(e:∀k,Q k->(S k\/j<=k)/\k<h/\g.ownBlock≠some k)(p:x.ownBlock=g.ownBlock)(i:fO y z x n xs E m h v3 q):
  bK q (Apart S j v3 q) (acc++w) (rs++v):=by
 have t:=s.size;have F:=i.fr.size;have u:∀k,k<h.1.size->g.ownBlock≠some k->v3.ownBlock≠some k:=λk r f A=>by
  rcases i.lies k A with c|c
  .exact f (p▸c)
  .omega
 have o:∀b,Apart S j g d b->b<d:=λb c=>c.1.elim (C b) (λc=>c.2);refine bK.append ?_ ?_
 .refine ((B.on (vV s o)).on (i.fr.on (λk a=>⟨jY (o k a) t,λl=>a.2 (p▸l)⟩))).m (λk a=>⟨a.1.imp id (λc=>⟨c.1,by have:=c.2;omega⟩),u k (jY (o k a) t) a.2⟩)
 .refine (D.on (i.fr.on (λk a=>⟨(e k a).2.1,λl=>(e k a).2.2 (p▸l)⟩))).m (λk a=>⟨(e k a).1.imp id (λc=>⟨c,by have:=(e k a).2.1;omega⟩),u k (e k a).2.1 (e k a).2.2⟩)
theorem yY {e:TypeId}(h:w.ownsRow 0 e z v n xs)(y:0<n):∃g c,v=.q g n c/\g<w/\∀j u,xs[j]?=some u->w.cell? (((aD g 0):Addr).add j)=some u:=by
 have i:=h;have⟨q,k⟩:=h;rcases k with⟨_,r⟩|⟨g,d,o,b,s,l,A,t,x,B⟩
 .omega
 .refine⟨g,d,b,(gL l),λj u m=>?_⟩;subst b;have⟨p,a,_,_,f⟩:=gU i m;simp only[BB,CD,DC]at a;subst a;have e:((aD g 0):Addr).add j=(aD g j):=by unfold Addr.add;split<;>simp_all
  rw[e];exact f
theorem qHn(g i):((aD g 0):Addr).add i=(aD g i):=by unfold Addr.add;split<;>simp_all
theorem Ol {n c:Nat}{rs:List MN}(h:w.ownsRow 0 242 5 (.s a n c) n (aM rs)){i:Nat}{m:MN}(hi:rs[i]?=some m):∃g,a=some (aD g 0)/\g<w/\n<=c/\w.c g (i * 5)=some (.t m.lo)/\w.c g (i * 5+1)=some (.t m.hi)/\w.c g (i * 5+2)=some (.i m.place)/\w.c g (i * 5+3)=some (.s m.ea m.en m.ec)/\w.c g (i * 5+4)=some (.s m.ka m.kn m.kc):=by
 have⟨q,r⟩:=AD.1 hi;have e:∀o (j:Value),o<5->m.cells[o]?=some j->∃g,a=some (aD g 0)/\g<w/\n<=c/\w.c g (i * 5+o)=some j:=λo j s t=>zD h (by rw[oG q s,r];exact t);obtain⟨g,rfl,l,p,k⟩:=e 0 _ δ rfl;exact⟨g,rfl,l,p,k,by have⟨f,d,_,_,b⟩:=e 1 _ δ rfl;cases d;exact b,by have⟨f,d,_,_,b⟩:=e 2 _ δ rfl;cases d;exact b,by have⟨f,d,_,_,b⟩:=e 3 _ δ rfl;cases d;exact b,by have⟨f,d,_,_,b⟩:=e 4 _ δ rfl;cases d;exact b⟩
structure InJ (tog:NT->NT->List NT) (J:List NT->Prop) (nd:NT->Nd) (ns:List NT) (j:Nat) (S:Bl) (n0:Nat) (a b:Value) (wq:World) (A N:List NT) (ra rn:List MN):Prop where
 inv:J (A++(N++ns.drop (j+1)))
 goes:uT tog A N=Qf tog ns (j+1)
 pos:0<rn.length
 arow:wq.ownsRow 0 242 5 a ra.length (aM ra)
 nrow:wq.ownsRow 0 242 5 b rn.length (aM rn)
 na:bK wq (Apart S n0 a wq) (A.map nd) ra
 nn:bK wq (Apart S n0 a wq) (N.map nd) rn
 new:∀k,a.ownBlock=some k->n0+1<=k
theorem qOl(β sv lv fs root ca cn cc nd tog)(J:List NT->Prop)(hJt:∀A l n B,J (A++l :: n :: B)->J (A++(tog l n++B))/\tog l n≠[])(hJc:∀L,J L->L.length<=1000000)(hsm:∀L,J L->∀n∈L,∀(m:MN) (S:Bl) (w:World),jM w S (nd n) m->(lW S w)->cL 215 #[m.val] w λe w'=>e=.r (.bool (dP n))/\bW w w')(htg:∀A l n B,J (A++l :: n :: B)->∀(ma mb:MN) (S:Bl) (w:World),aA w β sv lv fs->jM w S (nd l) ma->jM w S (nd n) mb->(lW S w)->cL 216 #[.agg #[.p β 0,.i root,.s ca cn cc],ma.val,mb.val] w λe w' =>
   ∃v ms,e=.r v/\w'.ownsRow 0 242 5 v ms.length (aM ms)/\bK w' (Or2 S (New w w')) ((tog l n).map nd) ms/\bW w w'/\nW v w)(ns ms na nc S w)(hf:aA w β sv lv fs)(hJ:J ns)(hR:aH w S na (aM ms))(hm:bK w S (ns.map nd) ms)(hS:lW S w)(hnc:ns.length<=nc):
  cL 206 #[.agg #[.p β 0,.i root,.s ca cn cc],.s na ns nc] w λe w' =>
   ∃v rs,e=.r v/\w'.ownsRow 0 242 5 v rs.length (aM rs)/\bK w' (Apart S w v w') ((rN tog ns).map nd) rs/\bW w w'/\nW v w:=by
 have hml:ms.length=ns.length:=by rw[hm.1,AF]
 have hn:=hJc ns hJ;obtain⟨W1,hW1,B1,t1,-⟩:=al1 w (.cells #[.p β 0,.i root,.s ca cn cc] 90);have z1:=(gL t1);go_enter func206,ntmps206;go_wp2;go_loopw [5,12] (λa b wr=>∃(j:Nat) (rs:List MN),b=.i j/\j<=ns/\Hid (J (Qf tog ns j++ns.drop j))/\wr.ownsRow 0 242 5 a rs (aM rs)/\bK wr (Apart S w a wr) ((Qf tog ns j).map nd) rs/\Below (w+1) W1 wr/\∀k,a.ownBlock=some k->w+1<=k) (λ_ b _=>ns-(intOf b).toNat)
 case atStart=>exact⟨0,[],rfl,AG _,hJ,AO _ _ _ _,bK.nil _ _,hW1▸AC _ _,ι⟩
 case round =>
  obtain⟨j,rs,rfl,hj,hJj,ho,hN,hB,hk⟩:=hrel;obtain⟨aa,ac,rfl⟩:=aG ho;have zwr:=hB.size;have hwrw:=B1.t (hB.m ω);by_cases hlt:j<ns
  .obtain⟨n,hnj⟩:=nM (ns[j])
   obtain⟨m,hmj⟩:=nM (ms[j]'(by omega));have hlt2:j<ms:=ω
   obtain⟨rb,ro,hna,hrb,n0,n1,n2,n3,n4⟩:=(hR.on (vV hwrw hS)).nod hlt2;rw[hmj]at n0 n1 n2 n3 n4;subst hna;have hnm:=(hm.2 j (nd n) m (by rw[BM,jQ hlt,hnj];rfl) (by rw[jQ hlt2,hmj])).on (vV hwrw hS);obtain⟨lo,hi,pl,ea,en,ec,ka,kn,kc⟩:=m;dsimp only at n0 n1 n2 n3 n4;have hSw:=λb h=>jY (hS b h) hwrw.size;obtain⟨WC,hWC,bC,-,-,zC⟩:=al2 wr (.cells #[.t lo,.t hi,.i pl,.s ea en ec,.s ka kn kc] 242) (.cells #[.t lo,.t hi,.i pl,.s ea en ec,.s ka kn kc] 242);have oC:WC.ownsRow 0 242 5 (.q (wr+1) 1 1) 1 (aM [⟨lo,hi,pl,ea,en,ec,ka,kn,kc⟩]):=by
    rw[<-hWC];have:=World.ownsRow_lit (base:=0) (e:=242) (size:=5) (wr.alloc (.cells #[.t lo,.t hi,.i pl,.s ea en ec,.s ka kn kc] 242)) #[.t lo,.t hi,.i pl,.s ea en ec,.s ka kn kc] 1 (AG _) δ rfl;simpa[aM,MN.cells] using this
   have hApL:∀b,Apart S w (.s aa rs ac) wr b->b<wr:=λb h=>h.1.elim (hSw b) (λh=>h.2);have I0:InJ tog J nd ns j S w (.s aa rs ac) (.q (wr+1) 1 1) WC (Qf tog ns j) [n] rs [⟨lo,hi,pl,ea,en,ec,ka,kn,kc⟩]:=by
    refine⟨?_,?_,Nat.one_pos,aS ho (vV (Y:=λk=>k<wr) bC (λk h=>h)) (λk hk=>aL ho hk),oC,(hN.on (vV bC hApL)).m (λk hk=>⟨hk.1.imp id (λh=>⟨h.1,ω⟩),hk.2⟩),((bK.one hnm).on (vV bC hSw)).m (λk h=>⟨.inl h,λe=>by have h1:=hk k e;have h2:=hS k h;omega⟩),hk⟩
    .have h:=hJj.o
     rw[BZ hlt,hnj]at h;exact h
    .show _=(ns.take (j+1)).foldl (zU tog) []
     rw[Ug _ _ _ _ hlt,hnj];rfl
   have hBC:=hB.t (bC.m ω);clear hnj hmj oC hN hJj;have q0:=cS (aB wr (.cells #[.t lo,.t hi,.i pl,.s ea en ec,.s ka kn kc] 242));obtain⟨q0,q1,q2,q3,q4⟩:=q0;go_wp2;go_loopw [5,8] (λa b wq=>∃(A N:List NT) (ra rn:List MN),InJ tog J nd ns j S w a b wq A N ra rn/\Below (w+1) W1 wq) (λa _ _=>qRo a)
   case atStart=>exact⟨_,_,_,_,I0,hBC⟩
   case round =>
    obtain⟨A,N,ra,rn,I,hB⟩:=hrel;obtain⟨aa,ac,rfl⟩:=aG I.arow;obtain⟨ba,bc,rfl⟩:=aG I.nrow;have hpos:=I.pos;have harow:=I.arow;have hwq:=B1.t (hB.m ω);have zwr:=hB.size;have hSw:=λb h=>jY (hS b h) hwq.size;have hApL:∀b,Apart S w (.s aa ra ac) wr b->b<wr:=λb h=>h.1.elim (hSw b) (λh=>h.2);have hAl:=by have:=I.na.1;rwa[AF]at this
    have hNl:=by have:=I.nn.1;rwa[AF]at this
    have hcnt:ra.length+rn<=1000000:=by
     have:=hJc _ I.inv;rw[jK,jK]at this;omega
    obtain⟨gb,hba,hbl,hbc,hbcell⟩:∃gb,ba=some (aD gb 0)/\gb<wr.1.size/\rn<=bc/\∀i u,(aM rn)[i]?=some u->wr.cell? (((aD gb 0):Addr).add i)=some u:=by
     obtain⟨g,c,h1,h2,h3⟩:=yY I.nrow hpos;cases h1
     obtain⟨m0,hm0⟩:∃m0,rn[0]?=some m0:=⟨rn[0],jQ hpos⟩;obtain⟨g',h4,_,h5,_⟩:=Ol I.nrow hm0;exact⟨g,rfl,h2,h5,h3⟩
    subst hba;have HEND:Hid (uT tog A N=A++N->∀(v3:Value) (w3 wX:World),bW wr wX->fO 242 5 (.s aa ra ac) ra (aM ra) (aM rn) rn wX v3 w3->Hid (J (Qf tog ns (j+1)++ns.drop (j+1)))/\w3.ownsRow 0 242 5 v3 (ra++rn).length (aM (ra++rn))/\bK w3 (Apart S w v3 w3) ((Qf tog ns (j+1)).map nd) (ra++rn)/\Below (w+1) W1 w3/\∀k,v3.ownBlock=some k->w+1<=k):=by
     intro hE v3 w3 wX hX A3;have e:=I.goes.symm.t hE;have zX:=hX.size;refine⟨?_,?_,?_,(hB.t (hX.m ω)).t (A3.fr.below ω I.new),?_⟩
     .rw[e,CA];exact I.inv
     .have:=A3.row
      rw[jK,iK];exact this
     .rw[e,BL]
      exact qOa hSw I.na hX (I.nn.on (vV hX hApL)) (λk hk=>⟨hk.1.imp id (λh=>h.1),jY (hApL k hk) zX,hk.2⟩) rfl A3
     .intro k h
      rcases A3.lies k h with h|h
      .exact I.new k h
      .omega
    by_cases hN1:rn.length=1
    .obtain⟨mn,rfl⟩:∃mn,rn=[mn]:=FC.1 hN1
     obtain⟨n',rfl⟩:∃n',N=[n']:=FC.1 (hNl.symm.t hN1);rcases LI ra with rfl|⟨ra',ml,rfl⟩
     .have hA0:=AH hAl.symm
      have hE:=HEND.o (by rw[hA0];rfl);clear HEND I hAl hNl hA0;simp only[AP,jN]at *;go_wp2_with (at_builtin;refine An wr rfl (.tmp 54) (.tmp 55) 239 242 _ 5 88 rfl underlying239 jD rfl δ (.s aa 0 ac) 0 (aM []) rfl harow (aD gb 0) 1 bc (aM [mn]) rfl rfl hbcell (pB [mn]) ω ω ?_;intro v3 w3 A3;obtain⟨g3,k3,rfl⟩:=A3.shape ω);obtain⟨h1,h2,h3,h4,h5⟩:=hE _ _ _ (AC _ _) A3;exact⟨⟨j+1,_,ν,ω,h1,h2,h3,h4,h5⟩,θ⟩
     .simp only[LJ]at *
      obtain⟨L,hL⟩:=nM (ra'.length);have hLr:(ra'++[ml]).length=L+1:=by simp[hL]
      obtain⟨A',l,rfl⟩:∃A' l,A=A'++[l]:=by
       rcases LI A with h|⟨a,b,h⟩
       .rw[h,hLr]at hAl;simp at hAl
       .exact⟨a,b,by rw[h,LJ]⟩
      have hA':A'=L:=by rw[hLr]at hAl;simp at hAl;omega
      have hlm:=I.na.2 L (nd l) ml (by rw[BL,AZ χ];simp[hA']) (by rw[AZ ω];simp[hL]);have hnm':=I.nn.2 0 (nd n') mn rfl rfl;have hNA:=by
       have:=I.na.take L;rw[BL,GD (by simp[hA']),GD ω,CN (by simp[hA']),CN ω]at this;exact this
      have hinv:=by have:=I.inv;simpa using this
      have hsl:=λW (hW:bW wr W)=>hsm _ hinv l σ ml _ W (hlm.on (vV hW hApL)) (λb h=>jY (hApL b h) hW.size);have hsn:=λW (hW:bW wr W)=>hsm _ hinv n' σ mn _ W (hnm'.on (vV hW hApL)) (λb h=>jY (hApL b h) hW.size);have hfr:=hf.bl hwq;have hTG:=λX (hX:bW wr X)=>htg _ _ _ _ hinv ml mn _ X (hfr.bl hX) (hlm.on (vV hX hApL)) (hnm'.on (vV hX hApL)) (λb h=>jY (hApL b h) hX.size);obtain⟨g,hg,hgl,hgc,e0,e1,e2,e3,e4⟩:=Ol I.arow (i:=L) (m:=ml) (by rw[AZ ω];simp[hL]);subst hg;obtain⟨gb',hgb,_,_,q0,q1,q2,q3,q4⟩:=Ol I.nrow (i:=0) (m:=mn) rfl;cases hgb
      obtain⟨llo,lhi,lpl,lea,len,lec,lka,lkn,lkc⟩:=ml;obtain⟨lo,hi,pl,ea,en,ec,ka,kn,kc⟩:=mn;have t1':=(hB.block _ ω).t t1;have HMK:Hid (∀X,bW wr X->(X.c w 0=some (.p β 0)/\X.c w 1=some (.i root)/\X.c w 2=some (.s ca cn cc))/\X.ownsRow 0 242 5 (.q g (ra'++[(⟨llo,lhi,lpl,lea,len,lec,lka,lkn,lkc⟩:MN)]).length ac) (ra'++[(⟨llo,lhi,lpl,lea,len,lec,lka,lkn,lkc⟩:MN)]).length (aM (ra'++[⟨llo,lhi,lpl,lea,len,lec,lka,lkn,lkc⟩]))/\(X.c g (L * 5)=some (.t llo)/\X.c g (L * 5+1)=some (.t lhi)/\X.c g (L * 5+2)=some (.i lpl)/\X.c g (L * 5+3)=some (.s lea len lec)/\X.c g (L * 5+4)=some (.s lka lkn lkc))/\(X.c gb 0=some (.t lo)/\X.c gb 1=some (.t hi)/\X.c gb 2=some (.i pl)/\X.c gb 3=some (.s ea en ec)/\X.c gb 4=some (.s ka kn kc))):=by
       intro X hX;have cX:∀{b o:Nat}{u:Value},b<wr->wr.c b o=some u->X.cell? (aD b o)=some u:=λhb h=>by rw[CP (w:=wr) (hX.block _ hb)];exact h
       exact⟨eM (hX.kp t1'),aS I.arow (vV (Y:=λk=>k<wr) hX (λk h=>h)) (λk hk=>aL I.arow hk),⟨cX hgl e0,cX hgl e1,cX hgl e2,cX hgl e3,cX hgl e4⟩,⟨cX hbl q0,cX hbl q1,cX hbl q2,cX hbl q3,cX hbl q4⟩⟩
      obtain⟨tz0,tz1,tz2⟩:=eM t1';simp only[hLr,EO,EA,AP]at *;have hw1:IntKind.i64.wrap (((L+1:Nat):Int)-1)=(L:Int):=by rw[CQ];omega
      have hnneg:¬(L:Int)<0:=ω
      have hbb:bW wr wr:=AC _ _;have HBC:Hid (∀X,bW wr X->∀i u,(aM [(⟨lo,hi,pl,ea,en,ec,ka,kn,kc⟩:MN)])[i]?=some u->X.cell? (((aD gb 0):Addr).add i)=some u):=λX hX i u hu=>by
       have h:=hbcell i u hu;rw[qHn]at h⊢;rw[CP (w:=wr) (hX.block _ hbl)];exact h
      dsimp only[MN.val]at hsl hsn hTG;have HTG:Hid (∀X,bW wr X->_):=hTG;clear hTG;by_cases hgo:dP l=true\/dP n'=true
      .have HGO:Hid (uT tog A' (tog l n')=Qf tog ns (j+1)):=(qGg hgo).symm.t I.goes
       have HJ2:Hid (J (A'++(tog l n'++ns.drop (j+1)))):=(hJt _ _ _ _ hinv).1;have HNE:Hid (tog l n'≠[]):=(hJt _ _ _ _ hinv).2;have HNW:Hid (∀k,(Value.q g L ac).ownBlock=some k->w+1<=k):=I.new;have HNA:Hid (bK wr (Apart S w (.q g L ac) wr) (A'.map nd) ra'):=hNA;have HCUT:Hid (∀{X:World},X.ownsRow 0 242 5 (.q g L ac) L ((aM (ra'++[⟨llo,lhi,lpl,lea,len,lec,lka,lkn,lkc⟩])).take (L * 5))->X.ownsRow 0 242 5 (.q g L ac) ra' (aM ra')):=by
        intro X hX;rw[iK,GD (by rw[iY,hL];omega),CN (by rw[iY,hL];omega)]at hX;rw[hL];exact hX
       have HSL:Hid (∀W,bW wr W->_):=hsl;have HSN:Hid (∀W,bW wr W->_):=hsn;have hor:dP l=true\/(dP l=false/\dP n'=true):=by cases h:dP l;exact .inr ⟨rfl,by rcases hgo with h'|h';rw[h]at h';simp at h';exact h'⟩;exact .inl rfl
       clear HEND I hAl hNl hsl hsn hgo hlm hnm' hNA hJt hJc hsm htg hL hLr hA';rcases hor with hs|⟨hs,hs2⟩
       focus
        rw[hs]at HSL
        clear HSN hs;go_wp2_with ((with_reducible refine Calls.m (HSL.o _ hbb) ?_;clear HSL);rintro e wt ⟨rfl,hb1⟩;have hbb:=hbb.tm hb1;obtain⟨⟨tz0,tz1,tz2⟩,x3,⟨e0,e1,e2,e3,e4⟩,⟨q0,q1,q2,q3,q4⟩⟩:=HMK.o _ hbb)
       rotate_left
       focus
        rw[hs]at HSL
        rw[hs2]at HSN;clear hs hs2;go_wp2_with (go_at_call 215;(first|(with_reducible refine Calls.m (HSL.o _ hbb) ?_;clear HSL)|(with_reducible refine Calls.m (HSN.o _ hbb) ?_;clear HSN));rintro e wt ⟨rfl,hb1⟩;have hbb:=hbb.tm hb1;obtain⟨⟨tz0,tz1,tz2⟩,x3,⟨e0,e1,e2,e3,e4⟩,⟨q0,q1,q2,q3,q4⟩⟩:=HMK.o _ hbb)
       all_goals
        have hix:(L:Int)<(L:Int)+1:=ω
        have hca:(L:Int)<=(ac:Int):=ω
        refine wp_region_held_drew (S:=(λX=>X.c w 0=some (.p β 0)/\X.c w 1=some (.i root)/\X.c w 2=some (.s ca cn cc)/\X.c g (L * 5)=some (.t llo)/\X.c g (L * 5+1)=some (.t lhi)/\X.c g (L * 5+2)=some (.i lpl)/\X.c g (L * 5+3)=some (.s lea len lec)/\X.c g (L * 5+4)=some (.s lka lkn lkc)/\X.c gb 0=some (.t lo)/\X.c gb 1=some (.t hi)/\X.c gb 2=some (.i pl)/\X.c gb 3=some (.s ea en ec)/\X.c gb 4=some (.s ka kn kc))) κ ⟨tz0,tz1,tz2,e0,e1,e2,e3,e4,q0,q1,q2,q3,q4⟩ (λhHeld=>?_);refine tH (i:=0) (v:=.agg #[.p β 0,.i root,.s ca cn cc]) rfl ψ ?_;try simp only[pS]
        refine tH (i:=1) (v:=.q g (L+1) ac) rfl ψ ?_;try simp only[pS]
        refine tH (i:=2) (v:=.i (L:Nat)) rfl ψ ?_;try simp only[pS]
        refine wpAnyH_take (i:=3) (v:=.p g (L * 5)) rfl κ κ κ (λ_ _ _ h=>h) τ ψ ?_;try simp only[pS]
        refine tH (i:=4) (v:=.agg #[.t llo,.t lhi,.i lpl,.s lea len lec,.s lka lkn lkc]) rfl ψ ?_;try simp only[pS]
        refine tH (i:=5) (v:=.q gb 1 bc) rfl ψ ?_;try simp only[pS]
        refine tH (i:=6) (v:=.p gb 0) rfl ψ ?_;try simp only[pS]
        refine tH (i:=7) (v:=.agg #[.t lo,.t hi,.i pl,.s ea en ec,.s ka kn kc]) rfl ψ ?_;try simp only[pS]
        refine wpAnyH_ready (rs:=[8]) κ σ (AllReadyH.cons rfl (λK hK=>?_) AllReadyH.nil);go_simp
        ((with_reducible refine Calls.m (HTG.o _ ?_) ?_);exact hbb.drew;rintro e wT ⟨vT,msT,rfl,hoT,hNT,hbT,hlT⟩;have hbT2:=hbb.drew.t (hbT.m hbb.size);obtain⟨⟨tz0,tz1,tz2⟩,x3,⟨e0,e1,e2,e3,e4⟩,⟨q0,q1,q2,q3,q4⟩⟩:=HMK.o wT hbT2)
        simp only[];refine hK.out _ _ ⟨tz0,tz1,tz2,e0,e1,e2,e3,e4,q0,q1,q2,q3,q4⟩ (λhHeld=>?_);clear hK K;try simp only[pS]
        refine wpAnyH_ready (rs:=[9]) κ σ (AllReadyH.cons rfl (λK hK=>?_) AllReadyH.nil);go_simp;refine hK.out _ _ ⟨tz0,tz1,tz2,e0,e1,e2,e3,e4,q0,q1,q2,q3,q4⟩ (λhHeld=>?_);clear hK K;try simp only[pS]
        refine wpAnyH_done κ ?_ _
        rotate_left
        all_goals go_wp2
        all_goals
         have zT:=hbT2.size;have hNE:0<msT.length:=by rw[hNT.1,AF];exact BX.2 HNE.o
         refine⟨⟨A',tog l n',ra',msT,⟨HJ2.o,HGO.o,hNE,HCUT.o (qBw x3 (DM L)),hoT,?_,?_,HNW.o⟩,hB.t (hbT2.m ω)⟩,by simp only[qRo];omega⟩
         .exact(HNA.o.on (vV hbT2 hApL)).m (λk hk=>⟨hk.1.imp id (λh=>⟨h.1,ω⟩),hk.2⟩)
         .refine hNT.m (λk hk=>?_)
          rcases hk with hk|hk
          .exact⟨hk.1.imp id (λh=>⟨h.1,ω⟩),hk.2⟩
          .have h1:=hk.1
           refine⟨.inr ⟨by have:=hwq.size;have:=hbb.size;simp at h1;omega,hk.2⟩,λe=>?_⟩;simp[Value.ownBlock]at e;have:=hbb.size;simp at h1;omega
      .have hE:=HEND.o (qGf hgo)
       have hs1:dP l=false:=by cases h:dP l;rfl;exact absurd (.inl h) hgo
       have hs2:dP n'=false:=by cases h:dP n';rfl;exact absurd (.inr h) hgo
       rw[hs1]at hsl;rw[hs2]at hsn;have HSL:Hid (∀W,bW wr W->_):=hsl;have HSN:Hid (∀W,bW wr W->_):=hsn;clear HEND I hAl hNl hsl hsn HTG hgo hs1 hs2 hlm hnm' hNA;go_wp2_with (first
        |(go_at_call 215;(first|(with_reducible refine Calls.m (HSL.o _ hbb) ?_;clear HSL)|(with_reducible refine Calls.m (HSN.o _ hbb) ?_;clear HSN));rintro e wt ⟨rfl,hb1⟩;have hbb:=hbb.tm hb1;obtain⟨_,x3,⟨e0,e1,e2,e3,e4⟩,⟨q0,q1,q2,q3,q4⟩⟩:=HMK.o _ hbb)
        |(at_builtin;refine An wt rfl (.tmp 54) (.tmp 55) 239 242 _ 5 88 rfl underlying239 jD rfl δ (.q g (L+1) ac) (L+1) (aM (ra'++[⟨llo,lhi,lpl,lea,len,lec,lka,lkn,lkc⟩])) rfl x3 (aD gb 0) 1 bc (aM [⟨lo,hi,pl,ea,en,ec,ka,kn,kc⟩]) rfl rfl (HBC.o _ hbb) (pB _) ω ω ?_;intro v3 w3 A3;obtain⟨g3,k3,rfl⟩:=A3.shape ω))
       obtain⟨h1,h2,h3,h4,h5⟩:=hE _ _ _ hbb A3;exact⟨⟨j+1,_,ν,ω,h1,h2,h3,h4,h5⟩,θ⟩
    .have hE:=HEND.o (Zm ω)
     have hne:¬((rn.length:Int)=1):=ω
     clear HEND I hAl hNl;go_wp2_with (at_builtin;refine An wr rfl (.tmp 54) (.tmp 55) 239 242 _ 5 88 rfl underlying239 jD rfl δ (.s aa ra ac) ra (aM ra) rfl harow (aD gb 0) rn bc (aM rn) rfl (by rw[iY]) hbcell (pB rn) ω ω ?_;intro v3 w3 A3;obtain⟨g3,k3,rfl⟩:=A3.shape ω);obtain⟨h1,h2,h3,h4,h5⟩:=hE _ _ _ (AC _ _) A3;exact⟨⟨j+1,_,ν,ω,h1,h2,h3,h4,h5⟩,θ⟩
  .obtain rfl:j=ns:=ω
   go_wp2;go_ret;refine⟨_,rs,rfl,ho,?_,B1.t (hB.m ω),λk h=>vJ (DM _) (hk k h)⟩;have e:Qf tog ns ns.length=rN tog ns:=by rw[Qf,BN];rfl
   rw[e]at hN;exact hN
theorem aH.rowAt {c B}(h:aH w S a c)(d:∀b,S b->b<B):fI w B a c:=by
 rcases h with h|⟨b,i,e,g,f⟩
 .exact .inl h
 .exact .inr ⟨b,i,e,d b g,f⟩
structure Jm (w:World) (S:Bl) (g:Pg) (ka ia ea:Option Addr) (kc ic ec:Nat):Prop where
 keys:aH w S ka (g.keys.map .string)
 kids:aH w S ia (g.kids.map (.int .i64))
 ents:aH w S ea (g.ents.flatMap Ent.cells)
theorem Jm.on {w w' g f d b i e c}(h:Jm w S g f d b i e c)(a:On S w w'):Jm w' S g f d b i e c:=⟨h.keys.on a,h.kids.on a,h.ents.on a⟩
theorem uX(g i f c j h d S w)(x:Jm w S g i f c j h d)(o:lW S w)(z:g.small)(u:g.encE=0):
  cL 117 #[.agg #[.i g.kind,.i g.ver,.i g.root,.i g.next,.s i g.keys j,.s f g.kids h,.s c g.ents d,.t g.data]] w λe w'=>e=.r (.t g.encS)/\bW w w':=by
 obtain⟨a,p,k,A,-⟩:=al1 w (pgO g i f c j h d);have⟨B,C,D,E,F,G,H,I⟩:=bU A;have n:=λb t=>jY (o b t) k.size;have m:=x.on (vV k o);have l:=sZ g.kind g.ver g.root g.next i f c j h d g.data g.keys g.kids g.ents a (m.keys.rowAt n) (m.kids.rowAt n) (m.ents.rowAt n) z;have v:Pages.cV g.kind g.ver g.root g.next g.keys g.kids g.ents g.data=0:=u;rw[v]at l;have⟨s,q⟩:=nM (Pages.encS g.kind g.ver g.root g.next g.keys g.kids g.ents g.data);rw[q]at l;have r:Hid (g.encS=s):=q;go_enter func117,ntmps117;go_wp2_with (apply Calls.m l;rintro e J ⟨rfl,y⟩);go_ret;exact⟨by rw[r.o];rfl,k.tm y⟩
structure fM (w:World) (b:Nat) (Sf:Bl) (fa:Option Addr) (fc:Nat) (fr:List Nat) (wv:Value) (ws:List (Nat×ByteArray)):Prop where
 box:w.1[b]?=some (.cells #[.slice fa fr.length fc,wv] 238)
 free:aH w Sf fa (fr.map (λn:Nat=>Value.int .i64 n))
 some':fr≠[]->∃b0 o0,fa=some (aD b0 o0)
 cap:fr.length<=fc
 own:w.ownsRow 0 226 2 wv ws.length (ws.flatMap dY)
 apart:∀k,Sf k->k<w.1.size/\k≠b/\wv.ownBlock≠some k
def fpL(b:Nat)(wv:Value):Bl:=λk=>k=b\/wv.ownBlock=some k
theorem fM.lies {c:Bl}{d:Option Addr}{fr:List Nat}{a:Value}{g:List (Nat×ByteArray)}(h:fM w b c d e fr a g):∀k,fpL b a k->k<w:=by
 rintro k (rfl|f)
 .exact(gL h.box)
 .exact aL h.own f
theorem fM.fr {w w' d e g fr j i}(h:fM w b d e g fr j i)(f:bW w w'):fM w' b d e g fr j i :=
 ⟨(f.block _ (h.lies b (.inl rfl))).t h.box,h.free.on (vV f (λc a=>(h.apart c a).1)),h.some',h.cap,aS h.own (vV (Y:=λc=>c<w) f (λc a=>a)) (λc a=>aL h.own a),λc a=>⟨jY (h.apart c a).1 f.size,(h.apart c a).2⟩⟩
theorem qQo:(prog.info? 226).map (λi=>(i.zero,i.size,i.bytes))=some (some (.agg #[.i 0,.e]),2,24):=κ
theorem aH.tail {e c d}(h:aH w S (some (aD e c)) (v :: d))(i:d≠[]->a=some (aD e (c+1))):aH w S a d:=by
 rcases h with h|⟨b,n,g,k,j⟩
 .simp at h
 .by_cases hv:d=[]
  .exact .inl hv
  .simp only[BB,CD,DC]at g;obtain⟨rfl,rfl⟩:=g;refine .inr ⟨e,c+1,i hv,k,λf m l=>?_⟩;have:=j (f+1) m (by simpa using l);rw[show c+1+f=c+(f+1) by omega];exact this
theorem qJn(b a7 au y p fr d m g t r o u s q S w)(h:fM w b a7 au y (p :: fr) d m)(ay:Jm w S g t r o u s q)(a0:lW S w)(b0:¬S b)(b9:g.small)(ax:g.encE=0)(bv:m.length<=100000):
  cL 209 #[.p b 0,.agg #[.i g.kind,.i g.ver,.i g.root,.i g.next,.s t g.keys u,.s r g.kids s,.s o g.ents q,.t g.data]] w λe w'=>e=.r (.i p) /\
   ∃av ap,fM w' b a7 av (y-1) fr ap (m++[(p,g.encS)])/\Fr (fpL b d) w w'/\∀k,ap.ownBlock=some k->d.ownBlock=some k\/w<=k:=by
 obtain⟨E,W,rfl⟩:=h.some' σ;have br:fr+1<=y:=by have:=h.cap;simpa using this
 have⟨c1,c2,ak,b8,al⟩:=h.free.at (f:=λn:Nat=>Value.i n) (l:=p :: fr) (j:=0) σ;simp only[BB,CD,DC]at ak;obtain⟨rfl,rfl⟩:=ak;simp only[EC,CX]at al;obtain⟨z,ah,A,bm,-⟩:=al1 w (pgO g t r o u s q);have a8:=h.fr A;have ab:=a8.box;have⟨bx,bz⟩:=cM ab;have c0:=aF ab;have bq:=h.lies b (.inl rfl);have bt:z.cell? (aD E W)=some (.i p):=by rw[CP (w:=w) (A.block E (h.apart E b8).1)];exact al
 have⟨x,aw⟩:=nM ((if y=1 then (some (aD E W):Option Addr) else some (aD E (W+1))));have⟨c,ai⟩:=nM (z.setCell (aD b 0) (.s x fr (y-1)));have a4:cW c b #[.s x fr (y-1),d] 238:=by rw[<-ai];have:=aC ab 0 (.s x fr (y-1));simpa using this
 have G:=ai▸(AE (Bl.one b) z).s b 0;have ad:=G.heap bm φ;have⟨J,L,M,N,O,P,Q,R⟩:=bU ad;have⟨an,I⟩:=cM a4;have bc:=aF a4;have ao:=aS a8.own (G.on (Z:=λk=>d.ownBlock=some k) (λk a=>⟨aL a8.own a,λe=>by cases e;exact (aQ h.own h.box δ) a⟩)) (λk a=>a);have az:∀{X:World},bW c X->On S w X:=λ{X} C=>((vV A a0).t (G.on (λk a=>⟨jY (a0 k a) A.size,λe=>by cases e;exact b0 a⟩))).t (vV C (λk a=>jY (jY (a0 k a) A.size) G.size));have af:Hid (∀X,bW c X->cL 117 #[.agg #[.i g.kind,.i g.ver,.i g.root,.i g.next,.s t g.keys u,.s r g.kids s,.s o g.ents q,.t g.data]] X λe w'=>e=.r (.t g.encS)/\bW X w'):=λX C=>uX g t r o u s q S X (ay.on (az C)) (λk a=>jY (jY (a0 k a) A.size) (vJ G.size C.size)) b9 ax;have aq:Hid (∀X,bW c X->X.1[w.1.size]?=some (pgO g t r o u s q)/\cW X b #[.s x fr (y-1),d] 238/\X.ownsRow 0 226 2 d m (m.flatMap dY)):=λX C=>⟨C.kp ad,C.kp a4,aS ao (vV (Y:=λk=>k<c) C (λk h=>h)) (λk a=>aL ao a)⟩;have ae:Hid ((if y=1 then (some (aD E W):Option Addr) else some (aD E (W+1)))=x):=aw;have⟨B,b3⟩:=nM (g.encS);rw[b3]at af⊢;have ag:bW c c:=AC _ _;have bs:((fr.length:Int)+1==0)=false:=χ
 go_enter func209,ntmps209;go_wp2;apply cY (S:=(λX=>X.c w 0=some (.i g.kind)/\X.c w 1=some (.i g.ver)/\X.c w 2=some (.i g.root)/\X.c w 3=some (.i g.next)/\X.c w.1.size 4=some (.s t g.keys u)/\X.c w.1.size 5=some (.s r g.kids s)/\X.c w.1.size 6=some (.s o g.ents q)/\X.c w 7=some (.t g.data)/\X.c b 1=some d)) 13 κ;have a9:=(show((λX=>X.c w 0=some (.i g.kind)/\X.c w 1=some (.i g.ver)/\X.c w 2=some (.i g.root)/\X.c w 3=some (.i g.next)/\X.c w 4=some (.s t g.keys u)/\X.c w 5=some (.s r g.kids s)/\X.c w 6=some (.s o g.ents q)/\X.c w 7=some (.t g.data)/\X.c b 1=some d)) c.drew from ⟨J,L,M,N,O,P,Q,R,I⟩);apply tks [(0,.p b 0),(1,.p b 0),(2,.p b 0),(3,.p b 1),(4,d),(5,.i p),(6,.agg #[.i g.kind,.i g.ver,.i g.root,.i g.next,.s t g.keys u,.s r g.kids s,.s o g.ents q,.t g.data])] ψ;iterate 7 (refine tk1 rfl ?_;try simp only[pS])
 apply tke;refine aR (i:=7) κ rfl (λK H=>?_);go_simp;((with_reducible refine Calls.m (af.o _ ?_) ?_);exact ag.drew;rintro e a2 ⟨rfl,b2⟩;have aa:=ag.drew.t b2;have⟨a3,a6,ac⟩:=aq.o a2 aa;have⟨J,L,M,N,O,P,Q,R⟩:=bU a3;have⟨an,I⟩:=cM a6;have⟨be,bf,bg,bh,bi,bj,bk,bl⟩:=bU (aP (.cells #[.i p,.t B] 226) a3);have⟨bw,bd⟩:=cM (aP (.cells #[.i p,.t B] 226) a6));simp only[];apply H.out _ _ (λ_=>⟨J,L,M,N,O,P,Q,R,I⟩);try simp only[pS]
 have a9:=(show((λX=>X.c w 0=some (.i g.kind)/\X.c w 1=some (.i g.ver)/\X.c w 2=some (.i g.root)/\X.c w 3=some (.i g.next)/\X.c w 4=some (.s t g.keys u)/\X.c w 5=some (.s r g.kids s)/\X.c w 6=some (.s o g.ents q)/\X.c w 7=some (.t g.data)/\X.c b 1=some d)) a2 from ⟨J,L,M,N,O,P,Q,R,I⟩);refine mR (i:=8) (v:=.agg #[.i p,.t B]) rfl κ (λ_ _ _ h=>h) τ ψ (λa9=>?_);try simp only[pS]
 refine aR (i:=9) κ rfl (λK H=>?_);go_simp;apply H.out _ _ (λ_=>⟨be,bf,bg,bh,bi,bj,bk,bl,bd⟩);try simp only[pS]
 refine aR (i:=10) κ rfl (λK H=>?_);(apply kA a2 rfl (.tmp 31) (.tmp 36) 191 226 _ 2 24 rfl underlying191 qQo rfl δ d m (m.flatMap dY) ξ ac [.i p,.t B] ξ rfl υ ω ω;intro v3 a1 D;obtain⟨T,V,rfl⟩:=D.shape δ;have a5:=D.fr.heap a6 (aQ ac a6 δ);have⟨J,L,M,N,O,P,Q,R⟩:=bU (D.fr.heap a3 (aQ ac a3 δ));have⟨an,I⟩:=cM a5;have bc:=aF a5);refine H.out _ _ (λ_=>⟨J,L,M,N,O,P,Q,R,I⟩) ?_;try simp only[pS]
 have a9:=(show((λX=>X.c w 0=some (.i g.kind)/\X.c w 1=some (.i g.ver)/\X.c w 2=some (.i g.root)/\X.c w 3=some (.i g.next)/\X.c w 4=some (.s t g.keys u)/\X.c w 5=some (.s r g.kids s)/\X.c w 6=some (.s o g.ents q)/\X.c w 7=some (.t g.data)/\X.c b 1=some d)) a1 from ⟨J,L,M,N,O,P,Q,R,I⟩);apply tks [(11,.p b 0),(12,.p b 1)] ψ;iterate 2 (refine tk1 rfl ?_;try simp only[pS])
 apply tke;refine aR (i:=13) κ rfl (λK H=>?_);go_simp;apply H.out _ _ (λe=>by cases e);try simp only[pS]
 refine dF κ ?_ _;all_goals go_wp2
 all_goals go_ret
 all_goals
  have b4:=aC a5 1 (.q T (m+1) V);have bu:=vJ (vJ A.size G.size) aa.size;have F:Fr (fpL b d) w (a1.setCell (aD b 1) (.q T (m+1) V)):=((((AB A).t (G.m (λk a=>.inl (.inl a)))).t ((AB aa).m (λk a=>.inl a))).t (D.fr.m (λk a=>.inl (.inr a)))).s b 1 (.inl (.inl rfl));have aj:∀k,(Value.q T (m+1) V).ownBlock=some k->d.ownBlock=some k\/w<=k:=λk a=>(D.lies k a).imp id (λh=>ω);refine⟨rfl,x,_,⟨by simpa using b4,?_,?_,ω,?_,?_⟩,F,aj⟩
  .have b7:aH w a7 x (fr.map (λn:Nat=>Value.i n)):=by
    refine aH.tail (v:=.i p) (by simpa using h.free) (λam=>?_);rw[<-ae.o,AQ];intro e;have:fr.length≠0:=λar=>am (by rw[AH ar];rfl);omega
   exact b7.on (F.on (λk a=>⟨(h.apart k a).1,λe=>by rcases e with e|e;exact(h.apart k a).2.1 e;exact(h.apart k a).2.2 e⟩))
  .intro am;rw[<-ae.o];split
   .exact⟨_,_,rfl⟩
   .exact⟨_,_,rfl⟩
  .have:a1.ownsRow 0 226 2 (.q T (m+1) V) (m++[(p,B)]).length ((m++[(p,B)]).flatMap dY):=by
    rw[jK,AP,BS];exact D.row
   exact aS this ((CM (λk=>(Value.q T (m+1) V).ownBlock=some k) a1).setCell (p:=(aD b 1)) (λa=>(aQ D.row a5 δ) a) _) (λk a=>a)
  .intro k a;refine⟨jY (h.apart k a).1 F.size,(h.apart k a).2.1,λe=>?_⟩;rcases aj k e with e|e
   .exact(h.apart k a).2.2 e
   .have:=(h.apart k a).1;omega
theorem Pr(β sv lv fs)(bn:(fs.life==0)=false)(root r u t p s es cs f h S w)(a0:aZ fs 0 (.leaf p es) s)(af:aA w β sv lv fs)(bf:aH w S f (cs.flatMap Ch.cells))(V:lW S w)(ak:cJ cs)(bm:∀c∈cs,c.good)(cm:cs.length<=1000000)(bj:cs.length<=h)(c1:(f=none/\h=0)\/∃b c2,f=some (aD b c2))(bt:(bJ es cs).length<=1000000):
  cL 191 #[.agg #[.p β 0,.i root,.s r u t],.i p,.agg #[.t s.lo,.t s.hi],.s f cs h] w λe w' =>
   ∃v ms,e=.r v/\w'.ownsRow 0 242 5 v ms.length (aM ms)/\bK w' (New w w') ((dE (bJ es cs)).map nd0) ms/\bW w w'/\nW v w:=by
 have Y:∀y∈bJ es cs,y.good fs:=kU (fs:=fs) (eC (h:=0) a0) ak (kR a0) bm;obtain⟨g,ag,O,F,bq,ah,bs⟩:=a0;obtain⟨i,D,J,c9,c5,b8,b4⟩:=al3 w (.cells #[.p β 0,.i root,.s r u t] 90) (.cells #[.t s.lo,.t s.hi] 154) (.cells #[.s f cs h] 88); obtain⟨ca,cb,cc⟩:=eM c9;obtain⟨c6,c7⟩:=cM c5;have bl:=af.bl J;obtain⟨c8,cq,b0⟩:=gB ag;have bk:0<g.ents.length:=by rw[F,AF];exact BX.2 bq
 have ae:g.ents.length=es.length:=by rw[F,AF]
 have Z:∀e∈g.ents,s.has e.key=true:=λe ad=>by rw[F,AY]at ad;obtain⟨G,a1,rfl⟩:=ad;exact ah G a1
 have a8:=vU β sv lv fs root r u t p s g i bl bn ag (by simp[O]) (by simp[O]) bk (Z _ (AA _)) (Z _ (AA _)) c8 b0;have cl:(g.kind==3)=true:=by simp[O]
 have b5:Hid (g.ents=es.map (·.e)):=F;have R:Hid (g.ents.length=es):=ae;have a6:Hid (i.1.size=w+3):=b4;have b7:Hid (g.ents.length<=1000):=b0;clear O F ae b4 Z ah bs;go_enter func191,ntmps191;go_wp2_with (first
  |(go_at_call 144;apply Calls.m a8;rintro e l ⟨cu,rfl,⟨an,al,j,ao,am,m,rfl,c3,c4,ay,az⟩,W⟩;have H:=aB l (pgO g an al j ao am m);obtain⟨ap,aq,ar,au,av,aw,a3,ax⟩:=bU H))
 obtain⟨a,N,T,-⟩:=al1 l (pgO g an al j ao am m);rw[N];rw[N]at H ap aq ar au av aw a3 ax;have ci:=W.size;have cj:=(gL H);have A:=(J.tm W).t (T.m (vJ J.size ci));have L:=(T.block _ (η a6.o)).t ((W.block _ (η a6.o)).t b8);have x:=a3;have z:a.c (w+1+1) 0=some (.s f cs h):=by simp[World.cell?,L]
 have K:Hid (∀X,bW a X->X.c l.1.size 6=some (.s j g.ents m)/\X.c (w+1+1) 0=some (.s f cs h)):=by
  intro X q;have b9:=(q.block _ cj).t H;have ba:=q.kp L;exact⟨(bU b9).2.2.2.2.2.2.1,by simp[World.cell?,ba]⟩
 have bc:bW a a:=AC _ _;have aj:=by
  have:=(ay.on (vV T (λk d=>d.2))).m (S':=λk=>k<a) (λk d=>by have:=d.2;omega);rw[Do b5.o]at this;exact this
 have a4:Hid (∀X,bW a X->∀(B o:Nat),cW X B #[.s j g.ents m] 67->cW X o #[.func (.func 214) #[] #[.p B 0]] 151->cW X (o+1) #[.s f cs h] 88 ->
   cL 190 #[.func (.func 195) #[] #[.p (o+1) 0,.p o 0]] X λe w'=>∃v,e=.r v/\w'.ownsRow 0 69 4 v (bJ es cs) (aU (bJ es cs))/\bW X w'/\nW v X):=by
  intro X q B o E ab aa;have bu:=(aj.on (vV q (λk d=>d))).m (λk d=>jY d q.size);have bg:=((bf.on (vV A V)).on (vV q (λk d=>jY (V k d) A.size))).m (λk d=>jY (jY (V k d) A.size) q.size);rw[R.o]at E;have bh:=Qn B j m es (λk=>k<X) (λk=>k<X) X E bu (by have:=b7.o;have:=R.o;omega) (η R.o) (gL E) (λk n=>n);have be:=Lq 214 #[.p B 0] (enters_of func214 κ rfl) es (λk=>k<X.1.size) (o+1) o f h cs (λk=>k<X) (λk=>k<X) X bh aa ab bg ak ω bj c1 (gL aa) (gL ab) (λk n=>n) (λk n=>n);exact Dv 195 _ (enters_of func195 κ rfl) (bJ es cs) (λk=>k<X) X be (λk n=>n) ω
 obtain⟨I,a2⟩:=nM (bJ es cs);rw[a2]at a4 bt Y;have b6:Hid ((dE (bJ es cs)).map nd0=(fA esz I).map Bn):=by show _=_;rw[xO,a2]
 have a5:Hid (∀G∈I,G.good fs):=Y;clear Y a2 aj N H L ap aq ar au av aw a3 ax c3 c4 ay az ca cb cc c6 c7 a8;go_region_held3 (λX=>X.c l 6=some (.s j g.ents m)/\X.c (w+1+1) 0=some (.s f cs h))
  ((first|exact⟨x,z⟩|(simp[x,z])))
  (first
   |(go_at_call 205;apply Calls.m (Qo j g.ents m _);rintro e b2 ⟨rfl,b3,E⟩;have U:=bc.drew.t E;obtain⟨x,z⟩:=K.o b2 U)
   |(go_at_call 175;apply Calls.m (wN _ _ _ _ _ _);rintro e Q ⟨rfl,cf,cg,ac⟩;have C:=U.tm ac;obtain⟨x,z⟩:=K.o Q C;have ch:=ac.kp b3;have bb:=a4.o Q C _ _ ch cf cg)
   |(go_at_call 190;apply Calls.m bb;rintro e P ⟨cr,rfl,ai,bi,bp⟩;have M:=C.tm bi;obtain⟨x,z⟩:=K.o P M;obtain⟨cd,ce,rfl,c0,bx⟩:=cA ai;have bd:=qN cd ce I (λk=>k<P/\Q.1.size<=k) P (bx.m (λk d=>⟨aL ai d,bp k d⟩)) (λk d=>d.1) ω c0 (λG a1=>rP (a5.o G a1)) (qA a5.o))
   |(go_at_call 189;apply Calls.m bd;rintro e b1 ⟨ct,qs,rfl,br,bv,bw,a9,bo⟩;have a7:=M.tm a9;obtain⟨x,z⟩:=K.o b1 a7))
 all_goals go_wp2
 all_goals go_ret
 all_goals
  have bz:=A.size;have cn:=C.size;have co:=M.size;have cp:=a9.size;refine⟨_,qs.map mL,rfl,by rw[AF];exact br,?_,A.t (a7.m bz),λk d=>vJ ω (bo k d)⟩;rw[b6.o,<-bv];exact(Bm bw).m (λk d=>⟨by have:=d.2;omega,by have:=d.1;omega⟩)
def qBc(nd:NT->Nd)(k:List NT)(S:Bl)(W:World)(e:Ending)(w':World):Prop:=∃lo hi ea ec ka kc ms,e=.returned (.agg #[.string lo,.string hi,.int .i64 0,.slice ea 0 ec,.slice ka k.length kc])/\aH w' (Or2 S (New W w')) ka (aM ms)/\bK w' (Or2 S (New W w')) (k.map nd) ms/\k.length<=kc/\bW W w'
theorem bK.past {ns:List Nd}{ms:List MN}(h:bK c (Or2 S (New W c)) ns ms)(d:lW S w)(e:w.1.size+3<=W)(f:w.1.size<=c):bK c (λk=>Wu w c k/\(S k\/w<=k)) ns ms :=
 h.m (λk a=>by
  rcases a with a|a
  .exact⟨⟨jY (d k a) f,.inl (d k a)⟩,.inl a⟩
  .exact⟨⟨a.2,.inr (vJ e a.1)⟩,.inr (by have:=a.1;omega)⟩)
def nN(S:Bl)(n:Nat)(w:World):Bl:=λk=>Wu n w k/\(S k\/n<=k)
theorem aH.past4 {g:List Value}(h:aH d (Or2 S (New W d)) a g)(f:lW S w)(i:w.1.size+3<=W)(j:w.1.size<=d):aH d (nN S w d) a g :=
 h.m (λe c=>by
  rcases c with c|c
  .exact⟨⟨jY (f e c) j,.inl (f e c)⟩,.inl c⟩
  .exact⟨⟨c.2,.inr (vJ i c.1)⟩,.inr (by have:=c.1;omega)⟩)
theorem aH.step4 {e}(h:aH W (nN S n W) a e)(d:bW W c):aH c (nN S n c) a e :=
 (h.on (vV d (λf b=>b.1.1))).m (λf b=>⟨⟨jY b.1.1 d.size,b.1.2⟩,b.2⟩)
theorem bK.step4 {W b ns ms}(h:bK W (nN S n W) ns ms)(c:bW W b):bK b (nN S n b) ns ms :=
 (h.on (vV c (λd a=>a.1.1))).m (λd a=>⟨⟨jY a.1.1 c.size,a.1.2⟩,a.2⟩)
theorem Qs(β root m p o D)(i l Y:List NT)(c mb:MN)(S w)(b1:lW S w)(cf:∀W,bW w W->cL 219 #[.agg #[.p β 0,.i root,.s m p o],.agg #[.t c.lo,.t c.hi,.i c.place,.s c.ea c.en c.ec,.s c.ka c.kn c.kc]] W λe w'=>qBc D i S W e w')(cg:∀W,bW w W->cL 219 #[.agg #[.p β 0,.i root,.s m p o],.agg #[.t mb.lo,.t mb.hi,.i mb.place,.s mb.ea mb.en mb.ec,.s mb.ka mb.kn mb.kc]] W λe w'=>qBc D l S W e w')(cn:0<i.length)(dl:i.length+l<=1000000)(dk:Y.length<=1000000)(d7:∀n∈Y,(D n).sp.lo.size<=24)(br:∀(ms:List MN) (b4:Option Addr) (b5:Nat) (Z:Bl) (W:World),bW w W->aH W Z b4 (aM ms)->bK W Z ((i++l).map D) ms->(lW Z W)->(i++l).length<=b5->cL 206 #[.agg #[.p β 0,.i root,.s m p o],.s b4 (i++l).length b5] W λe w' =>
   ∃v rs,e=.r v/\w'.ownsRow 0 242 5 v rs.length (aM rs)/\bK w' (Apart Z W v w') (Y.map D) rs/\bW W w'/\nW v W):
  cL 216 #[.agg #[.p β 0,.i root,.s m p o],c.val,mb.val] w λe w' =>
   ∃v ms,e=.r v/\w'.ownsRow 0 242 5 v ms.length (aM ms)/\bK w' (Or2 S (New w w')) ((fA xT (Y.map D)).map Jf) ms/\bW w w'/\nW v w:=by
 obtain⟨s,am,cu,b6,ba,bi,ct⟩:=al3 w (.cells #[.p β 0,.i root,.s m p o] 90) c.obj mb.obj; have cx:Hid (s.1.size=w+3):=ct;have Q:∀W,Below (w+3) s W->bW w W:=λW d=>cu.t (d.m ω);have cz:=λW d=>cf W (Q W d);have d0:=λW d=>cg W (Q W d);have j:Below (w+3) s s:=AC _ _;have C:w.1.size+3<=s:=ω
 obtain⟨ae,af,ag⟩:=eM b6;obtain⟨a0,a1,a2,a3,a4⟩:=cS ba;obtain⟨a6,a7,a8,a9,aa⟩:=cS bi;clear ct cf cg;go_enter func216,ntmps216;go_wp2;refine cY (S:=(λX=>X.c w 0=some (.p β 0)/\X.c w 1=some (.i root)/\X.c w 2=some (.s m p o)/\X.c (w+1) 0=some (.t c.lo)/\X.c (w+1) 1=some (.t c.hi)/\X.c (w+1) 2=some (.i c.place)/\X.c (w+1) 3=some (.s c.ea c.en c.ec)/\X.c (w+1) 4=some (.s c.ka c.kn c.kc)/\X.c (w+1+1) 0=some (.t mb.lo)/\X.c (w+1+1) 1=some (.t mb.hi)/\X.c (w+1+1) 2=some (.i mb.place)/\X.c (w+1+1) 3=some (.s mb.ea mb.en mb.ec)/\X.c (w+1+1) 4=some (.s mb.ka mb.kn mb.kc))) 6 κ ?_;refine tks [(0,.agg #[.p β 0,.i root,.s m p o]),(1,.agg #[.t c.lo,.t c.hi,.i c.place,.s c.ea c.en c.ec,.s c.ka c.kn c.kc]),(3,.agg #[.p β 0,.i root,.s m p o]),(4,.agg #[.t mb.lo,.t mb.hi,.i mb.place,.s mb.ea mb.en mb.ec,.s mb.ka mb.kn mb.kc])] ⟨ae,af,ag,a0,a1,a2,a3,a4,a6,a7,a8,a9,aa⟩ ?_;iterate 4 (refine tk1 rfl ?_;try simp only[pS])
 refine tke ?_;refine aR (i:=2) κ rfl (λK f=>?_);go_simp
 ((with_reducible refine Calls.m (cz _ ?_) ?_);(first|exact j|exact j.drew);rintro e h ⟨bh,bg,be,bf,t,y,E,rfl,aj,ai,di,P⟩;have G:=j;have j:=(by first|exact cR G C P|exact cR G.drew C P);have aj:=aj.past4 b1 (by first|exact C|exact vJ C G.size) (Q _ j).size;have ai:bK h (nN S w h) (i.map D) E:=ai.past b1 (by first|exact C|exact vJ C G.size) (Q _ j).size;clear G;obtain⟨ae,af,ag⟩:=eM ((j.block w ω).t b6);have R:=(j.block (w+1) ω).t ba;have U:=(j.block (w+1+1) ω).t bi;obtain⟨a0,a1,a2,a3,a4⟩:=cS R;obtain⟨a6,a7,a8,a9,aa⟩:=cS U;have c8:=aF R;have cb:=aF U)
 simp only[];refine f.out _ _ (λ_=>⟨ae,af,ag,a0,a1,a2,a3,a4,a6,a7,a8,a9,aa⟩) ?_;clear f K;try simp only[pS]
 refine aR (i:=5) κ rfl (λK f=>?_);go_simp
 ((with_reducible refine Calls.m (d0 _ ?_) ?_);(first|exact j|exact j.drew);rintro e h ⟨bq,bp,bn,bo,z,A,F,rfl,al,ak,dj,P⟩;have G:=j;have j:=(by first|exact cR G C P|exact cR G.drew C P);have al:=al.past4 b1 (by first|exact C|exact vJ C G.size) (Q _ j).size;have ak:bK h (nN S w h) (l.map D) F:=ak.past b1 (by first|exact C|exact vJ C G.size) (Q _ j).size;clear G;obtain⟨ae,af,ag⟩:=eM ((j.block w ω).t b6);have R:=(j.block (w+1) ω).t ba;have U:=(j.block (w+1+1) ω).t bi;obtain⟨a0,a1,a2,a3,a4⟩:=cS R;obtain⟨a6,a7,a8,a9,aa⟩:=cS U;have c8:=aF R;have cb:=aF U)
 simp only[];refine f.out _ _ (λ_=>⟨ae,af,ag,a0,a1,a2,a3,a4,a6,a7,a8,a9,aa⟩) ?_;clear f K;try simp only[pS]
 refine aR (i:=6) κ rfl (λK f=>?_);go_simp;refine f.out _ _ (λe=>by cases e) ?_;clear f K;try simp only[pS]
 refine aR (i:=7) κ rfl (λK f=>?_);go_simp;refine f.out _ _ (λe=>by cases e) ?_;clear f K;try simp only[pS]
 refine dF κ ?_ _
 all_goals (first|(have bd:=aH.step4 aj P;have bb:=bK.step4 ai P;have bl:=al;have bj:=ak)|(have bl:=aH.step4 al P;have bj:=bK.step4 ak P;have bd:=aj;have bb:=ai))
 all_goals
  have c4:=yO R (.t bh) (.t bg) (.i 0) (.s be 0 bf) (.s t i y);have ay:=El h (w+1) (.t bh) (.t bg) (.i 0) (.s be 0 bf) (.s t i y);obtain⟨b9,c1⟩:=nM (Rb h (w+1) (.t bh) (.t bg) (.i 0) (.s be 0 bf) (.s t i y));rw[c1]at c4 ay;have ca:=ay.heap U φ;have c5:=yO ca (.t bq) (.t bp) (.i 0) (.s bn 0 bo) (.s z l A);have az:=El b9 (w+1+1) (.t bq) (.t bp) (.i 0) (.s bn 0 bo) (.s z l A);obtain⟨g,c2⟩:=nM (Rb b9 (w+1+1) (.t bq) (.t bp) (.i 0) (.s bn 0 bo) (.s z l A));rw[c2]at c5 az;have cs:=az.heap c4 φ;have au:Fr (λk=>k=w+1\/k=w+1+1) h g:=(ay.m (λk a=>.inl (.inl a))).t (az.m (λk a=>.inl (.inr a)));have aq:On (nN S w h) h g:=au.on (λk a=>⟨a.1.1,λe=>by have:=a.1.2;omega⟩);have c7:=bd.on aq;have c9:=bl.on aq;have bc:=bb.on aq;have bk:=bj.on aq;have dq:=(Q _ j).size;have O:=(Q _ j).t (au.below ω (λk a=>ω));have dn:=au.size;have cq:=au.heap ((j.block w ω).t b6) (λe=>ω);obtain⟨dr,ds,dt,du,I⟩:=cS cs;obtain⟨dv,dw,dx,dy,J⟩:=cS c5;obtain⟨L,M,N⟩:=eM cq;have dm:¬i=[]:=λe=>by rw[e]at cn;simp at cn
  clear c4 ay ca az aj al ai ak bd bl bb bj a0 a1 a2 a3 a4 a6 a7 a8 a9 aa R U c8 cb ae af ag aq;unfold Rb at c1 c2;rw[c1,c2];go_wp2;obtain⟨B,cp⟩:=nM (g.drew.alloc (.cells #[.s t i y,.s z l A] 239));have T:=cp▸(AC g g).drew.alloc (jU _) _;have c3:cW B g #[.s t i y,.s z l A] 239:=cp▸aB g.drew _;have df:=(gL c3);have dp:w.1.size+3<=g:=by have:=j.size;have:=cx.o;omega
  have av:Hid (∀X,bW g X->(X.c w 0=some (.p β 0)/\X.c w 1=some (.i root)/\X.c w 2=some (.s m p o))/\X.c (w+1) 4=some (.s t i y)/\X.c (w+1+1) 4=some (.s z l A)):=λX bt=>⟨eM ((bt.block _ ω).t cq),(cS ((bt.block _ ω).t cs)).2.2.2.2,(cS ((bt.block _ ω).t c5)).2.2.2.2⟩;have ap:On (nN S w h) g B:=vV T (λk a=>by have:=a.1.1;omega);have bu:=by have:=bc.1;rwa[AF]at this
  have bx:=by have:=bk.1;rwa[AF]at this
  have b0:∀k,nN S w h k->k<B:=λk a=>by have:=a.1.1;have:=T.size;omega
  have cd:=Vm [⟨t,y,E⟩,⟨z,A,F⟩] (some (aD g 0)) 2 (λk=>k<B) B
   (.inr ⟨g,0,rfl,df,λr u an=>by
    rcases r with _|_|r
    .simp[Pc.val,bu]at an;subst an;simp[World.cell?,c3]
    .simp[Pc.val,bx]at an;subst an;simp[World.cell?,c3]
    .simp at an⟩)
   (λq co=>by
    simp only[AS,FG,KO]at co;rcases co with rfl|rfl
    .exact⟨by show E<=y;omega,(c7.on ap).m b0⟩
    .exact⟨by show F<=A;omega,(c9.on ap).m b0⟩)
   (λk a=>a) (by simp[lens];omega) σ σ
  have cl:lens [(⟨t,y,E⟩:Pc MN),⟨z,A,F⟩]=(i++l).length:=by simp[lens,bu,bx]
  have ck : [(⟨t,y,E⟩:Pc MN),⟨z,A,F⟩].flatMap (·.l)=E++F:=σ
  obtain⟨ad,bz⟩:=nM ((i++l).length);rw[cl,ck,bz]at cd;simp only[bz]at br;have ch:bK B (λk=>nN S w h k) ((i++l).map D) (E++F):=by
   rw[BL];exact(bc.on ap).append (bk.on ap)
  have cw:Hid (bK B (λk=>nN S w h k) ((i++l).map D) (E++F)):=ch;have aw:Hid (∀k,nN S w h k->k<B/\(S k\/w<=k)):=λk a=>⟨b0 k a,a.2⟩;have cv:Hid (∀(ms:List MN) (b4:Option Addr) (b5:Nat) (Z:Bl) (W:World),bW w W->aH W Z b4 (aM ms)->bK W Z ((i++l).map D) ms->(lW Z W)->ad<=b5->_):=br;clear ch b0 cl ck bu bx ap bz c7 c9 bc bk br;refine wp_region_held_drew (S:=(λX=>X.c w 0=some (.p β 0)/\X.c w 1=some (.i root)/\X.c w 2=some (.s m p o)/\X.c (w+1) 4=some (.s t i y)/\X.c (w+1+1) 4=some (.s z l A))) κ ⟨L,M,N,I,J⟩ (λV=>?_);refine tH (i:=0) (v:=.agg #[.p β 0,.i root,.s m p o]) rfl ψ ?_;try simp only[pS]
  refine tH (i:=1) (v:=.p (w+1) 4) rfl ψ ?_;try simp only[pS]
  refine tH (i:=2) (v:=.s t i y) rfl ψ ?_;try simp only[pS]
  refine tH (i:=3) (v:=.p (w+1+1) 4) rfl ψ ?_;try simp only[pS]
  refine tH (i:=4) (v:=.s z l A) rfl ψ ?_;try simp only[pS]
  refine wpAnyH_ready (rs:=[5]) κ σ (AllReadyH.cons rfl (λK f=>?_) AllReadyH.nil);go_simp;obtain⟨⟨L,M,N⟩,I,J⟩:=av.o B T;refine f.out _ _ ⟨L,M,N,I,J⟩ (λV=>?_);clear f K;try simp only[pS]
  refine wpAnyH_ready (rs:=[6]) κ σ (AllReadyH.cons rfl (λK f=>?_) AllReadyH.nil);go_simp
  (apply Calls.m cd;rintro e ar ⟨v,rfl,c0,b3,d6⟩)
  have a5:=T.tm b3;obtain⟨⟨L,M,N⟩,I,J⟩:=av.o ar a5;obtain⟨b7,b8,rfl,dd,db⟩:=cA c0;have ce:=cv.o (E++F) b7 b8 (λk=>nN S w h k\/(Value.s b7 ad b8).ownBlock=some k) ar (O.t (a5.m (η O.size))) (db.m (λk a=>.inr a)) ((cw.o.on (vV b3 (λk a=>(aw.o k a).1))).m (λk a=>.inl a)) (λk a=>a.elim (λd=>jY (aw.o k d).1 b3.size) (λd=>aL c0 d)) dd;try simp only[]
  refine f.out _ _ ⟨L,M,N,I,J⟩ (λV=>?_);clear f K;try simp only[pS]
  refine wpAnyH_ready (rs:=[7]) κ σ (AllReadyH.cons rfl (λK f=>?_) AllReadyH.nil);go_simp
  (apply Calls.m ce;clear ce;rintro e ah ⟨dz,rs,rfl,cm,bs,bv,d4⟩)
  have ax:=a5.tm bv;obtain⟨⟨L,M,N⟩,I,J⟩:=av.o ah ax;obtain⟨ab,ac,rfl,d3,dc⟩:=cA cm;have c6:Hid (rs.length=Y):=by show _=_;rw[bs.1,AF]
  have cj:∀x∈rs,x.lo.size<=24:=λx ao=>by
   obtain⟨r,d2,rfl⟩:=AW ao;have cc:r<Y:=by have:=c6.o;omega
   have cy:=(bs.2 r (D Y[r]) rs[r] (by rw[BM,jQ cc];rfl) (jQ d2)).lo;rw[cy];exact d7 _ (AA cc)
  have b2:∀k,((Value.s ab rs ac).ownBlock=some k\/Apart (λk=>nN S w h k\/(Value.s b7 ad b8).ownBlock=some k) ar (.s ab rs ac) ah k)->k<ah/\(S k\/w<=k):=by
   rintro k (a|a)
   .exact⟨aL cm a,.inr (by have:=d4 k a;have:=a5.size;have:=O.size;omega)⟩
   .rcases a.1 with(d|d)|d
    .exact⟨jY (aw.o k d).1 (vJ b3.size bv.size),(aw.o k d).2⟩
    .exact⟨jY (aL c0 d) bv.size,.inr (by have:=d6 k d;have:=T.size;have:=O.size;omega)⟩
    .exact⟨d.2,.inr (by have:=d.1;have:=a5.size;have:=O.size;omega)⟩
  have ci:=nC ab ac rs (λk=>(Value.s ab rs ac).ownBlock=some k\/Apart (λk=>nN S w h k\/(Value.s b7 ad b8).ownBlock=some k) ar (.s ab rs ac) ah k) ah (dc.m (λk a=>.inl a)) (λk a=>(b2 k a).1) (η c6.o) d3 (λx ao=>cj x ao) (λx ao=>by have:=cj x ao;unfold ksz;omega);try simp only[]
  refine f.out _ _ ⟨L,M,N,I,J⟩ (λV=>?_);clear f K;try simp only[pS]
  refine wpAnyH_ready (rs:=[8]) κ σ (AllReadyH.cons rfl (λK f=>?_) AllReadyH.nil);go_simp
  (apply Calls.m ci;clear ci;rintro e cr ⟨de,qs,rfl,d8,d9,da,bw,d5⟩)
  have bm:=ax.tm bw;obtain⟨⟨L,M,N⟩,I,J⟩:=av.o cr bm;try simp only[]
  refine f.out _ _ ⟨L,M,N,I,J⟩ (λV=>?_);clear f K;try simp only[pS]
  refine wpAnyH_ready (rs:=[9]) κ σ (AllReadyH.cons rfl (λK f=>?_) AllReadyH.nil);go_simp;try simp only[]
  refine f.out _ _ ⟨L,M,N,I,J⟩ (λV=>?_);clear f K;try simp only[pS]
  refine wpAnyH_done κ ?_ _;go_wp2;go_ret;have dg:=O.size;have e0:=ax.size;refine⟨de,qs.map mP,rfl,by rw[AF];exact d8,?_,O.t (bm.m dg),λk a=>by have:=d5 k a;omega⟩;have d1:=(bs.m (λk a=>(.inr a:(Value.s ab rs ac).ownBlock=some k\/_))).on (vV bw (λk a=>(b2 k a).1));exact(Jc (w:=w) d1 d9 da).m (λk a=>(b2 k a).2.imp id (λd=>⟨d,by have:=(b2 k a).1;have:=bw.size;omega⟩))
