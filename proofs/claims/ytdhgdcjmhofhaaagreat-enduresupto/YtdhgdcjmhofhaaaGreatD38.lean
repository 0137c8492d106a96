import Derived.Test.YtdhgdcjmhofhaaaGreatD35
import Derived.Test.YtdhgdcjmhofhaaaGreatD27
set_option linter.all false
set_option maxRecDepth 100000
set_option maxHeartbeats 8000000
namespace Go.Proofs.YtdhgdcjmhofhaaaGreat.Tree
open Go.RowKit Pages
attribute [local go_sem] CM
def zY(l m:Nat)(P:Program)(md:Region.Mode)(ops:Array Oper)(Q:Exit->Act->World->Prop)(S:World->Prop)(s:Nat):Nat->Array Bool->Act->World->Prop
 |0,_,_,_=>False
 |n+1,L,a,w=>(s∈Region.ready md ops L->Region.ready md ops L=[s]/\wpAnyIn (Fence.wide.inRound l) m P md ops Q (n+1) L a w)/\(s ∉ Region.ready md ops L->Region.ready md ops L≠[]/\∀i∈Region.ready md ops L,wpOp P ops Q i (λa' w'=>S w'/\zY l m P md ops Q S s n (L.setIfInBounds i true) a' w') a w)
section
variable {l m:Nat}{P:Program}{md:Region.Mode}{ops:Array Oper}{Q:Exit->Act->World->Prop}{S:World->Prop}{s:Nat}{L:Array Bool}{a:Act}{w:World}{n i:Nat}{o:Oper}
theorem zY.any(c:uH ops=true)(b:∀a w,¬Q .outgrown a w):∀{n:Nat}{L:Array Bool}{a:Act}{w:World},zY l m P md ops Q S s n L a w->wpAnyIn (Fence.wide.inRound l) m P md ops Q n L a w
 |n+1,L,a,w,h=>by
  by_cases e:s∈Region.ready md ops L
  .exact(h.1 e).2
  .exact⟨λd=>absurd d (h.2 e).1,λi f=>wpOpIn_mono (λ_ _ g=>zY.any c b g.2) (Ij c b ((h.2 e).2 i f))⟩
theorem Hc{f:Oper}{v}(hi:ops[i]?=some f)(t:∀(j:Nat) (o:Oper) cs b,ops[j]?=some o->o.op≠.select cs b)(u:∀c a w,Q (.panic c) (a.put f.dst v) w->Q (.panic c) a w)(z:vE md ops s i=true):
  ∀(n:Nat) (L:Array Bool) (a:Act) (w:World),Clo md ops L->(∀j d,ops[j]?=some d->j≠i->L.getD j true=false->(∀e∈d.after,Region.binds md e=true->e.on≠i)->f.apart ops d=true)->i∈Region.ready md ops L->YieldsIf P ops S f v a->S w->zY l m P md ops Q S s n (L.setIfInBounds i true) (a.put f.dst v) w->zY l m P md ops Q S s (n+1) L a w
 |0,_,_,_,_,_,_,_,_,H=>H.elim
 |n+1,L,a,w,hc,hf,hr,hy,hS,H=>by
  have y:=yX hc z hr;refine⟨λg=>absurd g y,λ_=>⟨λg=>(by rw[g]at hr;cases hr),λj h=>?_⟩⟩;by_cases e:j=i
  .subst e;exact hy.wpOp hi hS ⟨hS,H⟩
  .have⟨x,d,r,D⟩:=JB.1 h
   have K:∀e∈d.after,Region.binds md e=true->e.on≠i:=λe E C F=>wG (JB.1 hr).1 (F▸D e E C);have p:=JC h e;have G:s ∉ Region.ready md ops (L.setIfInBounds i true):=λg=>by
    rw[(H.1 g).1,AJ]at p;exact y (p▸h)
   refine wpOp_mono (λB w' k=>⟨k.2.1,Hc hi t u z n (L.setIfInBounds j true) B w' (hc.set h) (λq N M J A I=>hf q N M J ?_ I) (JC hr (Ne.symm e)) k.1 k.2.1 ?_⟩) (wpOp_putIf r (hf j d r e x K) (λcs b=>t i f cs b hi) (λcs b=>t j d cs b r) u hy ((H.2 G).2 j p))
   .by_cases hjq:j=q
    .subst hjq;exact x
    .rw[KA true hjq]at A;exact A
   .rw[GJ _ _ e];exact k.2.2
theorem qT{b:Oper}{v}(i)(hi:ops[i]?=some b)(d:(Region.noSelect ops&&Region.free md ops L i&&(Region.ready md ops L).contains i&&vE md ops s i&&qKg md ops L)=true)(o:∀c a w,Q (.panic c) (a.put b.dst v) w->Q (.panic c) a w)(q:YieldsIf P ops S b v a)(p:S w)(h:zY l m P md ops Q S s n (L.setIfInBounds i true) (a.put b.dst v) w):zY l m P md ops Q S s (n+1) L a w:=by
 simp only[AP]at d;have⟨⟨⟨⟨e,f⟩,g⟩,j⟩,k⟩:=d;exact Hc hi (LE e) o j n L a w (Kp k) (MD hi f) (by simpa using g) q p h
theorem qIi(i)(j:Region.ready md ops L=[i])(e:s≠i)(g:ops[i]?=some o)(h:∀K':Act->World->Prop,Go.Shut (∀a w,S w->zY l m P md ops Q S s n (L.setIfInBounds i true) a w->K' a w)->if Region.wanted o (yielded ops a.tmps)=true then Oper.wp P o a w K' Q else K' (a.put o.dst undef) w):zY l m P md ops Q S s (n+1) L a w:=by
 unfold zY;rw[j];refine⟨λh=>absurd (AJ.1 h) e,λ_=>⟨by simp,λk f=>?_⟩⟩;obtain rfl:=AJ.1 f;exact wpOp_step g (λK' b=>h K' (λa w c d=>b a w ⟨c,d⟩))
theorem qIj(b:Region.ready md ops L=[s])(c:ops[s]?=some o)(h:∀K':Act->World->Prop,(∀a w,wpAnyIn (Fence.wide.inRound l) m P md ops Q n (L.setIfInBounds s true) a w->K' a w)->if Region.wanted o (yielded ops a.tmps)=true then Oper.wpIn (Fence.wide.inRound l) m P o a w K' Q else (∀f,o.about P w a.eval=some f->(Fence.wide.inRound l).fn f)/\K' (a.put o.dst undef) w):zY l m P md ops Q S s (n+1) L a w :=
 ⟨λ_=>⟨b,wpAnyIn_ready b (by simp) (.cons c h .nil)⟩,λh=>absurd (b▸AJ.2 rfl) h⟩
end
def Tj(x:En)(args:Array Value)(S:Bl)(w:World):Prop:=args=#[.string x.e.key,.string ⟨x.value.toArray⟩]
theorem Un(β sv lv fs)(root ca cc cs q o)(b3:o≠none->(fs.life==0)=false)(bw:bQ fs root o)(S bt b1 b2 Rd w)(ay:cW w bt #[.p β 0,.i root,.s ca cs.length cc] 90)(cb:cW w b1 #[.t q.lo] 9)(cd:cW w b2 #[.t q.hi] 9)(a5:aF w β sv lv fs)(bi:aH w S ca (cs.flatMap Ch.cells))(ck:lW S w)(bv:cF cs)(bq:cs.length<=1000000)(bk:cs.length<=cc)(bl:(ca=none/\cc=0)\/∃b c0,ca=some (aD b c0))(am:∀x∈bF (cU q o) (dF cs q),x.good fs/\(x.e.over≠0->(fs.life==0)=false))(av:Rd bt)(c1:Rd b1)(c2:Rd b2)(F:∀k,fpF β sv lv k->Rd k)(a9:∀k,S k->Rd k):
  nH Tryz.prog 164 #[.p bt 0,.p b1 0,.p b2 0] Tj (bF (cU q o) (dF cs q)) Rd w:=by
 intro l J b8 g W ao m B a7 aw c9 ak ad;refine BX Tryz.func164 rfl trivial ?_ rfl;simp only[Tryz.ntmps164,jA,jB,jN,Nat.reduceAdd,Nat.reduceSub,jR,jO,jP,jT,jE,jF];have a8:=a7 [] g W ad;have⟨i,ai⟩:=nM (W.alloc (.cells #[.func (.yield l) #[] #[]] 169));have O:Fr Bl.none W i:=ai▸(AE _ W).alloc _;have az:cW i W.heap.size #[.func (.yield l) #[] #[]] 169:=ai▸aC W _;have y:On Rd w i:=ao.t (O.on (λk d=>⟨(m k d).2,λa=>a⟩));have⟨I,L,M⟩:=eC (y.heap ay av);have bb:i.cell? (aD b1 0)=some (.t q.lo):=by have:=y.heap cb c1;simp[World.cell?,this]
 have bc:i.cell? (aD b2 0)=some (.t q.hi):=by have:=y.heap cd c2;simp[World.cell?,this]
 have ag:lW S i:=λb bj=>jY (m b (a9 b bj)).2 O.size;have U:=xU β sv lv fs root ca cc cs q o b3 bw S i (a5.on (y.m F)) (bi.on (y.m a9)) ag bv bq bk bl;have⟨ab,aq⟩:=nM (bF (cU q o) (dF cs q));rw[aq]at U am ak⊢;clear aq;gi_wp2_with (refine⟨trivial,rfl,?_⟩;gi_at_call 165;apply(AZ.2 U).m;clear U;rintro e t ⟨co,rfl,bm,a4⟩);have Q:Fr Bl.none W t:=O.t (AB a4);have cf:W.heap.size<i.heap.size:=(gL az);have ct:=a4.size;have ar:On Rd w t:=ao.t (Q.on (λk d=>⟨(m k d).2,λa=>a⟩));have r:Fr g W t:=Q.m (λ_ a=>a.elim);let Ix:Code->List En->Bl->World->Prop:=λc n g W=>c=.ret/\b8 n g W;refine fI (P:=Tryz.prog) (Has:=pL) (Rd:=RdE S β sv lv i t) rfl (enters_of Tryz.func195 (by kernel_rfl) rfl) bm (λx N S W a1=>by rw[show N=_ from a1];rfl) J Ix B ?_ a7 ?_ g (B _ _ _ _ ad (Q.on (λk d=>⟨a8 k d,λa=>a⟩))) ?_ ?_ ?_ ?_
 .rintro c n g W ch ⟨rfl,z⟩ bs
  exact⟨rfl,aw _ _ _ _ z bs⟩
 .rintro c n g W ⟨rfl,z⟩
  exact c9 _ _ _ z
 .rintro k (d|d|⟨d,bn⟩)
  .exact⟨(m k (a9 k d)).1,by have:=ag k d;omega⟩
  .exact⟨(m k (F k d)).1,(a5.on (ar.m F)).lies k d⟩
  .exact⟨λa=>by have:=a8 _ a;omega,bn⟩
 .intro c8 n x c4 N cg j Wd a6 ae a1 cl E be cm bo bp ⟨cr,cn⟩
  have bf:N=#[.agg #[.t x.e.key,.t x.e.val,.int .i64 x.e.size,.int .i64 x.e.over]]:=a1;subst bf;have⟨an,hov⟩:=am x (by rw[a6];simp);have cv:t.heap.size<=Wd.heap.size:=E.size;have ce:=E.heap ((a4.block _ cf).t az) (λa=>by have:=a8 _ a;omega);have bz:On Rd w Wd:=ar.t (E.on (λk d=>⟨by have:=(m k d).2;omega,(m k d).1⟩));have b4:Fr g W Wd:=r.t E;have b6:aJ W g j:=(CR W g).t r.size be;have ap:=a7 _ _ _ ae;have b7:Hid (ab=n++x :: c4):=a6;clear a6;unfold iY;gi_wp2;refine⟨(AE _ Wd).alloc _,?_⟩;intro f ah;have aa:=ah.heap (k:=Wd.heap.size) (aC Wd (.cells #[.t x.e.key,.t x.e.val,.int .i64 x.e.size,.int .i64 x.e.over] 69)) (DL bo);have ba:Fr Bl.none Wd (Wd.alloc (.cells #[.t x.e.key,.t x.e.val,.int .i64 x.e.size,.int .i64 x.e.over] 69)):=(AE _ Wd).alloc _;have u:Fr (Bl.one c8) Wd f:=(ba.m (λ_ a=>a.elim)).t ah.fr;have b0:=u.heap ce (oN (by omega));have bg:J n j f:=B _ _ _ _ ae (u.on (λk d=>⟨ap k d,λa=>by simp only[Bl.one]at a;subst a;exact bp d⟩));have b5:Fr g W f:=b4.grow u (λk d=>.inr (by simp only[Bl.one]at d;omega));have au:On Rd w f:=bz.t (u.on (λk d=>⟨by have:=(m k d).2;omega,λa=>by simp only[Bl.one]at a;have:=(m k d).2;omega⟩));have cu:Wd.heap.size<f.heap.size:=(gL aa);have ax:=au.heap ay av;have al:=a5.on (au.m F);clear I L M bb bc;have ac:Hid (∀X,bW f.drew X->(λX=>X.cell? (aD bt 0)=some (.pointer (some (aD β 0)))/\X.cell? (aD bt 1)=some (.int .i64 root)/\X.cell? (aD bt 2)=some (.s ca cs.length cc)/\X.cell? (aD Wd.heap.size 0)=some (.t x.e.key)/\X.cell? (aD Wd.heap.size 1)=some (.t x.e.val)/\X.cell? (aD Wd.heap.size 2)=some (.int .i64 x.e.size)/\X.cell? (aD Wd.heap.size 3)=some (.int .i64 x.e.over)/\X.cell? (aD W.heap.size 0)=some (.func (.yield l) #[] #[])) X):=λX h=>by
   have⟨I,L,M⟩:=eC ((h.block _ (gL ax)).t ax);have⟨bx,c5,c6,c7⟩:=kA ((h.block _ (gL aa)).t aa);refine⟨I,L,M,bx,c5,c6,c7,?_⟩;have:=(h.block _ (gL b0)).t b0;simp[World.cell?,this]
  gi_wp2;refine wpIn_region_any (by kernel_rfl) (zY.any (s:=6) (S:=λX=>X.cell? (aD bt 0)=some (.pointer (some (aD β 0)))/\X.cell? (aD bt 1)=some (.int .i64 root)/\X.cell? (aD bt 2)=some (.s ca cs.length cc)/\X.cell? (aD Wd.heap.size 0)=some (.t x.e.key)/\X.cell? (aD Wd.heap.size 1)=some (.t x.e.val)/\X.cell? (aD Wd.heap.size 2)=some (.int .i64 x.e.size)/\X.cell? (aD Wd.heap.size 3)=some (.int .i64 x.e.over)/\X.cell? (aD W.heap.size 0)=some (.func (.yield l) #[] #[])) (by kernel_rfl) (λ_ _ a=>a) ?_);have A:=ac _ (AC _ _);apply qT (v:=.func (.yield l) #[] #[]) 0 rfl (by kernel_rfl) (λ_ _ _ a=>a) (.inl ⟨by rfl,λX h=>by(try dsimp only at h);go_simp⟩) A;apply qT (v:=.pointer (some (aD Wd.heap.size 0))) 1 rfl (by kernel_rfl) (λ_ _ _ a=>a) (.inl ⟨by rfl,λX h=>by(try dsimp only at h);go_simp⟩) A;apply qT (v:=.t x.e.key) 2 rfl (by kernel_rfl) (λ_ _ _ a=>a) (.inl ⟨by rfl,λX h=>by(try dsimp only at h);go_simp⟩) A;apply qT (v:=.agg #[.pointer (some (aD β 0)),.int .i64 root,.s ca cs.length cc]) 3 rfl (by kernel_rfl) (λ_ _ _ a=>a) (.inl ⟨by rfl,λX h=>by(try dsimp only at h);go_simp⟩) A;apply qT (v:=.agg #[.t x.e.key,.t x.e.val,.int .i64 x.e.size,.int .i64 x.e.over]) 4 rfl (by kernel_rfl) (λ_ _ _ a=>a) (.inl ⟨by rfl,λX h=>by(try dsimp only at h);go_simp⟩) A;refine qIi 5 (by kernel_rfl) (by decide) rfl (λK p=>?_);go_simp;go_at_call 48;apply Calls.m (Dh β sv lv fs root ca cs.length cc x hov f.drew (al.on (vV (JM (AC _ f)) al.lies)) (Cs an).1 (Cs an).2);rintro e G ⟨rfl,aj⟩;apply p _ _ (ac _ aj);clear p K;have R:Fr Bl.none f G:=(AE _ f).drew.t (AB aj);have⟨cj,cz,cp,cq,c3,af⟩:=ak _ x _ #[.t x.e.key,.t ⟨x.value.toArray⟩] Bl.none j G b7 (B _ _ _ _ bg (R.on (λk d=>⟨jY (ap k d) u.size,λa=>a⟩))) rfl (λ_ a=>a.elim) (b5.t (R.m (λ_ a=>a.elim))) b6;have C:Fr j f G:=R.m (λ_ a=>a.elim);refine qIj (by kernel_rfl) rfl (λK p=>?_);go_simp;refine⟨rfl,(eT af).m ?_⟩;clear c3 af;rintro e ci (⟨rfl,H,a2,V,Z⟩|⟨rfl,H,a2,V,Z⟩)
  all_goals
   apply p _ _;clear p K;refine wpAnyIn_ready (rs:=[7]) (by kernel_rfl) (by simp) (.cons rfl (λK p=>?_) .nil);go_simp;refine p _ _ (wpAnyIn_done (by kernel_rfl) ?_ _);gi_wp2
  .exact⟨H,a2,C.grow V (CR _ _),(CR f j).t C.size Z⟩
  .exact⟨H,⟨rfl,a2⟩,C.grow V (CR _ _),(CR f j).t C.size Z⟩
 .intro D j b9 bd a3 bh Y a0 T
  gi_wp2;refine nC rfl T ⟨⟨_,rfl⟩,j,((r.t Y).putObj (.inr (by omega)) _),(CR W g).t r.size a0,.inl (B _ _ _ _ bh ((CN _ _).putObj a3 _))⟩
 .rintro D c n j b9 bd a3 bu br ⟨rfl,z⟩ Y a0 T
  gi_wp2;refine nC rfl T ⟨⟨_,rfl⟩,j,((r.t Y).putObj (.inr (by omega)) _),(CR W g).t r.size a0,.inr ⟨n,bu,br,aw _ _ _ _ z ((CN _ _).putObj a3 _)⟩⟩
open Go.Shelf
attribute [local go_sem] CM
theorem Ee(root β b d c lo hi w):
  cL 141 #[.agg #[.p β 0,.i root,.s b d c],.t lo,.t hi] w λe w' =>
   e=.r (.func (.func 164) #[] #[.p w.heap.size 0,.p (w.heap.size+1) 0,.p (w.heap.size+1+1) 0]) /\
   cW w' w.heap.size #[.p β 0,.i root,.s b d c] 90/\cW w' (w.heap.size+1) #[.t lo] 9/\cW w' (w.heap.size+1+1) #[.t hi] 9/\bW w w':=by
 obtain⟨a,f,B,g,h,i,-⟩:=al3 w (.cells #[.p β 0,.i root,.s b d c] 90) (.cells #[.t lo] 9) (.cells #[.t hi] 9); go_enter Tryz.func141,Tryz.ntmps141;go_wp2;go_ret;exact⟨rfl,g,h,i,B⟩
def fK(xs:List En):List Value:=xs.flatMap (λx=>[.string x.e.key,.string ⟨x.value.toArray⟩])
theorem Oj(xs x):fK (xs++[x])=fK xs++[.t x.e.key,.t ⟨x.value.toArray⟩]:=by simp[fK]
theorem dA:(Tryz.prog.info? 71).map (λi=>(i.zero,i.size,i.bytes))=some (some (.agg #[.e,.e]),2,32):=by kernel_rfl
def lM(o:Option (Nat×T))(cs:List Ch)(q:Sp):List En:=bF (cU q o) (dF cs q)
theorem qAc{fs root o cs}(a:bQ fs root o)(e:pM o)(f:cF cs)(b:∀c∈cs,c.good)(q):∀x∈lM o cs q,x.good fs:=by
 unfold lM;rw[vM a];exact kM (EM _ (eL a)) (kV f q) (λx g=>gO a e x (EH.1 g).1) (λc d=>b c (EH.1 d).1)
theorem qFn{cs:List Ch}{x:En}(h:x∈bF [] cs):x.e.over=0:=by
 simp only[bF,fT,List.foldl_nil,jE]at h;unfold dT at h;grind[chE]
theorem qCq(β sv lv fs)(t o)(az:bQ fs t.root o)(bk:pM o)(q most w)(b3:most≠0->o≠none->(fs.life==0)=false)(a2:aF w β sv lv fs)(L:eI w β t)(ag:cF t.cs)(au:∀c∈t.cs,c.good)(cb:t.cs.length<=1000000)(bm:(lM o t.cs q).length<=1000000)(c7:most<=9223372036854775807):
  cL 105 #[.p t.b 0,.t q.lo,.t q.hi,.i (most:Nat)] w λe w'=>∃v,e=.r v/\w'.ownsRow 0 71 2 v ((lM o t.cs q).take most).length (fK ((lM o t.cs q).take most))/\bW w w'/\nW v w:=by
 have aw:=qAc az bk ag au q;have⟨bz,c5,av,bi,b2⟩:=bR L.row;simp only[Tx.cv,AQ,CV]at av;have⟨ba,bb⟩:=av;subst ba bb;have bh:(t.ca=none/\t.cc=0)\/∃b bo,t.ca=some (aD b bo):=by
  rcases L.row.2 with⟨d,_⟩|⟨g,c0,c8,d,_⟩
  .simp only[Tx.cv,AQ]at d;exact .inl ⟨d.1,d.2.2⟩
  .simp only[Tx.cv,AQ]at d;exact .inr ⟨g,0,d.1⟩
 have⟨s,N,X,b5,b4,ak⟩:=al2 w (.cells #[.i (most:Nat)] 3) (.cells #[.s none 0 0] 30); have⟨ci,cn,co,cp,cq,cr⟩:=qA ((X.block _ (gL L.box)).t L.box);have c2:=bJ b5;have c1:=bJ b4;by_cases hm0:most=0
 .subst hm0
  have aj:bW w s:=X;go_enter Tryz.func105,Tryz.ntmps105;go_wp2;go_ret;rw[<-N]at aj;exact⟨_,rfl,AL _ _ _ _,aj,λf j=>by simp[Value.ownBlock]at j⟩
 have ca:(((most:Nat):Int)==0)=false:=by simp;omega
 have ad:=Ee t.root β t.ca t.cs.length t.cc q.lo q.hi s;rw[ak]at ad;have b6:Hid (s.heap.size=w.heap.size+2):=ak;refine(AZ (n:=0)).1 (BX Tryz.func105 rfl trivial ?_ rfl);simp only[Tryz.ntmps105,jA,jB,jN,Nat.reduceAdd,Nat.reduceSub,jR,jO,jP,jT,jE,jF];gi_wp2_with (refine⟨trivial,rfl,?_⟩;gi_at_call 141;apply(AZ.2 ad).m;clear ad;rintro e F ⟨rfl,bq,br,b1,bf⟩);have bg:bW s F:=bf;have a8:Fr Bl.none s F:=AB bg;have V:Fr Bl.none w F:=(AB X).t a8;have cs:=(gL b1);have cj:=b6.o;have ah:=a8.heap b4 (λd=>d);have bj:aF F β sv lv fs:=a2.on (V.on (λf j=>⟨a2.lies f j,λd=>d⟩));have a1:∀f,t.cv.ownBlock=some f->f<w.heap.size:=λf j=>aK L.row j;let b:=w.heap.size+1;let Rc:Bl:=λf=>f=w.heap.size+2\/f=w.heap.size+2+1\/f=w.heap.size+2+1+1\/fpF β sv lv f\/t.cv.ownBlock=some f;have ax:=Un β sv lv fs t.root t.ca t.cc t.cs q o (b3 hm0) az (λf=>t.cv.ownBlock=some f) (w.heap.size+2) (w.heap.size+2+1) (w.heap.size+2+1+1) Rc F bq br b1 bj (b2.on (V.on (λf j=>⟨a1 f j,λd=>d⟩))) (λf j=>by have:=a1 f j;omega) ag (by omega) bi bh (λx hx=>⟨aw x hx,λbu=>b3 hm0 λbt=>bu (by subst bt;exact qFn hx)⟩) (.inl rfl) (.inr (.inl rfl)) (.inr (.inr (.inl rfl))) (λf j=>.inr (.inr (.inr (.inl j)))) (λf j=>.inr (.inr (.inr (.inr j))));have⟨U,a5⟩:=nM (lM o t.cs q);rw[show bF (cU q o) (dF t.cs q)=U from a5]at ax;rw[a5]at bm;have ao:Hid (lM o t.cs q=U):=a5;clear a5;let J:List En->Bl->World->Prop:=λh y W=>∃v,cW W b #[v] 30/\W.ownsRow 0 71 2 v h.length (fK h)/\(∀f,y f↔f=b\/v.ownBlock=some f)/\(∀f,v.ownBlock=some f->w.heap.size<=f/\f≠w.heap.size);let I:List En->Bl->World->Prop:=λh y W=>h.length<most/\J h y W;let Ix:Code->List En->Bl->World->Prop:=λc h y W=>c=.exit 0/\h.length=most/\J h y W;have ar:=a2.lies;refine fI (P:=Tryz.prog) (Has:=Tj) (Rd:=Rc) rfl (enters_of Tryz.func164 (by kernel_rfl) rfl) ax (λM a7 S W ac=>by rw[show a7=_ from ac];rfl) I Ix ?_ ?_ ?_ ?_ (Bl.one b) ⟨by simp;omega,.s none 0 0,ah,by simpa[fK] using AL _ _ _ _,λf=>by simp[Bl.one,Value.ownBlock],by simp[Value.ownBlock]⟩ ?_ ?_ ?_ ?_
 .intro h y A B ⟨G,v,m,k,i,u⟩ O
  exact⟨G,v,O.heap m ((i _).2 (.inl rfl)),aS k O (λf j=>(i f).2 (.inr j)),i,u⟩
 .intro c h y A B ⟨aq,G,v,m,k,i,u⟩ O
  exact⟨aq,G,v,O.heap m ((i _).2 (.inl rfl)),aS k O (λf j=>(i f).2 (.inr j)),i,u⟩
 .intro h y A ⟨G,v,m,k,i,u⟩ f j
  rcases(i f).1 j with rfl|d
  .exact(gL m)
  .exact aK k d
 .intro c h y A ⟨aq,G,v,m,k,i,u⟩ f j
  rcases(i f).1 j with rfl|d
  .exact(gL m)
  .exact aK k d
 .rintro f (rfl|rfl|rfl|j|j)
  .exact⟨λd=>by simp only[Bl.one,b]at d;omega,by omega⟩
  .exact⟨λd=>by simp only[Bl.one,b]at d;omega,by omega⟩
  .exact⟨λd=>by simp only[Bl.one,b]at d;omega,by omega⟩
  .exact⟨λd=>by simp only[Bl.one,b]at d;have:=ar f j;omega,by have:=ar f j;omega⟩
  .exact⟨λd=>by simp only[Bl.one,b]at d;have:=a1 f j;omega,by have:=a1 f j;omega⟩
 .intro l h M bp a7 S a6 W b0 ⟨Q,v,m,k,i,u⟩ ac c3 E ap c4 c6 ay ⟨r,cf⟩
  have bc:a7=#[.t M.e.key,.t ⟨M.value.toArray⟩]:=ac;subst bc;have cd:h.length+1<=1000000:=by have:=CI List.length b0;simp at this;omega
  have⟨T,af⟩:=nM (decide (h.length+1=most));have ce:(((h.length:Int)+1)==(most:Int))=T:=by rw[<-af,FC,CT,JK];omega
  have am:Hid (decide (h.length+1=most)=T):=af;clear b0 af;cases T
  all_goals
   unfold iY;gi_wp2;refine⟨AE _ _,?_⟩;intro C bd;have a9:Fr (Bl.one l) W C:=bd.fr;have Y:=a9.heap m (λd=>by simp only[Bl.one]at d;exact ay ((i _).2 (.inl d.symm)));have ai:C.ownsRow 0 71 2 v h.length (fK h):=aS k (a9.on (Z:=λf=>v.ownBlock=some f) (λf j=>⟨aK k j,λd=>by simp only[Bl.one]at d;subst d;exact ay ((i _).2 (.inr j))⟩)) (λf j=>j);have bn:=a9.heap (E.heap (a8.heap b5 (λd=>d)) (λd=>by simp only[Bl.one,b]at d;omega)) (λd=>by simp only[Bl.one]at d;have:=E.size;omega);have bw:C.c (w.heap.size+1) 0=some v:=by
    have:C.heap[w.heap.size+1]?=_:=Y;simp[World.cell?,this]
   obtain⟨a,c,rfl⟩:=aG ai;have bs:b<C.heap.size:=(gL Y);gi_wp2_with (gi_at_builtin;apply Ik C rfl (.tmp 24) (.tmp 28) 30 71 _ 2 32 rfl Tryz.underlying30 dA rfl (by decide) (.s a h.length c) h.length (fK h) rfl ai [.t M.e.key,.t ⟨M.value.toArray⟩] rfl rfl (by simp[Value.oneCell']) (by omega) (by omega);intro v3 x z;obtain⟨K,a4,rfl⟩:=z.shape (by decide);have a0:=z.fr.heap Y (aP ai Y (by decide));have bx:x.c (w.heap.size+1) 0=some (.s a h.length c):=(by have:x.heap[w.heap.size+1]?=_:=a0;simp[World.cell?,this]);have ch:∀f,x.frozen? (aD (w.heap.size+1) f)=false:=aA (show x.heap[w.heap.size+1]?=_ from a0);have⟨H,a3⟩:=nM (x.setCell (aD (w.heap.size+1) 0) (.s (some (aD K 0)) (h.length+1) a4));have an:cW H (w.heap.size+1) #[.s (some (aD K 0)) (h.length+1) a4] 30:=(by rw[<-a3];simpa using aB (show x.heap[w.heap.size+1]?=_ from a0) 0 (.s (some (aD K 0)) (h.length+1) a4));have c9:=bJ an;have cg:H.c w.heap.size 0=some (.i (most:Nat)):=(by have:=(a3▸((AE (Bl.one (w.heap.size+1)) x).s (w.heap.size+1) 0):Fr (Bl.one (w.heap.size+1)) x H).heap (z.fr.heap bn (λj=>(u _ j).2 rfl)) (oN (by omega));exact bJ this));have b7:Fr a6 C x:=z.fr.m (λf j=>.inl ((i f).2 (.inr j)));have al:J (h++[M]) (λf=>f=b\/K=f) H:=by
    refine⟨.s (some (aD K 0)) (h.length+1) a4,an,?_,λf=>by simp[Value.ownBlock],?_⟩
    .rw[jK,AM,Oj,<-a3]
     exact aS z.row ((CN (λf=>Value.ownBlock _=some f) x).setCell (p:=(aD (w.heap.size+1) 0)) (λj=>aP z.row (show x.heap[w.heap.size+1]?=_ from a0) (by decide) j) _) (λf j=>j)
    .intro f j
     rcases z.lies f j with d|d
     .exact u f d
     .have:w.heap.size+1<C.heap.size:=bs;omega
   refine⟨λf=>f=b\/K=f,?_,?_,?_⟩
   .first
     |exact⟨by have:=of_decide_eq_false am;rw[jK,AM];omega,al⟩
     |exact⟨rfl,by have:=of_decide_eq_true am;rw[jK,AM];omega,al⟩
   .rw[<-a3]
    exact b7.s (w.heap.size+1) 0 (.inl ((i _).2 (.inl rfl)))
   .rintro f (rfl|j)
    .exact .inl ((i _).2 (.inl rfl))
    .rcases z.lies f (by simp[Value.ownBlock,j]) with d|d
     .exact .inl ((i f).2 (.inr d))
     .exact .inr d
 .intro D a6 W aa be ⟨Q,v,m,k,i,u⟩ E ap ab
  have b9:W.c (w.heap.size+1) 0=some v:=by
   have:W.heap[w.heap.size+1]?=_:=m;simp[World.cell?,this]
  obtain⟨a,c,rfl⟩:=aG k;have ae:Marks w.heap.size [mk D] W:=(FQ w.heap.size F).cons (λD' _ d=>E.heap d (λe=>by simp only[Bl.one,b]at e;subst e;rw[ah]at d;simp at d)) (by omega) ab aa;gi_wp2;apply Rn rfl ae;intro w' R;rw[ao.o,CQ (LK Q)];exact⟨_,rfl,sW k R,((V.grow E (λf j=>.inr (by simp only[Bl.one,b]at j;omega))).took R (jU _)).below0,λf j=>(u f j).1⟩
 .rintro D bv h a6 W aa be G cc ⟨rfl,Q,v,m,k,i,u⟩ E ap ab
  have b8:Hid (h.length=most):=Q;clear Q;have b9:W.c (w.heap.size+1) 0=some v:=by
   have:W.heap[w.heap.size+1]?=_:=m;simp[World.cell?,this]
  obtain⟨a,c,rfl⟩:=aG k;have ae:Marks w.heap.size [mk D] W:=(FQ w.heap.size F).cons (λD' _ d=>E.heap d (λe=>by simp only[Bl.one,b]at e;subst e;rw[ah]at d;simp at d)) (by omega) ab aa;gi_wp2;apply Rn rfl ae;intro w' R;have bl:U.take most=h:=by obtain⟨bp,rfl⟩:=G;rw[<-b8.o];simp
  rw[ao.o,bl];exact⟨_,rfl,sW k R,((V.grow E (λf j=>.inr (by simp only[Bl.one,b]at j;omega))).took R (jU _)).below0,λf j=>(u f j).1⟩
variable {K S:Bl} {cs:List Ch} {j q:Nat} {k:ByteArray} {v:Value} {w w':World} {x:ByteArray×ByteArray}
abbrev KV:=List (ByteArray×ByteArray)
variable {l:KV}
def qU(l:KV):Prop:=l.Pairwise (λa b=>lt a.1 b.1=true)
def rat:KV->ByteArray->Nat
 |[],_=>0
 |x :: l,k=>if lt x.1 k=true then rat l k+1 else 0
theorem vH:∀(l:KV) (k:ByteArray),rat l k<=l.length
 |[],_=>jU _
 |x :: l,k=>by
  have:=vH l k;simp only[rat,jB];split<;>omega
def mY(l:KV)(k:ByteArray):Bool:=(l[rat l k]?).any (λx=>decide (x.1=k))
def Hn(l:KV)(k:ByteArray):Nat:=rat l k+if mY l k=true then 1 else 0
def rwo(l:KV)(k:ByteArray):KV:=l.take (rat l k)++l.drop (Hn l k)
def oG(l:KV)(k v:ByteArray):KV:=l.take (rat l k)++(k,v):: l.drop (Hn l k)
def rF(l:KV)(k:ByteArray):Option ByteArray:=if mY l k=true then (l[rat l k]?).map (·.2) else none
def dP(l:KV)(c:Ch):KV:=if c.gone=true then rwo l c.key else oG l c.key c.val
def sC(l:KV)(lo hi:ByteArray)(most:Nat):KV:=((l.drop (rat l lo)).takeWhile (λx=>Sp.below hi x.1)).take most
def dJ(l:KV):Nat:=2+tot (λx:ByteArray×ByteArray=>2+if 60<x.2.size then (x.2.size+239) / 240 else 0) l
theorem Dz (h:lt x.1 k=true):rat (x :: l) k=rat l k+1/\mY (x :: l) k=mY l k/\Hn (x :: l) k=Hn l k+1:=by
 have a:rat (x :: l) k=rat l k+1:=by simp[rat,h]
 have b:mY (x :: l) k=mY l k:=by unfold mY;rw[a];rfl
 refine⟨a,b,?_⟩;unfold Hn;grind
theorem Dt (h:lt x.1 k=false):rat (x :: l) k=0/\mY (x :: l) k=decide (x.1=k):=by
 have a:rat (x :: l) k=0:=by simp[rat,h]
 exact⟨a,by unfold mY;rw[a];rfl⟩
theorem qEo (h:lt x.1 k=true):rwo (x :: l) k=x :: rwo l k:=by
 have⟨a,_,b⟩:=Dz (l:=l) h;unfold rwo;rw[a,b];rfl
theorem Ll:∀{l:KV},qU l->∀k,rwo l k=l.filter (λx=>!decide (x.1=k))
 |[],_,k=>by simp[rwo]
 |x :: l,h,k=>by
  have⟨g,i⟩:=BG.1 h;cases hx:lt x.1 k with
  |true =>
   rw[qEo hx,Ll i,GC];simp[Pa hx]
  |false =>
   have⟨e,f⟩:=Dt (l:=l) hx;have j:∀a∈l,a.1≠k:=λa b d=>by
    grind
   have c:l.filter (λx=>!decide (x.1=k))=l:=List.filter_eq_self.2 (λa b=>by simp[j a b]);unfold rwo Hn;rw[e,f];grind
theorem sQ:∀{l:KV},qU l->∀{k v:ByteArray},rF l k=some v↔(k,v)∈l
 |[],_,k,v=>by simp[rF,mY]
 |b :: l,h,k,v=>by
  have⟨g,i⟩:=BG.1 h;cases hx:lt b.1 k with
  |true =>
   have⟨d,e,_⟩:=Dz (l:=l) hx;have c:rF (b :: l) k=rF l k:=by unfold rF;rw[d,e];rfl
   rw[c,sQ i (k:=k) (v:=v),AS];constructor
   .exact .inr
   .rintro(rfl|a)
    .rw[cI]at hx;cases hx
    .exact a
  |false =>
   have⟨d,e⟩:=Dt (l:=l) hx;have f:(k,v) ∉ l:=λj=>by grind
   have c:rF (b :: l) k=if decide (b.1=k)=true then some b.2 else none:=by unfold rF;rw[d,e];rfl
   grind
theorem qEr:∀{l:KV},qU l->∀k,(∀x∈l.take (rat l k),lt x.1 k=true)/\∀x∈l.drop (Hn l k),lt k x.1=true
 |[],_,k=>by simp
 |x :: l,h,k=>by
  have⟨d,i⟩:=BG.1 h;cases hx:lt x.1 k with
  |true =>
   have⟨c,_,g⟩:=Dz (l:=l) hx;have⟨j,m⟩:=qEr i k;grind
  |false =>
   have⟨c,f⟩:=Dt (l:=l) hx;refine⟨by rw[c];simp,λb a=>?_⟩;unfold Hn at a;rw[c,f]at a;by_cases he:x.1=k
   .grind
   .simp only[he,decide_false,EV,KS,DW,FX,AS]at a
    have e:lt k x.1=true:=by
     cases hq:lt k x.1
     .exact absurd (lE hx hq) he
     .rfl
    rcases a with rfl|a
    .exact e
    .exact eY e (d b a)
theorem Ua (h:qU l)(k v):qU (oG l k v):=by
 have⟨e,f⟩:=qEr h k;refine CO.2 ⟨h.sublist (FU _ _),BG.2 ⟨f,h.sublist (FH _ _)⟩,λa d b c=>?_⟩;rcases AS.1 c with rfl|c
 .exact e a d
 .exact eY (e a d) (f b c)
theorem qEn (h:qU l)(k):qU (rwo l k):=by rw[Ll h];exact h.sublist List.filter_sublist
theorem qAg (h:qU l)(k v x):x∈oG l k v↔x=(k,v)\/(x.1≠k/\x∈l):=by
 have a:x∈oG l k v↔x=(k,v)\/x∈rwo l k:=by
  unfold oG rwo;grind
 rw[a,Ll h,EH];grind
theorem zI:∀{l m:KV},qU l->qU m->(∀a,a∈l↔a∈m)->l=m
 |[],[],_,_,_=>rfl
 |[],a :: m,_,_,h=>absurd ((h a).2 (by simp)) (by simp)
 |x :: l,[],_,_,h=>absurd ((h x).1 (by simp)) (by simp)
 |x :: l,a :: m,hl,hm,h=>by
  have⟨d,i⟩:=BG.1 hl;have⟨f,j⟩:=BG.1 hm;have g:x=a:=by
   rcases AS.1 ((h x).1 (by simp)) with e|e
   .exact e
   .rcases AS.1 ((h a).2 (by simp)) with n|n
    .grind
    .have:=eY (f x e) (d a n);rw[cI]at this;cases this
  subst g;rw[zI i j (λc=>?_)];constructor
  .intro b
   rcases AS.1 ((h c).1 (by simp[b])) with rfl|e
   .have:=d c b;rw[cI]at this;cases this
   .exact e
  .intro b
   rcases AS.1 ((h c).2 (by simp[b])) with rfl|e
   .have:=f c b;rw[cI]at this;cases this
   .exact e
def En.kb(x:En):ByteArray×ByteArray:=(x.e.key,⟨x.value.toArray⟩)
variable {es:List En}
def kvB(es:List En):KV:=es.map En.kb
def aI(l:KV):List Value:=l.flatMap (λx=>[.string x.1,.string x.2])
theorem Pz(es):aI (kvB es)=fK es:=by simp[aI,kvB,fK,En.kb,JV]
theorem qLk{xs d}(h:xs.map En.kv=d.map En.kv):kvB xs=kvB d:=by
 have b:∀a:List En,kvB a=(a.map En.kv).map (λc=>(c.1,(⟨c.2.toArray⟩:ByteArray))):=λa=>by simp[kvB,En.kb,En.kv,JR]
 rw[b,b,h]
theorem tH (h:cQ es):qU (kvB es):=EO.2 h
theorem pH(es):(kvB es).length=es.length:=by simp[kvB]
theorem qKq(c):(chE c).kb=(c.key,c.val):=by rfl
theorem vL (a:cQ es)(b:cF cs):cQ (bF es cs):=by rw[nQ];exact sN es cs a b
theorem qGl (h:cQ es)(i:cF cs)(a):a∈kvB (bF es cs)↔(∃c∈cs,c.gone=false/\a=(c.key,c.val))\/(a∈kvB es/\∀c∈cs,c.key≠a.1):=by
 simp only[kvB,AW,nQ,uI es cs h i];constructor
 .rintro⟨g,⟨c,b,d,rfl⟩|⟨f,e⟩,rfl⟩
  .exact .inl ⟨c,b,d,qKq c⟩
  .exact .inr ⟨⟨g,f,rfl⟩,e⟩
 .rintro(⟨c,b,d,rfl⟩|⟨⟨g,f,rfl⟩,e⟩)
  .exact⟨chE c,.inl ⟨c,b,d,rfl⟩,qKq c⟩
  .exact⟨g,.inr ⟨f,e⟩,rfl⟩
theorem qFo (j:cQ es)(a:cF cs)(c):kvB (bF es (dG cs c))=dP (kvB (bF es cs)) c:=by
 have i:=tH (vL j a);have n:=tH (vL j (nI a c));have o:∀g,g∈kvB (bF es (dG cs c))↔(c.gone=false/\g=(c.key,c.val))\/(g.1≠c.key/\g∈kvB (bF es cs)):=by
  intro g;rw[qGl j (nI a c),qGl j a];constructor
  .rintro(⟨d,e,b,rfl⟩|⟨m,h⟩)
   .rcases(gR a c d).1 e with rfl|⟨l,f⟩
    .grind
    grind
   .refine .inr ⟨λk=>h c ((gR a c c).2 (.inl rfl)) k.symm,.inr ⟨m,λd e=>?_⟩⟩
    by_cases f:d.key=c.key
    .rw[f];exact h c ((gR a c c).2 (.inl rfl))
    .exact h d ((gR a c d).2 (.inr ⟨e,f⟩))
  .rintro(⟨b,rfl⟩|⟨f,⟨d,e,b,rfl⟩|⟨m,h⟩⟩)
   .exact .inl ⟨c,(gR a c c).2 (.inl rfl),b,rfl⟩
   .exact .inl ⟨d,(gR a c d).2 (.inr ⟨e,f⟩),b,rfl⟩
   .refine .inr ⟨m,λd e=>?_⟩
    rcases(gR a c d).1 e with rfl|⟨l,_⟩
    .grind
    grind
 unfold dP;cases b:c.gone with
 |true =>
  rw[AU rfl];refine zI n (qEn i _) (λg=>?_);rw[o,b,Ll i,EH];grind
 |false =>
  rw[AR (by decide)];refine zI n (Ua i _ _) (λg=>?_);rw[o,b,qAg i];simp
theorem qH (b:cQ es):∀(a:List Ch) {cs:List Ch},cF cs->kvB (bF es (a.foldl dG cs))=a.foldl dP (kvB (bF es cs))/\cF (a.foldl dG cs)
 |[],cs,f=>⟨rfl,f⟩
 |c :: a,cs,f=>by
  have:=qH b a (nI f c);rw[qFo b f c]at this;exact this
theorem Ke:∀(d:List Ch) {cs:List Ch},cF cs->∀k,k∈(d.foldl dG cs).map (·.key)↔k∈d.map (·.key)\/k∈cs.map (·.key)
 |[],cs,g,k=>by simp
 |c :: d,cs,g,k=>by
  rw[LX,Ke d (nI g c) k];have:k∈(dG cs c).map (·.key)↔k=c.key\/k∈cs.map (·.key):=by
   simp only[AW];constructor
   .rintro⟨b,e,rfl⟩
    rcases(gR g c b).1 e with rfl|⟨f,_⟩
    .simp
    grind
   .rintro(rfl|⟨b,e,rfl⟩)
    .exact⟨c,(gR g c c).2 (.inl rfl),rfl⟩
    .by_cases hk:b.key=c.key
     .exact⟨c,(gR g c c).2 (.inl rfl),hk.symm⟩
     .exact⟨b,(gR g c b).2 (.inr ⟨e,hk⟩),rfl⟩
  grind
theorem Xw (h:cQ es)(k):rF (kvB es) k=(valOf es k).map (λl=>⟨l.toArray⟩):=by
 have c:=tH h;cases hv:valOf es k with
 |some l =>
  obtain⟨b,a,rfl,rfl⟩:=(iL h).1 hv;exact(sQ c).2 (AW.2 ⟨b,a,rfl⟩)
 |none =>
  cases hg:rF (kvB es) k with
  |none=>rfl
  |some v =>
   have⟨b,a,d⟩:=AW.1 ((sQ c).1 hg);have:=(iL h).2 ⟨b,a,by simpa[En.kb] using CI Prod.fst d,rfl⟩;grind
theorem Vl(es)(q:Sp):kvB (es.filter (λx=>q.has x.e.key))=(kvB es).filter (λx=>q.has x.1):=by
 simp[kvB,List.filter_map,JR,En.kb]
theorem Lf:∀{l:KV},qU l->∀(q:Sp),l.filter (λx=>q.has x.1)=(l.drop (rat l q.lo)).takeWhile (λx=>Sp.below q.hi x.1)
 |[],_,q=>by simp
 |x :: l,h,q=>by
  have⟨e,f⟩:=BG.1 h;cases hx:lt x.1 q.lo with
  |true =>
   have⟨c,_,_⟩:=Dz (l:=l) hx;rw[c,GC,Lf f];simp[Sp.has,le,hx]
  |false =>
   have⟨c,_⟩:=Dt (l:=l) hx;rw[c,FX,JE,GC];have j:∀a∈l,le q.lo a.1=true:=λa d=>gV (dZ (by simpa[le] using hx) (e a d));cases b:Sp.below q.hi x.1 with
   |false =>
    simp only[Sp.has,b,Bool.and_false,EV,KS];refine KE.2 (λa d=>?_);have k:Sp.below q.hi a.1=false:=by
     unfold Sp.below at b⊢;revert b;cases hn:isNil q.hi<;>simp;intro b;cases hq:lt a.1 q.hi
     .rfl
     .have:=eY (e a d) hq;grind
    simp[k]
   |true =>
    have i:rat l q.lo=0:=by
     cases l with
     |nil=>rfl
     |cons a l =>
      have:=j a (by simp);simp only[le,LM]at this;simp[rat,this]
    have g:=Lf f q;rw[i,FX]at g;rw[g];simp[Sp.has,b,le,hx]
theorem qIx (h:cQ es)(lo hi most):kvB ((es.filter (λx=>(⟨lo,hi⟩:Sp).has x.e.key)).take most)=sC (kvB es) lo hi most:=by
 have:=Vl es ⟨lo,hi⟩;unfold sC;rw[<-Lf (tH h) ⟨lo,hi⟩,<-this];simp[kvB,List.map_take]
theorem Er:∀{es:List En},(∀x∈es,x.e.size=(x.value.length:Int))->dJ (kvB es)=2+(2 * es.length+ovs es)
 |[],_=>rfl
 |x :: es,hz=>by
  have a:=Er (es:=es) (λf e=>hz f (by simp[e]));have d:=hz x (by simp);unfold dJ at a⊢;simp only[kvB,BH,cK,ovs,jB]at a⊢;have c:(En.kb x).2.size=x.value.length:=by rfl
  have b:x.ov=if 60<(En.kb x).2.size then ((En.kb x).2.size+239) / 240 else 0:=by
   unfold En.ov;grind
  omega
def fM(w:World)(S:Bl)(v:Value)(l:KV):Prop:=∃a c,v=.slice a l.length c/\l.length<=c/\aH w S a (aI l)/\((a=none/\c=0)\/∃b off,a=some (aD b off))
theorem fM.on (h:fM w S v l)(g:On S w w'):fM w' S v l:=by
 have⟨a,c,b,d,e,f⟩:=h;exact⟨a,c,b,d,e.on g,f⟩
theorem fM.m {S S':Bl}(h:fM w S v l)(g:∀k,S k->S' k):fM w S' v l:=by
 have⟨a,c,b,d,e,f⟩:=h;exact⟨a,c,b,d,e.m g,f⟩
theorem cC:∀(l:KV),(aI l).length=l.length * 2
 |[]=>rfl
 |x :: l=>by have:=cC l;simp only[aI,AK,jK,jB,jN]at this⊢;omega
theorem vU:∀{l:KV}{j:Nat} (a:j<l.length),(aI l)[j * 2]?=some (.t (l[j]).1)/\(aI l)[j * 2+1]?=some (.t (l[j]).2)
 |x :: l,0,_=>by simp[aI]
 |x :: l,j+1,h=>by
  have:=vU (l:=l) (j:=j) (by simpa using h);simp only[aI,AK,DI]at this⊢;rw[show(j+1) * 2=j * 2+2 by omega,show j * 2+2+1=j * 2+1+2 by omega];simpa using this
theorem iS(l m):aI (l++m)=aI l++aI m:=by simp[aI]
theorem cT(l):∀u∈aI l,u.oneCell'=true:=by
 intro u b;have⟨c,_,a⟩:=AX.1 b;simp only[AS,FK,KT]at a;rcases a with rfl|rfl<;>rfl
theorem aH.kv {a}(h:aH w S a (aI l))(k:j<l.length):∃b c,a=some (aD b c)/\S b/\w.c b (c+j * 2)=some (.t (l[j]).1)/\w.c b (c+j * 2+1)=some (.t (l[j]).2):=by
 have⟨d,f⟩:=vU k;rcases h with h|⟨b,c,g,i,e⟩
 .rw[h]at d;simp at d
 .exact⟨b,c,g,i,e _ _ d,e _ _ f⟩
theorem fM.own (h:w.ownsRow 0 71 2 v l.length (aI l)):fM w (λk=>v.ownBlock=some k) v l:=by
 obtain⟨a,c,rfl,e,f⟩:=bR h;refine⟨a,c,rfl,e,f,?_⟩;rcases jH h with⟨b,_⟩|⟨g,i,j,d,_⟩
 .simp only[AQ]at b;exact .inl ⟨b.1,b.2.2⟩
 .simp only[AQ]at d;exact .inr ⟨g,0,d.1⟩
def JT:=@fM.own
theorem aH.kvTake {a}(h:aH w S a (aI l))(i):aH w S a (aI (l.take i)):=by
 rcases h with h|⟨b,j,d,e,f⟩
 .refine .inl ?_
  have:l=[]:=by
   cases l with
   |nil=>rfl
   |cons x l=>simp[aI]at h
  rw[this];simp[aI]
 .refine .inr ⟨b,j,d,e,λg k c=>f g k ?_⟩
  rw[<-CD i l,iS];exact(BO (AD.1 c).1).t c
theorem aH.kvDrop {b d}(h:aH w S (some (aD b d)) (aI l))(i)(hi:i<=l.length){a:Option Addr}(g:i<l.length->a=some (aD b (d+i * 2))):aH w S a (aI (l.drop i)):=by
 rcases BR i l.length with p|m
 .rcases h with h|⟨s,t,e,j,k⟩
  .have:=cC l;rw[h]at this;simp at this;omega
  .simp only[BB,CC,DD]at e
   obtain⟨rfl,rfl⟩:=e;refine .inr ⟨b,d+i * 2,g p,j,λc r q=>?_⟩;have f:=k (i * 2+c) r (by
    have n:aI l=aI (l.take i)++aI (l.drop i):=by rw[<-iS,CD]
    have o:(aI (l.take i)).length=i * 2:=by rw[cC,AY];omega
    rw[n,BC (by omega),o,show i * 2+c-i * 2=c by omega];exact q)
   rw[show d+i * 2+c=d+(i * 2+c) by omega];exact f
 .refine .inl ?_
  rw[CW m];rfl
theorem fC{P ops f o a Q}(w)(t:o.guard=none)(g x T b zero z bytes)(A:o.op=.call {callee:=.builtin .append,args:=#[g,x],argTypes:=#[T,T]})(r:P.underlying T=some (.slice b))(hi:(P.info? b).map (λi=>(i.zero,i.size,i.bytes))=some (some zero,z,bytes))(G:zero.cells.size=z)(D:0<z)(v n xs)(C:a.eval g=v)(E:w.ownsRow 0 b z v n xs)(e m c S d)(F:a.eval x=.s e m c)(y:d.length=m * z)(q:aH w S e d)(k:∀u∈d,u.oneCell'=true)(l:n+m<=140737488355328)(s:(n+m) * bytes<=140737488355328)(h:∀v' w',fF b z v n xs d m w v' w'->wpList P ops Q f (a.put o.dst v') w'):wpList P ops Q (o :: f) a w:=by
 refine EU t λK p=>?_;have⟨v',w',B,j⟩:=Zo (P:=P) w T o.type b zero z bytes r hi G D v n xs E e m c S d y q k l s;unfold Oper.wp execOp;simp only[A,resolve,invoke,builtin,EG,DZ,DJ,DM,BH,DB,C,F,B];exact p _ _ (h v' w' j)
theorem qEy:∀{l:KV}{k:ByteArray}{j:Nat} (a:j<l.length),j<rat l k->lt (l[j]).1 k=true
 |x :: l,k,0,_,h=>by
  cases hx:lt x.1 k
  .rw[(Dt hx).1]at h;omega
  .exact hx
 |x :: l,k,j+1,a,h=>by
  cases hx:lt x.1 k
  .rw[(Dt hx).1]at h;omega
  .rw[(Dz hx).1]at h;exact qEy (l:=l) (by simpa using a) (by omega)
theorem Of:∀{l:KV}{k:ByteArray} (h:rat l k<l.length),lt (l[rat l k]).1 k=false
 |x :: l,k,h=>by
  cases hx:lt x.1 k with
  |false=>simp only[(Dt (l:=l) hx).1,CX];exact hx
  |true =>
   have a:rat l k<l.length:=by have:=(Dz (l:=l) hx).1;simp at h;omega
   have:=Of a;simp only[(Dz (l:=l) hx).1,DI];exact this
theorem My(v l key S w)(h:fM w S v l)(y:l.length<=1000000):
  cL 103 #[v,.t key] w λe w'=>e=.r (.i (rat l key:Nat))/\w'=w:=by
 obtain⟨a,c,rfl,s,j,_⟩:=h;have z:=vH l key;go_enter Tryz.func103,Tryz.ntmps103;go_wp2;go_loopw [5] (λg o=>∃d:Nat,g=.i d/\d<=rat l key/\o=w) (λg _=>rat l key-(intOf g).toNat)
 case atStart=>exact⟨0,rfl,AG _,rfl⟩
 case round =>
  obtain⟨d,rfl,x,n⟩:=hrel;subst n;rcases BR d l.length with f|t
  .obtain⟨b,A,rfl,r,p,q⟩:=j.kv f
   have k:(d:Int)<(l.length:Int):=by omega
   rcases BR d (rat l key) with m|u
   .have i:Op.bytesLess (l[d]).1.toList key.toList=true:=qEy f m
    go_wp2;exact⟨⟨d+1,by simp,by omega,trivial⟩,by simp[intOf];omega⟩
   .obtain rfl:d=rat l key:=by omega
    have i:Op.bytesLess (l[rat l key]).1.toList key.toList=false:=Of f;go_wp2;go_ret;exact⟨rfl,rfl⟩
  .obtain rfl:d=rat l key:=by omega
   have k:¬((rat l key:Nat):Int)<(l.length:Int):=by omega
   go_wp2;go_ret;exact⟨rfl,rfl⟩
theorem wD(v l S w)(h:fM w S v l)(i:l.length<=1000000):
  cL 58 #[v] w λe w'=>∃v',e=.r v'/\w'.ownsRow 0 71 2 v' l.length (aI l)/\bW w w'/\nW v' w:=by
 obtain⟨a,c,rfl,g,f,_⟩:=h;go_enter Tryz.func58,Tryz.ntmps58;go_wp2_with (at_builtin;apply fC w rfl (.tmp 4) (.tmp 5) 30 71 _ 2 32 rfl Tryz.underlying30 dA rfl (by decide) .n 0 [] rfl (AL _ _ _ _) a l.length c S (aI l) rfl (cC l) f (cT l) (by omega) (by omega);intro p j b);go_ret;refine⟨_,rfl,by simpa using b.row,b.fr.below (jU _) (λk d=>by simp[Value.ownBlock]at d),λk d=>(b.lies k d).elim (λh=>by simp[Value.ownBlock]at h) id⟩
theorem Iu(v l key i S w)(h:fM w S v l)(Y:lW S w)(a4:l.length<=1000000):
  cL 70 #[v,.t key,.t i] w λe w'=>∃v',e=.r v'/\w'.ownsRow 0 71 2 v' (oG l key i).length (aI (oG l key i))/\bW w w'/\nW v' w:=by
 have E:=My v l key S w h a4;obtain⟨a,c,rfl,a8,K,a0⟩:=h;have R:=vH l key;have I:Hid (∀s:rat l key<l.length,(l[rat l key]).1=key↔mY l key=true):=λs=>by unfold mY;rw[jQ s];simp
 have J:Hid (l.length<=rat l key->mY l key=false):=λh=>by unfold mY;rw[CE h];rfl
 have L:Hid (oG l key i=l.take (rat l key)++(key,i):: l.drop (rat l key+if mY l key=true then 1 else 0)):=rfl;have D:Hid ((l.take (rat l key)).length=rat l key):=by show _=_;rw[AY];omega
 generalize mY l key=ht at I J L;generalize rat l key=r at E R I J L D;have aa:r<=c:=by omega
 have H:Hid (∀X,bW w X->aH X S a (aI l)):=λX Z=>K.on (vV Z Y);have C:Hid (∀(j o:Value) (m g:World),fF 71 2 .n 0 [] (aI (l.take r)) r w j m->fF 71 2 j (0+r) ([]++aI (l.take r)) [.t key,.t i] 1 m o g->bW w g):=λj o m g d f=>by
  have B:=d.fr.below (jU _) (λk n=>by simp[Value.ownBlock]at n);exact B.t (f.fr.below B.size (λk n=>(d.lies k n).elim (λh=>by simp[Value.ownBlock]at h) id))
 have G:Hid (∀(q O:Nat) (j o v3:Value) (m g u:World),q=r+(if ht=true then 1 else 0)->O=l.length-q->fF 71 2 .n 0 [] (aI (l.take r)) r w j m->fF 71 2 j (0+r) ([]++aI (l.take r)) [.t key,.t i] 1 m o g->fF 71 2 o (0+r+1) ([]++aI (l.take r)++[.t key,.t i]) (aI (l.drop q)) O g v3 u->u.ownsRow 0 71 2 v3 (oG l key i).length (aI (oG l key i))/\bW w u/\nW v3 w):=by
  intro q O j o v3 m g u a5 a3 d f p;have B:=d.fr.below (jU _) (λk n=>by simp[Value.ownBlock]at n);have a6:nW j w:=λk n=>(d.lies k n).elim (λh=>by simp[Value.ownBlock]at h) id;have M:=C.o j o m g d f;have U:nW o w:=λk n=>(f.lies k n).elim (a6 k) (λh=>vJ B.size h);have T:=p.row;rw[a3]at T;rw[L.o,<-a5];refine⟨?_,M.t (p.fr.below M.size U),λk n=>(p.lies k n).elim (U k) (λh=>vJ M.size h)⟩;have W:(l.take r++(key,i):: l.drop q).length=0+r+1+(l.length-q):=by rw[jK,jB,D.o,BE];omega
  rw[W,iS];simpa[aI] using T
 go_enter Tryz.func70,Tryz.ntmps70;rcases a0 with⟨rfl,rfl⟩|⟨b,F,rfl⟩
 .obtain rfl:l=[]:=AH (by omega)
  obtain rfl:r=0:=by simpa using R
  have y:=J.o (AG _);go_wp2_with (first
   |(go_at_call 103;apply Calls.m E;rintro e w' ⟨rfl,N⟩;subst w')
   |(at_builtin;refine fC w rfl (.tmp 12) (.tmp 15) 30 71 _ 2 32 rfl Tryz.underlying30 dA rfl (by decide) .n 0 [] rfl (AL _ _ _ _) none 0 0 S (aI (([]:KV).take 0)) rfl (by rw[cC,show(([]:KV).take 0).length=0 from rfl]) (.inl rfl) (cT _) (by omega) (by omega) ?_;intro P m d;obtain⟨j,A,rfl⟩:=aG d.row)
   |(at_builtin;refine fQ m rfl (.tmp 17) (.tmp 21) 30 71 _ 2 32 rfl Tryz.underlying30 dA rfl (by decide) (.s j (0+0) A) (0+0) ([]++aI (([]:KV).take 0)) (by simp[Act.eval]) d.row [.t key,.t i] rfl rfl (by simp[Value.oneCell']) (by omega) (by omega) ?_;intro o g f;obtain⟨x,z,rfl⟩:=f.shape (by decide);have t:=H.o g (C.o _ _ _ _ d f))
   |(at_builtin;refine fC g rfl (.tmp 38) (.tmp 41) 30 71 _ 2 32 rfl Tryz.underlying30 dA rfl (by decide) (.q x (0+0+1) z) (0+0+1) ([]++aI (([]:KV).take 0)++[.t key,.t i]) (by simp[Act.eval]) f.row _ _ _ S (aI (([]:KV).drop 0)) rfl (by rw[cC,BE]<;>omega) (.inl rfl) (cT _) (by omega) (by omega) ?_;intro v3 u p))
  all_goals go_ret
  all_goals exact⟨_,rfl,G.o (0) _ _ _ _ _ _ _ (by rw[y];rfl) (by first|rfl|omega|(simp;omega)) d f p⟩
 .rcases BR r l.length with s|a1
  .have a2:(r:Int)<(l.length:Int):=by omega
   have ab:r+1<=c:=by omega
   have Q:Hid (∀X (s:r<l.length),aH X S (some (aD b F)) (aI l)->X.c b (F+r * 2)=some (.t (l[r]).1)):=λX s h=>by
    obtain⟨a7,o',e,_,B,_⟩:=h.kv s;simp only[BB,CC,DD]at e;rw[e.1,e.2];exact B
   by_cases n:(l[r]).1=key
   .have y:=(I.o s).1 n
    have ac:IntKind.i64.wrap ((r:Int)+1)=(r:Int)+1:=by rw[CS];omega
    go_wp2_with (first
     |(go_at_call 103;apply Calls.m E;rintro e w' ⟨rfl,N⟩;subst w')
     |(at_builtin;refine fC w rfl (.tmp 12) (.tmp 15) 30 71 _ 2 32 rfl Tryz.underlying30 dA rfl (by decide) .n 0 [] rfl (AL _ _ _ _) (some (aD b F)) r c S (aI (l.take r)) rfl (by rw[cC,D.o]) (K.kvTake _) (cT _) (by omega) (by omega) ?_;intro P m d;obtain⟨j,A,rfl⟩:=aG d.row)
     |(at_builtin;refine fQ m rfl (.tmp 17) (.tmp 21) 30 71 _ 2 32 rfl Tryz.underlying30 dA rfl (by decide) (.s j (0+r) A) (0+r) ([]++aI (l.take r)) (by simp[Act.eval]) d.row [.t key,.t i] rfl rfl (by simp[Value.oneCell']) (by omega) (by omega) ?_;intro o g f;obtain⟨x,z,rfl⟩:=f.shape (by decide);have t:=H.o g (C.o _ _ _ _ d f);have V:=(Q.o _ s t))
     |(at_builtin;refine fC g rfl (.tmp 38) (.tmp 41) 30 71 _ 2 32 rfl Tryz.underlying30 dA rfl (by decide) (.q x (0+r+1) z) (0+r+1) ([]++aI (l.take r)++[.t key,.t i]) (by simp[Act.eval]) f.row _ _ _ S (aI (l.drop (r+1))) rfl (by rw[cC,BE]<;>omega) (t.kvDrop (r+1) (by omega) (by first|(intro _;rfl)|(intro h;exact AR (by omega))|(intro h;exfalso;omega))) (cT _) (by omega) (by omega) ?_;intro v3 u p))
    all_goals go_ret
    all_goals exact⟨_,rfl,G.o (r+1) _ _ _ _ _ _ _ (by rw[y];rfl) (by first|rfl|omega|(simp;omega)) d f p⟩
   .have y:ht=false:=by cases ht with|false=>rfl|true=>exact absurd ((I.o s).2 rfl) n
    have a9:=DK.2 (λe=>n (iM e));go_wp2_with (first
     |(go_at_call 103;apply Calls.m E;rintro e w' ⟨rfl,N⟩;subst w')
     |(at_builtin;refine fC w rfl (.tmp 12) (.tmp 15) 30 71 _ 2 32 rfl Tryz.underlying30 dA rfl (by decide) .n 0 [] rfl (AL _ _ _ _) (some (aD b F)) r c S (aI (l.take r)) rfl (by rw[cC,D.o]) (K.kvTake _) (cT _) (by omega) (by omega) ?_;intro P m d;obtain⟨j,A,rfl⟩:=aG d.row)
     |(at_builtin;refine fQ m rfl (.tmp 17) (.tmp 21) 30 71 _ 2 32 rfl Tryz.underlying30 dA rfl (by decide) (.s j (0+r) A) (0+r) ([]++aI (l.take r)) (by simp[Act.eval]) d.row [.t key,.t i] rfl rfl (by simp[Value.oneCell']) (by omega) (by omega) ?_;intro o g f;obtain⟨x,z,rfl⟩:=f.shape (by decide);have t:=H.o g (C.o _ _ _ _ d f);have V:=(Q.o _ s t))
     |(at_builtin;refine fC g rfl (.tmp 38) (.tmp 41) 30 71 _ 2 32 rfl Tryz.underlying30 dA rfl (by decide) (.q x (0+r+1) z) (0+r+1) ([]++aI (l.take r)++[.t key,.t i]) (by simp[Act.eval]) f.row _ _ _ S (aI (l.drop (r))) rfl (by rw[cC,BE]<;>omega) (t.kvDrop (r) (by omega) (by first|(intro _;rfl)|(intro h;exact AR (by omega))|(intro h;exfalso;omega))) (cT _) (by omega) (by omega) ?_;intro v3 u p))
    all_goals go_ret
    all_goals exact⟨_,rfl,G.o (r) _ _ _ _ _ _ _ (by rw[y];rfl) (by first|rfl|omega|(simp;omega)) d f p⟩
  .have a2:¬(r:Int)<(l.length:Int):=by omega
   have y:=J.o a1;go_wp2_with (first
    |(go_at_call 103;apply Calls.m E;rintro e w' ⟨rfl,N⟩;subst w')
    |(at_builtin;refine fC w rfl (.tmp 12) (.tmp 15) 30 71 _ 2 32 rfl Tryz.underlying30 dA rfl (by decide) .n 0 [] rfl (AL _ _ _ _) (some (aD b F)) r c S (aI (l.take r)) rfl (by rw[cC,D.o]) (K.kvTake _) (cT _) (by omega) (by omega) ?_;intro P m d;obtain⟨j,A,rfl⟩:=aG d.row)
    |(at_builtin;refine fQ m rfl (.tmp 17) (.tmp 21) 30 71 _ 2 32 rfl Tryz.underlying30 dA rfl (by decide) (.s j (0+r) A) (0+r) ([]++aI (l.take r)) (by simp[Act.eval]) d.row [.t key,.t i] rfl rfl (by simp[Value.oneCell']) (by omega) (by omega) ?_;intro o g f;obtain⟨x,z,rfl⟩:=f.shape (by decide);have t:=H.o g (C.o _ _ _ _ d f))
    |(at_builtin;refine fC g rfl (.tmp 38) (.tmp 41) 30 71 _ 2 32 rfl Tryz.underlying30 dA rfl (by decide) (.q x (0+r+1) z) (0+r+1) ([]++aI (l.take r)++[.t key,.t i]) (by simp[Act.eval]) f.row _ _ _ S (aI (l.drop (r))) rfl (by rw[cC,BE]<;>omega) (t.kvDrop (r) (by omega) (by first|(intro _;rfl)|(intro h;exact AR (by omega))|(intro h;exfalso;omega))) (cT _) (by omega) (by omega) ?_;intro v3 u p))
   all_goals go_ret
   all_goals exact⟨_,rfl,G.o (r) _ _ _ _ _ _ _ (by rw[y];rfl) (by first|rfl|omega|(simp;omega)) d f p⟩
theorem Yg(v l key S w)(h:fM w S v l)(O:lW S w)(V:l.length<=1000000):
  cL 108 #[v,.t key] w λe w'=>∃v',e=.r v'/\w'.ownsRow 0 71 2 v' (rwo l key).length (aI (rwo l key))/\bW w w'/\nW v' w:=by
 have x:=My v l key S w h V;obtain⟨a,c,rfl,a0,D,Q⟩:=h;have J:=vH l key;have B:Hid (∀m:rat l key<l.length,(l[rat l key]).1=key↔mY l key=true):=λm=>by unfold mY;rw[jQ m];simp
 have C:Hid (l.length<=rat l key->mY l key=false):=λh=>by unfold mY;rw[CE h];rfl
 have E:Hid (rwo l key=l.take (rat l key)++l.drop (rat l key+if mY l key=true then 1 else 0)):=rfl;have t:Hid ((l.take (rat l key)).length=rat l key):=by show _=_;rw[AY];omega
 generalize mY l key=ht at B C E;generalize rat l key=r at x J B C E t;have a2:r<=c:=by omega
 have A:Hid (∀X,bW w X->aH X S a (aI l)):=λX P=>D.on (vV P O);have z:Hid (∀(q G:Nat) (i v3:Value) (g Y o:World),q=r+(if ht=true then 1 else 0)->G=l.length-q->fF 71 2 .n 0 [] (aI (l.take r)) r w i g->fF 71 2 i (0+r) ([]++aI (l.take r)) (aI (l.drop q)) G g v3 o->o.ownsRow 0 71 2 v3 (rwo l key).length (aI (rwo l key))/\bW w o/\nW v3 w):=by
  intro q G i v3 g Y o W U d j;have u:=d.fr.below (jU _) (λk f=>by simp[Value.ownBlock]at f);have L:nW i w:=λk f=>(d.lies k f).elim (λh=>by simp[Value.ownBlock]at h) id;have K:=j.row;rw[U]at K;rw[E.o,<-W];refine⟨?_,u.t (j.fr.below u.size L),λk f=>(j.lies k f).elim (L k) (λh=>vJ u.size h)⟩;have N:(l.take r++l.drop q).length=0+r+(l.length-q):=by rw[jK,t.o,BE];omega
  rw[N,iS];simpa[aI] using K
 go_enter Tryz.func108,Tryz.ntmps108;rcases Q with⟨rfl,rfl⟩|⟨b,y,rfl⟩
 .obtain rfl:l=[]:=AH (by omega)
  obtain rfl:r=0:=by simpa using J
  have p:=C.o (AG _);go_wp2_with (first
   |(go_at_call 103;apply Calls.m x;rintro e w' ⟨rfl,F⟩;subst w')
   |(at_builtin;refine fC w rfl (.tmp 10) (.tmp 13) 30 71 _ 2 32 rfl Tryz.underlying30 dA rfl (by decide) .n 0 [] rfl (AL _ _ _ _) none 0 0 S (aI (([]:KV).take 0)) rfl (by rw[cC,show(([]:KV).take 0).length=0 from rfl]) (.inl rfl) (cT _) (by omega) (by omega) ?_;intro H g d;obtain⟨i,s,rfl⟩:=aG d.row;have n:=A.o g (d.fr.below (jU _) (λk f=>by simp[Value.ownBlock]at f)))
   |(at_builtin;refine fC g rfl (.tmp 30) (.tmp 33) 30 71 _ 2 32 rfl Tryz.underlying30 dA rfl (by decide) (.s i (0+0) s) (0+0) ([]++aI (([]:KV).take 0)) (by simp[Act.eval]) d.row _ _ _ S (aI (([]:KV).drop 0)) rfl (by rw[cC,BE]<;>omega) (.inl rfl) (cT _) (by omega) (by omega) ?_;intro v3 o j))
  all_goals go_ret
  all_goals exact⟨_,rfl,z.o (0) _ _ _ _ w _ (by rw[p];rfl) (by first|rfl|omega|(simp;omega)) d j⟩
 .rcases BR r l.length with m|R
  .have T:(r:Int)<(l.length:Int):=by omega
   have a3:r+1<=c:=by omega
   have I:Hid (∀X (m:r<l.length),aH X S (some (aD b y)) (aI l)->X.c b (y+r * 2)=some (.t (l[r]).1)):=λX m h=>by
    obtain⟨Z,o',e,_,u,_⟩:=h.kv m;simp only[BB,CC,DD]at e;rw[e.1,e.2];exact u
   by_cases f:(l[r]).1=key
   .have p:=(B.o m).1 f
    have a4:IntKind.i64.wrap ((r:Int)+1)=(r:Int)+1:=by rw[CS];omega
    go_wp2_with (first
     |(go_at_call 103;apply Calls.m x;rintro e w' ⟨rfl,F⟩;subst w')
     |(at_builtin;refine fC w rfl (.tmp 10) (.tmp 13) 30 71 _ 2 32 rfl Tryz.underlying30 dA rfl (by decide) .n 0 [] rfl (AL _ _ _ _) (some (aD b y)) r c S (aI (l.take r)) rfl (by rw[cC,t.o]) (D.kvTake _) (cT _) (by omega) (by omega) ?_;intro H g d;obtain⟨i,s,rfl⟩:=aG d.row;have n:=A.o g (d.fr.below (jU _) (λk f=>by simp[Value.ownBlock]at f));have M:=(I.o _ m n))
     |(at_builtin;refine fC g rfl (.tmp 30) (.tmp 33) 30 71 _ 2 32 rfl Tryz.underlying30 dA rfl (by decide) (.s i (0+r) s) (0+r) ([]++aI (l.take r)) (by simp[Act.eval]) d.row _ _ _ S (aI (l.drop (r+1))) rfl (by rw[cC,BE]<;>omega) (n.kvDrop (r+1) (by omega) (by first|(intro _;rfl)|(intro h;exact AR (by omega))|(intro h;exfalso;omega))) (cT _) (by omega) (by omega) ?_;intro v3 o j))
    all_goals go_ret
    all_goals exact⟨_,rfl,z.o (r+1) _ _ _ _ w _ (by rw[p];rfl) (by first|rfl|omega|(simp;omega)) d j⟩
   .have p:ht=false:=by cases ht with|false=>rfl|true=>exact absurd ((B.o m).2 rfl) f
    have a1:=DK.2 (λe=>f (iM e));go_wp2_with (first
     |(go_at_call 103;apply Calls.m x;rintro e w' ⟨rfl,F⟩;subst w')
     |(at_builtin;refine fC w rfl (.tmp 10) (.tmp 13) 30 71 _ 2 32 rfl Tryz.underlying30 dA rfl (by decide) .n 0 [] rfl (AL _ _ _ _) (some (aD b y)) r c S (aI (l.take r)) rfl (by rw[cC,t.o]) (D.kvTake _) (cT _) (by omega) (by omega) ?_;intro H g d;obtain⟨i,s,rfl⟩:=aG d.row;have n:=A.o g (d.fr.below (jU _) (λk f=>by simp[Value.ownBlock]at f));have M:=(I.o _ m n))
     |(at_builtin;refine fC g rfl (.tmp 30) (.tmp 33) 30 71 _ 2 32 rfl Tryz.underlying30 dA rfl (by decide) (.s i (0+r) s) (0+r) ([]++aI (l.take r)) (by simp[Act.eval]) d.row _ _ _ S (aI (l.drop (r))) rfl (by rw[cC,BE]<;>omega) (n.kvDrop (r) (by omega) (by first|(intro _;rfl)|(intro h;exact AR (by omega))|(intro h;exfalso;omega))) (cT _) (by omega) (by omega) ?_;intro v3 o j))
    all_goals go_ret
    all_goals exact⟨_,rfl,z.o (r) _ _ _ _ w _ (by rw[p];rfl) (by first|rfl|omega|(simp;omega)) d j⟩
  .have T:¬(r:Int)<(l.length:Int):=by omega
   have p:=C.o R;go_wp2_with (first
    |(go_at_call 103;apply Calls.m x;rintro e w' ⟨rfl,F⟩;subst w')
    |(at_builtin;refine fC w rfl (.tmp 10) (.tmp 13) 30 71 _ 2 32 rfl Tryz.underlying30 dA rfl (by decide) .n 0 [] rfl (AL _ _ _ _) (some (aD b y)) r c S (aI (l.take r)) rfl (by rw[cC,t.o]) (D.kvTake _) (cT _) (by omega) (by omega) ?_;intro H g d;obtain⟨i,s,rfl⟩:=aG d.row;have n:=A.o g (d.fr.below (jU _) (λk f=>by simp[Value.ownBlock]at f)))
    |(at_builtin;refine fC g rfl (.tmp 30) (.tmp 33) 30 71 _ 2 32 rfl Tryz.underlying30 dA rfl (by decide) (.s i (0+r) s) (0+r) ([]++aI (l.take r)) (by simp[Act.eval]) d.row _ _ _ S (aI (l.drop (r))) rfl (by rw[cC,BE]<;>omega) (n.kvDrop (r) (by omega) (by first|(intro _;rfl)|(intro h;exact AR (by omega))|(intro h;exfalso;omega))) (cT _) (by omega) (by omega) ?_;intro v3 o j))
   all_goals go_ret
   all_goals exact⟨_,rfl,z.o (r) _ _ _ _ w _ (by rw[p];rfl) (by first|rfl|omega|(simp;omega)) d j⟩
theorem Tn(n)(h : -9223372036854775808<=n/\n<=9223372036854775807):wrap64 n=n:=by unfold wrap64;omega
def kU(x:ByteArray×ByteArray):Nat:=2+if 60<x.2.size then (x.2.size+239) / 240 else 0
theorem Uf(l):dJ l=2+tot kU l:=rfl
theorem qAk (h:x.2.size<=400):kU x<=4:=by unfold kU;split<;>omega
theorem Es:∀(l:KV),(∀x∈l,x.2.size<=400)->tot kU l<=4 * l.length
 |[],_=>jU _
 |x :: l,h=>by
  have c:=qAk (h x (by simp));have d:=Es l (λb a=>h b (by simp[a]));simp only[cK,jB];omega
theorem qBp(v ver l S w)(h:fM w S v l)(B:lW S w)(O:l.length<=1000000)(t:∀x∈l,x.2.size<=400):
  cL 109 #[.agg #[v,.i ver]] w λe w'=>e=.r (.i (dJ l:Nat))/\bW w w':=by
 obtain⟨a,c,rfl,K,z,_⟩:=h;obtain⟨f,s,q,G,-⟩:=al1 w (.cells #[.s a l.length c,.i ver] 32);have⟨R,U⟩:=bY G;have u:Hid (∀d,d<=l.length->tot kU (l.take d)<=4 * d):=λd C=>by
  have:=Es (l.take d) (λx E=>t x (DC E));rw[AY]at this;omega
 go_enter Tryz.func109,Tryz.ntmps109;go_wp2;go_loopw [3,4] (λn p F=>∃d:Nat,p=.i d/\d<=l.length/\n=.i ((2+tot kU (l.take d):Nat):Int)/\F=f) (λ_ p _=>l.length-(intOf p).toNat)
 case atStart=>exact⟨0,rfl,AG _,rfl,rfl⟩
 case round =>
  obtain⟨d,rfl,C,rfl,D⟩:=hrel;subst D;rcases BR d l.length with o|L
  .obtain⟨b,Q,rfl,J,H,I⟩:=(z.on (vV q B)).kv o
   have M:(d:Int)<(l.length:Int):=by omega
   have g:=lP kU l d o;have P:(l[d]).2.size<=400:=t _ (AA o);have m:=u d (by omega);have⟨T,j⟩:=nM (tot kU (l.take d));rw[j]at g m⊢;by_cases h6:60<(l[d]).2.size
   .have y:(60:Int)<((l[d]).2.size:Int):=by omega
    have i:Hid (wrap64 (wrap64 (2+(T:Int)+2)+(((l[d]).2.size:Int)+239) / 240)=((2+tot kU (l.take (d+1)):Nat):Int)):=by
     show _=_;rw[g];unfold kU;rw[AU h6,Tn (2+(T:Int)+2) (by omega),Tn _ (by omega)];omega
    clear g j m;go_wp2;exact⟨⟨d+1,by simp,by omega,by rw[i.o],trivial⟩,by simp[intOf];omega⟩
   .have y:¬(60:Int)<((l[d]).2.size:Int):=by omega
    have i:Hid (wrap64 (2+(T:Int)+2)=((2+tot kU (l.take (d+1)):Nat):Int)):=by
     show _=_;rw[g];unfold kU;rw[AR h6,Tn _ (by omega)];omega
    clear g j m;go_wp2;exact⟨⟨d+1,by simp,by omega,by rw[i.o],trivial⟩,by simp[intOf];omega⟩
  .obtain rfl:d=l.length:=by omega
   have r:Hid ((2+tot kU (l.take l.length):Nat)=dJ l):=by show _=_;rw[BK];rfl
   generalize 2+tot kU (l.take l.length)=N at r⊢;go_wp2;go_ret;exact⟨by rw[r.o];rfl,q⟩
theorem Uc(v ver l S w)(h:fM w S v l)(m:lW S w)(p:l.length<=1000000):
  cL 102 #[.agg #[v,.i ver]] w λe w'=>∃v',e=.r v'/\w'.ownsRow 0 71 2 v' l.length (aI l)/\bW w w'/\nW v' w:=by
 obtain⟨b,f,d,q,-⟩:=al1 w (.cells #[v,.i ver] 32);obtain⟨s,t⟩:=bY q;have i:=wD v l S b (h.on (vV d m)) p;obtain⟨a,c,rfl,_⟩:=h;go_enter Tryz.func102,Tryz.ntmps102;go_wp2_with (go_at_call 58;apply Calls.m i;rintro e r ⟨v',rfl,j,g,o⟩);go_ret;exact⟨_,rfl,j,d.t (g.m d.size),λk n=>vJ d.size (o k n)⟩
theorem Iy(v v' l S S' w)(h:fM w S v l)(h':fM w S' v' l)(hn:l.length<=1000000):
  cL 63 #[v,v'] w λe w'=>e=.r (.bool true)/\bW w w':=by
 obtain⟨a,c,rfl,Q,E,_⟩:=h;obtain⟨J,R,rfl,I,s,_⟩:=h';have A:(((l.length:Int)) != (l.length:Int))=false:=by simp
 go_enter Tryz.func63,Tryz.ntmps63;go_wp2;go_loopw [5] (λi wr=>∃j:Nat,i=.i j/\j<=l.length/\Hid (bW w wr/\aH wr S a (aI l)/\aH wr S' J (aI l))) (λi _=>l.length-(intOf i).toNat)
 case atStart=>exact⟨0,rfl,AG _,AC _ _,E,s⟩
 case round =>
  obtain⟨j,rfl,T,y⟩:=hrel;rcases BR j l.length with q|F
  .have⟨L,g,f⟩:=y.o
   obtain⟨b,o,rfl,N,D,M⟩:=g.kv q;obtain⟨z,d,rfl,C,G,K⟩:=f.kv q;have H:(j:Int)<(l.length:Int):=by omega
   go_wp2;go_region_held3 (λX=>X.c b (o+j * 2)=some (.t (l[j]).1)/\X.c b (o+j * 2+1)=some (.t (l[j]).2)/\X.c z (d+j * 2)=some (.t (l[j]).1)/\X.c z (d+j * 2+1)=some (.t (l[j]).2))
    (exact⟨D,M,G,K⟩)
    (fail)
   all_goals go_wp2
   all_goals
    have u:∀Z:Bl,On Z wr wr.drew:=λZ=>⟨rfl,rfl,rfl,jU _,λ_ _=>rfl⟩;exact⟨⟨j+1,by simp,by omega,L.drew,g.on (u S),f.on (u S')⟩,by simp[intOf];omega⟩
  .obtain rfl:j=l.length:=by omega
   go_wp2;go_ret;exact⟨rfl,y.1⟩
theorem rQ(k w):
  cL 68 #[.t k] w λe w'=>e=.r (.bool (decide (1<=k.size/\k.size<=24)))/\w'=w:=by
 by_cases h1:1<=k.size
 .have a:(1:Int)<=(k.size:Int):=by omega
  go_enter Tryz.func68,Tryz.ntmps68;go_wp2;refine BI (v:=.bool (decide ((k.size:Int)<=24))) ?_ rfl ⟨by rw[show decide (1<=k.size/\k.size<=24)=decide ((k.size:Int)<=24) from LR.2 (by omega)],rfl⟩;simp[results,Tryz.results68,go_sem]
 .have a:¬(1:Int)<=(k.size:Int):=by omega
  go_enter Tryz.func68,Tryz.ntmps68;go_wp2;refine BI (v:=.bool false) ?_ rfl ⟨rfl,rfl⟩;simp[results,Tryz.results68,go_sem]
theorem xS(k w):
  cL 69 #[.t k] w λe w'=>e=.r (.bool (decide (k.size<=400)))/\w'=w:=by
 go_enter Tryz.func69,Tryz.ntmps69;go_wp2;refine BI (v:=.bool (decide ((k.size:Int)<=400))) ?_ rfl ⟨by rw[show decide (k.size<=400)=decide ((k.size:Int)<=400) from LR.2 (by omega)],rfl⟩;simp[results,Tryz.results69,go_sem]
structure RT where
 num:Int
 wr:Bool
 bg:KV
 bv:Int
 l:KV
 ch:List Ch
 oth:List ByteArray
 vb:Value
 vl:Value
 vc:Value
 vo:Value
abbrev RT.cells(t:RT):List Value:=[.int .i64 t.num,.bool t.wr,t.vb,.int .i64 t.bv,t.vl,t.vc,t.vo]
variable {a:List RT} {t:RT}
structure RM where
 f:Value
 x:Value
 vn:Value
 nv:Int
 va:Value
 av:Int
 ov:Value
 last:Int
 now:KV
 ah:KV
 ts:List RT
 oth:KV
 p0:Value
 p1:Value
 p2:Value
 p3:Value
 p4:Value
 p5:Value
 p6:Value
 p7:Value
 p8:Value
 p9:Value
abbrev RM.obj(M:RM):Obj:=.cells #[M.f,M.x,M.vn,.int .i64 M.nv,M.va,.int .i64 M.av,M.ov,.int .i64 M.last,M.p0,M.p1,M.p2,M.p3,M.p4,M.p5,M.p6,M.p7,M.p8,M.p9] 43
variable {M:RM}
def fpX(t:RT):Bl:=λk=>t.vc.ownBlock=some k\/t.vo.ownBlock=some k
structure TxR (w:World) (K:Bl) (t:RT):Prop where
 bg:fM w K t.vb t.bg
 l:fM w K t.vl t.l
 ch:w.ownsRow 0 131 3 t.vc t.ch.length (t.ch.flatMap Ch.cells)
 oth:w.ownsRow 0 9 1 t.vo t.oth.length (t.oth.map .string)
def Kv2(w:World)(K:Bl)(M:RM):Prop:=fM w K M.va M.ah/\fM w K M.p0 M.oth
theorem Kv2.on (h:Kv2 w K M)(g:On K w w'):Kv2 w' K M:=⟨h.1.on g,h.2.on g⟩
theorem Kv2.m {K K':Bl}(h:Kv2 w K M)(g:∀k,K k->K' k):Kv2 w K' M:=⟨h.1.m g,h.2.m g⟩
structure aY (w:World) (K:Bl) (q:Nat) (M:RM):Prop where
 box:w.heap[q]?=some M.obj
 row:w.ownsRow 0 119 7 M.ov M.ts.length (M.ts.flatMap RT.cells)
 now:fM w K M.vn M.now
 ah:Kv2 w K M
 each:∀t∈M.ts,TxR w K t
 apart:M.ts.Pairwise (λa b=>∀k,fpX a k->¬fpX b k)
 kp:∀k,K k->k<w.heap.size/\k≠q/\M.ov.ownBlock≠some k/\∀t∈M.ts,¬fpX t k
def fpR(q:Nat)(M:RM):Bl:=λk=>k=q\/M.ov.ownBlock=some k\/∃t∈M.ts,fpX t k
theorem TxR.on (h:TxR w K t)(a:On K w w')(b:On (fpX t) w w'):TxR w' K t :=
 ⟨h.bg.on a,h.l.on a,aS h.ch b (λc a=>.inl a),aS h.oth b (λc a=>.inr a)⟩
theorem TxR.lies (h:TxR w K t):∀k,fpX t k->k<w.heap.size:=by
 rintro k (a|a)
 .exact aK h.ch a
 .exact aK h.oth a
theorem aY.on (h:aY w K q M)(b:On (Bl.or K (fpR q M)) w w'):aY w' K q M:=by
 have a:=b.m (λc a=>.inl a);exact⟨b.heap h.box (.inr (.inl rfl)),aS h.row b (λc a=>.inr (.inr (.inl a))),h.now.on a,h.ah.on a,λe d=>(h.each e d).on a (b.m (λc a=>.inr (.inr (.inr ⟨e,d,a⟩)))),h.apart,λc a=>⟨jY (h.kp c a).1 b.size,(h.kp c a).2⟩⟩
theorem aY.lies (h:aY w K q M):∀k,Bl.or K (fpR q M) k->k<w.heap.size:=by
 rintro k (a|rfl|a|⟨c,b,a⟩)
 .exact(h.kp k a).1
 .exact(gL h.box)
 .exact aK h.row a
 .exact(h.each c b).lies k a
theorem aY.below (h:aY w K q M)(a:bW w w'):aY w' K q M:=h.on (vV a h.lies)
theorem dE {β a b g i j k l m n o c d e f p q r s t}(h:cW w β #[a,b,g,i,j,k,l,m,n,o,c,d,e,f,p,q,r,s] t):
  w.c β 0=some a/\w.c β 1=some b/\w.c β 2=some g/\w.c β 3=some i/\w.c β 4=some j/\w.c β 5=some k/\w.c β 6=some l/\w.c β 7=some m/\w.c β 8=some n/\w.c β 9=some o/\w.c β 10=some c/\w.c β 11=some d/\w.c β 12=some e/\w.c β 13=some f:=by
 simp[World.cell?,h]
theorem Dr:∀{l:List RT}{j:Nat} (a:j<l.length) {i:Nat}{u:Value},i<7->(l[j]).cells[i]?=some u->(l.flatMap RT.cells)[j * 7+i]?=some u
 |x :: l,0,_,i,u,hi,hu=>by
  rw[AK,EB,DS,BO (by simpa using hi)];exact hu
 |x :: l,j+1,h,i,u,hi,hu=>by
  have:=Dr (l:=l) (j:=j) (by simpa using h) hi hu;rw[AK,BC (by simp;omega),show(j+1) * 7+i-(RT.cells x).length=j * 7+i by simp;omega];exact this
theorem aY.tx (h:aY w K q M)(m:M.ts[j]?=some t):∃g c,M.ov=.q g M.ts.length c/\M.ts.length<=c/\w.c g (j * 7)=some (.i t.num)/\w.c g (j * 7+1)=some (.bool t.wr)/\w.c g (j * 7+2)=some t.vb/\w.c g (j * 7+3)=some (.i t.bv)/\w.c g (j * 7+4)=some t.vl/\w.c g (j * 7+5)=some t.vc/\w.c g (j * 7+6)=some t.vo:=by
 obtain⟨n,rfl⟩:=AD.1 m;have⟨g,c,e,x,_⟩:=wW h.row (by omega);have k:M.ts.length<=c:=by
  have⟨p,s,b,v,_⟩:=bR h.row;rw[e]at b;simp only[AQ,CV]at b;omega
 have a:∀d f,d<7->(M.ts[j]).cells[d]?=some f->w.c g (j * 7+d)=some f:=λd f l o=>by
  have⟨r,b,_,_,i⟩:=xD (e▸h.row) (Dr n l o);simp only[BB,CC,DD]at b;rw[b];exact i
 exact⟨g,c,e,k,a 0 _ (by decide) rfl,a 1 _ (by decide) rfl,a 2 _ (by decide) rfl,a 3 _ (by decide) rfl,a 4 _ (by decide) rfl,a 5 _ (by decide) rfl,a 6 _ (by decide) rfl⟩
def sP(ts:List RT)(x:Int):Int:=match ts.findIdx? (λt=>t.num==x) with
 |some i=>i
 |none=>-1
theorem Oa {x}(h:j<a.length)(d:(a[j].num==x)=true)(c:∀m (b:m<a.length),m<j->(a[m].num==x)=false):sP a x=j:=by
 unfold sP;rw[GQ.2 ⟨h,d,λm b=>by simpa using c m (by omega) b⟩]
theorem qAn {x}(c:∀m (b:m<a.length),(a[m].num==x)=false):sP a x = -1:=by
 unfold sP;rw[MQ.2 (λe d=>by obtain⟨m,b,rfl⟩:=AV d;exact c m b)]
theorem yS (h:aY w K q M)(x)(J:M.ts.length<=8):
  cL 66 #[.p q 2,.i x] w λe w'=>e=.r (.i (sP M.ts x))/\w'=w:=by
 have⟨I,A,B,C,D,E,s,F,_⟩:=dE h.box;have l:Hid (∀a (j:a<M.ts.length),∃g c,M.ov=.q g M.ts.length c/\M.ts.length<=c/\w.c g (a * 7)=some (.i (M.ts[a]).num)):=λa j=>by
  have⟨g,c,e,o,m,_⟩:=h.tx (jQ j);exact⟨g,c,e,o,m⟩
 have⟨L,N,u⟩:=aG h.row;rw[u]at s l;go_enter Tryz.func66,Tryz.ntmps66;go_wp2;go_loopw [5] (λk y=>∃a:Nat,k=.i a/\a<=M.ts.length/\y=w/\Hid (∀b (d:b<M.ts.length),b<a->(M.ts[b].num==x)=false)) (λk _=>M.ts.length-(intOf k).toNat)
 case atStart=>exact⟨0,rfl,AG _,rfl,λb d t=>absurd t (GN _)⟩
 case round =>
  obtain⟨a,rfl,j,v,f⟩:=hrel;subst v;rcases BR a M.ts.length with p|z
  .have⟨g,c,e,o,m⟩:=l a p
   simp only[AQ,CV]at e;obtain⟨rfl,rfl⟩:=e;have H:(a:Int)<(M.ts.length:Int):=by omega
   cases hx:(M.ts[a]).num==x with
   |true =>
    have i:Hid (sP M.ts x=a):=Oa p hx f;go_wp2;go_ret;exact⟨by rw[i.o];rfl,rfl⟩
   |false =>
    have r:Hid (∀b (d:b<M.ts.length),b<a+1->(M.ts[b].num==x)=false):=λb d G=>by
     rcases BR b a with n|n
     .exact f b d n
     .obtain rfl:b=a:=by omega
      exact hx
    go_wp2;exact⟨⟨a+1,by simp,by omega,trivial,r⟩,by simp[intOf];omega⟩
  .have i:Hid (sP M.ts x = -1):=qAn (λb d=>f b d (by omega))
   obtain rfl:a=M.ts.length:=by omega
   go_wp2;go_ret;exact⟨by rw[i.o];rfl,rfl⟩
def cD(ts:List RT)(x:Int):Option (Nat×RT)->Prop
 |none=>sP ts x = -1
 |some (j,t)=>ts[j]?=some t/\sP ts x=j
theorem Dx(a x):∃o,cD a x o:=by
 cases h:a.findIdx? (λc=>c.num==x) with
 |none=>exact⟨none,by show sP a x = -1;unfold sP;rw[h]⟩
 |some i =>
  have⟨b,_⟩:=GQ.1 h;exact⟨some (i,a[i]),jQ b,by unfold sP;rw[h]⟩
def eO(o:Option (Nat×RT))(key:ByteArray):ByteArray×Int:=match o with
 |none=>(⟨#[]⟩,3)
 |some (_,t)=>if 1<=key.size/\key.size<=24 then (match rF t.l key with|none=>(⟨#[]⟩,5)|some v=>(v,0)) else (⟨#[]⟩,1)
theorem Dw (h:aY w K q M)(x key o)(A:cD M.ts x o)(G:M.ts.length<=8)(F:∀t∈M.ts,t.l.length<=1000000):
  cL 59 #[.p q 2,.i x,.t key] w λe w'=>e=.r (.tuple #[.t (eO o key).1,.i (eO o key).2])/\w'=w:=by
 have i:=yS h x G;have j:=rQ key w;cases o with
 |none =>
  rw[show sP M.ts x = -1 from A]at i;go_enter Tryz.func59,Tryz.ntmps59;go_wp2_with (first
   |(go_at_call 66;apply Calls.m i;rintro e w' ⟨rfl,d⟩;subst w')
   |(go_at_call 68;apply Calls.m j;rintro e w' ⟨rfl,d⟩;subst w'))
  go_ret2;exact⟨rfl,rfl⟩
 |some p =>
  have⟨l,t⟩:=p;have⟨u,E⟩:=A;rw[E]at i;have a3:=(AD.1 u).1;have y:=BL u;have a4:¬(l:Int)<0:=by omega
  by_cases hk:1<=key.size/\key.size<=24
  .rw[CU hk]at j
   have⟨J,L,N,O,P,Q,B,R,_⟩:=dE h.box;have⟨g,c,e,a1,S,T,U,V,C,W,X⟩:=h.tx u;rw[e]at B;have m:=My t.vl t.l key K w (h.each t y).l (F t y);have⟨a,a8,I,a6,D,_⟩:=(h.each t y).l;rw[I]at C m;have H:=vH t.l key;have n:Hid (eO (some (l,t)) key=match rF t.l key with|none=>(⟨#[]⟩,5)|some v=>(v,0)):=by show _=_;simp only[eO];rw[AU hk]
   have s:Hid (∀k:rat t.l key<t.l.length,rF t.l key=if (t.l[rat t.l key]).1=key then some (t.l[rat t.l key]).2 else none):=λk=>by unfold rF mY;rw[jQ k];simp
   have z:Hid (t.l.length<=rat t.l key->rF t.l key=none):=λh=>by unfold rF mY;rw[CE h];rfl
   generalize rat t.l key=r at m H s z;rcases BR r t.l.length with k|a2
   .obtain⟨b,a9,rfl,a0,Y,Z⟩:=D.kv k
    have a7:((r:Int)==(t.l.length:Int))=false:=by simp;omega
    by_cases he:(t.l[r]).1=key
    .have f:Hid (eO (some (l,t)) key=((t.l[r]).2,0)):=by show _=_;rw[n.o,s.o k,AU he]
     go_enter Tryz.func59,Tryz.ntmps59;go_wp2_with (first
      |(go_at_call 66;apply Calls.m i;rintro e w' ⟨rfl,d⟩;subst w')
      |(go_at_call 68;apply Calls.m j;rintro e w' ⟨rfl,d⟩;subst w')
      |(go_at_call 103;apply Calls.m m;rintro e w' ⟨rfl,d⟩;subst w'))
     go_ret2;exact⟨by rw[f.o];rfl,rfl⟩
    .have f:Hid (eO (some (l,t)) key=(⟨#[]⟩,5)):=by show _=_;rw[n.o,s.o k,AR he]
     have a5:=DK.2 (λe=>he (iM e));go_enter Tryz.func59,Tryz.ntmps59;go_wp2_with (first
      |(go_at_call 66;apply Calls.m i;rintro e w' ⟨rfl,d⟩;subst w')
      |(go_at_call 68;apply Calls.m j;rintro e w' ⟨rfl,d⟩;subst w')
      |(go_at_call 103;apply Calls.m m;rintro e w' ⟨rfl,d⟩;subst w'))
     go_ret2;exact⟨by rw[f.o];rfl,rfl⟩
   .obtain rfl:r=t.l.length:=by omega
    have f:Hid (eO (some (l,t)) key=(⟨#[]⟩,5)):=by show _=_;rw[n.o,z.o (jU _)]
    go_enter Tryz.func59,Tryz.ntmps59;go_wp2_with (first
     |(go_at_call 66;apply Calls.m i;rintro e w' ⟨rfl,d⟩;subst w')
     |(go_at_call 68;apply Calls.m j;rintro e w' ⟨rfl,d⟩;subst w')
     |(go_at_call 103;apply Calls.m m;rintro e w' ⟨rfl,d⟩;subst w'))
    go_ret2;exact⟨by rw[f.o];rfl,rfl⟩
  .rw[EP hk]at j
   have f:Hid (eO (some (l,t)) key=(⟨#[]⟩,1)):=by show _=_;simp only[eO];rw[AR hk]
   go_enter Tryz.func59,Tryz.ntmps59;go_wp2_with (first
    |(go_at_call 66;apply Calls.m i;rintro e w' ⟨rfl,d⟩;subst w')
    |(go_at_call 68;apply Calls.m j;rintro e w' ⟨rfl,d⟩;subst w'))
   go_ret2;exact⟨by rw[f.o];rfl,rfl⟩
def cZ(o:Option (Nat×RT))(lo hi:ByteArray)(most:Int):KV×Int:=match o with
 |none=>([],3)
 |some (_,t)=>if lo.size<=24/\hi.size<=24/\0<=most then (sC t.l lo hi most.toNat,0) else ([],1)
theorem Xy{c:Type}{p}:∀{D:List c}{m most:Nat},(∀x∈D.take m,p x=true)->m<=most->(D.length<=m\/m=most\/∃h:m<D.length,p D[m]=false)->(D.takeWhile p).take most=D.take m
 |[],m,most,_,_,_=>by simp
 |x :: D,0,most,_,hm,hs=>by
  rcases hs with h|h|⟨h,a⟩
  .simp at h
  .subst h;simp
  .have:p x=false:=a
   simp[JE,this]
 |x :: D,m+1,most,ha,hm,hs=>by
  obtain⟨b,rfl⟩:∃b,most=b+1:=⟨most-1,by omega⟩;have d:p x=true:=ha x (by simp);have f:=Xy (D:=D) (m:=m) (most:=b) (λg e=>ha g (by simp[e])) (by omega) (by
   rcases hs with h|h|⟨h,a⟩
   .exact .inl (by simpa using h)
   .exact .inr (.inl (by omega))
   .exact .inr (.inr ⟨by simpa using h,by simpa using a⟩))
  simp[JE,d,f]
theorem Iw (h:aY w K q M)(x lo hi most o)(ho:cD M.ts x o)(hn:M.ts.length<=8)(hl:∀t∈M.ts,t.l.length<=1000000):
  cL 62 #[.p q 2,.i x,.t lo,.t hi,.i most] w λe w'=>∃v,e=.r (.tuple #[v,.i (cZ o lo hi most).2])/\w'.ownsRow 0 71 2 v (cZ o lo hi most).1.length (aI (cZ o lo hi most).1)/\bW w w'/\nW v w:=by
 have L:=yS h x hn;cases o with
 |none =>
  rw[show sP M.ts x = -1 from ho]at L;go_enter Tryz.func62,Tryz.ntmps62;go_wp2_with (go_at_call 66;apply Calls.m L;rintro e w' ⟨rfl,hw⟩;subst w');go_ret2;exact⟨_,rfl,AL _ _ _ _,AC _ _,λk d=>by simp[Value.ownBlock]at d⟩
 |some p =>
  obtain⟨j,t⟩:=p;obtain⟨Y,I⟩:=ho;rw[I]at L;have ae:j<M.ts.length:=(AD.1 Y).1;have f:t∈M.ts:=BL Y;have ad:¬(j:Int)<0:=by omega
  by_cases d:lo.size<=24/\hi.size<=24/\0<=most
  .obtain⟨k1,k2,k3⟩:=d
   obtain⟨mo,rfl⟩:∃mo:Nat,most=mo:=⟨most.toNat,by omega⟩;have i1:¬(24:Int)<(lo.size:Int):=by omega
   have i2:¬(24:Int)<(hi.size:Int):=by omega
   have i3:¬(mo:Int)<0:=by omega
   obtain⟨b0,b1,b2,b3,b4,b5,b6,b7,_⟩:=dE h.box;obtain⟨g,c,e,hc,c0,c1,c2,c3,c4,c5,c6⟩:=h.tx Y;rw[e]at b6;have X:=My t.vl t.l lo K w (h.each t f).l (hl t f);have af:=hl t f;obtain⟨a,lc,a8,ag,hR,_⟩:=(h.each t f).l;rw[a8]at c4 X;have aa:=vH t.l lo;have HG:Hid (cZ (some (j,t)) lo hi (mo:Int)=(sC t.l lo hi mo,0)):=by show _=_;simp only[cZ];rw[AU ⟨k1,k2,k3⟩];rfl
   have HS:Hid (sC t.l lo hi mo=((t.l.drop (rat t.l lo)).takeWhile (λx=>Sp.below hi x.1)).take mo):=rfl;have a9:=λk d=>(h.kp k d).1;generalize rat t.l lo=r at X aa HS;clear h Y I e;have B:Hid ((t.l.drop r).length=t.l.length-r):=BE;go_enter Tryz.func62,Tryz.ntmps62;go_wp2_with (first
    |(go_at_call 66;apply Calls.m L;rintro e w' ⟨rfl,hw⟩;subst w')
    |(go_at_call 103;apply Calls.m X;rintro e w' ⟨rfl,hw⟩;subst w'))
   go_loopw [13,15] (λa1 i wr=>∃(m:Nat) (C:Option Addr) (H:Nat),i=.i ((r+m:Nat):Int)/\r+m<=t.l.length/\m<=mo/\a1=.s C m H/\Hid (wr.ownsRow 0 71 2 (.s C m H) m (aI ((t.l.drop r).take m))/\bW w wr/\(∀k,(Value.slice C m H).ownBlock=some k->w.heap.size<=k)/\(∀x∈(t.l.drop r).take m,Sp.below hi x.1=true)/\aH wr K a (aI t.l))) (λ_ i _=>t.l.length-(intOf i).toNat)
   case atStart=>exact⟨0,none,0,by simp,by omega,AG _,rfl,by simpa[aI] using AL _ _ _ _,AC _ _,λk d=>by simp[Value.ownBlock]at d,by simp,hR⟩
   case round =>
    obtain⟨m,C,H,rfl,ac,a5,rfl,HH⟩:=hrel;clear X L b0 b1 b2 b3 b4 b5 b6 b7 c0 c1 c2 c3 c4 c5 c6;have u:Hid ((t.l.length<=r+m\/m=mo\/∃h:r+m<t.l.length,Sp.below hi (t.l[r+m]).1=false)->∃v,Value.slice C m H=v/\wr.ownsRow 0 71 2 v (cZ (some (j,t)) lo hi (mo:Int)).1.length (aI (cZ (some (j,t)) lo hi (mo:Int)).1)/\bW w wr/\nW v w):=by
     intro hs;obtain⟨ho,R,z,y,_⟩:=HH.o;have e:=Xy (p:=λx:ByteArray×ByteArray=>Sp.below hi x.1) y a5 (by
      rcases hs with h|h|⟨h,hp⟩
      .exact .inl (by rw[B.o];omega)
      .exact .inr (.inl h)
      .exact .inr (.inr ⟨by rw[B.o];omega,by rw[GS];exact hp⟩))
     have el:((t.l.drop r).take m).length=m:=by rw[AY,B.o];omega
     refine⟨_,rfl,?_,R,z⟩;rw[HG.o,HS.o,e];show wr.ownsRow 0 _ 2 _ ((t.l.drop r).take m).length _;rw[el];exact ho
    have J:Hid ((cZ (some (j,t)) lo hi (mo:Int)).2=0):=by show _=_;rw[HG.o]
    rcases BR (r+m) t.l.length with S|ab
    .have a2:((r+m:Nat):Int)<(t.l.length:Int):=by omega
     rcases BR m mo with a3|a3
     .obtain⟨E,R,z,y,a7⟩:=HH.o
      obtain⟨b,Z,rfl,hb,d0,d1⟩:=a7.kv S;have a4:(m:Int)<(mo:Int):=by omega
      have V:Hid (Sp.below hi (t.l[r+m]).1=true->∀N w3,fF 71 2 (.s C m H) m (aI ((t.l.drop r).take m)) [.t (t.l[r+m]).1,.t (t.l[r+m]).2] 1 wr N w3->w3.ownsRow 0 71 2 N (m+1) (aI ((t.l.drop r).take (m+1)))/\bW w w3/\(nW N w)/\(∀x∈(t.l.drop r).take (m+1),Sp.below hi x.1=true)/\aH w3 K (some (aD b Z)) (aI t.l)):=by
       intro hp N w3 A;have hd:m<(t.l.drop r).length:=by rw[B.o];omega
       have et:(t.l.drop r).take (m+1)=(t.l.drop r).take m++[t.l[r+m]]:=by rw[AN hd,GS]
       have U:bW w w3:=R.t (A.fr.below R.size (λk d=>z k d));refine⟨by rw[et,iS];exact A.row,U,λk d=>(A.lies k d).elim (z k) (λh=>vJ R.size h),?_,hR.on (vV U a9)⟩;rw[et];intro x O;rcases AO.1 O with O|O
       .exact y x O
       .rw[AJ]at O;subst O;exact hp
      have a0:IntKind.i64.wrap (((r+m:Nat):Int)+1)=((r+(m+1):Nat):Int):=by rw[CS];omega
      cases hn0:isNil hi with
      |true =>
       have n:Sp.below hi (t.l[r+m]).1=true:=by simp[Sp.below,hn0]
       have a6:hi.toList.isEmpty=true:=hn0;go_wp2_with (at_builtin;refine fQ wr rfl (.tmp 71) (.tmp 76) 30 71 _ 2 32 rfl Tryz.underlying30 dA rfl (by decide) (.s C m H) m (aI ((t.l.drop r).take m)) rfl E [.t (t.l[r+m]).1,.t (t.l[r+m]).2] rfl rfl (by simp[Value.oneCell']) (by omega) (by omega) ?_;intro N w3 T;obtain⟨g3,k3,rfl⟩:=T.shape (by decide));exact⟨⟨m+1,_,_,by simp;omega,by omega,by omega,rfl,V.o n _ _ T⟩,by simp[intOf];omega⟩
      |false =>
       have a6:hi.toList.isEmpty=false:=hn0;cases hlq:lt (t.l[r+m]).1 hi with
       |true =>
        have n:Sp.below hi (t.l[r+m]).1=true:=by simp[Sp.below,hlq]
        have hL:Op.bytesLess (t.l[r+m]).1.toList hi.toList=true:=hlq;go_wp2_with (at_builtin;refine fQ wr rfl (.tmp 71) (.tmp 76) 30 71 _ 2 32 rfl Tryz.underlying30 dA rfl (by decide) (.s C m H) m (aI ((t.l.drop r).take m)) rfl E [.t (t.l[r+m]).1,.t (t.l[r+m]).2] rfl rfl (by simp[Value.oneCell']) (by omega) (by omega) ?_;intro N w3 T;obtain⟨g3,k3,rfl⟩:=T.shape (by decide));exact⟨⟨m+1,_,_,by simp;omega,by omega,by omega,rfl,V.o n _ _ T⟩,by simp[intOf];omega⟩
       |false =>
        have n:Sp.below hi (t.l[r+m]).1=false:=by simp[Sp.below,hlq,hn0]
        have hL:Op.bytesLess (t.l[r+m]).1.toList hi.toList=false:=hlq;clear a0;go_wp2;go_ret2;obtain⟨v,Q,W⟩:=u.o (.inr (.inr ⟨S,n⟩));exact⟨v,by rw[<-Q,J.o];rfl,W⟩
     .have a4:¬(m:Int)<(mo:Int):=by omega
      go_wp2;go_ret2;obtain⟨v,Q,W⟩:=u.o (.inr (.inl (by omega)));exact⟨v,by rw[<-Q,J.o];rfl,W⟩
    .have a2:¬((r+m:Nat):Int)<(t.l.length:Int):=by omega
     go_wp2;go_ret2;obtain⟨v,Q,W⟩:=u.o (.inl ab);exact⟨v,by rw[<-Q,J.o];rfl,W⟩
  .have HA:Hid (cZ (some (j,t)) lo hi most=([],1)):=by show _=_;simp only[cZ];rw[AR d]
   have HB:(24:Int)<(lo.size:Int)\/(¬(24:Int)<(lo.size:Int)/\(24:Int)<(hi.size:Int))\/(¬(24:Int)<(lo.size:Int)/\¬(24:Int)<(hi.size:Int)/\most<0):=by omega
   rw[HA.o];rcases HB with i1|⟨i1,i2⟩|⟨i1,i2,i3⟩
   all_goals go_enter Tryz.func62,Tryz.ntmps62
   all_goals go_wp2_with (go_at_call 66;apply Calls.m L;rintro e w' ⟨rfl,hw⟩;subst w')
   all_goals go_ret2
   all_goals exact⟨_,rfl,AL _ _ _ _,AC _ _,λk d=>by simp[Value.ownBlock]at d⟩
def jD(o:Option (Nat×RT)):Int:=match o with
 |none=>-1
 |some (j,_)=>j
theorem cD.idx {x o}(h:cD a x o):sP a x=jD o:=by
 cases o with
 |none=>exact h
 |some p=>exact h.2
theorem gS (h:aY w K q M){x o}(c:cD M.ts x o)(b:M.ts.length<=8)(X)(a:bW w X):
  cL 66 #[.p q 2,.i x] X λe w'=>e=.r (.i (jD o))/\w'=X:=by
 rw[<-c.idx];exact yS (h.below a) x b
def bU(o:Option (Nat×RT)):Int:=match o with
 |none=>3
 |some (_,t)=>if t.wr=true then 0 else 4
def pD(o:Option (Nat×RT))(key:ByteArray):Int:=if bU o=0/\¬(1<=key.size/\key.size<=24) then 1 else bU o
theorem Iz (h:aY w K q M)(x o)(d:cD M.ts x o)(c:M.ts.length<=8):
  cL 75 #[.p q 2,.i x] w λe w'=>e=.r (.bool o.isSome)/\w'=w:=by
 have a:=gS h d c w (AC _ _);cases o with
 |none =>
  go_enter Tryz.func75,Tryz.ntmps75;go_wp2_with (go_at_call 66;apply Calls.m a;rintro e w' ⟨rfl,f⟩;subst w');go_ret;exact⟨rfl,rfl⟩
 |some p =>
  have b:(0:Int)<=jD (some p):=by show(0:Int)<=(p.1:Int);omega
  generalize jD (some p)=i at a b;go_enter Tryz.func75,Tryz.ntmps75;go_wp2_with (go_at_call 66;apply Calls.m a;rintro e w' ⟨rfl,f⟩;subst w');refine BI (v:=.bool true) ?_ rfl ⟨rfl,rfl⟩;simp[results,Tryz.results75,go_sem,b]
theorem kX (h:aY w K q M)(x o)(i:cD M.ts x o):
  cL 67 #[.p q 2,.i (jD o)] w λe w'=>e=.r (.i (bU o))/\w'=w:=by
 cases o with
 |none =>
  go_enter Tryz.func67,Tryz.ntmps67;simp only[jD];go_wp2;go_ret;exact⟨rfl,rfl⟩
 |some p =>
  have⟨b,j⟩:=p;have a:=i.1;have D:=(AD.1 a).1;have E:¬(b:Int)<0:=by omega
  have⟨k,l,m,n,r,s,d,t,_⟩:=dE h.box;have⟨g,c,e,C,u,f,v,y,z,A,B⟩:=h.tx a;rw[e]at d;show cL _ #[.p q 2,.i (b:Int)] w _;simp only[bU];cases hw:j.wr
  all_goals rw[hw]at f
  all_goals go_enter Tryz.func67,Tryz.ntmps67
  all_goals go_wp2
  all_goals go_ret
  all_goals exact⟨rfl,rfl⟩
theorem Ui (h:aY w K q M)(x key o)(j:cD M.ts x o)(k:M.ts.length<=8):
  cL 72 #[.p q 2,.i x,.t key] w λe w'=>e=.r (.i (pD o key))/\w'=w:=by
 have g:=gS h j k w (AC _ _);have f:=kX h x o j;have b:=rQ key w;have c:Hid (pD o key=if bU o=0/\¬(1<=key.size/\key.size<=24) then 1 else bU o):=rfl;generalize pD o key=za at c⊢;generalize bU o=z at f c;generalize jD o=i at g f;by_cases hz:z=0
 .have l:(z==0)=true:=by simpa using hz
  by_cases hk:1<=key.size/\key.size<=24
  .rw[CU hk]at b
   have d:Hid (za=z):=by show _=_;rw[c.o,AR (λh=>h.2 hk)]
   go_enter Tryz.func72,Tryz.ntmps72;go_wp2_with (first
    |(go_at_call 66;apply Calls.m g;rintro e w' ⟨rfl,a⟩;subst w')
    |(go_at_call 67;apply Calls.m f;rintro e w' ⟨rfl,a⟩;subst w')
    |(go_at_call 68;apply Calls.m b;rintro e w' ⟨rfl,a⟩;subst w'))
   go_ret;exact⟨by rw[d.o];simp_all,rfl⟩
  .rw[EP hk]at b
   have d:Hid (za=1):=by show _=_;rw[c.o,AU ⟨hz,hk⟩]
   go_enter Tryz.func72,Tryz.ntmps72;go_wp2_with (first
    |(go_at_call 66;apply Calls.m g;rintro e w' ⟨rfl,a⟩;subst w')
    |(go_at_call 67;apply Calls.m f;rintro e w' ⟨rfl,a⟩;subst w')
    |(go_at_call 68;apply Calls.m b;rintro e w' ⟨rfl,a⟩;subst w'))
   go_ret;exact⟨by rw[d.o];rfl,rfl⟩
 .have l:(z==0)=false:=by simpa using hz
  have d:Hid (za=z):=by show _=_;rw[c.o,AR (λh=>hz h.1)]
  generalize decide (1<=key.size/\key.size<=24)=kb at b;go_enter Tryz.func72,Tryz.ntmps72;go_wp2_with (first
   |(go_at_call 66;apply Calls.m g;rintro e w' ⟨rfl,a⟩;subst w')
   |(go_at_call 67;apply Calls.m f;rintro e w' ⟨rfl,a⟩;subst w')
   |(go_at_call 68;apply Calls.m b;rintro e w' ⟨rfl,a⟩;subst w'))
  go_ret;exact⟨by rw[d.o];rfl,rfl⟩
theorem Lp (h:aY w K q M)(x j t)(f:cD M.ts x (some (j,t)))(n:M.ts.length<=8):
  cL 76 #[.p q 2,.i x] w λe w'=>e=.r (.bool (decide (0<t.ch.length)))/\bW w w':=by
 have i:Hid (∀X,bW w X->cL 66 #[.p q 2,.i x] X λe w'=>e=.r (.i (j:Int))/\w'=X):=λX k=>gS h f n X k;have d:=f.1;have L:j<M.ts.length:=(AD.1 d).1;have m:t∈M.ts:=BL d;have⟨s,u,y,z,A,B,a,C,_⟩:=dE h.box;have⟨g,c,e,J,D,E,F,G,H,b,I⟩:=h.tx d;rw[e]at a;have⟨p,r,o⟩:=aG (h.each t m).ch;rw[o]at b;have l:decide ((0:Int)<(t.ch.length:Int))=decide (0<t.ch.length):=LR.2 (by omega);go_enter Tryz.func76,Tryz.ntmps76;go_wp2;go_region_held3 (λX=>X.c q 6=some (.q g M.ts.length c)/\X.c g (j * 7+5)=some (.s p t.ch.length r))
  ((first|exact⟨a,b⟩|(simp[a,b])))
  ((go_at_call 66;(with_reducible refine Calls.m (i.o _ ?_) ?_);exact(AC _ w).drew;rintro e w' ⟨rfl,N⟩;subst w'))
 all_goals go_wp2
 all_goals refine BI (v:=.bool (decide ((0:Int)<(t.ch.length:Int)))) ?_ rfl ⟨by rw[l],(AC _ w).drew⟩
 all_goals simp[results,Tryz.results76,go_sem]
theorem qIe {β a b c d e f g t}(h:cW w β #[a,b,c,d,e,f,g] t):w.c β 0=some a/\w.c β 1=some b/\w.c β 2=some c/\w.c β 3=some d/\w.c β 4=some e/\w.c β 5=some f/\w.c β 6=some g:=by
 simp[World.cell?,h]
theorem qCo{a β:Type}(f:β->a->β)(b)(l:List a)(m)(h:m<l.length):(l.take (m+1)).foldl f b=f ((l.take m).foldl f b) l[m]:=by
 rw[AN h,GV];rfl
theorem qEx(l c):(dP l c).length<=l.length+1:=by
 have:=vH l c.key;have a:rat l c.key<=Hn l c.key:=by unfold Hn;omega
 unfold dP rwo oG
 grind
theorem qR:∀(a:List Ch) (l:KV),(a.foldl dP l).length<=l.length+a.length
 |[],l=>jU _
 |c :: a,l=>by have b:=qEx l c;have d:=qR a (dP l c);grind
abbrev Cy(w:World)(q j:Nat)(M:RM)(t:RT)(g c:Nat):Prop:=w.cell? (aD q 6)=some (.slice (some (aD g 0)) M.ts.length c)/\w.cell? (aD g (j * 7))=some (.int .i64 t.num)/\w.cell? (aD g (j * 7+1))=some (.bool t.wr)/\w.cell? (aD g (j * 7+2))=some t.vb/\w.cell? (aD g (j * 7+3))=some (.int .i64 t.bv)/\w.cell? (aD g (j * 7+4))=some t.vl/\w.cell? (aD g (j * 7+5))=some t.vc/\w.cell? (aD g (j * 7+6))=some t.vo
theorem aY.txCells (h:aY w K q M)(f:M.ts[j]?=some t):∃g c,M.ts.length<=c/\∀X,bW w X->Cy X q j M t g c:=by
 have⟨g,c,d,k,_⟩:=h.tx f;refine⟨g,c,k,λX i=>?_⟩;have e:=h.below i;have⟨m,l,a,_,r⟩:=e.tx f;rw[d]at a;simp only[AQ,BB,CC,DD,CV]at a;obtain⟨rfl,rfl⟩:=a;have b:=(dE e.box).2.2.2.2.2.2.1;grind
theorem vI (h:aY w K q M)(x j t)(ho:cD M.ts x (some (j,t)))(hn:M.ts.length<=8)(hl:M.now.length+t.ch.length<=1000000)(hv:M.nv<1000000000/\0<=M.nv):
  cL 79 #[.p q 2,.i x] w λe w'=>∃v,e=.r (.agg #[v,.i (M.nv+1)])/\w'.ownsRow 0 71 2 v (t.ch.foldl dP M.now).length (aI (t.ch.foldl dP M.now))/\bW w w'/\nW v w:=by
 have HF:Hid (∀X,bW w X->cL 66 #[.p q 2,.i x] X λe w'=>e=.returned (.i (j:Int))/\w'=X):=λX hX=>gS h ho hn X hX;have hj:=ho.1;have hjl:j<M.ts.length:=(AD.1 hj).1;have hmem:t∈M.ts:=BL hj;obtain⟨ba,bc,e1,_⟩:=(h.each t hmem).bg;obtain⟨la,lc,e2,_⟩:=(h.each t hmem).l;obtain⟨ca,cc,e3⟩:=aG (h.each t hmem).ch;obtain⟨oa,oc,e4⟩:=aG (h.each t hmem).oth;obtain⟨num,wr,bg,bv,tl,ch,oth,vb,vl,vc,vo⟩:=t;dsimp only at e1 e2 e3 e4 hl⊢;subst e1 e2 e3 e4;obtain⟨g,c,hc,hTX⟩:=h.txCells hj;obtain⟨W1,hW1,B1,-⟩:=al1 w (.cells #[.n,.i 0] 32);have HTX:Hid (∀X,bW W1 X->Cy X q j M ⟨num,wr,bg,bv,tl,ch,oth,.slice ba bg.length bc,.slice la tl.length lc,.slice ca ch.length cc,.slice oa oth.length oc⟩ g c):=λX hX=>hTX X (B1.t (hX.m B1.size));have B10:bW W1 W1:=AC _ _;have HZ:Hid (W1.heap.size=w.heap.size+1):=by show _=_;rw[<-hW1];simp
 have HB2:Hid (∀X,bW W1 X->X.c q 2=some M.vn/\X.c q 3=some (.i M.nv)):=λX hX=>by
  have:=dE (h.below (B1.t (hX.m B1.size))).box;exact⟨this.2.2.1,this.2.2.2.1⟩
 have HCP:Hid (∀X,bW W1 X->cL 58 #[M.vn] X λe w'=>∃v',e=.returned v'/\w'.ownsRow 0 71 2 v' M.now.length (aI M.now)/\bW X w'/\∀k,v'.ownBlock=some k->X.heap.size<=k):=λX hX=>wD M.vn M.now K X (h.below (B1.t (hX.m B1.size))).now (by omega);have HX0:Hid (W1.heap[w.heap.size]?=some (.cells #[.n,.i 0] 32)):=hW1▸aC w _;have HCH:Hid (∀X,bW W1 X->aH X (λk=>(Value.slice ca ch.length cc).ownBlock=some k) ca (ch.flatMap Ch.cells)):=λX hX=>by
  obtain⟨a',c',e',_,hrow⟩:=bR ((h.below (B1.t (hX.m B1.size))).each _ hmem).ch;simp only[AQ,CV]at e';obtain⟨e1,e2⟩:=e';subst e1;exact hrow
 have HLN:Hid (∀m,m<=ch.length->((ch.take m).foldl dP M.now).length<=1000000):=λm hm=>by
  have:=qR (ch.take m) M.now;rw[AY]at this;omega
 obtain⟨na,nc,hvn,_⟩:=h.now;rw[hvn]at HB2 HCP;go_enter Tryz.func79,Tryz.ntmps79;go_wp2;obtain⟨b6,c0,c1,c2,c3,c4,c5,c6⟩:=HTX.o W1 B10;go_region_held3 (λX=>X.c q 6=some (.q g M.ts.length c)/\X.c g (j * 7)=some (.i num)/\X.c g (j * 7+1)=some (.bool wr)/\X.c g (j * 7+2)=some (.slice ba bg.length bc)/\X.c g (j * 7+3)=some (.i bv)/\X.c g (j * 7+4)=some (.slice la tl.length lc)/\X.c g (j * 7+5)=some (.slice ca ch.length cc)/\X.c g (j * 7+6)=some (.slice oa oth.length oc))
  ((refine HTX.o _ ?_;(repeat (first|exact B10|(refine JM ?_)|(refine KY ?_ (by first|omega|(simp;omega)|exact jU _) _)|(refine JQ ?_ (by first|omega|(simp;omega)|exact jU _) _)))))
  ((go_at_call 66;(with_reducible refine Calls.m (HF.o _ ?_) ?_);(first|exact B1.drew|exact(B1.alloc B1.size _).drew|exact B1.drew.alloc B1.size _);rintro e w' ⟨rfl,hw⟩;subst w'))
 all_goals
  obtain⟨W2,hW2⟩:=nM ((W1.alloc (.cells #[.i num,.bool wr,.slice ba bg.length bc,.i bv,.slice la tl.length lc,.slice ca ch.length cc,.slice oa oth.length oc] 119)).drew);have B2:bW W1 W2:=hW2▸(B10.alloc (jU _) _).drew;have x2:W2.heap[W1.heap.size]?=some (.cells #[.i num,.bool wr,.slice ba bg.length bc,.i bv,.slice la tl.length lc,.slice ca ch.length cc,.slice oa oth.length oc] 119):=by rw[<-hW2,GX];exact aC W1 _
  have b2:=HB2.o W2 B2;have hC:=HCP.o W2 B2;clear b6 c0 c1 c2 c3 c4 c5 c6;go_wp2_with (go_at_call 58;apply Calls.m hC;rintro e W3 ⟨v3,rfl,hO3,hB3,hl3⟩;obtain⟨a3,d3,rfl⟩:=aG hO3);have HX3:Hid (∀X,bW W3 X->X.heap[W1.heap.size]?=some (.cells #[.i num,.bool wr,.slice ba bg.length bc,.i bv,.slice la tl.length lc,.slice ca ch.length cc,.slice oa oth.length oc] 119)/\aH X (λk=>(Value.slice ca ch.length cc).ownBlock=some k) ca (ch.flatMap Ch.cells)/\X.c q 3=some (.i M.nv)/\X.heap[w.heap.size]?=some (.cells #[.n,.i 0] 32)/\bW w X):=by
   intro X hX;have l2:=(gL x2);have hX2:bW W2 X:=hB3.t (hX.m hB3.size);have hX1:bW W1 X:=B2.t (hX2.m B2.size);exact⟨(hX2.block _ l2).t x2,HCH.o X hX1,(HB2.o X hX1).2,(hX1.block _ (by have:=HZ.o;omega)).t HX0.o,B1.t (hX1.m B1.size)⟩
  have z3:=hB3.size;have z2:=B2.size;clear hC hW2 x2 b2;go_loopw [6,7] (λlv i wr=>∃(m:Nat) (a:Option Addr) (d:Nat),i=.i m/\m<=ch.length/\lv=.slice a ((ch.take m).foldl dP M.now).length d/\Hid (wr.ownsRow 0 71 2 (.slice a ((ch.take m).foldl dP M.now).length d) ((ch.take m).foldl dP M.now).length (aI ((ch.take m).foldl dP M.now))/\bW W3 wr/\(∀k,(Value.slice a ((ch.take m).foldl dP M.now).length d).ownBlock=some k->w.heap.size<=k))) (λ_ i _=>ch.length-(intOf i).toNat)
  case atStart=>exact⟨0,a3,d3,rfl,AG _,rfl,hO3,AC _ _,λk hk=>by have:=hl3 k hk;have:=B1.size;omega⟩
  case round =>
   obtain⟨m,va,vd,rfl,hm,rfl,HH⟩:=hrel;obtain⟨hO,hBw,hli⟩:=HH.o;obtain⟨xx,hrc,hq3,x0,hBX⟩:=HX3.o wr hBw;obtain⟨y0,y1,y2,y3,y4,y5,y6⟩:=qIe xx;have hlen:=HLN.o m hm;rcases BR m ch.length with hlt|hge
   .have hji:(m:Int)<(ch.length:Int):=by omega
    obtain⟨cb,co,rfl,hcb,d0,d1,d2⟩:=hrc.ch hlt;have hs:=qCo dP M.now ch m hlt;obtain⟨Lm,hLm⟩:=nM ((ch.take m).foldl dP M.now);rw[hLm]at hO hli hlen hs⊢;have HLS:Hid ((ch.take (m+1)).foldl dP M.now=dP Lm ch[m]):=hs;obtain⟨ck,cv,cg,hcm⟩:∃ck cv cg,ch[m]=⟨ck,cv,cg⟩:=⟨_,_,_,rfl⟩;rw[hcm]at d0 d1 d2 HLS;dsimp only at d0 d1 d2;obtain⟨W4,hW4,B4,x4,-⟩:=al1 wr (.cells #[.string ck,.string cv,.bool cg] 131);obtain⟨u0,u1,u2⟩:=eC x4;have hO4:=CH (w:=wr) hO (.cells #[.string ck,.string cv,.bool cg] 131);rw[hW4]at hO4;have hKv:=fM.own hO4;have HEND:Hid (∀(v':Value) (X:World),X.ownsRow 0 71 2 v' (dP Lm ⟨ck,cv,cg⟩).length (aI (dP Lm ⟨ck,cv,cg⟩))->bW W4 X->(∀k,v'.ownBlock=some k->W4.heap.size<=k)->∃(m':Nat) (a:Option Addr) (d:Nat),Value.i ((m:Int)+1)=.i m'/\m'<=ch.length/\v'=.slice a ((ch.take m').foldl dP M.now).length d/\Hid (X.ownsRow 0 71 2 (.slice a ((ch.take m').foldl dP M.now).length d) ((ch.take m').foldl dP M.now).length (aI ((ch.take m').foldl dP M.now))/\bW W3 X/\(∀k,(Value.slice a ((ch.take m').foldl dP M.now).length d).ownBlock=some k->w.heap.size<=k))):=by
     intro v' X hO' hB' hl';obtain⟨a',d',rfl⟩:=aG hO';refine⟨m+1,a',d',by simp,by omega,by rw[HLS.o],?_⟩;rw[HLS.o];exact⟨hO',hBw.t ((B4.t (hB'.m B4.size)).m hBw.size),λk hk=>by have:=hl' k hk;have:=B4.size;have:=hBX.size;omega⟩
    clear hs hLm hcm y0 y1 y2 y3 y4 y6 hq3 x0 hrc;cases cg with
    |true =>
     have hW:=Yg (.slice va Lm.length vd) Lm ck _ W4 hKv (λk hk=>aK hO4 hk) hlen;go_wp2_with (go_at_call 108;apply Calls.m hW;rintro e X5 ⟨v5,rfl,hO5,hB5,hl5⟩);exact⟨HEND.o v5 X5 hO5 hB5 hl5,by simp[intOf];omega⟩
    |false =>
     have ufr:=aA x4;have hset:W4.setCell (aD wr.heap.size 2) (.bool false)=W4:=dI x4 rfl;have hW:=Iu (.slice va Lm.length vd) Lm ck cv _ W4 hKv (λk hk=>aK hO4 hk) hlen;go_wp2_with (go_at_call 70;apply Calls.m hW;rintro e X5 ⟨v5,rfl,hO5,hB5,hl5⟩);exact⟨HEND.o v5 X5 hO5 hB5 hl5,by simp[intOf];omega⟩
   .obtain rfl:m=ch.length:=by omega
    have HLT:Hid ((ch.take ch.length).foldl dP M.now=ch.foldl dP M.now):=by show _=_;rw[BK]
    generalize (ch.take ch.length).foldl dP M.now=Lm at hO hli HLT⊢;obtain⟨z0,z1⟩:=bY x0;have zfr:=aA x0;have hji:¬((ch.length:Nat):Int)<(ch.length:Int):=by omega
    have hvw:IntKind.i64.wrap (M.nv+1)=M.nv+1:=by rw[CS];omega
    have xf:=aB (aB x0 0 (.slice va Lm.length vd)) 1 (.i (M.nv+1));have FF:Fr (Bl.one w.heap.size) wr ((wr.setCell (aD w.heap.size 0) (.slice va Lm.length vd)).setCell (aD w.heap.size 1) (.i (M.nv+1))):=((AE (Bl.one w.heap.size) wr).s w.heap.size 0).s w.heap.size 1;have hOf:=aS hO (FF.on (Z:=λk=>(Value.slice va Lm.length vd).ownBlock=some k) (λk hk=>⟨aK hO hk,λe=>by simp only[Bl.one]at e;subst e;exact aP hO x0 (by decide) hk⟩)) (λk hk=>hk);have HF:Hid ((ch.foldl dP M.now).length=Lm.length/\aI (ch.foldl dP M.now)=aI Lm):=by rw[<-HLT.o];exact⟨rfl,rfl⟩
    go_wp2;refine BI (v:=.agg #[.slice va Lm.length vd,.i (M.nv+1)]) ?_ rfl ⟨_,rfl,?_,?_,hli⟩
    .exact EL (p:=4) rfl _ _ w.heap.size _ _ _ _ rfl (by simpa using xf) Tryz.underlying32 rfl (by kernel_rfl)
    .rw[HF.o.1,HF.o.2];exact hOf
    .exact hBX.t (FF.below hBX.size (oK (by omega)))
def gM(ch:List Ch)(oth:List ByteArray):Bool:=ch.any (λc=>oth.any (λy=>decide (y=c.key)))
theorem yT{a b}:gM a b=true↔∃c∈a,c.key∈b:=by simp[gM]
theorem qAt (h:aY w K q M)(x j t)(ak:cD M.ts x (some (j,t)))(U:M.ts.length<=8)(bb:t.ch.length<=1000000)(bc:t.oth.length<=1000000):
  cL 77 #[.p q 2,.i x] w λe w'=>e=.r (.bool (gM t.ch t.oth))/\bW w w':=by
 have an:Hid (∀X,bW w X->cL 66 #[.p q 2,.i x] X λe w'=>e=.returned (.i (j:Int))/\w'=X):=λX y=>gS h ak U X y;have a5:=ak.1;have bu:=(AD.1 a5).1;have B:t∈M.ts:=BL a5;have⟨H,I,P,_⟩:=(h.each t B).bg;have⟨V,W,F,_⟩:=(h.each t B).l;have⟨p,m,Q⟩:=aG (h.each t B).ch;have⟨r,l,R⟩:=aG (h.each t B).oth;have⟨Y,u,E,J,G,a,b,c0,vl,c1,c2⟩:=t;dsimp only at P F Q R bb bc⊢;subst P F Q R;have⟨g,c,af,b3⟩:=h.txCells a5;have a9:Hid (∀X,bW w X->Cy X q j M ⟨Y,u,E,J,G,a,b,.slice H E.length I,.slice V G.length W,.slice p a.length m,.slice r b.length l⟩ g c):=b3;have z:bW w w:=AC _ _;have am:Hid (∀X,bW w X->aH X (λk=>(Value.slice p a.length m).ownBlock=some k) p (a.flatMap Ch.cells)/\aH X (λk=>(Value.slice r b.length l).ownBlock=some k) r (b.map .string)/\a.length<=m/\b.length<=l):=λX y=>by
  have⟨bl,bn,ac,b4,be⟩:=bR ((h.below y).each _ B).ch;have⟨bm,ab,F,b5,bf⟩:=bR ((h.below y).each _ B).oth;simp only[AQ,CV]at ac F;have⟨P,Q⟩:=ac;have⟨R,b1⟩:=F;subst P Q R b1;exact⟨be,bf,b4,b5⟩
 have⟨au,av,aw,ab,ax,ay,az,b0⟩:=a9.o w z;go_enter Tryz.func77,Tryz.ntmps77;go_wp2;go_region_held3 (λX=>X.c q 6=some (.q g M.ts.length c)/\X.c g (j * 7)=some (.i Y)/\X.c g (j * 7+1)=some (.bool u)/\X.c g (j * 7+2)=some (.slice H E.length I)/\X.c g (j * 7+3)=some (.i J)/\X.c g (j * 7+4)=some (.slice V G.length W)/\X.c g (j * 7+5)=some (.slice p a.length m)/\X.c g (j * 7+6)=some (.slice r b.length l))
  ((apply a9.o _;(repeat (first|exact z|(apply JM)|(refine KY ?_ (by first|omega|(simp;omega)|exact jU _) _)|(refine JQ ?_ (by first|omega|(simp;omega)|exact jU _) _)))))
  ((go_at_call 66;(with_reducible refine Calls.m (an.o _ ?_) ?_);(first|exact z.drew|exact(z.alloc (jU _) _).drew|exact z.drew.alloc (jU _) _);rintro e w' ⟨rfl,bz⟩;subst w'))
 all_goals
  have⟨o,a4⟩:=nM ((w.alloc (.cells #[.i Y,.bool u,.slice H E.length I,.i J,.slice V G.length W,.slice p a.length m,.slice r b.length l] 119)).drew);have a8:bW w o:=a4▸(z.alloc (jU _) _).drew;have al:o.heap[w.heap.size]?=some (.cells #[.i Y,.bool u,.slice H E.length I,.i J,.slice V G.length W,.slice p a.length m,.slice r b.length l] 119):=by rw[<-a4,GX];exact aC w _
  have aa:Hid (∀X,bW o X->X.c w.heap.size 5=some (.slice p a.length m)/\X.c w.heap.size 6=some (.slice r b.length l)/\aH X (λk=>(Value.slice p a.length m).ownBlock=some k) p (a.flatMap Ch.cells)/\aH X (λk=>(Value.slice r b.length l).ownBlock=some k) r (b.map .string)/\a.length<=m/\b.length<=l/\bW w X):=λX y=>by
   have ae:=qIe ((y.block _ (gL al)).t al);have T:=a8.t (y.m a8.size);have⟨bh,bi,bj,bk⟩:=am.o X T;exact⟨ae.2.2.2.2.2.1,ae.2.2.2.2.2.2,bh,bi,bj,bk,T⟩
  clear au av aw ab ax ay az b0;go_wp2;go_loopw [6,7] (λd k u=>∃i:Nat,d=.i i/\i<=a.length/\Hid (bW o u/\∀n (U:n<a.length),n<i->(a[n]).key ∉ b)) (λd _ _=>a.length-(intOf d).toNat)
  case atStart=>exact⟨0,rfl,AG _,by rw[a4];exact AC _ _,λn U a2=>absurd a2 (GN _)⟩
  case round =>
   obtain⟨i,rfl,bv,ao⟩:=hrel;have⟨ad,aj⟩:=ao.o;have⟨C,D,a6,a7,bo,bx,T⟩:=aa.o _ ad;rcases BR i a.length with ag|bp
   .have b7:(i:Int)<(a.length:Int):=by omega
    go_wp2;go_loopw [7] (λk u=>∃n:Nat,k=.i n/\n<=b.length/\Hid (bW o u/\∀d (s:d<b.length),d<n->b[d]≠(a[i]).key)) (λk _=>b.length-(intOf k).toNat)
    case atStart=>exact⟨0,rfl,AG _,ad,λn U a2=>absurd a2 (GN _)⟩
    case round =>
     obtain⟨n,rfl,bw,aq⟩:=hrel;clear C D a6 a7;have⟨a3,ai⟩:=aq.o;have⟨C,D,a6,a7,_,_,b2⟩:=aa.o _ a3;rcases BR n b.length with ah|bq
     .have b8:(n:Int)<(b.length:Int):=by omega
      obtain⟨L,N,rfl,_,O,_⟩:=a6.ch ag;obtain⟨Z,a0,rfl,_,S⟩:=a7.at (f:=Value.string) ah;have br:n<l:=by omega
      by_cases A:(a[i]).key=b[n]
      .have a1:Hid (gM a b=true):=yT.2 ⟨a[i],AA ag,by rw[A];exact AA ah⟩
       have ba:((a[i]).key.toList==(b[n]).toList)=true:=by rw[A];exact beq_self_eq_true _
       go_wp2;go_region_held3 (λX=>X.c w.heap.size 5=some (.slice (some (aD L N)) a.length m)/\X.c w.heap.size 6=some (.slice (some (aD Z a0)) b.length l)/\X.c L (N+i * 3)=some (.string (a[i]).key)/\X.c Z (a0+n)=some (.string b[n]))
        ((first|exact⟨C,D,O,S⟩|(simp[C,D,O,S])))
        (fail)
       all_goals go_wp2
       all_goals go_ret
       all_goals exact⟨by rw[a1.o];rfl,b2.drew⟩
      .have ba:=DK.2 (λe=>A (iM e))
       have ar:Hid (∀d (s:d<b.length),d<n+1->b[d]≠(a[i]).key):=λd s bt=>by
        rcases BR d n with v|v
        .exact ai d s v
        .obtain rfl:d=n:=by omega
         exact λe=>A e.symm
       go_wp2;go_region_held3 (λX=>X.c w.heap.size 5=some (.slice (some (aD L N)) a.length m)/\X.c w.heap.size 6=some (.slice (some (aD Z a0)) b.length l)/\X.c L (N+i * 3)=some (.string (a[i]).key)/\X.c Z (a0+n)=some (.string b[n]))
        ((first|exact⟨C,D,O,S⟩|(simp[C,D,O,S])))
        (fail)
       all_goals go_wp2
       all_goals exact⟨⟨n+1,by simp,by omega,a3.drew,ar.o⟩,by simp[intOf];omega⟩
     .have b8:¬(n:Int)<(b.length:Int):=by omega
      have ap:Hid (∀d (s:d<a.length),d<i+1->(a[d]).key ∉ b):=λd s bs=>by
       rcases BR d i with v|v
       .exact aj d s v
       .obtain rfl:d=i:=by omega
        intro bd;have⟨bg,b9,b6⟩:=AV bd;exact ai bg b9 (by omega) b6
      go_wp2;exact⟨⟨i+1,by simp,by omega,a3,ap.o⟩,by simp[intOf];omega⟩
   .have b7:¬(i:Int)<(a.length:Int):=by omega
    have a1:Hid (gM a b=false):=by
     refine LJ.2 (λv=>?_);have⟨c,af,A⟩:=yT.1 v;obtain⟨d,s,rfl⟩:=AV af;exact aj d s (by omega) A
    go_wp2;go_ret;exact⟨by rw[a1.o];rfl,T⟩
