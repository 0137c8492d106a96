import Derived.Test.YtdhgdcjmhofhaaaGreatD36
import Derived.Test.YtdhgdcjmhofhaaaGreatD27
set_option linter.all false
set_option maxRecDepth 100000
set_option maxHeartbeats 8000000
namespace Go.Proofs.YtdhgdcjmhofhaaaGreat.Tree
open Go.RowKit Pages Tryz
attribute [local go_sem] CE
def Ce(l m:Nat)(P:Program)(md:Region.Mode)(ops:Array Oper)(Q:Exit->Act->World->Prop)(S:World->Prop)(s:Nat):Nat->Array Bool->Act->World->Prop
 |0,_,_,_=>False
 |n+1,L,a,w=>(s∈Region.ready md ops L->Region.ready md ops L=[s]/\wpAnyIn (Fence.wide.inRound l) m P md ops Q (n+1) L a w)/\(s ∉ Region.ready md ops L->Region.ready md ops L≠[]/\∀i∈Region.ready md ops L,wpOp P ops Q i (λa' w'=>S w'/\Ce l m P md ops Q S s n (L.setIfInBounds i true) a' w') a w)
section
variable {l m:Nat}{P:Program}{md:Region.Mode}{ops:Array Oper}{Q:Exit->Act->World->Prop}{S:World->Prop}{s:Nat}{L:Array Bool}{a:Act}{w:World}{n i:Nat}{o:Oper}
theorem Ce.any(c:vW ops=true)(b:∀a w,¬Q .outgrown a w):∀{n:Nat}{L:Array Bool}{a:Act}{w:World},Ce l m P md ops Q S s n L a w->wpAnyIn (Fence.wide.inRound l) m P md ops Q n L a w
 |n+1,L,a,w,h=>by
  by_cases e:s∈Region.ready md ops L
  .exact(h.1 e).2
  .exact⟨λd=>absurd d (h.2 e).1,λi f=>wpOpIn_mono (λ_ _ g=>Ce.any c b g.2) (Kp c b ((h.2 e).2 i f))⟩
theorem Ji{f:Oper}{v}(hi:ops[i]?=some f)(t:∀(j:Nat) (o:Oper) cs b,ops[j]?=some o->o.op≠.select cs b)(u:∀c a w,Q (.panic c) (a.put f.dst v) w->Q (.panic c) a w)(z:tN md ops s i=true):
  ∀(n:Nat) (L:Array Bool) (a:Act) (w:World),Clo md ops L->(∀j d,ops[j]?=some d->j≠i->L.getD j true=false->(∀e∈d.after,Region.binds md e=true->e.on≠i)->f.apart ops d=true)->i∈Region.ready md ops L->YieldsIf P ops S f v a->S w->Ce l m P md ops Q S s n (L.setIfInBounds i true) (a.put f.dst v) w->Ce l m P md ops Q S s (n+1) L a w
 |0,_,_,_,_,_,_,_,_,H=>H.elim
 |n+1,L,a,w,hc,hf,hr,hy,hS,H=>by
  have y:=Bd hc z hr;refine⟨λg=>absurd g y,λ_=>⟨λg=>(by rw[g]at hr;cases hr),λj h=>?_⟩⟩;by_cases e:j=i
  .subst e;exact hy.wpOp hi hS ⟨hS,H⟩
  .have⟨x,d,r,D⟩:=JR.1 h;have K:∀e∈d.after,Region.binds md e=true->e.on≠i:=λe E C F=>yF (JR.1 hr).1 (F▸D e E C);have p:=JS h e;have G:=λg=>by
    rw[(H.1 g).1,AL]at p;exact y (p▸h)
   refine wpOp_mono (λB w' k=>⟨k.2.1,Ji hi t u z n (L.setIfInBounds j true) B w' (hc.set h) (λq N M J A I=>hf q N M J ?_ I) (JS hr (Ne.symm e)) k.1 k.2.1 ?_⟩) (wpOp_putIf r (hf j d r e x K) (λcs b=>t i f cs b hi) (λcs b=>t j d cs b r) u hy ((H.2 G).2 j p))
   .by_cases hjq:j=q
    .subst hjq;exact x
    .rw[KW true hjq]at A;exact A
   .rw[GV _ _ e];exact k.2.2
theorem rS{b:Oper}{v}(i)(hi:ops[i]?=some b)(d:(Region.noSelect ops&&Region.free md ops L i&&(Region.ready md ops L).contains i&&tN md ops s i&&qMh md ops L)=true)(o:∀c a w,Q (.panic c) (a.put b.dst v) w->Q (.panic c) a w)(q:YieldsIf P ops S b v a)(p:S w)(h:Ce l m P md ops Q S s n (L.setIfInBounds i true) (a.put b.dst v) w):Ce l m P md ops Q S s (n+1) L a w:=by
 simp only[AM]at d;have⟨⟨⟨⟨e,f⟩,g⟩,j⟩,k⟩:=d;exact Ji hi (MA e) o j n L a w (Ng k) (MZ hi f) (by simpa using g) q p h
theorem qMx(i)(j:Region.ready md ops L=[i])(e:s≠i)(g:ops[i]?=some o)(h:∀K':Act->World->Prop,Go.Shut (∀a w,S w->Ce l m P md ops Q S s n (L.setIfInBounds i true) a w->K' a w)->if Region.wanted o (yielded ops a.tmps)=true then Oper.wp P o a w K' Q else K' (a.put o.dst undef) w):Ce l m P md ops Q S s (n+1) L a w:=by
 unfold Ce;rw[j];refine⟨λh=>absurd (AL.1 h) e,λ_=>⟨σ,λk f=>?_⟩⟩;obtain rfl:=AL.1 f;exact wpOp_step g (λK' b=>h K' (λa w c d=>b a w ⟨c,d⟩))
theorem qMy(b:Region.ready md ops L=[s])(c:ops[s]?=some o)(h:∀K':Act->World->Prop,(∀a w,wpAnyIn (Fence.wide.inRound l) m P md ops Q n (L.setIfInBounds s true) a w->K' a w)->if Region.wanted o (yielded ops a.tmps)=true then Oper.wpIn (Fence.wide.inRound l) m P o a w K' Q else (∀f,o.about P w a.eval=some f->(Fence.wide.inRound l).fn f)/\K' (a.put o.dst undef) w):Ce l m P md ops Q S s (n+1) L a w :=
 ⟨λ_=>⟨b,wpAnyIn_ready b σ (.cons c h .nil)⟩,λh=>absurd (b▸AL.2 rfl) h⟩
end
def Xa(x:En)(args:Array Value)(S:Bl)(w:World):Prop:=args=#[.string x.e.key,.string ⟨x.value.toArray⟩]
theorem Yh(β sv lv fs)(root ca cc cs q o)(b3:o≠none->(fs.life==0)=false)(bw:bO fs root o)(S bt b1 b2 Rd w)(ay:cW w bt #[.p β 0,.i root,.s ca cs.length cc] 90)(cb:cW w b1 #[.t q.lo] 9)(cd:cW w b2 #[.t q.hi] 9)(a5:aA w β sv lv fs)(bi:aH w S ca (cs.flatMap Ch.cells))(ck:lW S w)(bv:cJ cs)(bq:cs.length<=1000000)(bk:cs<=cc)(bl:(ca=none/\cc=0)\/∃b c0,ca=some (aD b c0))(am:∀x∈bJ (dB q o) (dH cs q),x.good fs/\(x.e.over≠0->(fs.life==0)=false))(av:Rd bt)(c1:Rd b1)(c2:Rd b2)(F:∀k,fpF β sv lv k->Rd k)(a9:∀k,S k->Rd k):
  nG prog 164 #[.p bt 0,.p b1 0,.p b2 0] Xa (bJ (dB q o) (dH cs q)) Rd w:=by
 intro l J b8 g W ao m B a7 aw c9 ak ad;refine CH func164 rfl trivial ?_ rfl;simp only[ntmps164,jA,jB,jN,Nat.reduceAdd,Nat.reduceSub,jR,jO,jP,jT,jE,jF];have a8:=a7 [] g W ad;have⟨i,ai⟩:=nM (W.alloc (.cells #[.func (.yield l) #[] #[]] 169));have O:Fr Bl.none W i:=ai▸(AE _ W).alloc _;have az:=ai▸aB W _;have y:=ao.t (O.on (λk d=>⟨(m k d).2,λa=>a⟩));have⟨I,L,M⟩:=eM (y.heap ay av);have bb:i.c b1 0=some (.t q.lo):=by have:=y.heap cb c1;simp[World.cell?,this]
 have bc:i.c b2 0=some (.t q.hi):=by have:=y.heap cd c2;simp[World.cell?,this]
 have ag:=λb bj=>jY (m b (a9 b bj)).2 O.size;have U:=Aa β sv lv fs root ca cc cs q o b3 bw S i (a5.on (y.m F)) (bi.on (y.m a9)) ag bv bq bk bl;have⟨ab,aq⟩:=nM (bJ (dB q o) (dH cs q));rw[aq]at U am ak⊢;clear aq;gi_wp2_with (refine⟨trivial,rfl,?_⟩;gi_at_call 165;apply(BG.2 U).m;clear U;rintro e t ⟨co,rfl,bm,a4⟩);have Q:=O.t (AB a4);have cf:=(gL az);have ct:=a4.size;have ar:=ao.t (Q.on (λk d=>⟨(m k d).2,λa=>a⟩));have r:Fr g W t:=Q.m (λ_ a=>a.elim);let Ix:Code->List En->Bl->World->Prop:=λc n g W=>c=.ret/\b8 n g W;refine gF (P:=prog) (Has:=qF) (Rd:=RdE S β sv lv i t) rfl (enters_of func195 κ rfl) bm (λx N S W a1=>by rw[show N=_ from a1];rfl) J Ix B ?_ a7 ?_ g (B _ _ _ _ ad (Q.on (λk d=>⟨a8 k d,λa=>a⟩))) ?_ ?_ ?_ ?_
 .rintro c n g W ch ⟨rfl,z⟩ bs
  exact⟨rfl,aw _ _ _ _ z bs⟩
 .rintro c n g W ⟨rfl,z⟩;exact c9 _ _ _ z
 .rintro k (d|d|⟨d,bn⟩)
  .exact⟨(m k (a9 k d)).1,by have:=ag k d;omega⟩
  .exact⟨(m k (F k d)).1,(a5.on (ar.m F)).lies k d⟩
  .exact⟨λa=>by have:=a8 _ a;omega,bn⟩
 .intro c8 n x c4 N cg j Wd a6 ae a1 cl E be cm bo bp ⟨cr,cn⟩;have bf:=a1;subst bf;have⟨an,hov⟩:=am x (by rw[a6];simp);have ce:=E.heap ((a4.block _ cf).t az) (λa=>by have:=a8 _ a;omega);have bz:=ar.t (E.on (λk d=>⟨by have:=(m k d).2;omega,(m k d).1⟩));have b4:=r.t E;have b6:=(CS W g).t r.size be;have ap:=a7 _ _ _ ae;have b7:Hid (ab=n++x :: c4):=a6;clear a6;unfold iM;gi_wp2;refine⟨(AE _ Wd).alloc _,?_⟩;intro f ah;have aa:=ah.heap (k:=Wd) (aB Wd (.cells #[.t x.e.key,.t x.e.val,.i x.e.size,.i x.e.over] 69)) (DT bo);have ba:Fr Bl.none Wd (Wd.alloc (.cells #[.t x.e.key,.t x.e.val,.i x.e.size,.i x.e.over] 69)):=(AE _ Wd).alloc _;have u:=(ba.m (λ_ a=>a.elim)).t ah.fr;have b0:=u.heap ce φ;have bg:=B _ _ _ _ ae (u.on (λk d=>⟨ap k d,λa=>by cases a;exact bp d⟩));have b5:=b4.grow u (λk d=>.inr (by simp only[Bl.one]at d;omega));have au:=bz.t (u.on (λk d=>⟨by have:=(m k d).2;omega,λa=>by simp only[Bl.one]at a;have:=(m k d).2;omega⟩));have ax:=au.heap ay av;have al:=a5.on (au.m F);clear I L M bb bc;have ac:Hid (∀X,bW f.drew X->(λX=>X.c bt 0=some (.p β 0)/\X.c bt 1=some (.i root)/\X.c bt 2=some (.s ca cs cc)/\X.c Wd 0=some (.t x.e.key)/\X.c Wd 1=some (.t x.e.val)/\X.c Wd 2=some (.i x.e.size)/\X.c Wd 3=some (.i x.e.over)/\X.c W 0=some (.func (.yield l) #[] #[])) X):=λX h=>by
   have⟨I,L,M⟩:=eM (h.kp ax);have⟨bx,c5,c6,c7⟩:=kI (h.kp aa);refine⟨I,L,M,bx,c5,c6,c7,?_⟩;have:=h.kp b0;simp[World.cell?,this]
  gi_wp2;refine wpIn_region_any κ (Ce.any (s:=6) (S:=λX=>X.c bt 0=some (.p β 0)/\X.c bt 1=some (.i root)/\X.c bt 2=some (.s ca cs cc)/\X.c Wd 0=some (.t x.e.key)/\X.c Wd 1=some (.t x.e.val)/\X.c Wd 2=some (.i x.e.size)/\X.c Wd 3=some (.i x.e.over)/\X.c W 0=some (.func (.yield l) #[] #[])) κ (λ_ _ a=>a) ?_);have A:=ac _ (AC _ _);apply rS (v:=.func (.yield l) #[] #[]) 0 rfl κ (λ_ _ _ a=>a) τ A;apply rS (v:=.p Wd 0) 1 rfl κ (λ_ _ _ a=>a) τ A;apply rS (v:=.t x.e.key) 2 rfl κ (λ_ _ _ a=>a) τ A;apply rS (v:=.agg #[.p β 0,.i root,.s ca cs cc]) 3 rfl κ (λ_ _ _ a=>a) τ A;apply rS (v:=.agg #[.t x.e.key,.t x.e.val,.i x.e.size,.i x.e.over]) 4 rfl κ (λ_ _ _ a=>a) τ A;refine qMx 5 κ δ rfl (λK p=>?_);go_simp;apply Calls.m (Fo β sv lv fs root ca cs cc x hov f.drew (al.bl (KE (AC _ f))) (Eu an).1 (Eu an).2);rintro e G ⟨rfl,aj⟩;apply p _ _ (ac _ aj);clear p K;have R:Fr Bl.none f G:=(AE _ f).drew.t (AB aj);have⟨cj,cz,cp,cq,c3,af⟩:=ak _ x _ #[.t x.e.key,.t ⟨x.value.toArray⟩] Bl.none j G b7 (B _ _ _ _ bg (R.on (λk d=>⟨jY (ap k d) u.size,λa=>a⟩))) rfl (λ_ a=>a.elim) (b5.t (R.m (λ_ a=>a.elim))) b6;have C:Fr j f G:=R.m (λ_ a=>a.elim);refine qMy κ rfl (λK p=>?_);go_simp;refine⟨rfl,(fK af).m ?_⟩;clear c3 af;rintro e ci (⟨rfl,H,a2,V,Z⟩|⟨rfl,H,a2,V,Z⟩)
  all_goals
   apply p _ _;clear p K;refine wpAnyIn_ready (rs:=[7]) κ σ (.cons rfl (λK p=>?_) .nil);go_simp;refine p _ _ (wpAnyIn_done κ ?_ _);gi_wp2
  .exact⟨H,a2,C.grow V (CS _ _),(CS f j).t C.size Z⟩
  .exact⟨H,⟨rfl,a2⟩,C.grow V (CS _ _),(CS f j).t C.size Z⟩
 .intro D j b9 bd a3 bh Y a0 T;gi_wp2;refine nS rfl T ⟨⟨_,rfl⟩,j,((r.t Y).putObj (.inr ω) _),(CS W g).t r.size a0,.inl (B _ _ _ _ bh ((CM _ _).putObj a3 _))⟩
 .rintro D c n j b9 bd a3 bu br ⟨rfl,z⟩ Y a0 T;gi_wp2;refine nS rfl T ⟨⟨_,rfl⟩,j,((r.t Y).putObj (.inr ω) _),(CS W g).t r.size a0,.inr ⟨n,bu,br,aw _ _ _ _ z ((CM _ _).putObj a3 _)⟩⟩
open Go.Shelf
attribute [local go_sem] CE
theorem Gm(root β b d c lo hi w):
  cL 141 #[.agg #[.p β 0,.i root,.s b d c],.t lo,.t hi] w λe w' =>
   e=.r (.func (.func 164) #[] #[.p w 0,.p (w+1) 0,.p (w+1+1) 0]) /\
   cW w' w #[.p β 0,.i root,.s b d c] 90/\cW w' (w+1) #[.t lo] 9/\cW w' (w+1+1) #[.t hi] 9/\bW w w':=by
 obtain⟨a,f,B,g,h,i,-⟩:=al3 w (.cells #[.p β 0,.i root,.s b d c] 90) (.cells #[.t lo] 9) (.cells #[.t hi] 9); go_enter func141,ntmps141;go_wp2;go_ret;exact⟨rfl,g,h,i,B⟩
def gG(xs:List En):List Value:=xs.flatMap (λx=>[.string x.e.key,.string ⟨x.value.toArray⟩])
theorem Rw(xs x):gG (xs++[x])=gG xs++[.t x.e.key,.t ⟨x.value.toArray⟩]:=by simp[gG]
theorem fR:(prog.info? 71).map (λi=>(i.zero,i.size,i.bytes))=some (some (.agg #[.e,.e]),2,32):=κ
def mB(o:Option (Nat×T))(cs:List Ch)(q:Sp):List En:=bJ (dB q o) (dH cs q)
theorem qDz{fs root o cs}(a:bO fs root o)(e:qG o)(f:cJ cs)(b:∀c∈cs,c.good)(q):∀x∈mB o cs q,x.good fs:=by
 unfold mB;rw[xL a];exact kU (ES _ (eP a)) (lF f q) (λx g=>gV a e x (EL.1 g).1) (λc d=>b c (EL.1 d).1)
theorem qJr{cs:List Ch}{x:En}(h:x∈bJ [] cs):x.e.over=0:=by
 simp only[bJ,gA,List.foldl_nil,jE]at h;unfold dX at h;grind[chE]
theorem qGs(β sv lv fs)(t o)(az:bO fs t.root o)(bk:qG o)(q most w)(b3:most≠0->o≠none->(fs.life==0)=false)(a2:aA w β sv lv fs)(L:eX w β t)(ag:cJ t.cs)(au:∀c∈t.cs,c.good)(cb:t.cs.length<=1000000)(bm:(mB o t.cs q).length<=1000000)(c7:most<=9223372036854775807):
  cL 105 #[.p t.b 0,.t q.lo,.t q.hi,.i (most:Nat)] w λe w'=>∃v,e=.r v/\w'.ownsRow 0 71 2 v ((mB o t.cs q).take most) (gG ((mB o t.cs q).take most))/\bW w w'/\nW v w:=by
 have aw:=qDz az bk ag au q;have⟨bz,c5,av,bi,b2⟩:=cA L.row;simp only[Tx.cv,AR,CV]at av;have⟨ba,bb⟩:=av;subst ba bb;have bh:(t.ca=none/\t.cc=0)\/∃b bo,t.ca=some (aD b bo):=by
  rcases L.row.2 with⟨d,_⟩|⟨g,c0,c8,d,_⟩
  .simp only[Tx.cv,AR]at d;exact .inl ⟨d.1,d.2.2⟩
  .simp only[Tx.cv,AR]at d;exact .inr ⟨g,0,d.1⟩
 have⟨s,N,X,b5,b4,ak⟩:=al2 w (.cells #[.i (most:Nat)] 3) (.cells #[.s none 0 0] 30); have⟨ci,cn,co,cp,cq,cr⟩:=qQ (X.kp L.box);have c2:=bM b5;by_cases hm0:most=0
 .subst hm0;have aj:=X;go_enter func105,ntmps105;go_wp2;go_ret;rw[<-N]at aj;exact⟨_,rfl,AO _ _ _ _,aj,λf j=>by simp[Value.ownBlock]at j⟩
 have ca:(((most:Nat):Int)==0)=false:=χ
 have ad:=Gm t.root β t.ca t.cs t.cc q.lo q.hi s;rw[ak]at ad;have b6:Hid _:=ak;refine(BG (n:=0)).1 (CH func105 rfl trivial ?_ rfl);simp only[ntmps105,jA,jB,jN,Nat.reduceAdd,Nat.reduceSub,jR,jO,jP,jT,jE,jF];gi_wp2_with (refine⟨trivial,rfl,?_⟩;gi_at_call 141;apply(BG.2 ad).m;clear ad;rintro e F ⟨rfl,bq,br,b1,bf⟩);have bg:bW s F:=bf;have a8:Fr Bl.none s F:=AB bg;have V:=(AB X).t a8;have cs:=(gL b1);have ah:=a8.heap b4 (λd=>d);have bj:=a2.on (V.on (λf j=>⟨a2.lies f j,λd=>d⟩));have a1:∀f,t.cv.ownBlock=some f->f<w:=λf j=>aL L.row j;let b:=w.1.size+1;let Rc:Bl:=λf=>f=w+2\/f=w+2+1\/f=w+2+1+1\/fpF β sv lv f\/t.cv.ownBlock=some f;have ax:=Yh β sv lv fs t.root t.ca t.cc t.cs q o (b3 hm0) az (λf=>t.cv.ownBlock=some f) (w+2) (w+2+1) (w+2+1+1) Rc F bq br b1 bj (b2.on (V.on (λf j=>⟨a1 f j,λd=>d⟩))) (λf j=>by have:=a1 f j;omega) ag ω bi bh (λx hx=>⟨aw x hx,λbu=>b3 hm0 λbt=>bu (by subst bt;exact qJr hx)⟩) (.inl rfl) (.inr (.inl rfl)) (.inr (.inr (.inl rfl))) (λf j=>.inr (.inr (.inr (.inl j)))) (λf j=>.inr (.inr (.inr (.inr j))));have⟨U,a5⟩:=nM (mB o t.cs q);rw[show bJ (dB q o) (dH t.cs q)=U from a5]at ax;rw[a5]at bm;have ao:Hid (mB o t.cs q=U):=a5;clear a5;let J:List En->Bl->World->Prop:=λh y W=>∃v,cW W b #[v] 30/\W.ownsRow 0 71 2 v h (gG h)/\(∀f,y f↔f=b\/v.ownBlock=some f)/\(∀f,v.ownBlock=some f->w<=f/\f≠w);let I:List En->Bl->World->Prop:=λh y W=>h<most/\J h y W;let Ix:Code->List En->Bl->World->Prop:=λc h y W=>c=.exit 0/\h=most/\J h y W;have ar:=a2.lies;refine gF (P:=prog) (Has:=Xa) (Rd:=Rc) rfl (enters_of func164 κ rfl) ax (λM a7 S W ac=>by rw[show a7=_ from ac];rfl) I Ix ?_ ?_ ?_ ?_ (Bl.one b) ⟨χ,.s none 0 0,ah,by simpa[gG] using AO _ _ _ _,λf=>by simp[Bl.one,Value.ownBlock],ι⟩ ?_ ?_ ?_ ?_
 .intro h y A B ⟨G,v,m,k,i,u⟩ O
  exact⟨G,v,O.heap m ((i _).2 (.inl rfl)),aS k O (λf j=>(i f).2 (.inr j)),i,u⟩
 .intro c h y A B ⟨aq,G,v,m,k,i,u⟩ O;exact⟨aq,G,v,O.heap m ((i _).2 (.inl rfl)),aS k O (λf j=>(i f).2 (.inr j)),i,u⟩
 .intro h y A ⟨G,v,m,k,i,u⟩ f j
  rcases(i f).1 j with rfl|d
  .exact(gL m)
  .exact aL k d
 .intro c h y A ⟨aq,G,v,m,k,i,u⟩ f j
  rcases(i f).1 j with rfl|d
  .exact(gL m)
  .exact aL k d
 .rintro f (rfl|rfl|rfl|j|j)
  .exact⟨λd=>by simp only[Bl.one,b]at d;omega,ω⟩
  .exact⟨λd=>by simp only[Bl.one,b]at d;omega,ω⟩
  .exact⟨λd=>by simp only[Bl.one,b]at d;omega,ω⟩
  .exact⟨λd=>by simp only[Bl.one,b]at d;have:=ar f j;omega,by have:=ar f j;omega⟩
  .exact⟨λd=>by simp only[Bl.one,b]at d;have:=a1 f j;omega,by have:=a1 f j;omega⟩
 .intro l h M bp a7 S a6 W b0 ⟨Q,v,m,k,i,u⟩ ac c3 E ap c4 c6 ay ⟨r,cf⟩;have bc:=ac;subst bc;have cd:h.length+1<=1000000:=by have:=BR List.length b0;simp at this;omega
  have⟨T,af⟩:=nM (decide (h.length+1=most));have ce:(((h.length:Int)+1)==(most:Int))=T:=by rw[<-af,FN,CU,KC];omega
  have am:Hid _:=af;clear b0 af;cases T
  all_goals
   unfold iM;gi_wp2;refine⟨AE _ _,?_⟩;intro C bd;have a9:=bd.fr;have Y:=a9.heap m (λd=>by exact ay ((i _).2 (.inl d.symm)));have ai:=aS k (a9.on (Z:=λf=>v.ownBlock=some f) (λf j=>⟨aL k j,λd=>by cases d;exact ay ((i _).2 (.inr j))⟩)) (λf j=>j);have bn:=a9.heap (E.heap (a8.heap b5 (λd=>d)) (λd=>by simp only[Bl.one,b]at d;omega)) (λd=>by simp only[Bl.one]at d;have:=E.size;omega);have bw:C.c (w+1) 0=some v:=by
    have:C.1[w.1.size+1]?=_:=Y;simp[World.cell?,this]
   obtain⟨a,c,rfl⟩:=aG ai;have bs:=(gL Y);gi_wp2_with (gi_at_builtin;apply Kq C rfl (.tmp 24) (.tmp 28) 30 71 _ 2 32 rfl underlying30 fR rfl δ (.s a h c) h (gG h) rfl ai [.t M.e.key,.t ⟨M.value.toArray⟩] rfl rfl υ ω ω;intro v3 x z;obtain⟨K,a4,rfl⟩:=z.shape δ;have a0:=z.fr.heap Y (aQ ai Y δ);have bx:x.c (w+1) 0=some (.s a h c):=(by have:x.1[w.1.size+1]?=_:=a0;simp[World.cell?,this]);have ch:=aF (show x.1[w.1.size+1]?=_ from a0);have⟨H,a3⟩:=nM (x.setCell (aD (w+1) 0) (.s (some (aD K 0)) (h+1) a4));have an:cW H (w+1) #[.s (some (aD K 0)) (h+1) a4] 30:=(by rw[<-a3];simpa using aC (show x.1[w.1.size+1]?=_ from a0) 0 (.s (some (aD K 0)) (h+1) a4));have c9:=bM an;have cg:H.c w 0=some (.i (most:Nat)):=(by have:=(a3▸((AE (Bl.one (w+1)) x).s (w+1) 0):Fr (Bl.one (w+1)) x H).heap (z.fr.heap bn (λj=>(u _ j).2 rfl)) φ;exact bM this));have b7:=z.fr.m (λf j=>.inl ((i f).2 (.inr j)));have al:J (h++[M]) (λf=>f=b\/K=f) H:=by
    refine⟨.s (some (aD K 0)) (h+1) a4,an,?_,λf=>ι,?_⟩
    .rw[jK,AP,Rw,<-a3]
     exact aS z.row ((CM (λf=>Value.ownBlock _=some f) x).setCell (p:=(aD (w+1) 0)) (λj=>aQ z.row (show x.1[w.1.size+1]?=_ from a0) δ j) _) (λf j=>j)
    .intro f j
     rcases z.lies f j with d|d
     .exact u f d
     .have:w.1.size+1<C:=bs;omega
   refine⟨λf=>f=b\/K=f,?_,?_,?_⟩
   .first
     |exact⟨by have:=of_decide_eq_false am;rw[jK,AP];omega,al⟩
     |exact⟨rfl,by have:=of_decide_eq_true am;rw[jK,AP];omega,al⟩
   .rw[<-a3];exact b7.s (w+1) 0 (.inl ((i _).2 (.inl rfl)))
   .rintro f (rfl|j)
    .exact .inl ((i _).2 (.inl rfl))
    .rcases z.lies f (by simp[Value.ownBlock,j]) with d|d
     .exact .inl ((i f).2 (.inr d))
     .exact .inr d
 .intro D a6 W aa be ⟨Q,v,m,k,i,u⟩ E ap ab;have b9:W.c (w+1) 0=some v:=by
   have:W.1[w.1.size+1]?=_:=m;simp[World.cell?,this]
  obtain⟨a,c,rfl⟩:=aG k;have ae:Marks w [mk D] W:=(GC w F).cons (λD' _ d=>E.heap d (λe=>by simp only[Bl.one,b]at e;subst e;rw[ah]at d;simp at d)) ω ab aa;gi_wp2;apply Uv rfl ae;intro w' R;rw[ao.o,CN (MI Q)];exact⟨_,rfl,uG k R,((V.grow E (λf j=>.inr (by simp only[Bl.one,b]at j;omega))).took R (jU _)).below0,λf j=>(u f j).1⟩
 .rintro D bv h a6 W aa be G cc ⟨rfl,Q,v,m,k,i,u⟩ E ap ab;have b8:Hid _:=Q;clear Q;have b9:W.c (w+1) 0=some v:=by
   have:W.1[w.1.size+1]?=_:=m;simp[World.cell?,this]
  obtain⟨a,c,rfl⟩:=aG k;have ae:=(GC w F).cons (λD' _ d=>E.heap d (λe=>by simp only[Bl.one,b]at e;subst e;rw[ah]at d;simp at d)) ω ab aa;gi_wp2;apply Uv rfl ae;intro w' R;have bl:U.take most=h:=by obtain⟨bp,rfl⟩:=G;rw[<-b8.o];simp
  rw[ao.o,bl];exact⟨_,rfl,uG k R,((V.grow E (λf j=>.inr (by simp only[Bl.one,b]at j;omega))).took R (jU _)).below0,λf j=>(u f j).1⟩
variable {K S:Bl} {cs:List Ch} {j q:Nat} {k:ByteArray} {v:Value} {w w':World} {x:ByteArray×ByteArray}
abbrev KV:=List (ByteArray×ByteArray)
variable {l:KV}
def rT(l:KV):Prop:=l.Pairwise (λa b=>lt a.1 b.1=true)
def rat:KV->ByteArray->Nat
 |[],_=>0
 |x :: l,k=>if lt x.1 k=true then rat l k+1 else 0
theorem xD:∀(l:KV) (k:ByteArray),rat l k<=l
 |[],_=>jU _
 |x :: l,k=>by
  have:=xD l k;simp only[rat,jB];split<;>omega
def nP(l:KV)(k:ByteArray):Bool:=(l[rat l k]?).any (λx=>decide (x.1=k))
def Jy(l:KV)(k:ByteArray):Nat:=rat l k+if nP l k=true then 1 else 0
def rwo(l:KV)(k:ByteArray):KV:=l.take (rat l k)++l.drop (Jy l k)
def oU(l:KV)(k v:ByteArray):KV:=l.take (rat l k)++(k,v):: l.drop (Jy l k)
def sH(l:KV)(k:ByteArray):Option ByteArray:=if nP l k=true then (l[rat l k]?).map (·.2) else none
def dS(l:KV)(c:Ch):KV:=if c.gone=true then rwo l c.key else oU l c.key c.val
def tJ(l:KV)(lo hi:ByteArray)(most:Nat):KV:=((l.drop (rat l lo)).takeWhile (λx=>Sp.below hi x.1)).take most
def dL(l:KV):Nat:=2+tot (λx:ByteArray×ByteArray=>2+if 60<x.2.size then (x.2.size+239) / 240 else 0) l
theorem Gh (h:lt x.1 k=true):rat (x :: l) k=rat l k+1/\nP (x :: l) k=nP l k/\Jy (x :: l) k=Jy l k+1:=by
 have a:rat (x :: l) k=rat l k+1:=by simp[rat,h]
 have b:nP (x :: l) k=nP l k:=by unfold nP;rw[a];rfl
 refine⟨a,b,?_⟩;unfold Jy;grind
theorem Fy (h:lt x.1 k=false):rat (x :: l) k=0/\nP (x :: l) k=decide (x.1=k):=by
 have a:rat (x :: l) k=0:=by simp[rat,h]
 exact⟨a,by unfold nP;rw[a];rfl⟩
theorem qIt (h:lt x.1 k=true):rwo (x :: l) k=x :: rwo l k:=by
 have⟨a,_,b⟩:=Gh (l:=l) h;unfold rwo;rw[a,b];rfl
theorem Od:∀{l:KV},rT l->∀k,rwo l k=l.filter (λx=>!decide (x.1=k))
 |[],_,k=>by simp[rwo]
 |x :: l,h,k=>by
  have⟨g,i⟩:=BD.1 h;cases hx:lt x.1 k with
  |true =>
   rw[qIt hx,Od i,GP];simp[Si hx]
  |false =>
   have⟨e,f⟩:=Fy (l:=l) hx;have j:∀a∈l,a.1≠k:=λa b d=>by
    grind
   have c:l.filter (λx=>!decide (x.1=k))=l:=List.filter_eq_self.2 (λa b=>by simp[j a b]);unfold rwo Jy;rw[e,f];grind
theorem uA:∀{l:KV},rT l->∀{k v:ByteArray},sH l k=some v↔(k,v)∈l
 |[],_,k,v=>by simp[sH,nP]
 |b :: l,h,k,v=>by
  have⟨g,i⟩:=BD.1 h;cases hx:lt b.1 k with
  |true =>
   have⟨d,e,_⟩:=Gh (l:=l) hx;have c:sH (b :: l) k=sH l k:=by unfold sH;rw[d,e];rfl
   rw[c,uA i (k:=k) (v:=v),AS];constructor
   .exact .inr
   .rintro(rfl|a)
    .rw[cP]at hx;cases hx
    .exact a
  |false =>
   have⟨d,e⟩:=Fy (l:=l) hx;have f:(k,v) ∉ l:=λj=>ζ
   have c:sH (b :: l) k=if decide (b.1=k)=true then some b.2 else none:=by unfold sH;rw[d,e];rfl
   grind
theorem qIw:∀{l:KV},rT l->∀k,(∀x∈l.take (rat l k),lt x.1 k=true)/\∀x∈l.drop (Jy l k),lt k x.1=true
 |[],_,k=>by simp
 |x :: l,h,k=>by
  have⟨d,i⟩:=BD.1 h;cases hx:lt x.1 k with
  |true =>
   have⟨c,_,g⟩:=Gh (l:=l) hx;have⟨j,m⟩:=qIw i k;grind
  |false =>
   have⟨c,f⟩:=Fy (l:=l) hx;refine⟨by rw[c];simp,λb a=>?_⟩;unfold Jy at a;rw[c,f]at a;by_cases he:x.1=k
   .grind
   .simp only[he,decide_false,FI,KA,EC,FJ,AS]at a;have e:lt k x.1=true:=by
     cases hq:lt k x.1
     .exact absurd (lQ hx hq) he
     .rfl
    rcases a with rfl|a
    .exact e
    .exact fG e (d b a)
theorem Xr (h:rT l)(k v):rT (oU l k v):=by
 have⟨e,f⟩:=qIw h k;refine CO.2 ⟨h.sublist (GN _ _),BD.2 ⟨f,h.sublist (FT _ _)⟩,λa d b c=>?_⟩;rcases AS.1 c with rfl|c
 .exact e a d
 .exact fG (e a d) (f b c)
theorem qIs (h:rT l)(k):rT (rwo l k):=by rw[Od h];exact h.sublist List.filter_sublist
theorem qEd (h:rT l)(k v x):x∈oU l k v↔x=(k,v)\/(x.1≠k/\x∈l):=by
 have a:x∈oU l k v↔x=(k,v)\/x∈rwo l k:=by
  unfold oU rwo;grind
 rw[a,Od h,EL];grind
theorem Bo:∀{l m:KV},rT l->rT m->(∀a,a∈l↔a∈m)->l=m
 |[],[],_,_,_=>rfl
 |[],a :: m,_,_,h=>absurd ((h a).2 σ) σ
 |x :: l,[],_,_,h=>absurd ((h x).1 σ) σ
 |x :: l,a :: m,hl,hm,h=>by
  have⟨d,i⟩:=BD.1 hl;have⟨f,j⟩:=BD.1 hm;have g:x=a:=by
   rcases AS.1 ((h x).1 σ) with e|e
   .exact e
   .rcases AS.1 ((h a).2 σ) with n|n
    .grind
    .have:=fG (f x e) (d a n);rw[cP]at this;cases this
  subst g;rw[Bo i j (λc=>?_)];constructor
  .intro b;rcases AS.1 ((h c).1 (by simp[b])) with rfl|e
   .have:=d c b;rw[cP]at this;cases this
   .exact e
  .intro b;rcases AS.1 ((h c).2 (by simp[b])) with rfl|e
   .have:=f c b;rw[cP]at this;cases this
   .exact e
def En.kb(x:En):ByteArray×ByteArray:=(x.e.key,⟨x.value.toArray⟩)
variable {es:List En}
def kvB(es:List En):KV:=es.map En.kb
def aJ(l:KV):List Value:=l.flatMap (λx=>[.string x.1,.string x.2])
theorem Ti(es):aJ (kvB es)=gG es:=by simp[aJ,kvB,gG,En.kb,KP]
theorem qQn{xs d}(h:xs.map En.kv=d.map En.kv):kvB xs=kvB d:=by
 have b:∀a:List En,kvB a=(a.map En.kv).map (λc=>(c.1,(⟨c.2.toArray⟩:ByteArray))):=λa=>by simp[kvB,En.kb,En.kv,KJ]
 rw[b,b,h]
theorem uR (h:cT es):rT (kvB es):=EV.2 h
theorem nR(es):(kvB es).length=es:=by simp[kvB]
theorem qPm(c):(chE c).kb=(c.key,c.val):=by rfl
theorem xK (a:cT es)(b:cJ cs):cT (bJ es cs):=by rw[oF];exact tX es cs a b
theorem qKu (h:cT es)(i:cJ cs)(a):a∈kvB (bJ es cs)↔(∃c∈cs,c.gone=false/\a=(c.key,c.val))\/(a∈kvB es/\∀c∈cs,c.key≠a.1):=by
 simp only[kvB,AY,oF,vX es cs h i];constructor
 .rintro⟨g,⟨c,b,d,rfl⟩|⟨f,e⟩,rfl⟩
  .exact .inl ⟨c,b,d,qPm c⟩
  .exact .inr ⟨⟨g,f,rfl⟩,e⟩
 .rintro(⟨c,b,d,rfl⟩|⟨⟨g,f,rfl⟩,e⟩)
  .exact⟨chE c,.inl ⟨c,b,d,rfl⟩,qPm c⟩
  .exact⟨g,.inr ⟨f,e⟩,rfl⟩
theorem qJs (j:cT es)(a:cJ cs)(c):kvB (bJ es (dJ cs c))=dS (kvB (bJ es cs)) c:=by
 have i:=uR (xK j a);have n:=uR (xK j (nY a c));have o:∀g,g∈kvB (bJ es (dJ cs c))↔(c.gone=false/\g=(c.key,c.val))\/(g.1≠c.key/\g∈kvB (bJ es cs)):=by
  intro g;rw[qKu j (nY a c),qKu j a];constructor
  .rintro(⟨d,e,b,rfl⟩|⟨m,h⟩)
   .rcases(iC a c d).1 e with rfl|⟨l,f⟩
    .grind
    grind
   .refine .inr ⟨λk=>h c ((iC a c c).2 (.inl rfl)) k.symm,.inr ⟨m,λd e=>?_⟩⟩;by_cases f:d.key=c.key
    .rw[f];exact h c ((iC a c c).2 (.inl rfl))
    .exact h d ((iC a c d).2 (.inr ⟨e,f⟩))
  .rintro(⟨b,rfl⟩|⟨f,⟨d,e,b,rfl⟩|⟨m,h⟩⟩)
   .exact .inl ⟨c,(iC a c c).2 (.inl rfl),b,rfl⟩
   .exact .inl ⟨d,(iC a c d).2 (.inr ⟨e,f⟩),b,rfl⟩
   .refine .inr ⟨m,λd e=>?_⟩;rcases(iC a c d).1 e with rfl|⟨l,_⟩
    .grind
    grind
 unfold dS;cases b:c.gone with
 |true =>
  rw[AU rfl];refine Bo n (qIs i _) (λg=>?_);rw[o,b,Od i,EL];grind
 |false =>
  rw[AQ δ];refine Bo n (Xr i _ _) (λg=>?_);rw[o,b,qEd i];simp
theorem rB (b:cT es):∀(a:List Ch) {cs:List Ch},cJ cs->kvB (bJ es (a.foldl dJ cs))=a.foldl dS (kvB (bJ es cs))/\cJ (a.foldl dJ cs)
 |[],cs,f=>⟨rfl,f⟩
 |c :: a,cs,f=>by
  have:=rB b a (nY f c);rw[qJs b f c]at this;exact this
theorem Mt:∀(d:List Ch) {cs:List Ch},cJ cs->∀k,k∈(d.foldl dJ cs).map (·.key)↔k∈d.map (·.key)\/k∈cs.map (·.key)
 |[],cs,g,k=>by simp
 |c :: d,cs,g,k=>by
  rw[JU,Mt d (nY g c) k];have:k∈(dJ cs c).map (·.key)↔k=c.key\/k∈cs.map (·.key):=by
   simp only[AY];constructor
   .rintro⟨b,e,rfl⟩;rcases(iC g c b).1 e with rfl|⟨f,_⟩
    .simp
    grind
   .rintro(rfl|⟨b,e,rfl⟩)
    .exact⟨c,(iC g c c).2 (.inl rfl),rfl⟩
    .by_cases hk:b.key=c.key
     .exact⟨c,(iC g c c).2 (.inl rfl),hk.symm⟩
     .exact⟨b,(iC g c b).2 (.inr ⟨e,hk⟩),rfl⟩
  grind
theorem qBj (h:cT es)(k):sH (kvB es) k=(valOf es k).map (λl=>⟨l.toArray⟩):=by
 have c:=uR h;cases hv:valOf es k with
 |some l =>
  obtain⟨b,a,rfl,rfl⟩:=(iU h).1 hv;exact(uA c).2 (AY.2 ⟨b,a,rfl⟩)
 |none =>
  cases hg:sH (kvB es) k with
  |none=>rfl
  |some v =>
   have⟨b,a,d⟩:=AY.1 ((uA c).1 hg);have:=(iU h).2 ⟨b,a,by simpa[En.kb] using BR Prod.fst d,rfl⟩;grind
theorem Ze(es)(q:Sp):kvB (es.filter (λx=>q.has x.e.key))=(kvB es).filter (λx=>q.has x.1):=by
 simp[kvB,List.filter_map,KJ,En.kb]
theorem Nx:∀{l:KV},rT l->∀(q:Sp),l.filter (λx=>q.has x.1)=(l.drop (rat l q.lo)).takeWhile (λx=>Sp.below q.hi x.1)
 |[],_,q=>by simp
 |x :: l,h,q=>by
  have⟨e,f⟩:=BD.1 h;cases hx:lt x.1 q.lo with
  |true =>
   have⟨c,_,_⟩:=Gh (l:=l) hx;rw[c,GP,Nx f];simp[Sp.has,le,hx]
  |false =>
   have⟨c,_⟩:=Fy (l:=l) hx;rw[c,FJ,JW,GP];have j:=λa d=>iF (eB (by simpa[le] using hx) (e a d));cases b:Sp.below q.hi x.1 with
   |false =>
    simp only[Sp.has,b,Bool.and_false,FI,KA];refine LB.2 (λa d=>?_);have k:Sp.below q.hi a.1=false:=by
     unfold Sp.below at b⊢;revert b;cases hn:isNil q.hi<;>simp;intro b;cases hq:lt a.1 q.hi
     .rfl
     .have:=fG (e a d) hq;grind
    simp[k]
   |true =>
    have i:rat l q.lo=0:=by
     cases l with
     |nil=>rfl
     |cons a l =>
      have:=j a σ;simp only[le,MJ]at this;simp[rat,this]
    have g:=Nx f q;rw[i,FJ]at g;rw[g];simp[Sp.has,b,le,hx]
theorem qNq (h:cT es)(lo hi most):kvB ((es.filter (λx=>(⟨lo,hi⟩:Sp).has x.e.key)).take most)=tJ (kvB es) lo hi most:=by
 have:=Ze es ⟨lo,hi⟩;unfold tJ;rw[<-Nx (uR h) ⟨lo,hi⟩,<-this];simp[kvB,List.map_take]
theorem Hb:∀{es:List En},(∀x∈es,x.e.size=(x.value.length:Int))->dL (kvB es)=2+(2 * es.length+ovs es)
 |[],_=>rfl
 |x :: es,hz=>by
  have a:=Hb (es:=es) (λf e=>hz f (by simp[e]));have d:=hz x σ;unfold dL at a⊢;simp only[kvB,BE,cQ,ovs,jB]at a⊢;have c:(En.kb x).2.size=x.value.length:=by rfl
  have b:x.ov=if 60<(En.kb x).2.size then ((En.kb x).2.size+239) / 240 else 0:=by
   unfold En.ov;grind
  omega
def fD(w:World)(S:Bl)(v:Value)(l:KV):Prop:=∃a c,v=.slice a l.length c/\l.length<=c/\aH w S a (aJ l)/\((a=none/\c=0)\/∃b off,a=some (aD b off))
theorem fD.on (h:fD w S v l)(g:On S w w'):fD w' S v l:=by
 have⟨a,c,b,d,e,f⟩:=h;exact⟨a,c,b,d,e.on g,f⟩
theorem fD.m {S S':Bl}(h:fD w S v l)(g:∀k,S k->S' k):fD w S' v l:=by
 have⟨a,c,b,d,e,f⟩:=h;exact⟨a,c,b,d,e.m g,f⟩
theorem eH:∀(l:KV),(aJ l).length=l * 2
 |[]=>rfl
 |x :: l=>by have:=eH l;simp only[aJ,AK,jK,jB,jN]at this⊢;omega
theorem xS:∀{l:KV}{j:Nat} (a:j<l),(aJ l)[j * 2]?=some (.t (l[j]).1)/\(aJ l)[j * 2+1]?=some (.t (l[j]).2)
 |x :: l,0,_=>by simp[aJ]
 |x :: l,j+1,h=>by
  have:=xS (l:=l) (j:=j) (by simpa using h);simp only[aJ,AK,DL]at this⊢;rw[show(j+1) * 2=j * 2+2 by omega,show j * 2+2+1=j * 2+1+2 by omega];simpa using this
theorem iZ(l m):aJ (l++m)=aJ l++aJ m:=by simp[aJ]
theorem fZ(l):∀u∈aJ l,u.oneCell'=true:=by
 intro u b;have⟨c,_,a⟩:=AV.1 b;simp only[AS,FG,KO]at a;rcases a with rfl|rfl<;>rfl
theorem aH.kv {a:Option Addr}(h:aH w S a (aJ l))(k:j<l):∃b c,a=some (aD b c)/\S b/\w.c b (c+j * 2)=some (.t (l[j]).1)/\w.c b (c+j * 2+1)=some (.t (l[j]).2):=by
 have⟨d,f⟩:=xS k;rcases h with h|⟨b,c,g,i,e⟩
 .rw[h]at d;simp at d
 .exact⟨b,c,g,i,e _ _ d,e _ _ f⟩
theorem fD.own (h:w.ownsRow 0 71 2 v l (aJ l)):fD w (λk=>v.ownBlock=some k) v l:=by
 obtain⟨a,c,rfl,e,f⟩:=cA h;refine⟨a,c,rfl,e,f,?_⟩;rcases kE h with⟨b,_⟩|⟨g,i,j,d,_⟩
 .simp only[AR]at b;exact .inl ⟨b.1,b.2.2⟩
 .simp only[AR]at d;exact .inr ⟨g,0,d.1⟩
def KN:=@fD.own
theorem aH.kvTake {a}(h:aH w S a (aJ l))(i):aH w S a (aJ (l.take i)):=by
 rcases h with h|⟨b,j,d,e,f⟩
 .refine .inl ?_;have:l=[]:=by
   cases l with
   |nil=>rfl
   |cons x l=>simp[aJ]at h
  rw[this];simp[aJ]
 .refine .inr ⟨b,j,d,e,λg k c=>f g k ?_⟩;rw[<-BU i l,iZ];exact(BK (AD.1 c).1).t c
theorem aH.kvDrop {b d:Nat}(h:aH w S (some (aD b d)) (aJ l))(i)(hi:i<=l.length){a:Option Addr}(g:i<l->a=some (aD b (d+i * 2))):aH w S a (aJ (l.drop i)):=by
 rcases BT i l with p|m
 .rcases h with h|⟨s,t,e,j,k⟩
  .have:=eH l;rw[h]at this;simp at this;omega
  .simp only[BB,CD,DC]at e
   obtain⟨rfl,rfl⟩:=e;refine .inr ⟨b,d+i * 2,g p,j,λc r q=>?_⟩;have f:=k (i * 2+c) r (by
    have n:aJ l=aJ (l.take i)++aJ (l.drop i):=by rw[<-iZ,BU]
    have o:(aJ (l.take i)).length=i * 2:=by rw[eH,AX];omega
    rw[n,AZ ω,o,show i * 2+c-i * 2=c by omega];exact q)
   rw[show d+i * 2+c=d+(i * 2+c) by omega];exact f
 .refine .inl ?_;rw[CW m];rfl
theorem lC{P ops f o a Q}(w)(t:o.guard=none)(g x T b zero z bytes)(A:o.op=.call {callee:=.builtin .append,args:=#[g,x],argTypes:=#[T,T]})(r:P.underlying T=some (.slice b))(hi:(P.info? b).map (λi=>(i.zero,i.size,i.bytes))=some (some zero,z,bytes))(G:zero.cells.size=z)(D:0<z)(v n xs)(C:a.eval g=v)(E:w.ownsRow 0 b z v n xs)(e m c S d)(F:a.eval x=.s e m c)(y:d.length=m * z)(q:aH w S e d)(k:∀u∈d,u.oneCell'=true)(l:n+m<=140737488355328)(s:(n+m) * bytes<=140737488355328)(h:∀v' w',fO b z v n xs d m w v' w'->wpList P ops Q f (a.put o.dst v') w'):wpList P ops Q (o :: f) a w:=by
 refine FH t λK p=>?_;have⟨v',w',B,j⟩:=qDf (P:=P) w T o.type b zero z bytes r hi G D v n xs E e m c S d y q k l s;unfold Oper.wp execOp;simp only[A,resolve,invoke,builtin,EK,ED,DN,DQ,BE,DB,C,F,B];exact p _ _ (h v' w' j)
theorem qJd:∀{l:KV}{k:ByteArray}{j:Nat} (a:j<l),j<rat l k->lt (l[j]).1 k=true
 |x :: l,k,0,_,h=>by
  cases hx:lt x.1 k
  .rw[(Fy hx).1]at h;omega
  .exact hx
 |x :: l,k,j+1,a,h=>by
  cases hx:lt x.1 k
  .rw[(Fy hx).1]at h;omega
  .rw[(Gh hx).1]at h;exact qJd (l:=l) (by simpa using a) ω
theorem Rs:∀{l:KV}{k:ByteArray} (h:rat l k<l),lt (l[rat l k]).1 k=false
 |x :: l,k,h=>by
  cases hx:lt x.1 k with
  |false=>simp only[(Fy (l:=l) hx).1,CX];exact hx
  |true =>
   have a:rat l k<l:=by have:=(Gh (l:=l) hx).1;simp at h;omega
   have:=Rs a;simp only[(Gh (l:=l) hx).1,DL];exact this
theorem Qb(v l key S w)(h:fD w S v l)(y:l.length<=1000000):
  cL 103 #[v,.t key] w λe w'=>e=.r (.i (rat l key:Nat))/\w'=w:=by
 obtain⟨a,c,rfl,s,j,_⟩:=h;have z:=xD l key;go_enter func103,ntmps103;go_wp2;go_loopw [5] (λg o=>∃d:Nat,g=.i d/\d<=rat l key/\o=w) (λg _=>rat l key-(intOf g).toNat)
 case atStart=>exact⟨0,rfl,AG _,rfl⟩
 case round =>
  obtain⟨d,rfl,x,n⟩:=hrel;subst n;rcases BT d l with f|t
  .obtain⟨b,A,rfl,r,p,q⟩:=j.kv f;have k:(d:Int)<(l.length:Int):=ω
   rcases BT d (rat l key) with m|u
   .have i:Op.bytesLess (l[d]).1.toList key.toList=true:=qJd f m;go_wp2;exact⟨⟨d+1,σ,ω,trivial⟩,θ⟩
   .obtain rfl:d=rat l key:=ω;have i:Op.bytesLess (l[rat l key]).1.toList key.toList=false:=Rs f;go_wp2;go_ret;exact⟨rfl,rfl⟩
  .obtain rfl:d=rat l key:=ω;have k:¬((rat l key:Nat):Int)<(l.length:Int):=ω;go_wp2;go_ret;exact⟨rfl,rfl⟩
theorem yC(v l S w)(h:fD w S v l)(i:l.length<=1000000):
  cL 58 #[v] w λe w'=>∃v',e=.r v'/\w'.ownsRow 0 71 2 v' l (aJ l)/\bW w w'/\nW v' w:=by
 obtain⟨a,c,rfl,g,f,_⟩:=h;go_enter func58,ntmps58;go_wp2_with (at_builtin;apply lC w rfl (.tmp 4) (.tmp 5) 30 71 _ 2 32 rfl underlying30 fR rfl δ .n 0 [] rfl (AO _ _ _ _) a l c S (aJ l) rfl (eH l) f (fZ l) ω ω;intro p j b);go_ret;refine⟨_,rfl,by simpa using b.row,b.fr.below (jU _) (λk d=>by simp[Value.ownBlock]at d),λk d=>(b.lies k d).elim (λh=>by simp[Value.ownBlock]at h) id⟩
theorem Lb(v l key i S w)(h:fD w S v l)(Y:lW S w)(a4:l.length<=1000000):
  cL 70 #[v,.t key,.t i] w λe w'=>∃v',e=.r v'/\w'.ownsRow 0 71 2 v' (oU l key i) (aJ (oU l key i))/\bW w w'/\nW v' w:=by
 have E:=Qb v l key S w h a4;obtain⟨a,c,rfl,a8,K,a0⟩:=h;have R:=xD l key;have I:Hid (∀s:rat l key<l,(l[rat l key]).1=key↔nP l key=true):=λs=>by unfold nP;rw[jQ s];simp
 have J:Hid (l<=rat l key->nP l key=false):=λh=>by unfold nP;rw[CL h];rfl
 have L:Hid (oU l key i=l.take (rat l key)++(key,i):: l.drop (rat l key+if nP l key=true then 1 else 0)):=rfl;have D:Hid ((l.take (rat l key)).length=rat l key):=by show _=_;rw[AX];omega
 generalize nP l key=ht at I J L;generalize rat l key=r at E R I J L D;have aa:r<=c:=ω
 have H:Hid (∀X,bW w X->aH X S a (aJ l)):=λX Z=>K.on (vV Z Y);have C:Hid (∀(j o:Value) (m g:World),fO 71 2 .n 0 [] (aJ (l.take r)) r w j m->fO 71 2 j (0+r) ([]++aJ (l.take r)) [.t key,.t i] 1 m o g->bW w g):=λj o m g d f=>by
  have B:=d.fr.below (jU _) (λk n=>by simp[Value.ownBlock]at n);exact B.t (f.fr.below B.size (λk n=>(d.lies k n).elim (λh=>by simp[Value.ownBlock]at h) id))
 have G:Hid (∀(q O:Nat) (j o v3:Value) (m g u:World),q=r+(if ht=true then 1 else 0)->O=l-q->fO 71 2 .n 0 [] (aJ (l.take r)) r w j m->fO 71 2 j (0+r) ([]++aJ (l.take r)) [.t key,.t i] 1 m o g->fO 71 2 o (0+r+1) ([]++aJ (l.take r)++[.t key,.t i]) (aJ (l.drop q)) O g v3 u->u.ownsRow 0 71 2 v3 (oU l key i) (aJ (oU l key i))/\bW w u/\nW v3 w):=by
  intro q O j o v3 m g u a5 a3 d f p;have B:=d.fr.below (jU _) (λk n=>by simp[Value.ownBlock]at n);have a6:=λk n=>(d.lies k n).elim (λh=>by simp[Value.ownBlock]at h) id;have M:=C.o j o m g d f;have U:=λk n=>(f.lies k n).elim (a6 k) (λh=>vJ B.size h);have T:=p.row;rw[a3]at T;rw[L.o,<-a5];refine⟨?_,M.t (p.fr.below M.size U),λk n=>(p.lies k n).elim (U k) (λh=>vJ M.size h)⟩;have W:(l.take r++(key,i):: l.drop q).length=0+r+1+(l-q):=by rw[jK,jB,D.o,BJ];omega
  rw[W,iZ];simpa[aJ] using T
 go_enter func70,ntmps70;rcases a0 with⟨rfl,rfl⟩|⟨b,F,rfl⟩
 .obtain rfl:l=[]:=AH ω;obtain rfl:r=0:=by simpa using R
  have y:=J.o (AG _);go_wp2_with (first
   |(apply Calls.w E)
   |(at_builtin;refine lC w rfl (.tmp 12) (.tmp 15) 30 71 _ 2 32 rfl underlying30 fR rfl δ .n 0 [] rfl (AO _ _ _ _) none 0 0 S (aJ (([]:KV).take 0)) rfl (by rw[eH,show(([]:KV).take 0).length=0 from rfl]) (.inl rfl) (fZ _) ω ω ?_;intro P m d;obtain⟨j,A,rfl⟩:=aG d.row)
   |(at_builtin;refine gQ m rfl (.tmp 17) (.tmp 21) 30 71 _ 2 32 rfl underlying30 fR rfl δ (.s j (0+0) A) (0+0) ([]++aJ (([]:KV).take 0)) (by simp[Act.eval]) d.row [.t key,.t i] rfl rfl υ ω ω ?_;intro o g f;obtain⟨x,z,rfl⟩:=f.shape δ;have t:=H.o g (C.o _ _ _ _ d f))
   |(at_builtin;refine lC g rfl (.tmp 38) (.tmp 41) 30 71 _ 2 32 rfl underlying30 fR rfl δ (.q x (0+0+1) z) (0+0+1) ([]++aJ (([]:KV).take 0)++[.t key,.t i]) (by simp[Act.eval]) f.row _ _ _ S (aJ (([]:KV).drop 0)) rfl (by rw[eH,BJ]<;>omega) (.inl rfl) (fZ _) ω ω ?_;intro v3 u p))
  all_goals go_ret
  all_goals exact⟨_,rfl,G.o (0) _ _ _ _ _ _ _ (by rw[y];rfl) (by first|rfl|omega|(simp;omega)) d f p⟩
 .rcases BT r l with s|a1
  focus
   have a2:(r:Int)<(l.length:Int):=ω;have ab:r+1<=c:=ω;have Q:Hid (∀X (s:r<l),aH X S (some (aD b F)) (aJ l)->X.c b (F+r * 2)=some (.t (l[r]).1)):=λX s h=>by
    obtain⟨a7,o',e,_,B,_⟩:=h.kv s;simp only[BB,CD,DC]at e;rw[e.1,e.2];exact B
   by_cases n:(l[r]).1=key
   focus
    have y:=(I.o s).1 n;have ac:IntKind.i64.wrap ((r:Int)+1)=(r:Int)+1:=by rw[CQ];omega
    have⟨q,hq⟩:∃q,Hid (q=r+1):=⟨_,rfl⟩
   rotate_left;have y:ht=false:=by cases ht with|false=>rfl|true=>exact absurd ((I.o s).2 rfl) n
   have a9:=DP.2 (λe=>n (iV e));have⟨q,hq⟩:∃q,Hid (q=r):=⟨_,rfl⟩
  rotate_left;rotate_left;have a2:¬(r:Int)<(l.length:Int):=ω;have y:=J.o a1;have⟨q,hq⟩:∃q,Hid (q=r):=⟨_,rfl⟩
  all_goals
   go_wp2_with (first
    |(apply Calls.w E)
    |(at_builtin;refine lC w rfl (.tmp 12) (.tmp 15) 30 71 _ 2 32 rfl underlying30 fR rfl δ .n 0 [] rfl (AO _ _ _ _) (some (aD b F)) r c S (aJ (l.take r)) rfl (by rw[eH,D.o]) (K.kvTake _) (fZ _) ω ω ?_;intro P m d;obtain⟨j,A,rfl⟩:=aG d.row)
    |(at_builtin;refine gQ m rfl (.tmp 17) (.tmp 21) 30 71 _ 2 32 rfl underlying30 fR rfl δ (.s j (0+r) A) (0+r) ([]++aJ (l.take r)) (by simp[Act.eval]) d.row [.t key,.t i] rfl rfl υ ω ω ?_;intro o g f;obtain⟨x,z,rfl⟩:=f.shape δ;have t:=H.o g (C.o _ _ _ _ d f);try have V:=Q.o _ s t)
    |(at_builtin;refine lC g rfl (.tmp 38) (.tmp 41) 30 71 _ 2 32 rfl underlying30 fR rfl δ (.q x (0+r+1) z) (0+r+1) ([]++aJ (l.take r)++[.t key,.t i]) (by simp[Act.eval]) f.row _ _ _ S (aJ (l.drop q)) rfl (by rw[eH,BJ,hq.o]<;>omega) (t.kvDrop q (by rw[hq.o];omega) (by rw[hq.o];first|(intro _;rfl)|(intro h;exact AQ ω)|(intro h;exfalso;omega))) (fZ _) ω ω ?_;intro v3 u p))
  all_goals go_ret
  all_goals exact⟨_,rfl,G.o q _ _ _ _ _ _ _ (by rw[y,hq.o];rfl) (by have:=hq.o;subst this;first|rfl|omega|(simp;omega)) d f p⟩
theorem qBt(v l key S w)(h:fD w S v l)(O:lW S w)(V:l.length<=1000000):
  cL 108 #[v,.t key] w λe w'=>∃v',e=.r v'/\w'.ownsRow 0 71 2 v' (rwo l key) (aJ (rwo l key))/\bW w w'/\nW v' w:=by
 have x:=Qb v l key S w h V;obtain⟨a,c,rfl,a0,D,Q⟩:=h;have J:=xD l key;have B:Hid (∀m:rat l key<l,(l[rat l key]).1=key↔nP l key=true):=λm=>by unfold nP;rw[jQ m];simp
 have C:Hid (l<=rat l key->nP l key=false):=λh=>by unfold nP;rw[CL h];rfl
 have E:Hid (rwo l key=l.take (rat l key)++l.drop (rat l key+if nP l key=true then 1 else 0)):=rfl;have t:Hid ((l.take (rat l key)).length=rat l key):=by show _=_;rw[AX];omega
 generalize nP l key=ht at B C E;generalize rat l key=r at x J B C E t;have a2:r<=c:=ω
 have A:Hid (∀X,bW w X->aH X S a (aJ l)):=λX P=>D.on (vV P O);have z:Hid (∀(q G:Nat) (i v3:Value) (g Y o:World),q=r+(if ht=true then 1 else 0)->G=l.length-q->fO 71 2 .n 0 [] (aJ (l.take r)) r w i g->fO 71 2 i (0+r) ([]++aJ (l.take r)) (aJ (l.drop q)) G g v3 o->o.ownsRow 0 71 2 v3 (rwo l key) (aJ (rwo l key))/\bW w o/\nW v3 w):=by
  intro q G i v3 g Y o W U d j;have u:=d.fr.below (jU _) (λk f=>by simp[Value.ownBlock]at f);have L:=λk f=>(d.lies k f).elim (λh=>by simp[Value.ownBlock]at h) id;have K:=j.row;rw[U]at K;rw[E.o,<-W];refine⟨?_,u.t (j.fr.below u.size L),λk f=>(j.lies k f).elim (L k) (λh=>vJ u.size h)⟩;have N:(l.take r++l.drop q).length=0+r+(l-q):=by rw[jK,t.o,BJ];omega
  rw[N,iZ];simpa[aJ] using K
 go_enter func108,ntmps108;rcases Q with⟨rfl,rfl⟩|⟨b,y,rfl⟩
 .obtain rfl:l=[]:=AH ω;obtain rfl:r=0:=by simpa using J
  have p:=C.o (AG _);go_wp2_with (first
   |(apply Calls.w x)
   |(at_builtin;refine lC w rfl (.tmp 10) (.tmp 13) 30 71 _ 2 32 rfl underlying30 fR rfl δ .n 0 [] rfl (AO _ _ _ _) none 0 0 S (aJ (([]:KV).take 0)) rfl (by rw[eH,show(([]:KV).take 0).length=0 from rfl]) (.inl rfl) (fZ _) ω ω ?_;intro H g d;obtain⟨i,s,rfl⟩:=aG d.row;have n:=A.o g (d.fr.below (jU _) (λk f=>by simp[Value.ownBlock]at f)))
   |(at_builtin;refine lC g rfl (.tmp 30) (.tmp 33) 30 71 _ 2 32 rfl underlying30 fR rfl δ (.s i (0+0) s) (0+0) ([]++aJ (([]:KV).take 0)) (by simp[Act.eval]) d.row _ _ _ S (aJ (([]:KV).drop 0)) rfl (by rw[eH,BJ]<;>omega) (.inl rfl) (fZ _) ω ω ?_;intro v3 o j))
  all_goals go_ret
  all_goals exact⟨_,rfl,z.o (0) _ _ _ _ w _ (by rw[p];rfl) (by first|rfl|omega|(simp;omega)) d j⟩
 .rcases BT r l with m|R
  focus
   have T:(r:Int)<(l.length:Int):=ω;have a3:r+1<=c:=ω;have I:Hid (∀X (m:r<l),aH X S (some (aD b y)) (aJ l)->X.c b (y+r * 2)=some (.t (l[r]).1)):=λX m h=>by
    obtain⟨Z,o',e,_,u,_⟩:=h.kv m;simp only[BB,CD,DC]at e;rw[e.1,e.2];exact u
   by_cases f:(l[r]).1=key
   focus
    have p:=(B.o m).1 f;have a4:IntKind.i64.wrap ((r:Int)+1)=(r:Int)+1:=by rw[CQ];omega
    have⟨q,hq⟩:∃q,Hid (q=r+1):=⟨_,rfl⟩
   rotate_left;have p:ht=false:=by cases ht with|false=>rfl|true=>exact absurd ((B.o m).2 rfl) f
   have a1:=DP.2 (λe=>f (iV e));have⟨q,hq⟩:∃q,Hid (q=r):=⟨_,rfl⟩
  rotate_left;rotate_left;have T:¬(r:Int)<(l.length:Int):=ω;have p:=C.o R;have⟨q,hq⟩:∃q,Hid (q=r):=⟨_,rfl⟩
  all_goals
   go_wp2_with (first
    |(apply Calls.w x)
    |(at_builtin;refine lC w rfl (.tmp 10) (.tmp 13) 30 71 _ 2 32 rfl underlying30 fR rfl δ .n 0 [] rfl (AO _ _ _ _) (some (aD b y)) r c S (aJ (l.take r)) rfl (by rw[eH,t.o]) (D.kvTake _) (fZ _) ω ω ?_;intro H g d;obtain⟨i,s,rfl⟩:=aG d.row;have n:=A.o g (d.fr.below (jU _) (λk f=>by simp[Value.ownBlock]at f));try have M:=I.o _ m n)
    |(at_builtin;refine lC g rfl (.tmp 30) (.tmp 33) 30 71 _ 2 32 rfl underlying30 fR rfl δ (.s i (0+r) s) (0+r) ([]++aJ (l.take r)) (by simp[Act.eval]) d.row _ _ _ S (aJ (l.drop q)) rfl (by rw[eH,BJ,hq.o]<;>omega) (n.kvDrop q (by rw[hq.o];omega) (by rw[hq.o];first|(intro _;rfl)|(intro h;exact AQ ω)|(intro h;exfalso;omega))) (fZ _) ω ω ?_;intro v3 o j))
  all_goals go_ret
  all_goals exact⟨_,rfl,z.o q _ _ _ _ w _ (by rw[p,hq.o];rfl) (by have:=hq.o;subst this;first|rfl|omega|(simp;omega)) d j⟩
theorem Xb(n)(h : -9223372036854775808<=n/\n<=9223372036854775807):wrap64 n=n:=by unfold wrap64;omega
def lE(x:ByteArray×ByteArray):Nat:=2+if 60<x.2.size then (x.2.size+239) / 240 else 0
theorem Xz(l):dL l=2+tot lE l:=rfl
theorem qEi (h:x.2.size<=400):lE x<=4:=by unfold lE;split<;>omega
theorem Hc:∀(l:KV),(∀x∈l,x.2.size<=400)->tot lE l<=4 * l
 |[],_=>jU _
 |x :: l,h=>by
  have c:=qEi (h x σ);have d:=Hc l (λb a=>h b (by simp[a]));simp only[cQ,jB];omega
theorem qFp(v ver l S w)(h:fD w S v l)(B:lW S w)(O:l.length<=1000000)(t:∀x∈l,x.2.size<=400):
  cL 109 #[.agg #[v,.i ver]] w λe w'=>e=.r (.i (dL l:Nat))/\bW w w':=by
 obtain⟨a,c,rfl,K,z,_⟩:=h;obtain⟨f,s,q,G,-⟩:=al1 w (.cells #[.s a l c,.i ver] 32);have⟨R,U⟩:=cM G;have u:Hid (∀d,d<=l.length->tot lE (l.take d)<=4 * d):=λd C=>by
  have:=Hc (l.take d) (λx E=>t x (DD E));rw[AX]at this;omega
 go_enter func109,ntmps109;go_wp2;go_loopw [3,4] (λn p F=>∃d:Nat,p=.i d/\d<=l/\n=.i ((2+tot lE (l.take d):Nat):Int)/\F=f) (λ_ p _=>l-(intOf p).toNat)
 case atStart=>exact⟨0,rfl,AG _,rfl,rfl⟩
 case round =>
  obtain⟨d,rfl,C,rfl,D⟩:=hrel;subst D;rcases BT d l with o|L
  .obtain⟨b,Q,rfl,J,H,I⟩:=(z.on (vV q B)).kv o;have M:(d:Int)<(l.length:Int):=ω;have g:=mF lE l d o;have P:=t _ (AA o);have m:=u d ω;have⟨T,j⟩:=nM (tot lE (l.take d));rw[j]at g m⊢;by_cases h6:60<(l[d]).2.size
   .have y:(60:Int)<((l[d]).2.size:Int):=ω
    have i:Hid (wrap64 (wrap64 (2+(T:Int)+2)+(((l[d]).2.size:Int)+239) / 240)=((2+tot lE (l.take (d+1)):Nat):Int)):=by
     show _=_;rw[g];unfold lE;rw[AU h6,Xb (2+(T:Int)+2) ω,Xb _ ω];omega
    clear g j m;go_wp2;exact⟨⟨d+1,σ,ω,by rw[i.o],trivial⟩,θ⟩
   .have y:¬(60:Int)<((l[d]).2.size:Int):=ω
    have i:Hid (wrap64 (2+(T:Int)+2)=((2+tot lE (l.take (d+1)):Nat):Int)):=by
     show _=_;rw[g];unfold lE;rw[AQ h6,Xb _ ω];omega
    clear g j m;go_wp2;exact⟨⟨d+1,σ,ω,by rw[i.o],trivial⟩,θ⟩
  .obtain rfl:d=l:=ω;have r:Hid ((2+tot lE (l.take l):Nat)=dL l):=by rw[BN];rfl
   generalize 2+tot lE (l.take l)=N at r⊢;go_wp2;go_ret;exact⟨by rw[r.o];rfl,q⟩
theorem Xu(v ver l S w)(h:fD w S v l)(m:lW S w)(p:l.length<=1000000):
  cL 102 #[.agg #[v,.i ver]] w λe w'=>∃v',e=.r v'/\w'.ownsRow 0 71 2 v' l (aJ l)/\bW w w'/\nW v' w:=by
 obtain⟨b,f,d,q,-⟩:=al1 w (.cells #[v,.i ver] 32);obtain⟨s,t⟩:=cM q;have i:=yC v l S b (h.on (vV d m)) p;obtain⟨a,c,rfl,_⟩:=h;go_enter func102,ntmps102;go_wp2_with (apply Calls.m i;rintro e r ⟨v',rfl,j,g,o⟩);go_ret;exact⟨_,rfl,j,d.tm g,λk n=>vJ d.size (o k n)⟩
theorem Lf(v v' l S S' w)(h:fD w S v l)(h':fD w S' v' l)(hn:l.length<=1000000):
  cL 63 #[v,v'] w λe w'=>e=.r (.bool true)/\bW w w':=by
 obtain⟨a,c,rfl,Q,E,_⟩:=h;obtain⟨J,R,rfl,I,s,_⟩:=h';have A:(((l.length:Int)) != (l.length:Int))=false:=σ
 go_enter func63,ntmps63;go_wp2;go_loopw [5] (λi wr=>∃j:Nat,i=.i j/\j<=l/\Hid (bW w wr/\aH wr S a (aJ l)/\aH wr S' J (aJ l))) (λi _=>l-(intOf i).toNat)
 case atStart=>exact⟨0,rfl,AG _,AC _ _,E,s⟩
 case round =>
  obtain⟨j,rfl,T,y⟩:=hrel;rcases BT j l with q|F
  .have⟨L,g,f⟩:=y.o;obtain⟨b,o,rfl,N,D,M⟩:=g.kv q;obtain⟨z,d,rfl,C,G,K⟩:=f.kv q;have H:(j:Int)<(l.length:Int):=ω
   go_wp2;go_region_held3 (λX=>X.c b (o+j * 2)=some (.t (l[j]).1)/\X.c b (o+j * 2+1)=some (.t (l[j]).2)/\X.c z (d+j * 2)=some (.t (l[j]).1)/\X.c z (d+j * 2+1)=some (.t (l[j]).2))
    (exact⟨D,M,G,K⟩)
    (fail)
   all_goals go_wp2
   all_goals
    have u:∀Z:Bl,On Z wr wr.drew:=λZ=>⟨rfl,rfl,rfl,jU _,λ_ _=>rfl⟩;exact⟨⟨j+1,σ,ω,L.drew,g.on (u S),f.on (u S')⟩,θ⟩
  .obtain rfl:j=l:=ω;go_wp2;go_ret;exact⟨rfl,y.1⟩
theorem sU(k w):
  cL 68 #[.t k] w λe w'=>e=.r (.bool (decide (1<=k.size/\k.size<=24)))/\w'=w:=by
 by_cases h1:1<=k.size
 .have a:(1:Int)<=(k.size:Int):=ω;go_enter func68,ntmps68;go_wp2;refine BH (v:=.bool (decide ((k.size:Int)<=24))) ?_ rfl ⟨by rw[show decide (1<=k.size/\k.size<=24)=decide ((k.size:Int)<=24) from KT.2 ω],rfl⟩;simp[results,results68,go_sem]
 .have a:¬(1:Int)<=(k.size:Int):=ω;go_enter func68,ntmps68;go_wp2;refine BH (v:=.bool false) ?_ rfl ⟨rfl,rfl⟩;simp[results,results68,go_sem]
theorem zV(k w):
  cL 69 #[.t k] w λe w'=>e=.r (.bool (decide (k.size<=400)))/\w'=w:=by
 go_enter func69,ntmps69;go_wp2;refine BH (v:=.bool (decide ((k.size:Int)<=400))) ?_ rfl ⟨by rw[show decide (k.size<=400)=decide ((k.size:Int)<=400) from KT.2 ω],rfl⟩;simp[results,results69,go_sem]
structure RT where
 num:Int
 wr:Bool
 bg:KV
 bv:Int
 l:KV
 ch:List Ch
 oth:List ByteArray
 vb:Value
 vl:Value
 vc:Value
 vo:Value
abbrev RT.cells(t:RT):List Value:=[.int .i64 t.num,.bool t.wr,t.vb,.int .i64 t.bv,t.vl,t.vc,t.vo]
structure RM where
 f:Value
 x:Value
 vn:Value
 nv:Int
 va:Value
 av:Int
 ov:Value
 last:Int
 now:KV
 ah:KV
 ts:List RT
 oth:KV
 p0:Value
 p1:Value
 p2:Value
 p3:Value
 p4:Value
 p5:Value
 p6:Value
 p7:Value
 p8:Value
 p9:Value
abbrev RM.obj(M:RM):Obj:=.cells #[M.f,M.x,M.vn,.int .i64 M.nv,M.va,.int .i64 M.av,M.ov,.int .i64 M.last,M.p0,M.p1,M.p2,M.p3,M.p4,M.p5,M.p6,M.p7,M.p8,M.p9] 43
variable {M:RM}
def fpX(t:RT):Bl:=λk=>t.vc.ownBlock=some k\/t.vo.ownBlock=some k
structure TxR (w:World) (K:Bl) (t:RT):Prop where
 bg:fD w K t.vb t.bg
 l:fD w K t.vl t.l
 ch:w.ownsRow 0 131 3 t.vc t.ch.length (t.ch.flatMap Ch.cells)
 oth:w.ownsRow 0 9 1 t.vo t.oth.length (t.oth.map .string)
def Kv2(w:World)(K:Bl)(M:RM):Prop:=fD w K M.va M.ah/\fD w K M.p0 M.oth
theorem Kv2.on (h:Kv2 w K M)(g:On K w w'):Kv2 w' K M:=⟨h.1.on g,h.2.on g⟩
theorem Kv2.m {K K':Bl}(h:Kv2 w K M)(g:∀k,K k->K' k):Kv2 w K' M:=⟨h.1.m g,h.2.m g⟩
structure aV (w:World) (K:Bl) (q:Nat) (M:RM):Prop where
 box:w.1[q]?=some M.obj
 row:w.ownsRow 0 119 7 M.ov M.ts.length (M.ts.flatMap RT.cells)
 now:fD w K M.vn M.now
 ah:Kv2 w K M
 each:∀t∈M.ts,TxR w K t
 apart:M.ts.Pairwise (λa b=>∀k,fpX a k->¬fpX b k)
 kp:∀k,K k->k<w.1.size/\k≠q/\M.ov.ownBlock≠some k/\∀t∈M.ts,¬fpX t k
def fpR(q:Nat)(M:RM):Bl:=λk=>k=q\/M.ov.ownBlock=some k\/∃t∈M.ts,fpX t k
theorem TxR.on {t}(h:TxR w K t)(a:On K w w')(b:On (fpX t) w w'):TxR w' K t :=
 ⟨h.bg.on a,h.l.on a,aS h.ch b (λc a=>.inl a),aS h.oth b (λc a=>.inr a)⟩
theorem TxR.lies {t:RT}(h:TxR w K t):∀k,fpX t k->k<w:=by
 rintro k (a|a)
 .exact aL h.ch a
 .exact aL h.oth a
theorem aV.on (h:aV w K q M)(b:On (Bl.or K (fpR q M)) w w'):aV w' K q M:=by
 have a:=b.m (λc a=>.inl a);exact⟨b.heap h.box (.inr (.inl rfl)),aS h.row b (λc a=>.inr (.inr (.inl a))),h.now.on a,h.ah.on a,λe d=>(h.each e d).on a (b.m (λc a=>.inr (.inr (.inr ⟨e,d,a⟩)))),h.apart,λc a=>⟨jY (h.kp c a).1 b.size,(h.kp c a).2⟩⟩
theorem aV.lies (h:aV w K q M):∀k,Bl.or K (fpR q M) k->k<w:=by
 rintro k (a|rfl|a|⟨c,b,a⟩)
 .exact(h.kp k a).1
 .exact(gL h.box)
 .exact aL h.row a
 .exact(h.each c b).lies k a
theorem aV.bl {w x:World}(h:aV w K q M)(d:bW w x):aV x K q M:=h.on (vV d h.lies)
theorem aV.below (h:aV w K q M)(a:bW w w'):aV w' K q M:=h.bl a
theorem dC {β a b g i j k l m n o c d e f p q r s t}(h:cW w β #[a,b,g,i,j,k,l,m,n,o,c,d,e,f,p,q,r,s] t):
  w.c β 0=some a/\w.c β 1=some b/\w.c β 2=some g/\w.c β 3=some i/\w.c β 4=some j/\w.c β 5=some k/\w.c β 6=some l/\w.c β 7=some m/\w.c β 8=some n/\w.c β 9=some o/\w.c β 10=some c/\w.c β 11=some d/\w.c β 12=some e/\w.c β 13=some f:=by
 simp[World.cell?,h]
theorem Fx:∀{l:List RT}{j:Nat} (a:j<l) {i:Nat}{u:Value},i<7->(l[j]).cells[i]?=some u->(l.flatMap RT.cells)[j * 7+i]?=some u
 |x :: l,0,_,i,u,hi,hu=>by
  rw[AK,EO,EA,BK (by simpa using hi)];exact hu
 |x :: l,j+1,h,i,u,hi,hu=>by
  have:=Fx (l:=l) (j:=j) (by simpa using h) hi hu;rw[AK,AZ (by simp;omega),show(j+1) * 7+i-(RT.cells x)=j * 7+i by simp;omega];exact this
theorem aV.tx (h:aV w K q M){t:RT}(m:M.ts[j]?=some t):∃g c,M.ov=.q g M.ts c/\M.ts<=c/\w.c g (j * 7)=some (.i t.num)/\w.c g (j * 7+1)=some (.bool t.wr)/\w.c g (j * 7+2)=some t.vb/\w.c g (j * 7+3)=some (.i t.bv)/\w.c g (j * 7+4)=some t.vl/\w.c g (j * 7+5)=some t.vc/\w.c g (j * 7+6)=some t.vo:=by
 obtain⟨n,rfl⟩:=AD.1 m;have⟨g,c,e,x,_⟩:=yY h.row ω;have k:M.ts<=c:=by
  have⟨p,s,b,v,_⟩:=cA h.row;rw[e]at b;simp only[AR,CV]at b;omega
 have a:∀d f,d<7->(M.ts[j]).cells[d]?=some f->w.c g (j * 7+d)=some f:=λd f l o=>by
  have⟨r,b,_,_,i⟩:=zD (e▸h.row) (Fx n l o);simp only[BB,CD,DC]at b;rw[b];exact i
 exact⟨g,c,e,k,a 0 _ δ rfl,a 1 _ δ rfl,a 2 _ δ rfl,a 3 _ δ rfl,a 4 _ δ rfl,a 5 _ δ rfl,a 6 _ δ rfl⟩
def tZ(ts:List RT)(x:Int):Int:=match ts.findIdx? (λt=>t.num==x) with
 |some i=>i
 |none=>-1
theorem Rn {a:List RT}{x}(h:j<a.length)(d:(a[j].num==x)=true)(c:∀m (b:m<a.length),m<j->(a[m].num==x)=false):tZ a x=j:=by
 unfold tZ;rw[JB.2 ⟨h,d,λm b=>by simpa using c m ω b⟩]
theorem qEl{a x}(c:∀m (b:m<a.length),(a[m].num==x)=false):tZ a x = -1:=by
 unfold tZ;rw[NK.2 (λe d=>by obtain⟨m,b,rfl⟩:=AW d;exact c m b)]
theorem Ay (h:aV w K q M)(x)(J:M.ts.length<=8):
  cL 66 #[.p q 2,.i x] w λe w'=>e=.r (.i (tZ M.ts x))/\w'=w:=by
 have⟨I,A,B,C,D,E,s,F,_⟩:=dC h.box;have l:Hid (∀a (j:a<M.ts.length),∃g c,M.ov=.q g M.ts.length c/\M.ts.length<=c/\w.c g (a * 7)=some (.i (M.ts[a]).num)):=λa j=>by
  have⟨g,c,e,o,m,_⟩:=h.tx (jQ j);exact⟨g,c,e,o,m⟩
 have⟨L,N,u⟩:=aG h.row;rw[u]at s l;go_enter func66,ntmps66;go_wp2;go_loopw [5] (λk y=>∃a:Nat,k=.i a/\a<=M.ts.length/\y=w/\Hid (∀b (d:b<M.ts.length),b<a->(M.ts[b].num==x)=false)) (λk _=>M.ts-(intOf k).toNat)
 case atStart=>exact⟨0,rfl,AG _,rfl,λb d t=>absurd t (FQ _)⟩
 case round =>
  obtain⟨a,rfl,j,v,f⟩:=hrel;subst v;rcases BT a M.ts with p|z
  .have⟨g,c,e,o,m⟩:=l a p;simp only[AR,CV]at e;obtain⟨rfl,rfl⟩:=e;have H:(a:Int)<(M.ts.length:Int):=ω
   cases hx:(M.ts[a]).num==x with
   |true =>
    have i:Hid (tZ M.ts x=a):=Rn p hx f;go_wp2;go_ret;exact⟨by rw[i.o];rfl,rfl⟩
   |false =>
    have r:Hid (∀b (d:b<M.ts.length),b<a+1->(M.ts[b].num==x)=false):=λb d G=>by
     rcases BT b a with n|n
     .exact f b d n
     .obtain rfl:b=a:=ω;exact hx
    go_wp2;exact⟨⟨a+1,σ,ω,trivial,r⟩,by simp[intOf];omega⟩
  .have i:Hid (tZ M.ts x = -1):=qEl (λb d=>f b d ω);obtain rfl:a=M.ts.length:=ω;go_wp2;go_ret;exact⟨by rw[i.o];rfl,rfl⟩
def cI(ts:List RT)(x:Int):Option (Nat×RT)->Prop
 |none=>tZ ts x = -1
 |some (j,t)=>ts[j]?=some t/\tZ ts x=j
theorem Ge(a x):∃o,cI a x o:=by
 cases h:a.findIdx? (λc=>c.num==x) with
 |none=>exact⟨none,by show tZ a x = -1;unfold tZ;rw[h]⟩
 |some i =>
  have⟨b,_⟩:=JB.1 h;exact⟨some (i,a[i]),jQ b,by unfold tZ;rw[h]⟩
def eG(o:Option (Nat×RT))(key:ByteArray):ByteArray×Int:=match o with
 |none=>(⟨#[]⟩,3)
 |some (_,t)=>if 1<=key.size/\key.size<=24 then (match sH t.l key with|none=>(⟨#[]⟩,5)|some v=>(v,0)) else (⟨#[]⟩,1)
theorem Gc (h:aV w K q M)(x key o)(A:cI M.ts x o)(G:M.ts.length<=8)(F:∀t∈M.ts,t.l.length<=1000000):
  cL 59 #[.p q 2,.i x,.t key] w λe w'=>e=.r (.tuple #[.t (eG o key).1,.i (eG o key).2])/\w'=w:=by
 have i:=Ay h x G;have j:=sU key w;cases o with
 |none =>
  rw[show tZ M.ts x = -1 from A]at i;go_enter func59,ntmps59;go_wp2_with (first
   |(apply Calls.w i)
   |(apply Calls.w j))
  go_ret2;exact⟨rfl,rfl⟩
 |some p =>
  have⟨l,t⟩:=p;have⟨u,E⟩:=A;rw[E]at i;have a3:=(AD.1 u).1;have y:=BI u;have a4:¬(l:Int)<0:=ω
  by_cases hk:1<=key.size/\key.size<=24
  .rw[CR hk]at j
   have⟨J,L,N,O,P,Q,B,R,_⟩:=dC h.box;have⟨g,c,e,a1,S,T,U,V,C,W,X⟩:=h.tx u;rw[e]at B;have m:=Qb t.vl t.l key K w (h.each t y).l (F t y);have⟨a,a8,I,a6,D,_⟩:=(h.each t y).l;rw[I]at C m;have H:=xD t.l key;have n:Hid (eG (some (l,t)) key=match sH t.l key with|none=>(⟨#[]⟩,5)|some v=>(v,0)):=by show _=_;simp only[eG];rw[AU hk]
   have s:Hid (∀k:rat t.l key<t.l,sH t.l key=if (t.l[rat t.l key]).1=key then some (t.l[rat t.l key]).2 else none):=λk=>by unfold sH nP;rw[jQ k];simp
   have z:Hid (t.l<=rat t.l key->sH t.l key=none):=λh=>by unfold sH nP;rw[CL h];rfl
   generalize rat t.l key=r at m H s z;rcases BT r t.l with k|a2
   .obtain⟨b,a9,rfl,a0,Y,Z⟩:=D.kv k
    have a7:((r:Int)==(t.l.length:Int))=false:=χ
    by_cases he:(t.l[r]).1=key
    .have f:Hid (eG (some (l,t)) key=((t.l[r]).2,0)):=by show _=_;rw[n.o,s.o k,AU he]
     go_enter func59,ntmps59;go_wp2_with (first
      |(apply Calls.w i)
      |(apply Calls.w j)
      |(apply Calls.w m))
     go_ret2;exact⟨by rw[f.o];rfl,rfl⟩
    .have f:Hid (eG (some (l,t)) key=(⟨#[]⟩,5)):=by show _=_;rw[n.o,s.o k,AQ he]
     have a5:=DP.2 (λe=>he (iV e));go_enter func59,ntmps59;go_wp2_with (first
      |(apply Calls.w i)
      |(apply Calls.w j)
      |(apply Calls.w m))
     go_ret2;exact⟨by rw[f.o];rfl,rfl⟩
   .obtain rfl:r=t.l:=ω
    have f:Hid (eG (some (l,t)) key=(⟨#[]⟩,5)):=by show _=_;rw[n.o,z.o (jU _)]
    go_enter func59,ntmps59;go_wp2_with (first
     |(apply Calls.w i)
     |(apply Calls.w j)
     |(apply Calls.w m))
    go_ret2;exact⟨by rw[f.o];rfl,rfl⟩
  .rw[EM hk]at j;have f:Hid (eG (some (l,t)) key=(⟨#[]⟩,1)):=by show _=_;simp only[eG];rw[AQ hk]
   go_enter func59,ntmps59;go_wp2_with (first
    |(apply Calls.w i)
    |(apply Calls.w j))
   go_ret2;exact⟨by rw[f.o];rfl,rfl⟩
def cU(o:Option (Nat×RT))(lo hi:ByteArray)(most:Int):KV×Int:=match o with
 |none=>([],3)
 |some (_,t)=>if lo.size<=24/\hi.size<=24/\0<=most then (tJ t.l lo hi most.toNat,0) else ([],1)
theorem qBl{c:Type}{p:c->Bool}:∀{D:List c}{m most:Nat},(∀x∈D.take m,p x=true)->m<=most->(D<=m\/m=most\/∃h:m<D,p D[m]=false)->(D.takeWhile p).take most=D.take m
 |[],m,most,_,_,_=>by simp
 |x :: D,0,most,_,hm,hs=>by
  rcases hs with h|h|⟨h,a⟩
  .simp at h
  .subst h;simp
  .have:p x=false:=a;simp[JW,this]
 |x :: D,m+1,most,ha,hm,hs=>by
  obtain⟨b,rfl⟩:∃b,most=b+1:=⟨most-1,ω⟩;have d:=ha x σ;have f:=qBl (D:=D) (m:=m) (most:=b) (λg e=>ha g (by simp[e])) ω (by
   rcases hs with h|h|⟨h,a⟩
   .exact .inl (by simpa using h)
   .exact .inr (.inl ω)
   .exact .inr (.inr ⟨by simpa using h,by simpa using a⟩))
  simp[JW,d,f]
theorem Le (h:aV w K q M)(x lo hi most o)(ho:cI M.ts x o)(hn:M.ts.length<=8)(hl:∀t∈M.ts,t.l.length<=1000000):
  cL 62 #[.p q 2,.i x,.t lo,.t hi,.i most] w λe w'=>∃v,e=.r (.tuple #[v,.i (cU o lo hi most).2])/\w'.ownsRow 0 71 2 v (cU o lo hi most).1 (aJ (cU o lo hi most).1)/\bW w w'/\nW v w:=by
 have L:=Ay h x hn;cases o with
 |none =>
  rw[show tZ M.ts x = -1 from ho]at L;go_enter func62,ntmps62;go_wp2_with (apply Calls.w L);go_ret2;exact⟨_,rfl,AO _ _ _ _,AC _ _,λk d=>by simp[Value.ownBlock]at d⟩
 |some p =>
  obtain⟨j,t⟩:=p;obtain⟨Y,I⟩:=ho;rw[I]at L;have ae:=(AD.1 Y).1;have f:=BI Y;have ad:¬(j:Int)<0:=ω
  by_cases d:lo.size<=24/\hi.size<=24/\0<=most
  .obtain⟨k1,k2,k3⟩:=d
   obtain⟨mo,rfl⟩:∃mo:Nat,most=mo:=⟨most.toNat,ω⟩;have i1:¬(24:Int)<(lo.size:Int):=ω
   have i2:¬(24:Int)<(hi.size:Int):=ω
   have i3:¬(mo:Int)<0:=ω
   obtain⟨b0,b1,b2,b3,b4,b5,b6,b7,_⟩:=dC h.box;obtain⟨g,c,e,hc,c0,c1,c2,c3,c4,c5,c6⟩:=h.tx Y;rw[e]at b6;have X:=Qb t.vl t.l lo K w (h.each t f).l (hl t f);have af:=hl t f;obtain⟨a,lc,a8,ag,hR,_⟩:=(h.each t f).l;rw[a8]at c4 X;have aa:=xD t.l lo;have HG:Hid (cU (some (j,t)) lo hi (mo:Int)=(tJ t.l lo hi mo,0)):=by show _=_;simp only[cU];rw[AU ⟨k1,k2,k3⟩];rfl
   have HS:Hid (tJ t.l lo hi mo=((t.l.drop (rat t.l lo)).takeWhile (λx=>Sp.below hi x.1)).take mo):=rfl;have a9:=λk d=>(h.kp k d).1;generalize rat t.l lo=r at X aa HS;clear h Y I e;have B:Hid ((t.l.drop r)=t.l-r):=BJ;go_enter func62,ntmps62;go_wp2_with (first
    |(apply Calls.w L)
    |(apply Calls.w X))
   go_loopw [13,15] (λa1 i wr=>∃(m:Nat) (C:Option Addr) (H:Nat),i=.i ((r+m:Nat):Int)/\r+m<=t.l/\m<=mo/\a1=.s C m H/\Hid (wr.ownsRow 0 71 2 (.s C m H) m (aJ ((t.l.drop r).take m))/\bW w wr/\(∀k,(Value.s C m H).ownBlock=some k->w<=k)/\(∀x∈(t.l.drop r).take m,Sp.below hi x.1=true)/\aH wr K a (aJ t.l))) (λ_ i _=>t.l-(intOf i).toNat)
   case atStart=>exact⟨0,none,0,σ,ω,AG _,rfl,by simpa[aJ] using AO _ _ _ _,AC _ _,λk d=>by simp[Value.ownBlock]at d,σ,hR⟩
   case round =>
    obtain⟨m,C,H,rfl,ac,a5,rfl,HH⟩:=hrel;clear X L b0 b1 b2 b3 b4 b5 b6 b7 c0 c1 c2 c3 c4 c5 c6;have u:Hid ((t.l<=r+m\/m=mo\/∃h:r+m<t.l,Sp.below hi (t.l[r+m]).1=false)->∃v,Value.s C m H=v/\wr.ownsRow 0 71 2 v (cU (some (j,t)) lo hi (mo:Int)).1 (aJ (cU (some (j,t)) lo hi (mo:Int)).1)/\bW w wr/\nW v w):=by
     intro hs;obtain⟨ho,R,z,y,_⟩:=HH.o;have e:=qBl (p:=λx:ByteArray×ByteArray=>Sp.below hi x.1) y a5 (by
      rcases hs with h|h|⟨h,hp⟩
      .exact .inl (by rw[B.o];omega)
      .exact .inr (.inl h)
      .exact .inr (.inr ⟨by rw[B.o];omega,by rw[JD];exact hp⟩))
     have el:((t.l.drop r).take m)=m:=by rw[AX,B.o];omega
     refine⟨_,rfl,?_,R,z⟩;rw[HG.o,HS.o,e];show wr.ownsRow 0 _ 2 _ ((t.l.drop r).take m) _;rw[el];exact ho
    have J:Hid ((cU (some (j,t)) lo hi (mo:Int)).2=0):=by show _=_;rw[HG.o]
    rcases BT (r+m) t.l with S|ab
    .have a2:((r+m:Nat):Int)<(t.l.length:Int):=ω
     rcases BT m mo with a3|a3
     .obtain⟨E,R,z,y,a7⟩:=HH.o
      obtain⟨b,Z,rfl,hb,d0,d1⟩:=a7.kv S;have a4:(m:Int)<(mo:Int):=ω
      have V:Hid (Sp.below hi (t.l[r+m]).1=true->∀N w3,fO 71 2 (.s C m H) m (aJ ((t.l.drop r).take m)) [.t (t.l[r+m]).1,.t (t.l[r+m]).2] 1 wr N w3->w3.ownsRow 0 71 2 N (m+1) (aJ ((t.l.drop r).take (m+1)))/\bW w w3/\(nW N w)/\(∀x∈(t.l.drop r).take (m+1),Sp.below hi x.1=true)/\aH w3 K (some (aD b Z)) (aJ t.l)):=by
       intro hp N w3 A;have hd:m<(t.l.drop r):=by rw[B.o];omega
       have et:(t.l.drop r).take (m+1)=(t.l.drop r).take m++[t.l[r+m]]:=by rw[AJ hd,JD]
       have U:=R.t (A.fr.below R.size (λk d=>z k d));refine⟨by rw[et,iZ];exact A.row,U,λk d=>(A.lies k d).elim (z k) (λh=>vJ R.size h),?_,hR.on (vV U a9)⟩;rw[et];intro x O;rcases AN.1 O with O|O
       .exact y x O
       .rw[AL]at O;subst O;exact hp
      have a0:IntKind.i64.wrap (((r+m:Nat):Int)+1)=((r+(m+1):Nat):Int):=by rw[CQ];omega
      cases hn0:isNil hi with
      |true =>
       have n:Sp.below hi (t.l[r+m]).1=true:=by simp[Sp.below,hn0]
       have a6:hi.toList.isEmpty=true:=hn0;go_wp2_with (at_builtin;refine gQ wr rfl (.tmp 71) (.tmp 76) 30 71 _ 2 32 rfl underlying30 fR rfl δ (.s C m H) m (aJ ((t.l.drop r).take m)) rfl E [.t (t.l[r+m]).1,.t (t.l[r+m]).2] rfl rfl υ ω ω ?_;intro N w3 T;obtain⟨g3,k3,rfl⟩:=T.shape δ);exact⟨⟨m+1,_,_,χ,ω,ω,rfl,V.o n _ _ T⟩,θ⟩
      |false =>
       have a6:hi.toList.isEmpty=false:=hn0;cases hlq:lt (t.l[r+m]).1 hi with
       |true =>
        have n:Sp.below hi (t.l[r+m]).1=true:=by simp[Sp.below,hlq]
        have hL:Op.bytesLess (t.l[r+m]).1.toList hi.toList=true:=hlq;go_wp2_with (at_builtin;refine gQ wr rfl (.tmp 71) (.tmp 76) 30 71 _ 2 32 rfl underlying30 fR rfl δ (.s C m H) m (aJ ((t.l.drop r).take m)) rfl E [.t (t.l[r+m]).1,.t (t.l[r+m]).2] rfl rfl υ ω ω ?_;intro N w3 T;obtain⟨g3,k3,rfl⟩:=T.shape δ);exact⟨⟨m+1,_,_,χ,ω,ω,rfl,V.o n _ _ T⟩,θ⟩
       |false =>
        have n:Sp.below hi (t.l[r+m]).1=false:=by simp[Sp.below,hlq,hn0]
        have hL:Op.bytesLess (t.l[r+m]).1.toList hi.toList=false:=hlq;clear a0;go_wp2;go_ret2;obtain⟨v,Q,W⟩:=u.o (.inr (.inr ⟨S,n⟩));exact⟨v,by rw[<-Q,J.o];rfl,W⟩
     .have a4:¬(m:Int)<(mo:Int):=ω
      go_wp2;go_ret2;obtain⟨v,Q,W⟩:=u.o (.inr (.inl ω));exact⟨v,by rw[<-Q,J.o];rfl,W⟩
    .have a2:¬((r+m:Nat):Int)<(t.l.length:Int):=ω
     go_wp2;go_ret2;obtain⟨v,Q,W⟩:=u.o (.inl ab);exact⟨v,by rw[<-Q,J.o];rfl,W⟩
  .have HA:Hid (cU (some (j,t)) lo hi most=([],1)):=by show _=_;simp only[cU];rw[AQ d]
   have HB:(24:Int)<(lo.size:Int)\/(¬(24:Int)<(lo.size:Int)/\(24:Int)<(hi.size:Int))\/(¬(24:Int)<(lo.size:Int)/\¬(24:Int)<(hi.size:Int)/\most<0):=ω
   rw[HA.o];rcases HB with i1|⟨i1,i2⟩|⟨i1,i2,i3⟩;all_goals go_enter func62,ntmps62
   all_goals go_wp2_with (apply Calls.w L)
   all_goals go_ret2
   all_goals exact⟨_,rfl,AO _ _ _ _,AC _ _,λk d=>by simp[Value.ownBlock]at d⟩
def kC(o:Option (Nat×RT)):Int:=match o with
 |none=>-1
 |some (j,_)=>j
theorem cI.idx{a x o}(h:cI a x o):tZ a x=kC o:=by
 cases o with
 |none=>exact h
 |some p=>exact h.2
theorem iD (h:aV w K q M){x o}(c:cI M.ts x o)(b:M.ts.length<=8)(X)(a:bW w X):
  cL 66 #[.p q 2,.i x] X λe w'=>e=.r (.i (kC o))/\w'=X:=by
 rw[<-c.idx];exact Ay (h.below a) x b
def bZ(o:Option (Nat×RT)):Int:=match o with
 |none=>3
 |some (_,t)=>if t.wr=true then 0 else 4
def pV(o:Option (Nat×RT))(key:ByteArray):Int:=if bZ o=0/\¬(1<=key.size/\key.size<=24) then 1 else bZ o
theorem Lg (h:aV w K q M)(x o)(d:cI M.ts x o)(c:M.ts.length<=8):
  cL 75 #[.p q 2,.i x] w λe w'=>e=.r (.bool o.isSome)/\w'=w:=by
 have a:=iD h d c w (AC _ _);cases o with
 |none =>
  go_enter func75,ntmps75;go_wp2_with (apply Calls.w a);go_ret;exact⟨rfl,rfl⟩
 |some p =>
  have b:(0:Int)<=kC (some p):=by show(0:Int)<=(p.1:Int);omega
  generalize kC (some p)=i at a b;go_enter func75,ntmps75;go_wp2_with (apply Calls.w a);refine BH (v:=.bool true) ?_ rfl ⟨rfl,rfl⟩;simp[results,results75,go_sem,b]
theorem lK (h:aV w K q M)(x o)(i:cI M.ts x o):
  cL 67 #[.p q 2,.i (kC o)] w λe w'=>e=.r (.i (bZ o))/\w'=w:=by
 cases o with
 |none =>
  go_enter func67,ntmps67;simp only[kC];go_wp2;go_ret;exact⟨rfl,rfl⟩
 |some p =>
  have⟨b,j⟩:=p;have a:=i.1;have D:=(AD.1 a).1;have E:¬(b:Int)<0:=ω;have⟨k,l,m,n,r,s,d,t,_⟩:=dC h.box;have⟨g,c,e,C,u,f,v,y,z,A,B⟩:=h.tx a;rw[e]at d;show cL _ #[.p q 2,.i (b:Int)] w _;simp only[bZ];cases hw:j.wr;all_goals rw[hw]at f
  all_goals go_enter func67,ntmps67
  all_goals go_wp2
  all_goals go_ret
  all_goals exact⟨rfl,rfl⟩
theorem Yc (h:aV w K q M)(x key o)(j:cI M.ts x o)(k:M.ts.length<=8):
  cL 72 #[.p q 2,.i x,.t key] w λe w'=>e=.r (.i (pV o key))/\w'=w:=by
 have g:=iD h j k w (AC _ _);have f:=lK h x o j;have b:=sU key w;have c:Hid (pV o key=if bZ o=0/\¬(1<=key.size/\key.size<=24) then 1 else bZ o):=rfl;generalize pV o key=za at c⊢;generalize bZ o=z at f c;generalize kC o=i at g f;by_cases hz:z=0
 .have l:(z==0)=true:=by simpa using hz
  by_cases hk:1<=key.size/\key.size<=24
  .rw[CR hk]at b
   have d:Hid (za=z):=by show _=_;rw[c.o,AQ (λh=>h.2 hk)]
   go_enter func72,ntmps72;go_wp2_with (first
    |(apply Calls.w g)
    |(apply Calls.w f)
    |(apply Calls.w b))
   go_ret;exact⟨by rw[d.o];simp_all,rfl⟩
  .rw[EM hk]at b
   have d:Hid (za=1):=by show _=_;rw[c.o,AU ⟨hz,hk⟩]
   go_enter func72,ntmps72;go_wp2_with (first
    |(apply Calls.w g)
    |(apply Calls.w f)
    |(apply Calls.w b))
   go_ret;exact⟨by rw[d.o];rfl,rfl⟩
 .have l:(z==0)=false:=by simpa using hz
  have d:Hid (za=z):=by show _=_;rw[c.o,AQ (λh=>hz h.1)]
  generalize decide (1<=key.size/\key.size<=24)=kb at b;go_enter func72,ntmps72;go_wp2_with (first
   |(apply Calls.w g)
   |(apply Calls.w f)
   |(apply Calls.w b))
  go_ret;exact⟨by rw[d.o];rfl,rfl⟩
theorem Og (h:aV w K q M)(x j t)(f:cI M.ts x (some (j,t)))(n:M.ts.length<=8):
  cL 76 #[.p q 2,.i x] w λe w'=>e=.r (.bool (decide (0<t.ch.length)))/\bW w w':=by
 have i:Hid (∀X,bW w X->cL 66 #[.p q 2,.i x] X λe w'=>e=.r (.i (j:Int))/\w'=X):=λX k=>iD h f n X k;have d:=f.1;have L:=(AD.1 d).1;have m:=BI d;have⟨s,u,y,z,A,B,a,C,_⟩:=dC h.box;have⟨g,c,e,J,D,E,F,G,H,b,I⟩:=h.tx d;rw[e]at a;have⟨p,r,o⟩:=aG (h.each t m).ch;rw[o]at b;have l:decide ((0:Int)<(t.ch.length:Int))=decide (0<t.ch.length):=KT.2 ω;go_enter func76,ntmps76;go_wp2;go_region_held3 (λX=>X.c q 6=some (.q g M.ts c)/\X.c g (j * 7+5)=some (.s p t.ch r))
  ((first|exact⟨a,b⟩|(simp[a,b])))
  (((with_reducible refine Calls.m (i.o _ ?_) ?_);exact(AC _ w).drew;rintro e w' ⟨rfl,N⟩;subst w'))
 all_goals go_wp2
 all_goals refine BH (v:=.bool (decide ((0:Int)<(t.ch.length:Int)))) ?_ rfl ⟨by rw[l],(AC _ w).drew⟩
 all_goals simp[results,results76,go_sem]
theorem qMs {β a b c d e f g t}(h:cW w β #[a,b,c,d,e,f,g] t):w.c β 0=some a/\w.c β 1=some b/\w.c β 2=some c/\w.c β 3=some d/\w.c β 4=some e/\w.c β 5=some f/\w.c β 6=some g:=by
 simp[World.cell?,h]
theorem qGq{a β:Type}(f:β->a->β)(b)(l:List a)(m)(h:m<l.length):(l.take (m+1)).foldl f b=f ((l.take m).foldl f b) l[m]:=by
 rw[AJ h,EX];rfl
theorem qJc(l c):(dS l c).length<=l+1:=by
 have:=xD l c.key;have a:rat l c.key<=Jy l c.key:=by unfold Jy;omega
 unfold dS rwo oU
 grind
theorem rQ:∀(a:List Ch) (l:KV),(a.foldl dS l).length<=l+a
 |[],l=>jU _
 |c :: a,l=>by have b:=qJc l c;have d:=rQ a (dS l c);grind
abbrev Fb(w:World)(q j:Nat)(M:RM)(t:RT)(g c:Nat):Prop:=w.cell? (aD q 6)=some (.slice (some (aD g 0)) M.ts.length c)/\w.cell? (aD g (j * 7))=some (.int .i64 t.num)/\w.cell? (aD g (j * 7+1))=some (.bool t.wr)/\w.cell? (aD g (j * 7+2))=some t.vb/\w.cell? (aD g (j * 7+3))=some (.int .i64 t.bv)/\w.cell? (aD g (j * 7+4))=some t.vl/\w.cell? (aD g (j * 7+5))=some t.vc/\w.cell? (aD g (j * 7+6))=some t.vo
theorem aV.txCells (h:aV w K q M){t}(f:M.ts[j]?=some t):∃g c,M.ts.length<=c/\∀X,bW w X->Fb X q j M t g c:=by
 have⟨g,c,d,k,_⟩:=h.tx f;refine⟨g,c,k,λX i=>?_⟩;have e:=h.below i;have⟨m,l,a,_,r⟩:=e.tx f;rw[d]at a;simp only[AR,BB,CD,DC,CV]at a;obtain⟨rfl,rfl⟩:=a;have b:=(dC e.box).2.2.2.2.2.2.1;grind
theorem xG (h:aV w K q M)(x j t)(ho:cI M.ts x (some (j,t)))(hn:M.ts.length<=8)(hl:M.now.length+t.ch<=1000000)(hv:M.nv<1000000000/\0<=M.nv):
  cL 79 #[.p q 2,.i x] w λe w'=>∃v,e=.r (.agg #[v,.i (M.nv+1)])/\w'.ownsRow 0 71 2 v (t.ch.foldl dS M.now).length (aJ (t.ch.foldl dS M.now))/\bW w w'/\nW v w:=by
 have HF:Hid (∀X,bW w X->cL 66 #[.p q 2,.i x] X λe w'=>e=.r (.i (j:Int))/\w'=X):=λX hX=>iD h ho hn X hX;have hj:=ho.1;have hjl:=(AD.1 hj).1;have hmem:=BI hj;obtain⟨ba,bc,e1,_⟩:=(h.each t hmem).bg;obtain⟨la,lc,e2,_⟩:=(h.each t hmem).l;obtain⟨ca,cc,e3⟩:=aG (h.each t hmem).ch;obtain⟨oa,oc,e4⟩:=aG (h.each t hmem).oth;obtain⟨num,wr,bg,bv,tl,ch,oth,vb,vl,vc,vo⟩:=t;dsimp only at e1 e2 e3 e4 hl⊢;subst e1 e2 e3 e4;obtain⟨g,c,hc,hTX⟩:=h.txCells hj;obtain⟨W1,hW1,B1,-⟩:=al1 w (.cells #[.n,.i 0] 32);have HTX:Hid (∀X,bW W1 X->Fb X q j M ⟨num,wr,bg,bv,tl,ch,oth,.s ba bg.length bc,.s la tl.length lc,.s ca ch.length cc,.s oa oth.length oc⟩ g c):=λX hX=>hTX X (B1.tm hX);have B10:bW W1 W1:=AC _ _;have HZ:Hid (W1.1.size=w+1):=by show _=_;rw[<-hW1];simp
 have HB2:Hid (∀X,bW W1 X->X.c q 2=some M.vn/\X.c q 3=some (.i M.nv)):=λX hX=>by
  have:=dC (h.below (B1.tm hX)).box;exact⟨this.2.2.1,this.2.2.2.1⟩
 have HCP:Hid (∀X,bW W1 X->cL 58 #[M.vn] X λe w'=>∃v',e=.r v'/\w'.ownsRow 0 71 2 v' M.now.length (aJ M.now)/\bW X w'/\∀k,v'.ownBlock=some k->X<=k):=λX hX=>yC M.vn M.now K X (h.below (B1.tm hX)).now ω;have HX0:Hid (W1.1[w.1.size]?=some (.cells #[.n,.i 0] 32)):=hW1▸aB w _;have HCH:Hid (∀X,bW W1 X->aH X (λk=>(Value.s ca ch cc).ownBlock=some k) ca (ch.flatMap Ch.cells)):=λX hX=>by
  obtain⟨a',c',e',_,hrow⟩:=cA ((h.below (B1.tm hX)).each _ hmem).ch;simp only[AR,CV]at e';obtain⟨e1,e2⟩:=e';subst e1;exact hrow
 have HLN:Hid (∀m,m<=ch.length->((ch.take m).foldl dS M.now).length<=1000000):=λm hm=>by
  have:=rQ (ch.take m) M.now;rw[AX]at this;omega
 obtain⟨na,nc,hvn,_⟩:=h.now;rw[hvn]at HB2 HCP;go_enter func79,ntmps79;go_wp2;obtain⟨b6,c0,c1,c2,c3,c4,c5,c6⟩:=HTX.o W1 B10;go_region_held3 (λX=>X.c q 6=some (.q g M.ts c)/\X.c g (j * 7)=some (.i num)/\X.c g (j * 7+1)=some (.bool wr)/\X.c g (j * 7+2)=some (.s ba bg bc)/\X.c g (j * 7+3)=some (.i bv)/\X.c g (j * 7+4)=some (.s la tl lc)/\X.c g (j * 7+5)=some (.s ca ch cc)/\X.c g (j * 7+6)=some (.s oa oth oc))
  ((refine HTX.o _ ?_;(repeat (first|exact B10|(refine KE ?_)|(refine LV ?_ (by first|omega|(simp;omega)|exact jU _) _)|(refine KI ?_ (by first|omega|(simp;omega)|exact jU _) _)))))
  (((with_reducible refine Calls.m (HF.o _ ?_) ?_);(first|exact B1.drew|exact(B1.alloc B1.size _).drew|exact B1.drew.alloc B1.size _);rintro e w' ⟨rfl,hw⟩;subst w'))
 all_goals
  obtain⟨W2,hW2⟩:=nM ((W1.alloc (.cells #[.i num,.bool wr,.s ba bg.length bc,.i bv,.s la tl.length lc,.s ca ch.length cc,.s oa oth.length oc] 119)).drew);have B2:=hW2▸(B10.alloc (jU _) _).drew;have x2:W2.1[W1.1.size]?=some (.cells #[.i num,.bool wr,.s ba bg.length bc,.i bv,.s la tl.length lc,.s ca ch.length cc,.s oa oth.length oc] 119):=by rw[<-hW2,JH];exact aB W1 _
  have b2:=HB2.o W2 B2;have hC:=HCP.o W2 B2;clear b6 c0 c1 c2 c3 c4 c5 c6;go_wp2_with (apply Calls.m hC;rintro e W3 ⟨v3,rfl,hO3,hB3,hl3⟩;obtain⟨a3,d3,rfl⟩:=aG hO3);have HX3:Hid (∀X,bW W3 X->X.1[W1.1.size]?=some (.cells #[.i num,.bool wr,.s ba bg.length bc,.i bv,.s la tl.length lc,.s ca ch.length cc,.s oa oth.length oc] 119)/\aH X (λk=>(Value.s ca ch cc).ownBlock=some k) ca (ch.flatMap Ch.cells)/\X.c q 3=some (.i M.nv)/\X.1[w.1.size]?=some (.cells #[.n,.i 0] 32)/\bW w X):=by
   intro X hX;have l2:=(gL x2);have hX2:=hB3.tm hX;have hX1:=B2.tm hX2;exact⟨(hX2.block _ l2).t x2,HCH.o X hX1,(HB2.o X hX1).2,(hX1.block _ (η HZ.o)).t HX0.o,B1.tm hX1⟩
  have z2:=B2.size;clear hC hW2 x2 b2;go_loopw [6,7] (λlv i wr=>∃(m:Nat) (a:Option Addr) (d:Nat),i=.i m/\m<=ch/\lv=.s a ((ch.take m).foldl dS M.now).length d/\Hid (wr.ownsRow 0 71 2 (.s a ((ch.take m).foldl dS M.now).length d) ((ch.take m).foldl dS M.now).length (aJ ((ch.take m).foldl dS M.now))/\bW W3 wr/\(∀k,(Value.s a ((ch.take m).foldl dS M.now).length d).ownBlock=some k->w<=k))) (λ_ i _=>ch.length-(intOf i).toNat)
  case atStart=>exact⟨0,a3,d3,rfl,AG _,rfl,hO3,AC _ _,λk hk=>by have:=hl3 k hk;have:=B1.size;omega⟩
  case round =>
   obtain⟨m,va,vd,rfl,hm,rfl,HH⟩:=hrel;obtain⟨hO,hBw,hli⟩:=HH.o;obtain⟨xx,hrc,hq3,x0,hBX⟩:=HX3.o wr hBw;obtain⟨y0,y1,y2,y3,y4,y5,y6⟩:=qMs xx;have hlen:=HLN.o m hm;rcases BT m ch.length with hlt|hge
   .have hji:(m:Int)<(ch.length:Int):=ω
    obtain⟨cb,co,rfl,hcb,d0,d1,d2⟩:=hrc.ch hlt;have hs:=qGq dS M.now ch m hlt;obtain⟨Lm,hLm⟩:=nM ((ch.take m).foldl dS M.now);rw[hLm]at hO hli hlen hs⊢;have HLS:Hid ((ch.take (m+1)).foldl dS M.now=dS Lm ch[m]):=hs;obtain⟨ck,cv,cg,hcm⟩:∃ck cv cg,ch[m]=⟨ck,cv,cg⟩:=⟨_,_,_,rfl⟩;rw[hcm]at d0 d1 d2 HLS;dsimp only at d0 d1 d2;obtain⟨W4,hW4,B4,x4,-⟩:=al1 wr (.cells #[.t ck,.t cv,.bool cg] 131);obtain⟨u0,u1,u2⟩:=eM x4;have hO4:=CG (w:=wr) hO (.cells #[.t ck,.t cv,.bool cg] 131);rw[hW4]at hO4;have hKv:=fD.own hO4;have HEND:Hid (∀(v':Value) (X:World),X.ownsRow 0 71 2 v' (dS Lm ⟨ck,cv,cg⟩).length (aJ (dS Lm ⟨ck,cv,cg⟩))->bW W4 X->(∀k,v'.ownBlock=some k->W4<=k)->∃(m':Nat) (a:Option Addr) (d:Nat),Value.i ((m:Int)+1)=.i m'/\m'<=ch/\v'=.s a ((ch.take m').foldl dS M.now).length d/\Hid (X.ownsRow 0 71 2 (.s a ((ch.take m').foldl dS M.now).length d) ((ch.take m').foldl dS M.now).length (aJ ((ch.take m').foldl dS M.now))/\bW W3 X/\(∀k,(Value.s a ((ch.take m').foldl dS M.now).length d).ownBlock=some k->w<=k))):=by
     intro v' X hO' hB' hl';obtain⟨a',d',rfl⟩:=aG hO';refine⟨m+1,a',d',σ,ω,by rw[HLS.o],?_⟩;rw[HLS.o];exact⟨hO',hBw.tm (B4.t (hB'.m B4.size)),λk hk=>by have:=hl' k hk;have:=B4.size;have:=hBX.size;omega⟩
    clear hs hLm hcm y0 y1 y2 y3 y4 y6 hq3 x0 hrc;cases cg with
    |true =>
     have hW:=qBt (.s va Lm vd) Lm ck _ W4 hKv (λk hk=>aL hO4 hk) hlen;go_wp2_with (apply Calls.m hW;rintro e X5 ⟨v5,rfl,hO5,hB5,hl5⟩);exact⟨HEND.o v5 X5 hO5 hB5 hl5,θ⟩
    |false =>
     have ufr:=aF x4;have hset:W4.setCell (aD wr 2) (.bool false)=W4:=cH x4 rfl;have hW:=Lb (.s va Lm vd) Lm ck cv _ W4 hKv (λk hk=>aL hO4 hk) hlen;go_wp2_with (apply Calls.m hW;rintro e X5 ⟨v5,rfl,hO5,hB5,hl5⟩);exact⟨HEND.o v5 X5 hO5 hB5 hl5,θ⟩
   .obtain rfl:m=ch:=ω
    have HLT:Hid ((ch.take ch).foldl dS M.now=ch.foldl dS M.now):=by show _=_;rw[BN]
    generalize (ch.take ch).foldl dS M.now=Lm at hO hli HLT⊢;obtain⟨z0,z1⟩:=cM x0;have zfr:=aF x0;have hji:¬((ch.length:Nat):Int)<(ch.length:Int):=ω
    have hvw:IntKind.i64.wrap (M.nv+1)=M.nv+1:=by rw[CQ];omega
    have xf:=aC (aC x0 0 (.s va Lm vd)) 1 (.i (M.nv+1));have FF:Fr (Bl.one w.1.size) wr ((wr.setCell (aD w.1.size 0) (.s va Lm.length vd)).setCell (aD w.1.size 1) (.i (M.nv+1))):=((AE (Bl.one w) wr).s w 0).s w 1;have hOf:=aS hO (FF.on (Z:=λk=>(Value.s va Lm vd).ownBlock=some k) (λk hk=>⟨aL hO hk,λe=>by cases e;exact aQ hO x0 δ hk⟩)) (λk hk=>hk);have HF:Hid ((ch.foldl dS M.now).length=Lm/\aJ (ch.foldl dS M.now)=aJ Lm):=by rw[<-HLT.o];exact⟨rfl,rfl⟩
    go_wp2;refine BH (v:=.agg #[.s va Lm.length vd,.i (M.nv+1)]) ?_ rfl ⟨_,rfl,?_,?_,hli⟩
    .exact ER (p:=4) rfl _ _ w _ _ _ _ rfl (by simpa using xf) underlying32 rfl κ
    .rw[HF.o.1,HF.o.2];exact hOf
    .exact hBX.t (FF.below hBX.size (λ_=>φ))
def gS(ch:List Ch)(oth:List ByteArray):Bool:=ch.any (λc=>oth.any (λy=>decide (y=c.key)))
theorem Az{a b}:gS a b=true↔∃c∈a,c.key∈b:=by simp[gS]
theorem qEs (h:aV w K q M)(x j t)(ak:cI M.ts x (some (j,t)))(U:M.ts.length<=8)(bb:t.ch.length<=1000000)(bc:t.oth.length<=1000000):
  cL 77 #[.p q 2,.i x] w λe w'=>e=.r (.bool (gS t.ch t.oth))/\bW w w':=by
 have an:Hid (∀X,bW w X->cL 66 #[.p q 2,.i x] X λe w'=>e=.r (.i (j:Int))/\w'=X):=λX y=>iD h ak U X y;have a5:=ak.1;have bu:=(AD.1 a5).1;have B:=BI a5;have⟨H,I,P,_⟩:=(h.each t B).bg;have⟨V,W,F,_⟩:=(h.each t B).l;have⟨p,m,Q⟩:=aG (h.each t B).ch;have⟨r,l,R⟩:=aG (h.each t B).oth;have⟨Y,u,E,J,G,a,b,c0,vl,c1,c2⟩:=t;dsimp only at P F Q R bb bc⊢;subst P F Q R;have⟨g,c,af,b3⟩:=h.txCells a5;have a9:Hid (∀X,bW w X->Fb X q j M ⟨Y,u,E,J,G,a,b,.s H E I,.s V G W,.s p a m,.s r b l⟩ g c):=b3;have z:bW w w:=AC _ _;have am:Hid (∀X,bW w X->aH X (λk=>(Value.s p a m).ownBlock=some k) p (a.flatMap Ch.cells)/\aH X (λk=>(Value.s r b l).ownBlock=some k) r (b.map .string)/\a.length<=m/\b.length<=l):=λX y=>by
  have⟨bl,bn,ac,b4,be⟩:=cA ((h.below y).each _ B).ch;have⟨bm,ab,F,b5,bf⟩:=cA ((h.below y).each _ B).oth;simp only[AR,CV]at ac F;have⟨P,Q⟩:=ac;have⟨R,b1⟩:=F;subst P Q R b1;exact⟨be,bf,b4,b5⟩
 have⟨au,av,aw,ab,ax,ay,az,b0⟩:=a9.o w z;go_enter func77,ntmps77;go_wp2;go_region_held3 (λX=>X.c q 6=some (.q g M.ts c)/\X.c g (j * 7)=some (.i Y)/\X.c g (j * 7+1)=some (.bool u)/\X.c g (j * 7+2)=some (.s H E I)/\X.c g (j * 7+3)=some (.i J)/\X.c g (j * 7+4)=some (.s V G W)/\X.c g (j * 7+5)=some (.s p a m)/\X.c g (j * 7+6)=some (.s r b l))
  ((apply a9.o _;(repeat (first|exact z|(apply KE)|(refine LV ?_ (by first|omega|(simp;omega)|exact jU _) _)|(refine KI ?_ (by first|omega|(simp;omega)|exact jU _) _)))))
  (((with_reducible refine Calls.m (an.o _ ?_) ?_);(first|exact z.drew|exact(z.alloc (jU _) _).drew|exact z.drew.alloc (jU _) _);rintro e w' ⟨rfl,bz⟩;subst w'))
 all_goals
  have⟨o,a4⟩:=nM ((w.alloc (.cells #[.i Y,.bool u,.s H E I,.i J,.s V G W,.s p a m,.s r b l] 119)).drew);have a8:=a4▸(z.alloc (jU _) _).drew;have al:o.1[w.1.size]?=some (.cells #[.i Y,.bool u,.s H E I,.i J,.s V G W,.s p a m,.s r b l] 119):=by rw[<-a4,JH];exact aB w _
  have aa:Hid (∀X,bW o X->X.c w 5=some (.s p a m)/\X.c w 6=some (.s r b l)/\aH X (λk=>(Value.s p a m).ownBlock=some k) p (a.flatMap Ch.cells)/\aH X (λk=>(Value.s r b l).ownBlock=some k) r (b.map .string)/\a.length<=m/\b.length<=l/\bW w X):=λX y=>by
   have ae:=qMs ((y.block _ (gL al)).t al);have T:=a8.t (y.m a8.size);have⟨bh,bi,bj,bk⟩:=am.o X T;exact⟨ae.2.2.2.2.2.1,ae.2.2.2.2.2.2,bh,bi,bj,bk,T⟩
  clear au av aw ab ax ay az b0;go_wp2;go_loopw [6,7] (λd k u=>∃i:Nat,d=.i i/\i<=a.length/\Hid (bW o u/\∀n (U:n<a.length),n<i->(a[n]).key ∉ b)) (λd _ _=>a-(intOf d).toNat)
  case atStart=>exact⟨0,rfl,AG _,by rw[a4];exact AC _ _,λn U a2=>absurd a2 (FQ _)⟩
  case round =>
   obtain⟨i,rfl,bv,ao⟩:=hrel;have⟨ad,aj⟩:=ao.o;have⟨C,D,a6,a7,bo,bx,T⟩:=aa.o _ ad;rcases BT i a with ag|bp
   .have b7:(i:Int)<(a.length:Int):=ω
    go_wp2;go_loopw [7] (λk u=>∃n:Nat,k=.i n/\n<=b.length/\Hid (bW o u/\∀d (s:d<b.length),d<n->b[d]≠(a[i]).key)) (λk _=>b-(intOf k).toNat)
    case atStart=>exact⟨0,rfl,AG _,ad,λn U a2=>absurd a2 (FQ _)⟩
    case round =>
     obtain⟨n,rfl,bw,aq⟩:=hrel;clear C D a6 a7;have⟨a3,ai⟩:=aq.o;have⟨C,D,a6,a7,_,_,b2⟩:=aa.o _ a3;rcases BT n b with ah|bq
     .have b8:(n:Int)<(b.length:Int):=ω
      obtain⟨L,N,rfl,_,O,_⟩:=a6.ch ag;obtain⟨Z,a0,rfl,_,S⟩:=a7.at (f:=Value.string) ah;have br:n<l:=ω
      by_cases A:(a[i]).key=b[n]
      .have a1:Hid (gS a b=true):=Az.2 ⟨a[i],AA ag,by rw[A];exact AA ah⟩
       have ba:((a[i]).key.toList==(b[n]).toList)=true:=by rw[A];exact beq_self_eq_true _
       go_wp2;go_region_held3 (λX=>X.c w.1.size 5=some (.s (some (aD L N)) a m)/\X.c w.1.size 6=some (.s (some (aD Z a0)) b l)/\X.c L (N+i * 3)=some (.t (a[i]).key)/\X.c Z (a0+n)=some (.t b[n]))
        ((first|exact⟨C,D,O,S⟩|(simp[C,D,O,S])))
        (fail)
       all_goals go_wp2
       all_goals go_ret
       all_goals exact⟨by rw[a1.o];rfl,b2.drew⟩
      .have ba:=DP.2 (λe=>A (iV e))
       have ar:Hid (∀d (s:d<b.length),d<n+1->b[d]≠(a[i]).key):=λd s bt=>by
        rcases BT d n with v|v
        .exact ai d s v
        .obtain rfl:d=n:=ω
         exact λe=>A e.symm
       go_wp2;go_region_held3 (λX=>X.c w.1.size 5=some (.s (some (aD L N)) a m)/\X.c w.1.size 6=some (.s (some (aD Z a0)) b l)/\X.c L (N+i * 3)=some (.t (a[i]).key)/\X.c Z (a0+n)=some (.t b[n]))
        ((first|exact⟨C,D,O,S⟩|(simp[C,D,O,S])))
        (fail)
       all_goals go_wp2
       all_goals exact⟨⟨n+1,σ,ω,a3.drew,ar.o⟩,by simp[intOf];omega⟩
     .have b8:¬(n:Int)<(b.length:Int):=ω
      have ap:Hid (∀d (s:d<a.length),d<i+1->(a[d]).key ∉ b):=λd s bs=>by
       rcases BT d i with v|v
       .exact aj d s v
       .obtain rfl:d=i:=ω
        intro bd;have⟨bg,b9,b6⟩:=AW bd;exact ai bg b9 ω b6
      go_wp2;exact⟨⟨i+1,σ,ω,a3,ap.o⟩,by simp[intOf];omega⟩
   .have b7:¬(i:Int)<(a.length:Int):=ω
    have a1:Hid (gS a b=false):=by
     refine ME.2 (λv=>?_);have⟨c,af,A⟩:=Az.1 v;obtain⟨d,s,rfl⟩:=AW af;exact aj d s ω A
    go_wp2;go_ret;exact⟨by rw[a1.o];rfl,T⟩
theorem qIv:∀(a:List RT) (j:Nat) (t t':RT),a[j]?=some t->t'.num=t.num->t'.wr=t.wr->t'.vb=t.vb->t'.bv=t.bv->t'.vo=t.vo->((a.flatMap RT.cells).set (j * 7+4) t'.vl).set (j * 7+5) t'.vc=(a.set j t').flatMap RT.cells
 |[],_,_,_,h,_,_,_,_,_=>by simp at h
 |x :: a,0,t,t',h,h1,h2,h3,h4,h5=>by
  have:=by simpa using h
  subst this;simp[RT.cells,h1,h2,h3,h4,h5]
 |x :: a,j+1,t,t',h,h1,h2,h3,h4,h5=>by
  rw[jX,AK,AK,<-(qIv a j t t' (by simpa using h) h1 h2 h3 h4 h5)];have c:∀b,(j+1) * 7+b=(RT.cells x)+(j * 7+b):=λb=>χ
  rw[c 4,c 5,FK _ _ ω,FK _ _ ω];simp
theorem aV.retx (h:aV w K q M){t t':RT}(E:M.ts[j]?=some t){g c:Nat}(e:M.ov=.q g M.ts c){K':Bl}(y:∀k,K' k->K k\/w.1.size<=k)(u:∀k,K k->K' k)(x:Fr (λk=>k=g\/fpX t k) w w')(R:w'.ownsRow 0 119 7 M.ov M.ts ((M.ts.set j t').flatMap RT.cells))(I:TxR w' K' t')(S:∀k,fpX t' k->fpX t k\/w.1.size<=k)(H:lW K' w')(T:∀k,fpX t' k->¬K' k):aV w' K' q {M with ts:=M.ts.set j t'}:=by
 have⟨F,N⟩:=AD.1 E;have G:=BI E;have r:M.ov.ownBlock=some g:=by rw[e];rfl
 have V:=aL h.row r;have W:=(gL h.box);have Q:∀s∈M.ts,¬fpX s q:=λs o d=>d.elim (aQ (h.each s o).ch h.box δ) (aQ (h.each s o).oth h.box δ);have L:∀s∈M.ts,¬fpX s g:=λs o d=>by
  rcases d with d|d
  .rcases dU (h.each s o).ch h.row δ with f|f
   .rw[f]at d;cases d
   .exact f (d.t r.symm)
  .rcases dU (h.each s o).oth h.row δ with f|f
   .rw[f]at d;cases d
   .exact f (d.t r.symm)
 have P:q≠g:=λe=>aQ h.row h.box δ (r.t (by rw[e]));have B:=x.on (λk d=>⟨(h.kp k d).1,λp=>by
  rcases p with rfl|p
  .exact(h.kp k d).2.2.1 r
  .exact(h.kp k d).2.2.2 t G p⟩)
 have C:∀m (i:m<M.ts.length),m≠j->∀k,fpX M.ts[m] k->¬fpX t k:=λm i v k d l=>by
  subst N;rcases BT m j with O|U
  .exact BC.1 h.apart m j i F O k d l
  .exact BC.1 h.apart j m F i ω k l d
 have D:∀m (i:m<M.ts.length),m≠j->∀k,fpX M.ts[m] k->¬fpX t' k:=λm i v k d l=>by
  rcases S k l with f|f
  .exact C m i v k d f
  .have:=(h.each _ (AA i)).lies k d;omega
 refine⟨x.heap h.box (λp=>p.elim P (Q t G)),by rw[BQ];exact R,(h.now.on B).m u,(h.ah.on B).m u,λs o=>?_,?_,λk d=>⟨H k d,?_,?_,λs o=>?_⟩⟩
 .obtain⟨m,i,rfl⟩:=AW o;simp only[BQ]at i;rw[DK];split
  .exact I
  .rename_i v;have f:=h.each _ (AA i);have n:=f.on B (x.on (λk d=>⟨f.lies k d,λp=>by
    rcases p with rfl|p
    .exact L _ (AA i) d
    .exact C m i (λe=>v e.symm) k d p⟩))
   exact⟨n.bg.m u,n.l.m u,n.ch,n.oth⟩
 .refine BC.2 (λa b z A J k d l=>?_)
  simp only[BQ]at z A;simp only[DK]at d l;split at d
  .split at l
   .omega
   .rename_i f n;exact D b A (λe=>n e.symm) k l d
  .split at l
   .rename_i f n;exact D a z (λe=>f e.symm) k d l
   .exact BC.1 h.apart a b z A J k d l
 .rcases y k d with f|f
  .exact(h.kp k f).2.1
  .omega
 .rcases y k d with f|f
  .exact(h.kp k f).2.2.1
  .intro n;have:=by rw[show({M with ts:=M.ts.set j t'}:RM).ov=M.ov from rfl,r]at n;simpa using n.symm
   omega
 .obtain⟨m,i,rfl⟩:=AW o;simp only[BQ]at i;rw[DK];split
  .exact λl=>T k l d
  .intro l;rcases y k d with f|f
   .exact(h.kp k f).2.2.2 _ (AA i) l
   .have:=(h.each _ (AA i)).lies k l;omega
theorem qCp:(prog.info? 131).map (λi=>(i.zero,i.size,i.bytes))=some (some (.agg #[.e,.e,.bool false]),3,40):=κ
def RT.changed(t:RT)(c:Ch)(v vc:Value):RT:={t with l:=dS t.l c,vl:=v,ch:=t.ch++[c],vc:=vc}
theorem aV.change {w A E X3 r:World}(h:aV w K q M){t:RT}(I:M.ts[j]?=some t){g c:Nat}(e:M.ov=.q g M.ts c)(d f u)(G:bW w A)(ab:A.ownsRow 0 71 2 f (dS t.l d) (aJ (dS t.l d)))(P:nW f w)(a2:E=A.setCell (aD g (j * 7+4)) f)(D:fO 131 3 t.vc t.ch (t.ch.flatMap Ch.cells) d.cells 1 E u X3)(a3:r=X3.setCell (aD g (j * 7+5)) u):
  ∃K',aV r K' q {M with ts:=M.ts.set j (t.changed d f u)}/\Fr (fpR q M) w r/\∀k,Bl.or K' (fpR q {M with ts:=M.ts.set j (t.changed d f u)}) k->Bl.or K (fpR q M) k\/w<=k:=by
 obtain⟨ah,_⟩:=AD.1 I;have B:=BI I;have m:=h.each t B;have J:M.ov.ownBlock=some g:=by rw[e];rfl
 have aj:=G.size;have ai:=h.row.1;have V:∀{X:World}{i:TypeId}{z n:Nat}{v:Value}{y:List Value},X.ownsRow 0 i z v n y->X.ownsRow 0 119 7 M.ov M.ts (M.ts.flatMap RT.cells)\/(∃L,X.ownsRow 0 119 7 M.ov M.ts L)->i≠119->∀k,v.ownBlock=some k->k≠g:=λ{X i z n v y} x Q H k a l=>by
  obtain⟨L,Q⟩:∃L,X.ownsRow 0 119 7 M.ov M.ts L:=Q.elim (λh=>⟨_,h⟩) id;rcases dU x Q H with b|b
  .rw[b]at a;cases a
  .exact b (by rw[a,J,l])
 have a7:=aS h.row (vV (Y:=λk=>k<w) G (λk a=>a)) (λk a=>aL h.row a);have N:=a2▸(AE (Bl.one g) A).s g (j * 7+4);have a8:E.ownsRow 0 119 7 M.ov M.ts ((M.ts.flatMap RT.cells).set (j * 7+4) f):=by
  have:=dT (e▸a7) (j * 7+4) ω f;rw[a2,e];exact this
 have U:∀{i:TypeId}{z n:Nat}{v:Value}{y:List Value},A.ownsRow 0 i z v n y->i≠119->E.ownsRow 0 i z v n y:=λx H=>aS x (N.on (Z:=λk=>_=some k) (λk a=>⟨aL x a,λl=>V x (.inl a7) H k a l⟩)) (λk a=>a);have aa:=U ab δ;have v3:=D.keeps aa (dU aa (D.row |> λ_=>U (aS m.ch (vV (Y:=λk=>k<w) G (λk a=>a)) (λk a=>aL m.ch a)) δ) δ);have a9:=D.keeps a8 (dU a8 (U (aS m.ch (vV (Y:=λk=>k<w) G (λk a=>a)) (λk a=>aL m.ch a)) δ) δ);have a4:=a3▸(AE (Bl.one g) X3).s g (j * 7+5);have ae:r.ownsRow 0 119 7 M.ov M.ts ((M.ts.set j (t.changed d f u)).flatMap RT.cells):=by
  have:=dT (e▸a9) (j * 7+5) (by rw[BQ];omega) u;rw[a3,e,<-qIv M.ts j t (t.changed d f u) I rfl rfl rfl rfl rfl];exact this
 have a6:∀{i:TypeId}{z n:Nat}{v:Value}{y:List Value},X3.ownsRow 0 i z v n y->i≠119->r.ownsRow 0 i z v n y:=λx H=>aS x (a4.on (Z:=λk=>_=some k) (λk a=>⟨aL x a,λl=>V x (.inr ⟨_,a9⟩) H k a l⟩)) (λk a=>a);have W:=a6 v3 δ;have a1:=a6 D.row δ;have a0:Fr (λk=>k=g\/t.vc.ownBlock=some k) w r:=(((AB G).t (N.m (λk a=>.inl (.inl a)))).t (D.fr.m (λk a=>.inl (.inr a)))).t (a4.m (λk a=>.inl (.inl a)));have F:Fr (λk=>k=g\/fpX t k) w r:=a0.m (λk a=>.inl (a.imp id .inl));have ac:=aS m.oth (a0.on (Z:=λk=>t.vo.ownBlock=some k) (λk a=>⟨aL m.oth a,λC=>by
  rcases C with l|C
  .exact V m.oth (.inl h.row) δ k a l
  .rcases dU m.oth m.ch δ with b|b
   .rw[b]at a;cases a
   .exact b (a.t C.symm)⟩)) (λk a=>a)
 have ad:=F.on (λk a=>⟨(h.kp k a).1,λC=>by
  rcases C with l|C
  .exact(h.kp k a).2.2.1 (by rw[J,l])
  .exact(h.kp k a).2.2.2 t B C⟩)
 have T:∀k,u.ownBlock=some k->t.vc.ownBlock=some k\/w<=k:=λk a=>(D.lies k a).imp id (λa5=>by have:=N.size;omega);have R:=h.retx (t':=t.changed d f u) (K':=λk=>K k\/f.ownBlock=some k) I e (λk a=>a.imp id (P k)) (λk a=>.inl a) F ae
  ⟨(m.bg.on ad).m (λk a=>.inl a),(fD.own W).m (λk a=>.inr a),by simpa[RT.changed] using a1,ac⟩
  (λk a=>by
   rcases a with a|a
   .exact(T k a).imp .inl id
   .exact .inl (.inr a))
  (λk a=>by
   rcases a with a|a
   .have:=(h.kp k a).1;have:=F.size;omega
   .exact aL W a)
  (λk a o=>by
   rcases a with a|a
   .rcases o with o|o
    .rcases T k a with b|b
     .exact(h.kp k o).2.2.2 t B (.inl b)
     .have:=(h.kp k o).1;omega
    .have O:u.ownBlock=some k:=a;rcases dU a1 W δ with b|b
     .rw[b]at O;cases O
     .exact b (O.t o.symm)
   .rcases o with o|o
    .exact(h.kp k o).2.2.2 t B (.inr a)
    .have b:=P k o;have af:=aL m.oth (show t.vo.ownBlock=some k from a);omega)
 refine⟨_,R,F.m (λk a=>.inl ?_),λk a=>?_⟩
 .rcases a with l|a
  .exact .inr (.inl (by rw[J,l]))
  .exact .inr (.inr ⟨t,B,a⟩)
 .rcases a with(a|a)|rfl|a|⟨s,S,a⟩
  .exact .inl (.inl a)
  .exact .inr (P k a)
  .exact .inl (.inr (.inl rfl))
  .exact .inl (.inr (.inr (.inl a)))
  .rcases DS S with S|rfl
   .exact .inl (.inr (.inr (.inr ⟨s,S,a⟩)))
   .rcases a with a|a
    .exact(T k a).imp (λa5=>.inr (.inr (.inr ⟨t,B,.inl a5⟩))) id
    .exact .inl (.inr (.inr (.inr ⟨t,B,.inr a⟩)))
def mU(o:Option (Nat×RT))(key val:ByteArray):Int:=if bZ o≠0 then bZ o else if (1<=key.size/\key.size<=24)/\val.size<=400 then 0 else 1
theorem qIy (h:aV w K q M)(x key a j t)(P:cI M.ts x (some (j,t)))(al:M.ts.length<=8)(aj:t.l.length<=1000000)(b3:t.ch.length<=1000000)(u:t.wr=true)(f:1<=key.size/\key.size<=24)(am:a.size<=400):
  cL 25 #[.p q 2,.i x,.t key,.t a] w λe w'=>e=.r (.i 0)/\∃K' v y,aV w' K' q {M with ts:=M.ts.set j (t.changed ⟨key,a,false⟩ v y)}/\Fr (fpR q M) w w'/\∀k,Bl.or K' (fpR q {M with ts:=M.ts.set j (t.changed ⟨key,a,false⟩ v y)}) k->Bl.or K (fpR q M) k\/w<=k:=by
 have T:=iD h P al w (AC _ _);have I:=lK h x _ P;rw[show bZ (some (j,t))=0 by simp[bZ,u]]at I;have U:=sU key w;have V:=zV a w;rw[CR f]at U;rw[CR am]at V;have o:=P.1;have b4:=(AD.1 o).1;have s:=BI o;have⟨g,c,e,b2,aq,ar,au,av,ac,ad,aw⟩:=h.tx o;have ab:=(dC h.box).2.2.2.2.2.2.1;rw[e]at ab;have W:=Lb t.vl t.l key a K w (h.each t s).l (λk f=>(h.kp k f).1) aj;have⟨an,ao,a2,_⟩:=(h.each t s).l;rw[a2]at ac W;have⟨l,m,F⟩:=aG (h.each t s).ch;have ah:=(h.each t s).ch;rw[F]at ad ah;have b5:¬(j:Int)<0:=ω;have a4:Hid (∀X,bW w X->(∃Q,cW X g Q 119)/\X.c g (j * 7+4)=some (.s an t.l ao)/\X.c g (j * 7+5)=some (.s l t.ch m)/\X.ownsRow 0 131 3 (.s l t.ch m) t.ch (t.ch.flatMap Ch.cells)):=λX ag=>by
  have J:=h.below ag;have⟨ax,ap,H,_,_,_,_,_,G,D,_⟩:=J.tx o;rw[e]at H;simp only[AR,BB,CD,DC,CV]at H;obtain⟨rfl,rfl⟩:=H;rw[a2]at G;rw[F]at D;have a0:=J.row;rw[e]at a0;have Y:=(J.each t s).ch;rw[F]at Y;exact⟨lM a0,G,D,Y⟩
 have a5:Hid (∀(b d X3 B:World) (i z:Value),bW w b->b.ownsRow 0 71 2 i (oU t.l key a) (aJ (oU t.l key a))->(nW i w)->d=b.setCell (aD g (j * 7+4)) i->fO 131 3 (.s l t.ch m) t.ch (t.ch.flatMap Ch.cells) [.t key,.t a,.bool false] 1 d z X3->B=X3.setCell (aD g (j * 7+5)) z->∃K' v y,aV B K' q {M with ts:=M.ts.set j (t.changed ⟨key,a,false⟩ v y)}/\Fr (fpR q M) w B/\∀k,Bl.or K' (fpR q {M with ts:=M.ts.set j (t.changed ⟨key,a,false⟩ v y)}) k->Bl.or K (fpR q M) k\/w<=k):=λb d X3 B i z C a6 a7 a8 a9 aa=>by
  have⟨K',r⟩:=h.change o e ⟨key,a,false⟩ i z C a6 a7 a8 (F▸a9) aa;exact⟨K',i,z,r⟩
 go_enter func25,ntmps25;simp only[kC]at T I;go_wp2_with (first
  |(apply Calls.w T)
  |(apply Calls.w I)
  |(apply Calls.w U)
  |(apply Calls.w V)
  |(apply Calls.m W;rintro e b ⟨i,rfl,a1,S,ak⟩;have⟨⟨Q,O⟩,G,D,L⟩:=a4 b S;obtain⟨C,a3,rfl⟩:=aG a1;have az:=aF O;have⟨d,E⟩:=nM (b.setCell (aD g (j * 7+4)) (.s C (oU t.l key a) a3));have af:=E▸(AE (Bl.one g) b).s g (j * 7+4);have ae:d.cell? (aD g (j * 7+5))=some (.s l t.ch m):=(by rw[<-E,DU _ _ _ _ σ];exact D);have N:=aS L (af.on (Z:=λk=>(Value.slice l t.ch m).ownBlock=some k) (λk f=>⟨aL L f,λR=>by cases R;exact aQ L O δ f⟩)) (λk f=>f);have n:=aC O (j * 7+4) (.s C (oU t.l key a) a3);rw[E]at n)
  |(at_builtin;apply gQ d rfl (.tmp 55) (.tmp 59) 117 131 _ 3 40 rfl underlying117 qCp rfl δ (.s l t.ch m) t.ch (t.ch.flatMap Ch.cells) rfl N [.t key,.t a,.bool false] rfl rfl υ ω ω;intro v3 X3 A;obtain⟨ay,b6,rfl⟩:=A.shape δ;have b1:=(A.fr.cell (gL n) (aQ N n δ)).t ae;have b0:=aF (A.fr.heap n (aQ N n δ))))
 go_ret;exact⟨rfl,a5 b d X3 _ _ _ S a1 ak E.symm A rfl⟩
theorem qIx (h:aV w K q M)(x key b o)(m:cI M.ts x o)(p:M.ts.length<=8)(n:mU o key b≠0):
  cL 25 #[.p q 2,.i x,.t key,.t b] w λe w'=>e=.r (.i (mU o key b))/\w'=w:=by
 have k:=iD h m p w (AC _ _);have j:=lK h x o m;have d:=sU key w;have f:=zV b w;have c:Hid (mU o key b=if bZ o≠0 then bZ o else if (1<=key.size/\key.size<=24)/\b.size<=400 then 0 else 1):=rfl;generalize mU o key b=za at c n⊢;generalize bZ o=z at j c;generalize kC o=i at k j;by_cases hzz:z=0
 .have r:(z != 0)=false:=by simp[hzz]
  by_cases hk:1<=key.size/\key.size<=24
  .have l:=λl=>n (by rw[c.o,AQ (λh=>h hzz),AU ⟨hk,l⟩])
   rw[CR hk]at d;rw[EM l]at f;have g:Hid (za=1):=by show _=_;rw[c.o,AQ (λh=>h hzz),AQ (λh=>l h.2)]
   go_enter func25,ntmps25;go_wp2_with (first
   |(apply Calls.w k)
   |(apply Calls.w j)
   |(apply Calls.w d)
   |(apply Calls.w f))
   go_ret;exact⟨by rw[g.o];rfl,rfl⟩
  .rw[EM hk]at d
   have g:Hid (za=1):=by show _=_;rw[c.o,AQ (λh=>h hzz),AQ (λh=>hk h.1)]
   generalize decide (b.size<=400)=vb at f;go_enter func25,ntmps25;go_wp2_with (first
   |(apply Calls.w k)
   |(apply Calls.w j)
   |(apply Calls.w d)
   |(apply Calls.w f))
   go_ret;exact⟨by rw[g.o];rfl,rfl⟩
 .have r:(z != 0)=true:=by simpa using hzz
  have g:Hid (za=z):=by show _=_;rw[c.o,AU hzz]
  generalize decide (b.size<=400)=vb at f;generalize decide (1<=key.size/\key.size<=24)=kb at d;go_enter func25,ntmps25;go_wp2_with (first
   |(apply Calls.w k)
   |(apply Calls.w j)
   |(apply Calls.w d)
   |(apply Calls.w f))
  go_ret;exact⟨by rw[g.o];rfl,rfl⟩
