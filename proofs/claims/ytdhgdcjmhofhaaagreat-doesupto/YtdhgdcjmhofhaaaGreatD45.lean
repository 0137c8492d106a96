import Derived.Test.YtdhgdcjmhofhaaaGreatD40
import Derived.Test.YtdhgdcjmhofhaaaGreatD30
import Derived.Test.YtdhgdcjmhofhaaaGreatD16
import Derived.Test.YtdhgdcjmhofhaaaGreatD29
set_option linter.all false
set_option maxRecDepth 100000
set_option maxHeartbeats 8000000
namespace Go.Proofs.YtdhgdcjmhofhaaaGreat.Tree
open Go.RowKit Pages
attribute [local go_sem] CM
def yL(l m:Nat)(P:Program)(md:Region.Mode)(ops:Array Oper)(Q:Exit->Act->World->Prop)(S:World->Prop)(s:Nat):Nat->Array Bool->Act->World->Prop
 |0,_,_,_=>False
 |n+1,L,a,w=>(s∈Region.ready md ops L->Region.ready md ops L=[s]/\wpAnyIn (Fence.wide.inRound l) m P md ops Q (n+1) L a w)/\(s ∉ Region.ready md ops L->Region.ready md ops L≠[]/\∀i∈Region.ready md ops L,wpOp P ops Q i (λa' w'=>S w'/\yL l m P md ops Q S s n (L.setIfInBounds i true) a' w') a w)
section
variable {l m:Nat}{P:Program}{md:Region.Mode}{ops:Array Oper}{Q:Exit->Act->World->Prop}{S:World->Prop}{s:Nat}{L:Array Bool}{a:Act}{w:World}{n i:Nat}{o:Oper}
theorem yL.any(c:mM ops=true)(b:∀a w,¬Q .outgrown a w):∀{n:Nat}{L:Array Bool}{a:Act}{w:World},yL l m P md ops Q S s n L a w->wpAnyIn (Fence.wide.inRound l) m P md ops Q n L a w
 |n+1,L,a,w,h=>by
  by_cases e:s∈Region.ready md ops L
  ·exact(h.1 e).2
  ·exact⟨λd=>absurd d (h.2 e).1,λi f=>wpOpIn_mono (λ_ _ g=>yL.any c b g.2) (Ha c b ((h.2 e).2 i f))⟩
theorem Fw{f:Oper}{v}(hi:ops[i]?=some f)(t:∀(j:Nat) (o:Oper) cs b,ops[j]?=some o->o.op≠.select cs b)(u:∀c a w,Q (.panic c) (a.put f.dst v) w->Q (.panic c) a w)(A:uJ md ops s i=true):
  ∀(n:Nat) (L:Array Bool) (a:Act) (w:World),Clo md ops L->(∀j d,ops[j]?=some d->j≠i->L.getD j true=false->(∀e∈d.after,Region.binds md e=true->e.on≠i)->f.apart ops d=true)->i∈Region.ready md ops L->YieldsIf P ops S f v a->S w->yL l m P md ops Q S s n (L.setIfInBounds i true) (a.put f.dst v) w->yL l m P md ops Q S s (n+1) L a w
 |0,_,_,_,_,_,_,_,_,H=>H.elim
 |n+1,L,a,w,hc,hf,hr,hy,hS,H=>by
  have y:=xR hc A hr;refine⟨λg=>absurd g y,λ_=>⟨λg=>(by rw[g]at hr;cases hr),λj h=>?_⟩⟩;by_cases e:j=i
  ·subst e;exact hy.wpOp hi hS ⟨hS,H⟩
  ·have⟨x,d,r,D⟩:=GV.1 h
   have K:∀e∈d.after,Region.binds md e=true->e.on≠i:=λe F E G=>vF (GV.1 hr).1 (G▸D e F E);have p:=GW h e;have I:s ∉ Region.ready md ops (L.setIfInBounds i true):=λg=>by
    rw[(H.1 g).1,AS]at p;exact y (p▸h)
   refine wpOp_mono (λB w' k=>⟨k.2.1,Fw hi t u A n (L.setIfInBounds j true) B w' (hc.set h) (λq O M N z J=>hf q O M N ?_ J) (GW hr (Ne.symm e)) k.1 k.2.1 ?_⟩) (wpOp_putIf r (hf j d r e x K) (λcs b=>t i f cs b hi) (λcs b=>t j d cs b r) u hy ((H.2 I).2 j p))
   ·by_cases hjq:j=q
    ·subst hjq;exact x
    ·rw[JR true hjq]at z;exact z
   ·rw[FZ _ _ e];exact k.2.2
theorem qC{b:Oper}{v}(i)(hi:ops[i]?=some b)(d:(Region.noSelect ops&&Region.free md ops L i&&(Region.ready md ops L).contains i&&uJ md ops s i&&qId md ops L)=true)(o:∀c a w,Q (.panic c) (a.put b.dst v) w->Q (.panic c) a w)(q:YieldsIf P ops S b v a)(p:S w)(h:yL l m P md ops Q S s n (L.setIfInBounds i true) (a.put b.dst v) w):yL l m P md ops Q S s (n+1) L a w:=by
 simp only[AN]at d;have⟨⟨⟨⟨e,f⟩,g⟩,j⟩,k⟩:=d;exact Fw hi (KQ e) o j n L a w (Jh k) (LR hi f) (by simpa using g) q p h
theorem qGg(i)(j:Region.ready md ops L=[i])(e:s≠i)(g:ops[i]?=some o)(h:∀K':Act->World->Prop,Go.Shut (∀a w,S w->yL l m P md ops Q S s n (L.setIfInBounds i true) a w->K' a w)->if Region.wanted o (yielded ops a.tmps)=true then Oper.wp P o a w K' Q else K' (a.put o.dst undef) w):yL l m P md ops Q S s (n+1) L a w:=by
 unfold yL;rw[j];refine⟨λh=>absurd (AS.1 h) e,λ_=>⟨by simp,λk f=>?_⟩⟩;obtain rfl:=AS.1 f;exact wpOp_step g (λK' b=>h K' (λa w c d=>b a w ⟨c,d⟩))
theorem qGh(b:Region.ready md ops L=[s])(c:ops[s]?=some o)(h:∀K':Act->World->Prop,(∀a w,wpAnyIn (Fence.wide.inRound l) m P md ops Q n (L.setIfInBounds s true) a w->K' a w)->if Region.wanted o (yielded ops a.tmps)=true then Oper.wpIn (Fence.wide.inRound l) m P o a w K' Q else (∀f,o.about P w a.eval=some f->(Fence.wide.inRound l).fn f)/\K' (a.put o.dst undef) w):yL l m P md ops Q S s (n+1) L a w :=
 ⟨λ_=>⟨b,wpAnyIn_ready b (by simp) (.cons c h .nil)⟩,λh=>absurd (b▸AS.2 rfl) h⟩
end
def Sa(x:En)(args:Array Value)(S:Bl)(w:World):Prop:=args=#[.string x.e.key,.string ⟨x.value.toArray⟩]
theorem Td(β sv lv fs)(an:(fs.life==0)=false)(root ca cc cs q o)(c2:bJ fs root o)(S bt b1 b2 Rd w)(az:w.heap[bt]?=some (.cells #[.p β 0,.i root,.slice ca cs.length cc] 90))(ch:w.heap[b1]?=some (.cells #[.string q.lo] 9))(ci:w.heap[b2]?=some (.cells #[.string q.hi] 9))(a5:aH w β sv lv fs)(bk:aD w S ca (cs.flatMap Ch.cells))(ct:∀b,S b->b<w.heap.size)(c1:cJ cs)(bw:cs.length<=1000000)(bn:cs.length<=cc)(bo:(ca=none/\cc=0)\/∃b cd,ca=some ⟨b,cd,none⟩)(am:∀x∈bD (cV q o) (dB cs q),x.good fs)(aw:Rd bt)(ce:Rd b1)(cf:Rd b2)(F:∀k,fpF β sv lv k->Rd k)(a9:∀k,S k->Rd k):
  oD Tryz.prog 164 #[.p bt 0,.p b1 0,.p b2 0] Sa (bD (cV q o) (dB cs q)) Rd w:=by
 intro l J b8 g W ao m B a7 ax c9 ak ad;refine CN Tryz.func164 rfl trivial ?_ rfl;simp only[Tryz.ntmps164,jA,jB,jN,Nat.reduceAdd,Nat.reduceSub,jR,jO,jP,jT,jE,jF];have a8:=a7 [] g W ad;have⟨i,ai⟩:=nM (W.alloc (.cells #[.func (.yield l) #[] #[]] 169));have O:Fr Bl.none W i:=ai▸(AF _ W).alloc _;have b0:i.heap[W.heap.size]?=some (.cells #[.func (.yield l) #[] #[]] 169):=ai▸aA W _;have A:On Rd w i:=ao.trans (O.on (λk d=>⟨(m k d).2,λa=>a⟩));have⟨I,L,M⟩:=eQ (A.heap az aw);have bb:i.cell? ⟨b1,0,none⟩=some (.string q.lo):=by have:=A.heap ch ce;simp[World.cell?,this]
 have bc:i.cell? ⟨b2,0,none⟩=some (.string q.hi):=by have:=A.heap ci cf;simp[World.cell?,this]
 have ag:∀b,S b->b<i.heap.size:=λb bm=>jY (m b (a9 b bm)).2 O.size;have U:=wK β sv lv fs an root ca cc cs q o c2 S i (a5.on (A.mono F)) (bk.on (A.mono a9)) ag c1 bw bn bo;have⟨ab,aq⟩:=nM (bD (cV q o) (dB cs q));rw[aq]at U am ak⊢;clear aq;gi_wp2_with (refine⟨trivial,rfl,?_⟩;gi_at_call 165;apply(BK.2 U).mono;clear U;rintro e t ⟨cx,rfl,br,a4⟩);have Q:Fr Bl.none W t:=O.trans (AA a4);have cl:W.heap.size<i.heap.size:=(gL b0);have d0:=a4.size;have au:On Rd w t:=ao.trans (Q.on (λk d=>⟨(m k d).2,λa=>a⟩));have r:Fr g W t:=Q.mono (λ_ a=>a.elim);let Ix:Code->List En->Bl->World->Prop:=λc n g W=>c=.ret/\b8 n g W;refine fF (P:=Tryz.prog) (Has:=qF) (Rd:=RdE S β sv lv i t) rfl (enters_of Tryz.func195 (by kernel_rfl) rfl) br (λx N S W a1=>by rw[show N=_ from a1];rfl) J Ix B ?_ a7 ?_ g (B _ _ _ _ ad (Q.on (λk d=>⟨a8 k d,λa=>a⟩))) ?_ ?_ ?_ ?_
 ·rintro c n g W cn ⟨rfl,y⟩ bz
  exact⟨rfl,ax _ _ _ _ y bz⟩
 ·rintro c n g W ⟨rfl,y⟩
  exact c9 _ _ _ y
 ·rintro k (d|d|⟨d,bs⟩)
  ·exact⟨(m k (a9 k d)).1,by have:=ag k d;omega⟩
  ·exact⟨(m k (F k d)).1,(a5.on (au.mono F)).lies k d⟩
  ·exact⟨λa=>by have:=a8 _ a;omega,bs⟩
 ·intro c8 n x cg N cm j Wd a6 ae a1 cu E be cv bu bv ⟨cy,cw⟩
  have bf:N=#[.agg #[.string x.e.key,.string x.e.val,.int .i64 x.e.size,.int .i64 x.e.over]]:=a1;subst bf;have ap:x.good fs:=am x (by rw[a6];simp);have d2:t.heap.size<=Wd.heap.size:=E.size;have ck:=E.heap ((a4.block _ cl).trans b0) (λa=>by have:=a8 _ a;omega);have cb:On Rd w Wd:=au.trans (E.on (λk d=>⟨by have:=(m k d).2;omega,(m k d).1⟩));have b4:Fr g W Wd:=r.trans E;have b6:aJ W g j:=(CQ W g).trans r.size be;have ar:=a7 _ _ _ ae;have b7:Hid (ab=n++x :: cg):=a6;clear a6;unfold iN;gi_wp2;refine⟨(AF _ Wd).alloc _,?_⟩;intro f ah;have aa:=ah.heap (k:=Wd.heap.size) (aA Wd (.cells #[.string x.e.key,.string x.e.val,.int .i64 x.e.size,.int .i64 x.e.over] 69)) (DK bu);have ba:Fr Bl.none Wd (Wd.alloc (.cells #[.string x.e.key,.string x.e.val,.int .i64 x.e.size,.int .i64 x.e.over] 69)):=(AF _ Wd).alloc _;have u:Fr (Bl.one c8) Wd f:=(ba.mono (λ_ a=>a.elim)).trans ah.fr;have b3:=u.heap ck (oN (by omega));have bi:J n j f:=B _ _ _ _ ae (u.on (λk d=>⟨ar k d,λa=>by simp only[Bl.one]at a;subst a;exact bv d⟩));have b5:Fr g W f:=b4.grow u (λk d=>.inr (by simp only[Bl.one]at d;omega));have av:On Rd w f:=cb.trans (u.on (λk d=>⟨by have:=(m k d).2;omega,λa=>by simp only[Bl.one]at a;have:=(m k d).2;omega⟩));have d1:Wd.heap.size<f.heap.size:=(gL aa);have ay:=av.heap az aw;have al:=a5.on (av.mono F);clear I L M bb bc;have ac:Hid (∀X,bW f.drew X->(λX=>X.cell? ⟨bt,0,none⟩=some (.pointer (some ⟨β,0,none⟩))/\X.cell? ⟨bt,1,none⟩=some (.int .i64 root)/\X.cell? ⟨bt,2,none⟩=some (.slice ca cs.length cc)/\X.cell? ⟨Wd.heap.size,0,none⟩=some (.string x.e.key)/\X.cell? ⟨Wd.heap.size,1,none⟩=some (.string x.e.val)/\X.cell? ⟨Wd.heap.size,2,none⟩=some (.int .i64 x.e.size)/\X.cell? ⟨Wd.heap.size,3,none⟩=some (.int .i64 x.e.over)/\X.cell? ⟨W.heap.size,0,none⟩=some (.func (.yield l) #[] #[])) X):=λX h=>by
   have⟨I,L,M⟩:=eQ ((h.block _ (gL ay)).trans ay);have⟨c4,c5,c6,c7⟩:=iM ((h.block _ (gL aa)).trans aa);refine⟨I,L,M,c4,c5,c6,c7,?_⟩;have:=(h.block _ (gL b3)).trans b3;simp[World.cell?,this]
  gi_wp2;refine wpIn_region_any (by kernel_rfl) (yL.any (s:=6) (S:=λX=>X.cell? ⟨bt,0,none⟩=some (.pointer (some ⟨β,0,none⟩))/\X.cell? ⟨bt,1,none⟩=some (.int .i64 root)/\X.cell? ⟨bt,2,none⟩=some (.slice ca cs.length cc)/\X.cell? ⟨Wd.heap.size,0,none⟩=some (.string x.e.key)/\X.cell? ⟨Wd.heap.size,1,none⟩=some (.string x.e.val)/\X.cell? ⟨Wd.heap.size,2,none⟩=some (.int .i64 x.e.size)/\X.cell? ⟨Wd.heap.size,3,none⟩=some (.int .i64 x.e.over)/\X.cell? ⟨W.heap.size,0,none⟩=some (.func (.yield l) #[] #[])) (by kernel_rfl) (λ_ _ a=>a) ?_);have z:=ac _ (AC _ _);apply qC (v:=.func (.yield l) #[] #[]) 0 rfl (by kernel_rfl) (λ_ _ _ a=>a) (.inl ⟨by rfl,λX h=>by(try dsimp only at h);go_simp⟩) z;apply qC (v:=.pointer (some ⟨Wd.heap.size,0,none⟩)) 1 rfl (by kernel_rfl) (λ_ _ _ a=>a) (.inl ⟨by rfl,λX h=>by(try dsimp only at h);go_simp⟩) z;apply qC (v:=.string x.e.key) 2 rfl (by kernel_rfl) (λ_ _ _ a=>a) (.inl ⟨by rfl,λX h=>by(try dsimp only at h);go_simp⟩) z;apply qC (v:=.agg #[.pointer (some ⟨β,0,none⟩),.int .i64 root,.slice ca cs.length cc]) 3 rfl (by kernel_rfl) (λ_ _ _ a=>a) (.inl ⟨by rfl,λX h=>by(try dsimp only at h);go_simp⟩) z;apply qC (v:=.agg #[.string x.e.key,.string x.e.val,.int .i64 x.e.size,.int .i64 x.e.over]) 4 rfl (by kernel_rfl) (λ_ _ _ a=>a) (.inl ⟨by rfl,λX h=>by(try dsimp only at h);go_simp⟩) z;refine qGg 5 (by kernel_rfl) (by decide) rfl (λK p=>?_);go_simp;go_at_call 48;apply jC (Cd β sv lv fs an root ca cs.length cc x f.drew (al.on (vV (GU (AC _ f)) al.lies)) (Bn ap).1 (Bn ap).2);rintro e G ⟨rfl,aj⟩;apply p _ _ (ac _ aj);clear p K;have R:Fr Bl.none f G:=(AF _ f).drew.trans (AA aj);have⟨cr,cz,cp,cq,c3,af⟩:=ak _ x _ #[.string x.e.key,.string ⟨x.value.toArray⟩] Bl.none j G b7 (B _ _ _ _ bi (R.on (λk d=>⟨jY (ar k d) u.size,λa=>a⟩))) rfl (λ_ a=>a.elim) (b5.trans (R.mono (λ_ a=>a.elim))) b6;have C:Fr j f G:=R.mono (λ_ a=>a.elim);refine qGh (by kernel_rfl) rfl (λK p=>?_);go_simp;refine⟨rfl,(dM af).mono ?_⟩;clear c3 af;rintro e co (⟨rfl,H,a2,V,Z⟩|⟨rfl,H,a2,V,Z⟩)
  all_goals
   apply p _ _;clear p K;refine wpAnyIn_ready (rs:=[7]) (by kernel_rfl) (by simp) (.cons rfl (λK p=>?_) .nil);go_simp;refine p _ _ (wpAnyIn_done (by kernel_rfl) ?_ _);gi_wp2
  ·exact⟨H,a2,C.grow V (CQ _ _),(CQ f j).trans C.size Z⟩
  ·exact⟨H,⟨rfl,a2⟩,C.grow V (CQ _ _),(CQ f j).trans C.size Z⟩
 ·intro D j b9 bd a3 bj Y a0 T
  gi_wp2;refine mO rfl T ⟨⟨_,rfl⟩,j,((r.trans Y).putObj (.inr (by omega)) _),(CQ W g).trans r.size a0,.inl (B _ _ _ _ bj ((CJ _ _).putObj a3 _))⟩
 ·rintro D c n j b9 bd a3 c0 bx ⟨rfl,y⟩ Y a0 T
  gi_wp2;refine mO rfl T ⟨⟨_,rfl⟩,j,((r.trans Y).putObj (.inr (by omega)) _),(CQ W g).trans r.size a0,.inr ⟨n,c0,bx,ax _ _ _ _ y ((CJ _ _).putObj a3 _)⟩⟩
open Go.Shelf
attribute [local go_sem] CM
theorem Te(root β b d c lo hi w):
  cL 141 #[.agg (tA β root b d c),.string lo,.string hi] w λe w' =>
   e=.returned (.func (.func 164) #[] #[.p w.heap.size 0,.p (w.heap.size+1) 0,.p (w.heap.size+1+1) 0]) /\
   w'.heap[w.heap.size]?=some (.cells (tA β root b d c) 90)/\w'.heap[w.heap.size+1]?=some (.cells #[.string lo] 9)/\w'.heap[w.heap.size+1+1]?=some (.cells #[.string hi] 9)/\bW w w':=by
 obtain⟨a,f,B,g,h,i,-⟩:=al3 w (.cells (tA β root b d c) 90) (.cells #[.string lo] 9) (.cells #[.string hi] 9); go_enter Tryz.func141,Tryz.ntmps141;go_wp2;go_ret;exact⟨rfl,g,h,i,B⟩
def eZ(xs:List En):List Value:=xs.flatMap (λx=>[.string x.e.key,.string ⟨x.value.toArray⟩])
theorem Na(xs x):eZ (xs++[x])=eZ xs++[.string x.e.key,.string ⟨x.value.toArray⟩]:=by simp[eZ]
theorem cS:(Tryz.prog.info? 71).map (λi=>(i.zero,i.size,i.bytes))=some (some (.agg #[.string ⟨#[]⟩,.string ⟨#[]⟩]),2,32):=by kernel_rfl
def lB(o:Option (Nat×T))(cs:List Ch)(q:Sp):List En:=bD (cV q o) (dB cs q)
theorem Ym{fs root o cs}(a:bJ fs root o)(e:oV o)(f:cJ cs)(b:∀c∈cs,c.good)(q):∀x∈lB o cs q,x.good fs:=by
 unfold lB;rw[uP a];exact jW (EF _ (eI a)) (kK f q) (λx g=>gD a e x (DZ.1 g).1) (λc d=>b c (DZ.1 d).1)
theorem qAu(β sv lv fs)(bl:(fs.life==0)=false)(t o)(b1:bJ fs t.root o)(bk:oV o)(q most w)(a4:aH w β sv lv fs)(L:eN w β t)(ah:cJ t.cs)(ax:∀c∈t.cs,c.good)(cf:t.cs.length<=1000000)(bo:(lB o t.cs q).length<=1000000)(cd:most<=9223372036854775807):
  Calls Tryz.prog 105 #[.pointer (some ⟨t.b,0,none⟩),.string q.lo,.string q.hi,.int .i64 (most:Nat)] w λe w'=>∃v,e=.returned v/\w'.ownsRow 0 71 2 v ((lB o t.cs q).take most).length (eZ ((lB o t.cs q).take most))/\Below w.heap.size w w'/\∀k,v.ownBlock=some k->w.heap.size<=k:=by
 have ay:=Ym b1 bk ah ax q;have⟨c3,c5,av,bi,b2⟩:=bR L.row;simp only[Tx.cv,AP,CT]at av;have⟨ba,bb⟩:=av;subst ba bb;have bh:(t.ca=none/\t.cc=0)\/∃b bt,t.ca=some ⟨b,bt,none⟩:=by
  rcases L.row.2 with⟨d,_⟩|⟨g,c4,c8,d,_⟩
  ·simp only[Tx.cv,AP]at d;exact .inl ⟨d.1,d.2.2⟩
  ·simp only[Tx.cv,AP]at d;exact .inr ⟨g,0,d.1⟩
 have⟨s,N,X,b5,b4,ak⟩:=al2 w (.cells #[.i (most:Nat)] 3) (.cells #[.slice none 0 0] 30); have⟨cm,cn,co,cp,cq,cr⟩:=rF ((X.block _ (gL L.box)).trans L.box);have c7:=bL b5;have c6:=bL b4;by_cases hm0:most=0
 ·subst hm0
  have al:Below w.heap.size w s:=X;clear ay a4 L ah ax b2 X;go_enter Tryz.func105,Tryz.ntmps105;go_wp2;go_ret;rw[<-N]at al;exact⟨_,rfl,AL _ _ _ _,al,λk f=>by simp[Value.ownBlock]at f⟩
 have ce:(((most:Nat):Int)==0)=false:=by simp;omega
 have ae:=Te t.root β t.ca t.cs.length t.cc q.lo q.hi s;rw[ak]at ae;have ap:Hid (s.heap.size=w.heap.size+2):=ak;clear ak;refine(BK (n:=0)).1 (CN Tryz.func105 rfl trivial ?_ rfl);simp only[Tryz.ntmps105,jA,jB,jN,Nat.reduceAdd,Nat.reduceSub,jR,jO,jP,jT,jE,jF];gi_wp2_with (refine⟨trivial,rfl,?_⟩;gi_at_call 141;apply(BK.2 ae).mono;clear ae;rintro e F ⟨rfl,bw,bx,b6,bf⟩);have bg:Below s.heap.size s F:=bf
 have a9:Fr Bl.none s F:=AA bg;have Y:Fr Bl.none w F:=(AA X).trans a9;have cs:=(gL b6);have ct:=ap.out;have ai:=a9.heap b4 (λd=>d);have bj:aH F β sv lv fs:=a4.on (Y.on (λk f=>⟨a4.lies k f,λd=>d⟩));have a2:∀k,t.cv.ownBlock=some k->k<w.heap.size:=λk f=>aM L.row f;let b:=w.heap.size+1;let Rc:Bl:=λk=>k=w.heap.size+2\/k=w.heap.size+2+1\/k=w.heap.size+2+1+1\/fpF β sv lv k\/t.cv.ownBlock=some k;have az:=Td β sv lv fs bl t.root t.ca t.cc t.cs q o b1 (λk=>t.cv.ownBlock=some k) (w.heap.size+2) (w.heap.size+2+1) (w.heap.size+2+1+1) Rc F bw bx b6 bj (b2.on (Y.on (λk f=>⟨a2 k f,λd=>d⟩))) (λk f=>by have:=a2 k f;omega) ah (by omega) bi bh ay (.inl rfl) (.inr (.inl rfl)) (.inr (.inr (.inl rfl))) (λk f=>.inr (.inr (.inr (.inl f)))) (λk f=>.inr (.inr (.inr (.inr f))));have⟨V,a5⟩:=nM (lB o t.cs q);rw[show bD (cV q o) (dB t.cs q)=V from a5]at az;rw[a5]at bo;have ao:Hid (lB o t.cs q=V):=a5;clear a5;let J:List En->Bl->World->Prop:=λh y W=>∃v,W.heap[b]?=some (.cells #[v] 30)/\W.ownsRow 0 71 2 v h.length (eZ h)/\(∀k,y k↔k=b\/v.ownBlock=some k)/\(∀k,v.ownBlock=some k->w.heap.size<=k/\k≠w.heap.size);let I:List En->Bl->World->Prop:=λh y W=>h.length<most/\J h y W;let Ix:Code->List En->Bl->World->Prop:=λc h y W=>c=.exit 0/\h.length=most/\J h y W;have aw:=a4.lies;refine fF (P:=Tryz.prog) (Has:=Sa) (Rd:=Rc) rfl (enters_of Tryz.func164 (by kernel_rfl) rfl) az (λM a8 S W ad=>by rw[show a8=_ from ad];rfl) I Ix ?_ ?_ ?_ ?_ (Bl.one b) ⟨by simp;omega,.slice none 0 0,ai,by simpa[eZ] using AL _ _ _ _,λk=>by simp[Bl.one,Value.ownBlock],by simp[Value.ownBlock]⟩ ?_ ?_ ?_ ?_
 ·intro h y A B ⟨G,v,m,j,i,u⟩ O
  exact⟨G,v,O.heap m ((i _).2 (.inl rfl)),aS j O (λk f=>(i k).2 (.inr f)),i,u⟩
 ·intro c h y A B ⟨au,G,v,m,j,i,u⟩ O
  exact⟨au,G,v,O.heap m ((i _).2 (.inl rfl)),aS j O (λk f=>(i k).2 (.inr f)),i,u⟩
 ·intro h y A ⟨G,v,m,j,i,u⟩ k f
  rcases(i k).1 f with rfl|d
  ·exact(gL m)
  ·exact aM j d
 ·intro c h y A ⟨au,G,v,m,j,i,u⟩ k f
  rcases(i k).1 f with rfl|d
  ·exact(gL m)
  ·exact aM j d
 ·rintro k (rfl|rfl|rfl|f|f)
  ·exact⟨λd=>by simp only[Bl.one,b]at d;omega,by omega⟩
  ·exact⟨λd=>by simp only[Bl.one,b]at d;omega,by omega⟩
  ·exact⟨λd=>by simp only[Bl.one,b]at d;omega,by omega⟩
  ·exact⟨λd=>by simp only[Bl.one,b]at d;have:=aw k f;omega,by have:=aw k f;omega⟩
  ·exact⟨λd=>by simp only[Bl.one,b]at d;have:=a2 k f;omega,by have:=a2 k f;omega⟩
 ·intro l h M bu a8 S a7 W b3 ⟨Q,v,m,j,i,u⟩ ad ca E ar cb cc b0 ⟨r,cj⟩
  have bc:a8=#[.string M.e.key,.string ⟨M.value.toArray⟩]:=ad;subst bc;have ch:h.length+1<=1000000:=by have:=BZ List.length b3;simp at this;omega
  have⟨U,af⟩:=nM (decide (h.length+1=most));have ci:(((h.length:Int)+1)==(most:Int))=U:=by rw[<-af,EU,CP,JF];omega
  have an:Hid (decide (h.length+1=most)=U):=af;clear b3 af;cases U
  all_goals
   unfold iN;gi_wp2;refine⟨AF _ _,?_⟩;intro C bd;have aa:Fr (Bl.one l) W C:=bd.fr;have a0:=aa.heap m (λd=>by simp only[Bl.one]at d;exact b0 ((i _).2 (.inl d.symm)));have aj:C.ownsRow 0 71 2 v h.length (eZ h):=aS j (aa.on (Z:=λk=>v.ownBlock=some k) (λk f=>⟨aM j f,λd=>by simp only[Bl.one]at d;subst d;exact b0 ((i _).2 (.inr f))⟩)) (λk f=>f);have br:=aa.heap (E.heap (a9.heap b5 (λd=>d)) (λd=>by simp only[Bl.one,b]at d;omega)) (λd=>by simp only[Bl.one]at d;have:=E.size;omega);have c1:C.c (w.heap.size+1) 0=some v:=by
    have:C.heap[w.heap.size+1]?=_:=a0;simp[World.cell?,this]
   obtain⟨a,c,rfl⟩:=aF aj;have bz:b<C.heap.size:=(gL a0);gi_wp2_with (gi_at_builtin;apply Hb C rfl (.tmp 24) (.tmp 28) 30 71 _ 2 32 rfl Tryz.underlying30 cS rfl (by decide) (.slice a h.length c) h.length (eZ h) rfl aj [.string M.e.key,.string ⟨M.value.toArray⟩] rfl rfl (by simp[Value.oneCell']) (by omega) (by omega);intro v3 x z;obtain⟨K,a6,rfl⟩:=z.shape (by decide);have a1:=z.fr.heap a0 (aQ aj a0 (by decide));have c2:x.c (w.heap.size+1) 0=some (.slice a h.length c):=(by have:x.heap[w.heap.size+1]?=_:=a1;simp[World.cell?,this]);have cl:∀k,x.frozen? ⟨w.heap.size+1,k,none⟩=false:=aB (show x.heap[w.heap.size+1]?=_ from a1);have⟨H,a3⟩:=nM (x.setCell ⟨w.heap.size+1,0,none⟩ (.slice (some ⟨K,0,none⟩) (h.length+1) a6));have aq:H.heap[w.heap.size+1]?=some (.cells #[.slice (some ⟨K,0,none⟩) (h.length+1) a6] 30):=(by rw[<-a3];simpa using aC (show x.heap[w.heap.size+1]?=_ from a1) 0 (.slice (some ⟨K,0,none⟩) (h.length+1) a6));have c9:=bL aq;have ck:H.c w.heap.size 0=some (.i (most:Nat)):=(by have:=(a3▸((AF (Bl.one (w.heap.size+1)) x).setCell (p:=⟨w.heap.size+1,0,none⟩) (.inl rfl) _):Fr (Bl.one (w.heap.size+1)) x H).heap (z.fr.heap br (λf=>(u _ f).2 rfl)) (oN (by omega));exact bL this));have b7:Fr a7 C x:=z.fr.mono (λk f=>.inl ((i k).2 (.inr f)));have am:J (h++[M]) (λk=>k=b\/K=k) H:=by
    refine⟨.slice (some ⟨K,0,none⟩) (h.length+1) a6,aq,?_,λk=>by simp[Value.ownBlock],?_⟩
    ·rw[jK,AM,Na,<-a3]
     exact aS z.row ((CJ (λk=>Value.ownBlock _=some k) x).setCell (p:=⟨w.heap.size+1,0,none⟩) (λf=>aQ z.row (show x.heap[w.heap.size+1]?=_ from a1) (by decide) f) _) (λk f=>f)
    ·intro k f
     rcases z.lies k f with d|d
     ·exact u k d
     ·have:w.heap.size+1<C.heap.size:=bz;omega
   refine⟨λk=>k=b\/K=k,?_,?_,?_⟩
   ·first
     |exact⟨by have:=of_decide_eq_false an;rw[jK,AM];omega,am⟩
     |exact⟨rfl,by have:=of_decide_eq_true an;rw[jK,AM];omega,am⟩
   ·rw[<-a3]
    exact b7.setCell (p:=⟨w.heap.size+1,0,none⟩) (.inl ((i _).2 (.inl rfl))) _
   ·rintro k (rfl|f)
    ·exact .inl ((i _).2 (.inl rfl))
    ·rcases z.lies k (by simp[Value.ownBlock,f]) with d|d
     ·exact .inl ((i k).2 (.inr d))
     ·exact .inr d
 ·intro D a7 W ab be ⟨Q,v,m,j,i,u⟩ E ar ac
  have b9:W.c (w.heap.size+1) 0=some v:=by
   have:W.heap[w.heap.size+1]?=_:=m;simp[World.cell?,this]
  obtain⟨a,c,rfl⟩:=aF j;have ag:Marks w.heap.size [mk D] W:=(FJ w.heap.size F).cons (λD' _ d=>E.heap d (λe=>by simp only[Bl.one,b]at e;subst e;rw[ai]at d;simp at d)) (by omega) ac ab;gi_wp2;apply Pz rfl ag;intro w' R;rw[ao.out,CW (KW Q)];exact⟨_,rfl,sD j R,((Y.grow E (λk f=>.inr (by simp only[Bl.one,b]at f;omega))).took R (jU _)).below0,λk f=>(u k f).1⟩
 ·rintro D c0 h a7 W ab be G cg ⟨rfl,Q,v,m,j,i,u⟩ E ar ac
  have b8:Hid (h.length=most):=Q;clear Q;have b9:W.c (w.heap.size+1) 0=some v:=by
   have:W.heap[w.heap.size+1]?=_:=m;simp[World.cell?,this]
  obtain⟨a,c,rfl⟩:=aF j;have ag:Marks w.heap.size [mk D] W:=(FJ w.heap.size F).cons (λD' _ d=>E.heap d (λe=>by simp only[Bl.one,b]at e;subst e;rw[ai]at d;simp at d)) (by omega) ac ab;gi_wp2;apply Pz rfl ag;intro w' R;have bm:V.take most=h:=by obtain⟨bu,rfl⟩:=G;rw[<-b8.out];simp
  rw[ao.out,bm];exact⟨_,rfl,sD j R,((Y.grow E (λk f=>.inr (by simp only[Bl.one,b]at f;omega))).took R (jU _)).below0,λk f=>(u k f).1⟩
variable {S:Bl} {cs:List Ch} {k:ByteArray} {v:Value} {w:World} {x:ByteArray×ByteArray}
abbrev KV:=List (ByteArray×ByteArray)
variable {l:KV}
def qE(l:KV):Prop:=l.Pairwise (λa b=>lt a.1 b.1=true)
def rat:KV->ByteArray->Nat
 |[],_=>0
 |x :: l,k=>if lt x.1 k=true then rat l k+1 else 0
theorem uL:∀(l:KV) (k:ByteArray),rat l k<=l.length
 |[],_=>jU _
 |x :: l,k=>by
  have:=uL l k;simp only[rat,jB];split<;>omega
def mK(l:KV)(k:ByteArray):Bool:=(l[rat l k]?).any (λx=>decide (x.1=k))
def Gg(l:KV)(k:ByteArray):Nat:=rat l k+if mK l k=true then 1 else 0
def rwo(l:KV)(k:ByteArray):KV:=l.take (rat l k)++l.drop (Gg l k)
def nJ(l:KV)(k v:ByteArray):KV:=l.take (rat l k)++(k,v):: l.drop (Gg l k)
def rO(l:KV)(k:ByteArray):Option ByteArray:=if mK l k=true then (l[rat l k]?).map (·.2) else none
def eE(l:KV)(c:Ch):KV:=if c.gone=true then rwo l c.key else nJ l c.key c.val
def rL(l:KV)(lo hi:ByteArray)(most:Nat):KV:=((l.drop (rat l lo)).takeWhile (λx=>Sp.below hi x.1)).take most
def dH(l:KV):Nat:=2+tot (λx:ByteArray×ByteArray=>2+if 60<x.2.size then (x.2.size+239) / 240 else 0) l
theorem Cv (h:lt x.1 k=true):rat (x :: l) k=rat l k+1/\mK (x :: l) k=mK l k/\Gg (x :: l) k=Gg l k+1:=by
 have a:rat (x :: l) k=rat l k+1:=by simp[rat,h]
 have b:mK (x :: l) k=mK l k:=by unfold mK;rw[a];rfl
 refine⟨a,b,?_⟩;unfold Gg;grind
theorem Co (h:lt x.1 k=false):rat (x :: l) k=0/\mK (x :: l) k=decide (x.1=k):=by
 have a:rat (x :: l) k=0:=by simp[rat,h]
 exact⟨a,by unfold mK;rw[a];rfl⟩
theorem qCs (h:lt x.1 k=true):rwo (x :: l) k=x :: rwo l k:=by
 have⟨a,_,b⟩:=Cv (l:=l) h;unfold rwo;rw[a,b];rfl
theorem Kb:∀{l:KV},qE l->∀k,rwo l k=l.filter (λx=>!decide (x.1=k))
 |[],_,k=>by simp[rwo]
 |x :: l,h,k=>by
  have⟨g,i⟩:=BC.1 h;cases hx:lt x.1 k with
  |true =>
   rw[qCs hx,Kb i,FQ];simp[Np hx]
  |false =>
   have⟨e,f⟩:=Co (l:=l) hx;have j:∀a∈l,a.1≠k:=λa b d=>by
    grind
   have c:l.filter (λx=>!decide (x.1=k))=l:=List.filter_eq_self.2 (λa b=>by simp[j a b]);unfold rwo Gg;rw[e,f];grind
theorem rY:∀{l:KV},qE l->∀{k v:ByteArray},rO l k=some v↔(k,v)∈l
 |[],_,k,v=>by simp[rO,mK]
 |b :: l,h,k,v=>by
  have⟨g,i⟩:=BC.1 h;cases hx:lt b.1 k with
  |true =>
   have⟨d,e,_⟩:=Cv (l:=l) hx;have c:rO (b :: l) k=rO l k:=by unfold rO;rw[d,e];rfl
   rw[c,rY i (k:=k) (v:=v),AR];constructor
   ·exact .inr
   ·rintro(rfl|a)
    ·rw[cF]at hx;cases hx
    ·exact a
  |false =>
   have⟨d,e⟩:=Co (l:=l) hx;have f:(k,v) ∉ l:=λj=>by grind
   have c:rO (b :: l) k=if decide (b.1=k)=true then some b.2 else none:=by unfold rO;rw[d,e];rfl
   grind
theorem qCv:∀{l:KV},qE l->∀k,(∀x∈l.take (rat l k),lt x.1 k=true)/\∀x∈l.drop (Gg l k),lt k x.1=true
 |[],_,k=>by simp
 |x :: l,h,k=>by
  have⟨d,i⟩:=BC.1 h;cases hx:lt x.1 k with
  |true =>
   have⟨c,_,g⟩:=Cv (l:=l) hx;have⟨j,m⟩:=qCv i k;grind
  |false =>
   have⟨c,f⟩:=Co (l:=l) hx;refine⟨by rw[c];simp,λb a=>?_⟩;unfold Gg at a;rw[c,f]at a;by_cases he:x.1=k
   ·grind
   ·simp only[he,decide_false,EO,KH,DR,GI,AR]at a
    have e:lt k x.1=true:=by
     cases hq:lt k x.1
     ·exact absurd (kU hx hq) he
     ·rfl
    rcases a with rfl|a
    ·exact e
    ·exact eV e (d b a)
theorem So (h:qE l)(k v):qE (nJ l k v):=by
 have⟨e,f⟩:=qCv h k;refine CI.2 ⟨h.sublist (FK _ _),BC.2 ⟨f,h.sublist (EX _ _)⟩,λa d b c=>?_⟩;rcases AR.1 c with rfl|c
 ·exact e a d
 ·exact eV (e a d) (f b c)
theorem qCr (h:qE l)(k):qE (rwo l k):=by rw[Kb h];exact h.sublist List.filter_sublist
theorem Yp (h:qE l)(k v x):x∈nJ l k v↔x=(k,v)\/(x.1≠k/\x∈l):=by
 have a:x∈nJ l k v↔x=(k,v)\/x∈rwo l k:=by
  unfold nJ rwo;grind
 rw[a,Kb h,DZ];grind
theorem yB:∀{l m:KV},qE l->qE m->(∀a,a∈l↔a∈m)->l=m
 |[],[],_,_,_=>rfl
 |[],a :: m,_,_,h=>absurd ((h a).2 (by simp)) (by simp)
 |x :: l,[],_,_,h=>absurd ((h x).1 (by simp)) (by simp)
 |x :: l,a :: m,hl,hm,h=>by
  have⟨d,i⟩:=BC.1 hl;have⟨f,j⟩:=BC.1 hm;have g:x=a:=by
   rcases AR.1 ((h x).1 (by simp)) with e|e
   ·exact e
   ·rcases AR.1 ((h a).2 (by simp)) with e'|e'
    ·grind
    ·have:=eV (f x e) (d a e');rw[cF]at this;cases this
  subst g;rw[yB i j (λc=>?_)];constructor
  ·intro b
   rcases AR.1 ((h c).1 (by simp[b])) with rfl|e
   ·have:=d c b;rw[cF]at this;cases this
   ·exact e
  ·intro b
   rcases AR.1 ((h c).2 (by simp[b])) with rfl|e
   ·have:=f c b;rw[cF]at this;cases this
   ·exact e
def En.kb(x:En):ByteArray×ByteArray:=(x.e.key,⟨x.value.toArray⟩)
variable {es:List En}
def kvB(es:List En):KV:=es.map En.kb
def aG(l:KV):List Value:=l.flatMap (λx=>[.string x.1,.string x.2])
theorem Ol(es):aG (kvB es)=eZ es:=by simp[aG,kvB,eZ,En.kb,JM]
theorem qJc{xs d}(h:xs.map En.kv=d.map En.kv):kvB xs=kvB d:=by
 have b:∀a:List En,kvB a=(a.map En.kv).map (λc=>(c.1,(⟨c.2.toArray⟩:ByteArray))):=λa=>by simp[kvB,En.kb,En.kv,JJ]
 rw[b,b,h]
theorem sO (h:cM es):qE (kvB es):=EI.2 h
theorem oO(es):(kvB es).length=es.length:=by simp[kvB]
theorem qIm(c):(chE c).kb=(c.key,c.val):=by rfl
theorem uO (a:cM es)(b:cJ cs):cM (bD es cs):=by rw[mW];exact rU es cs a b
theorem qEq (h:cM es)(i:cJ cs)(a):a∈kvB (bD es cs)↔(∃c∈cs,c.gone=false/\a=(c.key,c.val))\/(a∈kvB es/\∀c∈cs,c.key≠a.1):=by
 simp only[kvB,AY,mW,tN es cs h i];constructor
 ·rintro⟨g,⟨c,b,d,rfl⟩|⟨f,e⟩,rfl⟩
  ·exact .inl ⟨c,b,d,qIm c⟩
  ·exact .inr ⟨⟨g,f,rfl⟩,e⟩
 ·rintro(⟨c,b,d,rfl⟩|⟨⟨g,f,rfl⟩,e⟩)
  ·exact⟨chE c,.inl ⟨c,b,d,rfl⟩,qIm c⟩
  ·exact⟨g,.inr ⟨f,e⟩,rfl⟩
theorem qDs (j:cM es)(a:cJ cs)(c):kvB (bD es (cW cs c))=eE (kvB (bD es cs)) c:=by
 have i:=sO (uO j a);have n:=sO (uO j (mQ a c));have o:∀g,g∈kvB (bD es (cW cs c))↔(c.gone=false/\g=(c.key,c.val))\/(g.1≠c.key/\g∈kvB (bD es cs)):=by
  intro g;rw[qEq j (mQ a c),qEq j a];constructor
  ·rintro(⟨d,e,b,rfl⟩|⟨m,h⟩)
   ·rcases(gH a c d).1 e with rfl|⟨l,f⟩
    ·grind
    grind
   ·refine .inr ⟨λk=>h c ((gH a c c).2 (.inl rfl)) k.symm,.inr ⟨m,λd e=>?_⟩⟩
    by_cases f:d.key=c.key
    ·rw[f];exact h c ((gH a c c).2 (.inl rfl))
    ·exact h d ((gH a c d).2 (.inr ⟨e,f⟩))
  ·rintro(⟨b,rfl⟩|⟨f,⟨d,e,b,rfl⟩|⟨m,h⟩⟩)
   ·exact .inl ⟨c,(gH a c c).2 (.inl rfl),b,rfl⟩
   ·exact .inl ⟨d,(gH a c d).2 (.inr ⟨e,f⟩),b,rfl⟩
   ·refine .inr ⟨m,λd e=>?_⟩
    rcases(gH a c d).1 e with rfl|⟨l,_⟩
    ·grind
    grind
 unfold eE;cases b:c.gone with
 |true =>
  rw[AW rfl];refine yB n (qCr i _) (λg=>?_);rw[o,b,Kb i,DZ];grind
 |false =>
  rw[AQ (by decide)];refine yB n (So i _ _) (λg=>?_);rw[o,b,Yp i];simp
theorem pQ (b:cM es):∀(a:List Ch) {cs:List Ch},cJ cs->kvB (bD es (a.foldl cW cs))=a.foldl eE (kvB (bD es cs))/\cJ (a.foldl cW cs)
 |[],cs,hr=>⟨rfl,hr⟩
 |c :: a,cs,hr=>by
  have:=pQ b a (mQ hr c);rw[qDs b hr c]at this;exact this
theorem Iw:∀(d:List Ch) {cs:List Ch},cJ cs->∀k,k∈(d.foldl cW cs).map (·.key)↔k∈d.map (·.key)\/k∈cs.map (·.key)
 |[],cs,hr,k=>by simp
 |c :: d,cs,hr,k=>by
  rw[LK,Iw d (mQ hr c) k];have:k∈(cW cs c).map (·.key)↔k=c.key\/k∈cs.map (·.key):=by
   simp only[AY];constructor
   ·rintro⟨b,e,rfl⟩
    rcases(gH hr c b).1 e with rfl|⟨f,_⟩
    ·simp
    grind
   ·rintro(rfl|⟨b,e,rfl⟩)
    ·exact⟨c,(gH hr c c).2 (.inl rfl),rfl⟩
    ·by_cases hk:b.key=c.key
     ·exact⟨c,(gH hr c c).2 (.inl rfl),hk.symm⟩
     ·exact⟨b,(gH hr c b).2 (.inr ⟨e,hk⟩),rfl⟩
  grind
theorem Wj (h:cM es)(k):rO (kvB es) k=(valOf es k).map (λl=>⟨l.toArray⟩):=by
 have c:=sO h;cases hv:valOf es k with
 |some l =>
  obtain⟨b,a,rfl,rfl⟩:=(iA h).1 hv;exact(rY c).2 (AY.2 ⟨b,a,rfl⟩)
 |none =>
  cases hg:rO (kvB es) k with
  |none=>rfl
  |some v =>
   have⟨b,a,d⟩:=AY.1 ((rY c).1 hg);have:=(iA h).2 ⟨b,a,by simpa[En.kb] using BZ Prod.fst d,rfl⟩;grind
theorem Uc(es)(q:Sp):kvB (es.filter (λx=>q.has x.e.key))=(kvB es).filter (λx=>q.has x.1):=by
 simp[kvB,List.filter_map,JJ,En.kb]
theorem Jv:∀{l:KV},qE l->∀(q:Sp),l.filter (λx=>q.has x.1)=(l.drop (rat l q.lo)).takeWhile (λx=>Sp.below q.hi x.1)
 |[],_,q=>by simp
 |x :: l,h,q=>by
  have⟨e,f⟩:=BC.1 h;cases hx:lt x.1 q.lo with
  |true =>
   have⟨c,_,_⟩:=Cv (l:=l) hx;rw[c,FQ,Jv f];simp[Sp.has,le,hx]
  |false =>
   have⟨c,_⟩:=Co (l:=l) hx;rw[c,GI,HV,FQ];have j:∀a∈l,le q.lo a.1=true:=λa d=>gN (dS (by simpa[le] using hx) (e a d));cases b:Sp.below q.hi x.1 with
   |false =>
    simp only[Sp.has,b,Bool.and_false,EO,KH];refine JU.2 (λa d=>?_);have k:Sp.below q.hi a.1=false:=by
     unfold Sp.below at b⊢;revert b;cases hn:isNil q.hi<;>simp
     intro b;cases hq:lt a.1 q.hi
     ·rfl
     ·have:=eV (e a d) hq;grind
    simp[k]
   |true =>
    have i:rat l q.lo=0:=by
     cases l with
     |nil=>rfl
     |cons a l =>
      have:=j a (by simp);simp only[le,KX]at this;simp[rat,this]
    have g:=Jv f q;rw[i,GI]at g;rw[g];simp[Sp.has,b,le,hx]
theorem qGu (h:cM es)(lo hi most):kvB ((es.filter (λx=>(⟨lo,hi⟩:Sp).has x.e.key)).take most)=rL (kvB es) lo hi most:=by
 have:=Uc es ⟨lo,hi⟩;unfold rL;rw[<-Jv (sO h) ⟨lo,hi⟩,<-this];simp[kvB,List.map_take]
theorem Dn:∀{es:List En},(∀x∈es,x.e.size=(x.value.length:Int))->dH (kvB es)=2+(2 * es.length+ovs es)
 |[],_=>rfl
 |x :: es,hz=>by
  have a:=Dn (es:=es) (λf e=>hz f (by simp[e]));have d:=hz x (by simp);unfold dH at a⊢;simp only[kvB,BD,cG,ovs,jB]at a⊢;have c:(En.kb x).2.size=x.value.length:=by rfl
  have b:x.ov=if 60<(En.kb x).2.size then ((En.kb x).2.size+239) / 240 else 0:=by
   unfold En.ov;grind
  omega
def gA(w:World)(S:Bl)(v:Value)(l:KV):Prop:=∃a c,v=.slice a l.length c/\l.length<=c/\aD w S a (aG l)/\((a=none/\c=0)\/∃b off,a=some ⟨b,off,none⟩)
theorem gA.on {w w'}(h:gA w S v l)(g:On S w w'):gA w' S v l:=by
 have⟨a,c,b,d,e,f⟩:=h;exact⟨a,c,b,d,e.on g,f⟩
theorem gA.mono {S S'}(h:gA w S v l)(g:∀k,S k->S' k):gA w S' v l:=by
 have⟨a,c,b,d,e,f⟩:=h;exact⟨a,c,b,d,e.mono g,f⟩
theorem bY:∀(l:KV),(aG l).length=l.length * 2
 |[]=>rfl
 |x :: l=>by have:=bY l;simp only[aG,AJ,jK,jB,jN]at this⊢;omega
theorem uV:∀{l:KV}{j:Nat} (a:j<l.length),(aG l)[j * 2]?=some (.string (l[j]).1)/\(aG l)[j * 2+1]?=some (.string (l[j]).2)
 |x :: l,0,_=>by simp[aG]
 |x :: l,j+1,h=>by
  have:=uV (l:=l) (j:=j) (by simpa using h);simp only[aG,AJ,DE]at this⊢;rw[show(j+1) * 2=j * 2+2 by omega,show j * 2+2+1=j * 2+1+2 by omega];simpa using this
theorem iE(l m):aG (l++m)=aG l++aG m:=by simp[aG]
theorem cO(l):∀u∈aG l,u.oneCell'=true:=by
 intro u b;have⟨c,_,a⟩:=AV.1 b;simp only[AR,FC,KI]at a;rcases a with rfl|rfl<;>rfl
theorem aD.kv {a j}(h:aD w S a (aG l))(k:j<l.length):∃b c,a=some ⟨b,c,none⟩/\S b/\w.c b (c+j * 2)=some (.string (l[j]).1)/\w.c b (c+j * 2+1)=some (.string (l[j]).2):=by
 have⟨d,f⟩:=uV k;rcases h with h|⟨b,c,g,i,e⟩
 ·rw[h]at d;simp at d
 ·exact⟨b,c,g,i,e _ _ d,e _ _ f⟩
theorem gA.own (h:w.ownsRow 0 71 2 v l.length (aG l)):gA w (λk=>v.ownBlock=some k) v l:=by
 obtain⟨a,c,rfl,e,f⟩:=bR h;refine⟨a,c,rfl,e,f,?_⟩;rcases gR h with⟨b,_⟩|⟨g,i,j,d,_⟩
 ·simp only[AP]at b;exact .inl ⟨b.1,b.2.2⟩
 ·simp only[AP]at d;exact .inr ⟨g,0,d.1⟩
def KM:=@gA.own
theorem aD.kvTake {a}(h:aD w S a (aG l))(i):aD w S a (aG (l.take i)):=by
 rcases h with h|⟨b,j,d,e,f⟩
 ·refine .inl ?_
  have:l=[]:=by
   cases l with
   |nil=>rfl
   |cons x l=>simp[aG]at h
  rw[this];simp[aG]
 ·refine .inr ⟨b,j,d,e,λg k c=>f g k ?_⟩
  rw[<-CB i l,iE];exact(BT (AD.1 c).1).trans c
theorem aD.kvDrop {b d}(h:aD w S (some ⟨b,d,none⟩) (aG l))(i)(hi:i<=l.length){a:Option Addr}(g:i<l.length->a=some ⟨b,d+i * 2,none⟩):aD w S a (aG (l.drop i)):=by
 rcases BS i l.length with p|m
 ·rcases h with h|⟨s,t,e,j,k⟩
  ·have:=bY l;rw[h]at this;simp at this;omega
  ·simp only[AX,CA,DA]at e
   obtain⟨rfl,rfl⟩:=e;refine .inr ⟨b,d+i * 2,g p,j,λc r q=>?_⟩;have f:=k (i * 2+c) r (by
    have n:aG l=aG (l.take i)++aG (l.drop i):=by rw[<-iE,CB]
    have o:(aG (l.take i)).length=i * 2:=by rw[bY,AZ];omega
    rw[n,BJ (by omega),o,show i * 2+c-i * 2=c by omega];exact q)
   rw[show d+i * 2+c=d+(i * 2+c) by omega];exact f
 ·refine .inl ?_
  rw[CR m];rfl
theorem eY{P ops f o a Q}(w)(t:o.guard=none)(g x T b zero z bytes)(A:o.op=.call {callee:=.builtin .append,args:=#[g,x],argTypes:=#[T,T]})(r:P.underlying T=some (.slice b))(hi:(P.info? b).map (λi=>(i.zero,i.size,i.bytes))=some (some zero,z,bytes))(G:zero.cells.size=z)(D:0<z)(v n xs)(C:a.eval g=v)(E:w.ownsRow 0 b z v n xs)(e m c S d)(F:a.eval x=.slice e m c)(y:d.length=m * z)(q:aD w S e d)(k:∀u∈d,u.oneCell'=true)(l:n+m<=140737488355328)(s:(n+m) * bytes<=140737488355328)(h:∀v' w',fB b z v n xs d m w v' w'->wpList P ops Q f (a.put o.dst v') w'):wpList P ops Q (o :: f) a w:=by
 refine EN t λK p=>?_;have⟨v',w',B,j⟩:=Yb (P:=P) w T o.type b zero z bytes r hi G D v n xs E e m c S d y q k l s;unfold Oper.wp execOp;simp only[A,resolve,invoke,builtin,DY,DT,DF,DI,BD,CX,C,F,B];exact p _ _ (h v' w' j)
theorem qDd:∀{l:KV}{k:ByteArray}{j:Nat} (a:j<l.length),j<rat l k->lt (l[j]).1 k=true
 |x :: l,k,0,_,h=>by
  cases hx:lt x.1 k
  ·rw[(Co hx).1]at h;omega
  ·exact hx
 |x :: l,k,j+1,a,h=>by
  cases hx:lt x.1 k
  ·rw[(Co hx).1]at h;omega
  ·rw[(Cv hx).1]at h;exact qDd (l:=l) (by simpa using a) (by omega)
theorem Mv:∀{l:KV}{k:ByteArray} (h:rat l k<l.length),lt (l[rat l k]).1 k=false
 |x :: l,k,h=>by
  cases hx:lt x.1 k with
  |false=>simp only[(Co (l:=l) hx).1,CS];exact hx
  |true =>
   have a:rat l k<l.length:=by have:=(Cv (l:=l) hx).1;simp at h;omega
   have:=Mv a;simp only[(Cv (l:=l) hx).1,DE];exact this
theorem Lo(v l key S w)(h:gA w S v l)(y:l.length<=1000000):
  cL 103 #[v,.string key] w λe w'=>e=.returned (.i (rat l key:Nat))/\w'=w:=by
 obtain⟨a,c,rfl,s,j,_⟩:=h;have z:=uL l key;go_enter Tryz.func103,Tryz.ntmps103;go_wp2;go_loopw [5] (λg o=>∃d:Nat,g=.i d/\d<=rat l key/\o=w) (λg _=>rat l key-(intOf g).toNat)
 case atStart=>exact⟨0,rfl,AH _,rfl⟩
 case round =>
  obtain⟨d,rfl,x,n⟩:=hrel;subst n;rcases BS d l.length with f|t
  ·obtain⟨b,A,rfl,r,p,q⟩:=j.kv f
   have k:(d:Int)<(l.length:Int):=by omega
   rcases BS d (rat l key) with m|u
   ·have i:Op.bytesLess (l[d]).1.toList key.toList=true:=qDd f m
    go_wp2;exact⟨⟨d+1,by simp,by omega,trivial⟩,by simp[intOf];omega⟩
   ·obtain rfl:d=rat l key:=by omega
    have i:Op.bytesLess (l[rat l key]).1.toList key.toList=false:=Mv f;go_wp2;go_ret;exact⟨rfl,rfl⟩
  ·obtain rfl:d=rat l key:=by omega
   have k:¬((rat l key:Nat):Int)<(l.length:Int):=by omega
   go_wp2;go_ret;exact⟨rfl,rfl⟩
theorem vD(v l S w)(h:gA w S v l)(i:l.length<=1000000):
  cL 58 #[v] w λe w'=>∃v',e=.returned v'/\w'.ownsRow 0 71 2 v' l.length (aG l)/\bW w w'/\∀k,v'.ownBlock=some k->w.heap.size<=k:=by
 obtain⟨a,c,rfl,g,f,_⟩:=h;go_enter Tryz.func58,Tryz.ntmps58;go_wp2_with (at_builtin;apply eY w rfl (.tmp 4) (.tmp 5) 30 71 _ 2 32 rfl Tryz.underlying30 cS rfl (by decide) .n 0 [] rfl (AL _ _ _ _) a l.length c S (aG l) rfl (bY l) f (cO l) (by omega) (by omega);intro v3 j b);go_ret;refine⟨_,rfl,by simpa using b.row,b.fr.below (jU _) (λk d=>by simp[Value.ownBlock]at d),λk d=>(b.lies k d).elim (λh=>by simp[Value.ownBlock]at h) id⟩
theorem Hk(v l key i S w)(h:gA w S v l)(Y:∀k,S k->k<w.heap.size)(a4:l.length<=1000000):
  cL 70 #[v,.string key,.string i] w λe w'=>∃v',e=.returned v'/\w'.ownsRow 0 71 2 v' (nJ l key i).length (aG (nJ l key i))/\bW w w'/\∀k,v'.ownBlock=some k->w.heap.size<=k:=by
 have E:=Lo v l key S w h a4;obtain⟨a,c,rfl,a8,K,a0⟩:=h;have R:=uL l key;have I:Hid (∀s:rat l key<l.length,(l[rat l key]).1=key↔mK l key=true):=λs=>by unfold mK;rw[jQ s];simp
 have J:Hid (l.length<=rat l key->mK l key=false):=λh=>by unfold mK;rw[CU h];rfl
 have L:Hid (nJ l key i=l.take (rat l key)++(key,i):: l.drop (rat l key+if mK l key=true then 1 else 0)):=rfl;have D:Hid ((l.take (rat l key)).length=rat l key):=by show _=_;rw[AZ];omega
 generalize mK l key=ht at I J L;generalize rat l key=r at E R I J L D;have aa:r<=c:=by omega
 have H:Hid (∀X,bW w X->aD X S a (aG l)):=λX Z=>K.on (vV Z Y);have C:Hid (∀(j o:Value) (m g:World),fB 71 2 .n 0 [] (aG (l.take r)) r w j m->fB 71 2 j (0+r) ([]++aG (l.take r)) [.string key,.string i] 1 m o g->bW w g):=λj o m g d f=>by
  have B:=d.fr.below (jU _) (λk n=>by simp[Value.ownBlock]at n);exact B.trans (f.fr.below B.size (λk n=>(d.lies k n).elim (λh=>by simp[Value.ownBlock]at h) id))
 have G:Hid (∀(q O:Nat) (j o v3:Value) (m g u:World),q=r+(if ht=true then 1 else 0)->O=l.length-q->fB 71 2 .n 0 [] (aG (l.take r)) r w j m->fB 71 2 j (0+r) ([]++aG (l.take r)) [.string key,.string i] 1 m o g->fB 71 2 o (0+r+1) ([]++aG (l.take r)++[.string key,.string i]) (aG (l.drop q)) O g v3 u->u.ownsRow 0 71 2 v3 (nJ l key i).length (aG (nJ l key i))/\bW w u/\∀k,v3.ownBlock=some k->w.heap.size<=k):=by
  intro q O j o v3 m g u a5 a3 d f p;have B:=d.fr.below (jU _) (λk n=>by simp[Value.ownBlock]at n);have a6:∀k,j.ownBlock=some k->w.heap.size<=k:=λk n=>(d.lies k n).elim (λh=>by simp[Value.ownBlock]at h) id;have M:=C.out j o m g d f;have U:∀k,o.ownBlock=some k->w.heap.size<=k:=λk n=>(f.lies k n).elim (a6 k) (λh=>vJ B.size h);have T:=p.row;rw[a3]at T;rw[L.out,<-a5];refine⟨?_,M.trans (p.fr.below M.size U),λk n=>(p.lies k n).elim (U k) (λh=>vJ M.size h)⟩;have W:(l.take r++(key,i):: l.drop q).length=0+r+1+(l.length-q):=by rw[jK,jB,D.out,BH];omega
  rw[W,iE];simpa[aG] using T
 go_enter Tryz.func70,Tryz.ntmps70;rcases a0 with⟨rfl,rfl⟩|⟨b,F,rfl⟩
 ·obtain rfl:l=[]:=AG (by omega)
  obtain rfl:r=0:=by simpa using R
  have y:=J.out (AH _);go_wp2_with (first
   |(go_at_call 103;(with_reducible refine jC E ?_);rintro e w' ⟨rfl,N⟩;subst w')
   |(at_builtin;refine eY w rfl (.tmp 12) (.tmp 15) 30 71 _ 2 32 rfl Tryz.underlying30 cS rfl (by decide) .n 0 [] rfl (AL _ _ _ _) none 0 0 S (aG (([]:KV).take 0)) rfl (by rw[bY,show(([]:KV).take 0).length=0 from rfl]) (.inl rfl) (cO _) (by omega) (by omega) ?_;intro P m d;obtain⟨j,A,rfl⟩:=aF d.row)
   |(at_builtin;refine fK m rfl (.tmp 17) (.tmp 21) 30 71 _ 2 32 rfl Tryz.underlying30 cS rfl (by decide) (.slice j (0+0) A) (0+0) ([]++aG (([]:KV).take 0)) (by simp[Act.eval]) d.row [.string key,.string i] rfl rfl (by simp[Value.oneCell']) (by omega) (by omega) ?_;intro o g f;obtain⟨x,z,rfl⟩:=f.shape (by decide);have t:=H.out g (C.out _ _ _ _ d f))
   |(at_builtin;refine eY g rfl (.tmp 38) (.tmp 41) 30 71 _ 2 32 rfl Tryz.underlying30 cS rfl (by decide) (.q x (0+0+1) z) (0+0+1) ([]++aG (([]:KV).take 0)++[.string key,.string i]) (by simp[Act.eval]) f.row _ _ _ S (aG (([]:KV).drop 0)) rfl (by rw[bY,BH]<;>omega) (.inl rfl) (cO _) (by omega) (by omega) ?_;intro v3 u p))
  all_goals go_ret
  all_goals exact⟨_,rfl,G.out (0) _ _ _ _ _ _ _ (by rw[y];rfl) (by first|rfl|omega|(simp;omega)) d f p⟩
 ·rcases BS r l.length with s|a1
  ·have a2:(r:Int)<(l.length:Int):=by omega
   have ab:r+1<=c:=by omega
   have Q:Hid (∀X (s:r<l.length),aD X S (some ⟨b,F,none⟩) (aG l)->X.c b (F+r * 2)=some (.string (l[r]).1)):=λX s h=>by
    obtain⟨a7,o',e,_,B,_⟩:=h.kv s;simp only[AX,CA,DA]at e;rw[e.1,e.2];exact B
   by_cases n:(l[r]).1=key
   ·have y:=(I.out s).1 n
    have ac:IntKind.i64.wrap ((r:Int)+1)=(r:Int)+1:=by rw[CO];omega
    go_wp2_with (first
     |(go_at_call 103;(with_reducible refine jC E ?_);rintro e w' ⟨rfl,N⟩;subst w')
     |(at_builtin;refine eY w rfl (.tmp 12) (.tmp 15) 30 71 _ 2 32 rfl Tryz.underlying30 cS rfl (by decide) .n 0 [] rfl (AL _ _ _ _) (some ⟨b,F,none⟩) r c S (aG (l.take r)) rfl (by rw[bY,D.out]) (K.kvTake _) (cO _) (by omega) (by omega) ?_;intro P m d;obtain⟨j,A,rfl⟩:=aF d.row)
     |(at_builtin;refine fK m rfl (.tmp 17) (.tmp 21) 30 71 _ 2 32 rfl Tryz.underlying30 cS rfl (by decide) (.slice j (0+r) A) (0+r) ([]++aG (l.take r)) (by simp[Act.eval]) d.row [.string key,.string i] rfl rfl (by simp[Value.oneCell']) (by omega) (by omega) ?_;intro o g f;obtain⟨x,z,rfl⟩:=f.shape (by decide);have t:=H.out g (C.out _ _ _ _ d f);have V:=(Q.out _ s t))
     |(at_builtin;refine eY g rfl (.tmp 38) (.tmp 41) 30 71 _ 2 32 rfl Tryz.underlying30 cS rfl (by decide) (.q x (0+r+1) z) (0+r+1) ([]++aG (l.take r)++[.string key,.string i]) (by simp[Act.eval]) f.row _ _ _ S (aG (l.drop (r+1))) rfl (by rw[bY,BH]<;>omega) (t.kvDrop (r+1) (by omega) (by first|(intro _;rfl)|(intro h;exact AQ (by omega))|(intro h;exfalso;omega))) (cO _) (by omega) (by omega) ?_;intro v3 u p))
    all_goals go_ret
    all_goals exact⟨_,rfl,G.out (r+1) _ _ _ _ _ _ _ (by rw[y];rfl) (by first|rfl|omega|(simp;omega)) d f p⟩
   ·have y:ht=false:=by cases ht with|false=>rfl|true=>exact absurd ((I.out s).2 rfl) n
    have a9:=DH.2 (λe=>n (iB e));go_wp2_with (first
     |(go_at_call 103;(with_reducible refine jC E ?_);rintro e w' ⟨rfl,N⟩;subst w')
     |(at_builtin;refine eY w rfl (.tmp 12) (.tmp 15) 30 71 _ 2 32 rfl Tryz.underlying30 cS rfl (by decide) .n 0 [] rfl (AL _ _ _ _) (some ⟨b,F,none⟩) r c S (aG (l.take r)) rfl (by rw[bY,D.out]) (K.kvTake _) (cO _) (by omega) (by omega) ?_;intro P m d;obtain⟨j,A,rfl⟩:=aF d.row)
     |(at_builtin;refine fK m rfl (.tmp 17) (.tmp 21) 30 71 _ 2 32 rfl Tryz.underlying30 cS rfl (by decide) (.slice j (0+r) A) (0+r) ([]++aG (l.take r)) (by simp[Act.eval]) d.row [.string key,.string i] rfl rfl (by simp[Value.oneCell']) (by omega) (by omega) ?_;intro o g f;obtain⟨x,z,rfl⟩:=f.shape (by decide);have t:=H.out g (C.out _ _ _ _ d f);have V:=(Q.out _ s t))
     |(at_builtin;refine eY g rfl (.tmp 38) (.tmp 41) 30 71 _ 2 32 rfl Tryz.underlying30 cS rfl (by decide) (.q x (0+r+1) z) (0+r+1) ([]++aG (l.take r)++[.string key,.string i]) (by simp[Act.eval]) f.row _ _ _ S (aG (l.drop (r))) rfl (by rw[bY,BH]<;>omega) (t.kvDrop (r) (by omega) (by first|(intro _;rfl)|(intro h;exact AQ (by omega))|(intro h;exfalso;omega))) (cO _) (by omega) (by omega) ?_;intro v3 u p))
    all_goals go_ret
    all_goals exact⟨_,rfl,G.out (r) _ _ _ _ _ _ _ (by rw[y];rfl) (by first|rfl|omega|(simp;omega)) d f p⟩
  ·have a2:¬(r:Int)<(l.length:Int):=by omega
   have y:=J.out a1;go_wp2_with (first
    |(go_at_call 103;(with_reducible refine jC E ?_);rintro e w' ⟨rfl,N⟩;subst w')
    |(at_builtin;refine eY w rfl (.tmp 12) (.tmp 15) 30 71 _ 2 32 rfl Tryz.underlying30 cS rfl (by decide) .n 0 [] rfl (AL _ _ _ _) (some ⟨b,F,none⟩) r c S (aG (l.take r)) rfl (by rw[bY,D.out]) (K.kvTake _) (cO _) (by omega) (by omega) ?_;intro P m d;obtain⟨j,A,rfl⟩:=aF d.row)
    |(at_builtin;refine fK m rfl (.tmp 17) (.tmp 21) 30 71 _ 2 32 rfl Tryz.underlying30 cS rfl (by decide) (.slice j (0+r) A) (0+r) ([]++aG (l.take r)) (by simp[Act.eval]) d.row [.string key,.string i] rfl rfl (by simp[Value.oneCell']) (by omega) (by omega) ?_;intro o g f;obtain⟨x,z,rfl⟩:=f.shape (by decide);have t:=H.out g (C.out _ _ _ _ d f))
    |(at_builtin;refine eY g rfl (.tmp 38) (.tmp 41) 30 71 _ 2 32 rfl Tryz.underlying30 cS rfl (by decide) (.q x (0+r+1) z) (0+r+1) ([]++aG (l.take r)++[.string key,.string i]) (by simp[Act.eval]) f.row _ _ _ S (aG (l.drop (r))) rfl (by rw[bY,BH]<;>omega) (t.kvDrop (r) (by omega) (by first|(intro _;rfl)|(intro h;exact AQ (by omega))|(intro h;exfalso;omega))) (cO _) (by omega) (by omega) ?_;intro v3 u p))
   all_goals go_ret
   all_goals exact⟨_,rfl,G.out (r) _ _ _ _ _ _ _ (by rw[y];rfl) (by first|rfl|omega|(simp;omega)) d f p⟩
theorem Wu(v l key S w)(h:gA w S v l)(O:∀k,S k->k<w.heap.size)(V:l.length<=1000000):
  cL 108 #[v,.string key] w λe w'=>∃v',e=.returned v'/\w'.ownsRow 0 71 2 v' (rwo l key).length (aG (rwo l key))/\bW w w'/\∀k,v'.ownBlock=some k->w.heap.size<=k:=by
 have x:=Lo v l key S w h V;obtain⟨a,c,rfl,a0,D,Q⟩:=h;have J:=uL l key;have B:Hid (∀m:rat l key<l.length,(l[rat l key]).1=key↔mK l key=true):=λm=>by unfold mK;rw[jQ m];simp
 have C:Hid (l.length<=rat l key->mK l key=false):=λh=>by unfold mK;rw[CU h];rfl
 have E:Hid (rwo l key=l.take (rat l key)++l.drop (rat l key+if mK l key=true then 1 else 0)):=rfl;have t:Hid ((l.take (rat l key)).length=rat l key):=by show _=_;rw[AZ];omega
 generalize mK l key=ht at B C E;generalize rat l key=r at x J B C E t;have a2:r<=c:=by omega
 have A:Hid (∀X,bW w X->aD X S a (aG l)):=λX P=>D.on (vV P O);have z:Hid (∀(q G:Nat) (i v3:Value) (g Y o:World),q=r+(if ht=true then 1 else 0)->G=l.length-q->fB 71 2 .n 0 [] (aG (l.take r)) r w i g->fB 71 2 i (0+r) ([]++aG (l.take r)) (aG (l.drop q)) G g v3 o->o.ownsRow 0 71 2 v3 (rwo l key).length (aG (rwo l key))/\bW w o/\∀k,v3.ownBlock=some k->w.heap.size<=k):=by
  intro q G i v3 g Y o W U d j;have u:=d.fr.below (jU _) (λk f=>by simp[Value.ownBlock]at f);have L:∀k,i.ownBlock=some k->w.heap.size<=k:=λk f=>(d.lies k f).elim (λh=>by simp[Value.ownBlock]at h) id;have K:=j.row;rw[U]at K;rw[E.out,<-W];refine⟨?_,u.trans (j.fr.below u.size L),λk f=>(j.lies k f).elim (L k) (λh=>vJ u.size h)⟩;have N:(l.take r++l.drop q).length=0+r+(l.length-q):=by rw[jK,t.out,BH];omega
  rw[N,iE];simpa[aG] using K
 go_enter Tryz.func108,Tryz.ntmps108;rcases Q with⟨rfl,rfl⟩|⟨b,y,rfl⟩
 ·obtain rfl:l=[]:=AG (by omega)
  obtain rfl:r=0:=by simpa using J
  have p:=C.out (AH _);go_wp2_with (first
   |(go_at_call 103;(with_reducible refine jC x ?_);rintro e w' ⟨rfl,F⟩;subst w')
   |(at_builtin;refine eY w rfl (.tmp 10) (.tmp 13) 30 71 _ 2 32 rfl Tryz.underlying30 cS rfl (by decide) .n 0 [] rfl (AL _ _ _ _) none 0 0 S (aG (([]:KV).take 0)) rfl (by rw[bY,show(([]:KV).take 0).length=0 from rfl]) (.inl rfl) (cO _) (by omega) (by omega) ?_;intro H g d;obtain⟨i,s,rfl⟩:=aF d.row;have n:=A.out g (d.fr.below (jU _) (λk f=>by simp[Value.ownBlock]at f)))
   |(at_builtin;refine eY g rfl (.tmp 30) (.tmp 33) 30 71 _ 2 32 rfl Tryz.underlying30 cS rfl (by decide) (.slice i (0+0) s) (0+0) ([]++aG (([]:KV).take 0)) (by simp[Act.eval]) d.row _ _ _ S (aG (([]:KV).drop 0)) rfl (by rw[bY,BH]<;>omega) (.inl rfl) (cO _) (by omega) (by omega) ?_;intro v3 o j))
  all_goals go_ret
  all_goals exact⟨_,rfl,z.out (0) _ _ _ _ w _ (by rw[p];rfl) (by first|rfl|omega|(simp;omega)) d j⟩
 ·rcases BS r l.length with m|R
  ·have T:(r:Int)<(l.length:Int):=by omega
   have a3:r+1<=c:=by omega
   have I:Hid (∀X (m:r<l.length),aD X S (some ⟨b,y,none⟩) (aG l)->X.c b (y+r * 2)=some (.string (l[r]).1)):=λX m h=>by
    obtain⟨Z,o',e,_,u,_⟩:=h.kv m;simp only[AX,CA,DA]at e;rw[e.1,e.2];exact u
   by_cases f:(l[r]).1=key
   ·have p:=(B.out m).1 f
    have a4:IntKind.i64.wrap ((r:Int)+1)=(r:Int)+1:=by rw[CO];omega
    go_wp2_with (first
     |(go_at_call 103;(with_reducible refine jC x ?_);rintro e w' ⟨rfl,F⟩;subst w')
     |(at_builtin;refine eY w rfl (.tmp 10) (.tmp 13) 30 71 _ 2 32 rfl Tryz.underlying30 cS rfl (by decide) .n 0 [] rfl (AL _ _ _ _) (some ⟨b,y,none⟩) r c S (aG (l.take r)) rfl (by rw[bY,t.out]) (D.kvTake _) (cO _) (by omega) (by omega) ?_;intro H g d;obtain⟨i,s,rfl⟩:=aF d.row;have n:=A.out g (d.fr.below (jU _) (λk f=>by simp[Value.ownBlock]at f));have M:=(I.out _ m n))
     |(at_builtin;refine eY g rfl (.tmp 30) (.tmp 33) 30 71 _ 2 32 rfl Tryz.underlying30 cS rfl (by decide) (.slice i (0+r) s) (0+r) ([]++aG (l.take r)) (by simp[Act.eval]) d.row _ _ _ S (aG (l.drop (r+1))) rfl (by rw[bY,BH]<;>omega) (n.kvDrop (r+1) (by omega) (by first|(intro _;rfl)|(intro h;exact AQ (by omega))|(intro h;exfalso;omega))) (cO _) (by omega) (by omega) ?_;intro v3 o j))
    all_goals go_ret
    all_goals exact⟨_,rfl,z.out (r+1) _ _ _ _ w _ (by rw[p];rfl) (by first|rfl|omega|(simp;omega)) d j⟩
   ·have p:ht=false:=by cases ht with|false=>rfl|true=>exact absurd ((B.out m).2 rfl) f
    have a1:=DH.2 (λe=>f (iB e));go_wp2_with (first
     |(go_at_call 103;(with_reducible refine jC x ?_);rintro e w' ⟨rfl,F⟩;subst w')
     |(at_builtin;refine eY w rfl (.tmp 10) (.tmp 13) 30 71 _ 2 32 rfl Tryz.underlying30 cS rfl (by decide) .n 0 [] rfl (AL _ _ _ _) (some ⟨b,y,none⟩) r c S (aG (l.take r)) rfl (by rw[bY,t.out]) (D.kvTake _) (cO _) (by omega) (by omega) ?_;intro H g d;obtain⟨i,s,rfl⟩:=aF d.row;have n:=A.out g (d.fr.below (jU _) (λk f=>by simp[Value.ownBlock]at f));have M:=(I.out _ m n))
     |(at_builtin;refine eY g rfl (.tmp 30) (.tmp 33) 30 71 _ 2 32 rfl Tryz.underlying30 cS rfl (by decide) (.slice i (0+r) s) (0+r) ([]++aG (l.take r)) (by simp[Act.eval]) d.row _ _ _ S (aG (l.drop (r))) rfl (by rw[bY,BH]<;>omega) (n.kvDrop (r) (by omega) (by first|(intro _;rfl)|(intro h;exact AQ (by omega))|(intro h;exfalso;omega))) (cO _) (by omega) (by omega) ?_;intro v3 o j))
    all_goals go_ret
    all_goals exact⟨_,rfl,z.out (r) _ _ _ _ w _ (by rw[p];rfl) (by first|rfl|omega|(simp;omega)) d j⟩
  ·have T:¬(r:Int)<(l.length:Int):=by omega
   have p:=C.out R;go_wp2_with (first
    |(go_at_call 103;(with_reducible refine jC x ?_);rintro e w' ⟨rfl,F⟩;subst w')
    |(at_builtin;refine eY w rfl (.tmp 10) (.tmp 13) 30 71 _ 2 32 rfl Tryz.underlying30 cS rfl (by decide) .n 0 [] rfl (AL _ _ _ _) (some ⟨b,y,none⟩) r c S (aG (l.take r)) rfl (by rw[bY,t.out]) (D.kvTake _) (cO _) (by omega) (by omega) ?_;intro H g d;obtain⟨i,s,rfl⟩:=aF d.row;have n:=A.out g (d.fr.below (jU _) (λk f=>by simp[Value.ownBlock]at f)))
    |(at_builtin;refine eY g rfl (.tmp 30) (.tmp 33) 30 71 _ 2 32 rfl Tryz.underlying30 cS rfl (by decide) (.slice i (0+r) s) (0+r) ([]++aG (l.take r)) (by simp[Act.eval]) d.row _ _ _ S (aG (l.drop (r))) rfl (by rw[bY,BH]<;>omega) (n.kvDrop (r) (by omega) (by first|(intro _;rfl)|(intro h;exact AQ (by omega))|(intro h;exfalso;omega))) (cO _) (by omega) (by omega) ?_;intro v3 o j))
   all_goals go_ret
   all_goals exact⟨_,rfl,z.out (r) _ _ _ _ w _ (by rw[p];rfl) (by first|rfl|omega|(simp;omega)) d j⟩
