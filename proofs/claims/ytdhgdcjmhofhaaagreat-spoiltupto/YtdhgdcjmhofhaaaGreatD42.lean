import Derived.Test.YtdhgdcjmhofhaaaGreatD41
set_option linter.all false
set_option maxRecDepth 100000
set_option maxHeartbeats 8000000
namespace Go.Proofs.YtdhgdcjmhofhaaaGreat.Tree
open Go.RowKit Pages Tryz
def LwS(n B:Nat)(w:World)(q:Nat)(Ar:Bl):Prop:=∃Bk vp ps,Lw n B w q Bk vp/\jW w vp ps/\ps.length<=4 * B/\(∀k,fpK vp ps k->Bk k/\¬Ar k)/\∀k,Ar k->Bk k
structure Kl (c:OpV):Prop where
 n0 : -9223372036854775808<=c.n
 n1:c.n<=9223372036854775807
 t0 : -9223372036854775808<=c.tx
 t1:c.tx<=9223372036854775807
section
variable {n B:Nat}{w w':World}{q:Nat}{Bk K Ar:Bl}{D:Db}{v:Nat}{o ao:Option (Nat×T)}{ots:List (Option (Nat×T))}{M:RM}{ps:List Value}
theorem Wd.rebook(h:Wd n B w q Bk K D v o ao ots M){vq vl:Value}{qs:List Value}(N:w'.1[q]?=some ({M with p9:=vq}:RM).obj)(r:Fr (λk=>k=q\/M.p9.ownBlock=some k\/vl.ownBlock=some k) w w')(a:∀k,fpK M.p9 ps k->Bk k)(m:∀k,vl.ownBlock=some k->¬fpD D k/\¬Bl.or K (fpR q M) k)(Q:jW w' vq qs)(E:∀k,fpK vq qs k->fpK M.p9 ps k\/vl.ownBlock=some k\/w<=k):
  Wd n B w' q (Bl.or Bk (fpK vq qs)) K D v o ao ots {M with p9:=vq}:=by
 have G:=r.size;have L:∀k,Bl.or K (fpR q M) k->k≠q->¬(k=q\/M.p9.ownBlock=some k\/vl.ownBlock=some k):=λk e x b=>by
  rcases b with b|b|b
  .exact x b
  .exact(h.book k (a k (.inl b))).2 e
  .exact(m k b).2 e
 have c:=h.ref;have on:On (λk=>Bl.or K (fpR q M) k/\k≠q) w w':=r.on (λk a=>⟨c.lies k a.1,L k a.1 a.2⟩);have T:∀{k H b I},w.1[k]?=some (.cells H b I)->b≠43->k≠q:=λy O b=>by rw[b,c.box]at y;simp at y;exact O y.2.1.symm
 have p:=on.m (λk a=>⟨.inl a,(c.kp k a).2.1⟩);have A:∀{l:TypeId}{C z:Nat}{j:Value}{u:List Value},w.ownsRow 0 l C j z u->l≠43->(∀k,j.ownBlock=some k->Bl.or K (fpR q M) k)->w'.ownsRow 0 l C j z u:=λ{l C z j u} F x P=>aS (Y:=λk=>j.ownBlock=some k) F (on.m (λk a=>⟨P k a,λb=>by subst b;exact aQ F c.box (λb=>x b.symm) a⟩)) (λk a=>a);have R:aV w' K q {M with p9:=vq}:=⟨N,A c.row δ (λk a=>.inr (.inr (.inl a))),c.now.on p,c.ah.on p,λi g=>⟨(c.each i g).bg.on p,(c.each i g).l.on p,A (c.each i g).ch δ (λk a=>.inr (.inr (.inr ⟨i,g,.inl a⟩))),A (c.each i g).oth δ (λk a=>.inr (.inr (.inr ⟨i,g,.inr a⟩)))⟩,c.apart,λk a=>⟨jY (c.kp k a).1 G,(c.kp k a).2⟩⟩;have J:=h.lk.db.aside r (λk a t=>by
  rcases a with b|b|b
  .exact(h.apart k t).1 (.inr (.inl b))
  .exact(h.apart k t).2 (a k (.inl b))
  .exact(m k b).1 t)
 refine⟨R,{(h.lk.more J (jU B)) with},h.f,h.x,h.twice,h.broken,h.safe,h.fl,h.spoiled,h.meta',λk e=>⟨(h.apart k e).1,λd=>?_⟩,λk e=>?_⟩
 .rcases d with d|d
  .exact(h.apart k e).2 d
  .rcases E k d with f|f|f
   .exact(h.apart k e).2 (a k f)
   .exact(m k f).1 e
   .have:=h.lk.db.lies k e;omega
 .rcases e with d|d
  .exact⟨jY (h.book k d).1 G,(h.book k d).2⟩
  .refine⟨Q.lies k d,λs=>?_⟩;rcases E k d with f|f|f
   .exact(h.book k (a k f)).2 s
   .exact(m k f).2 s
   .have:=c.lies k s;omega
theorem Xt(r lo hi m):(cU r lo hi m).2≠10:=by
 unfold cU;grind
theorem qMw(h:Wd n B w q Bk K D v o ao ots M)(ab:B<=400000)(c:OpV)(a0:c.kind=3):
  cL 23 #[.p q 0,.agg c.cells] w λe w'=>e=.r (.bool true)/\On Bk w w'/\Lw n (B+1) w' q Bk M.p9:=by
 have⟨a5,g,P,Q,A,L,G,I,H⟩:=c;obtain rfl:a5=3:=a0;have⟨r,F⟩:=Ge M.ts g;obtain⟨a,E,O,N,-⟩:=al1 w (.cells #[.i 3,.i g,.t P,.t Q,.i A,.bool L,.s G I H] 46);have p:=h.box (.cells #[.i 3,.i g,.t P,.t Q,.i A,.bool L,.s G I H] 46);rw[E]at p;have s:bW a a:=AC _ _;have a1:∀J∈M.ts,J.l.length<=1000000:=λJ a2=>by have:=(h.lk.bounds.2.2 J a2).2.1;omega
 have t:Hid (∀X,Wd n (B+1) X q (Bl.or Bk (Bl.one w)) K D v o ao ots M->On (Bl.or Bk (Bl.one w)) a X->X.c q 1=some (.p D.d 0)/\X.c w 1=some (.i g)/\X.c w 2=some (.t P)):=λX m Y=>by
  have R:=(dC m.ref.box).2.1;rw[h.x]at R;have⟨_,a6,a7,_⟩:=dO (Y.heap N (.inr rfl));exact⟨R,a6,a7⟩
 have z:Hid (∀X,bW a X->Wd n (B+1) X q (Bl.or Bk (Bl.one w)) K D v o ao ots M/\On (Bl.or Bk (Bl.one w)) a X):=λX m=>by
  have j:=p.below m;exact⟨j.still j.lk.db (AE _ _) (DM B),vV m (λf d=>(p.book f d).1)⟩
 have m:=s.drew;have j:=p.below m;have⟨Z,hA,hG⟩:=Zt j.lk ω g P r F;have hz10:Z.2≠10:=(by have:=Ax r P;rcases hA with e|e<;>grind);have y:Hid (cL 17 #[.p D.d 0,.i g,.t P] a.drew λe k=>e=.r (.tuple #[.t Z.1,.i Z.2])/\Hid (∀b,bW k b->(Wd n (B+1) b q (Bl.or Bk (Bl.one w)) K D v o ao ots M/\On (Bl.or Bk (Bl.one w)) a b)/\(cL 59 #[.p q 2,.i g,.t P] b λe w'=>e=.r (.tuple #[.t (eG r P).1,.i (eG r P).2])/\w'=b)/\(cL 60 #[.p q 0,.i Z.2] b λe w'=>e=.r (.bool (Z.2==9&&D.fs.life==0))/\w'=b))):=by
  apply hG.m;rintro e k ⟨rfl,W,C⟩;refine⟨rfl,λb x=>?_⟩;have u:=(j.still W C (DM B)).below x;exact⟨⟨u,((vV m (λf d=>(p.book f d).1)).t (C.on (λf d=>⟨(j.book f d).1,λe=>(j.apart f (.inl e)).2 d⟩))).t (vV x (λf d=>jY (j.book f d).1 C.size))⟩,Gc u.ref g P r F h.lk.n8 a1,qCg u.ref h.f h.spoiled u.lk.db _ hz10⟩
 have V:Hid (∀b,Wd n (B+1) b q (Bl.or Bk (Bl.one w)) K D v o ao ots M/\On (Bl.or Bk (Bl.one w)) a b->On Bk w b/\Lw n (B+1) b q Bk M.p9):=λb x=>⟨(vV O (λf d=>(h.book f d).1)).t (x.2.m (λf d=>.inl d)),K,D,v,o,ao,ots,M,x.1.less (λf d=>.inl d),rfl⟩;have a4:=(dO N).1;rcases hA with rfl|⟨rfl,hl,h3,h1⟩
 .have hb:((eG r P).2==9&&D.fs.life==0)=false:=by
   have:=Ro r P;simp[this]
  rw[hb]at y;generalize eG r P=ga at y;have⟨a9,aa⟩:=ga;dsimp only at y;go_enter func23,ntmps23;go_wp2;have⟨S,T,U⟩:=t a (z a s).1 (z a s).2;go_region_held3 (λX=>X.c q 1=some (.p D.d 0)/\X.c w 1=some (.i g)/\X.c w 2=some (.t P))
   (first|exact t _ (z _ s.drew).1 (z _ s.drew).2|exact t _ (i _ (AC _ _)).1.1 (i _ (AC _ _)).1.2)
   ((go_at_call 17;apply Calls.m y;rintro e k ⟨rfl,i⟩))
  all_goals
   have l:bW k k:=AC _ _;have⟨S,T,U⟩:=t _ (i _ l).1.1 (i _ l).1.2;go_wp2;go_region_held3 (λX=>X.c q 1=some (.p D.d 0)/\X.c w 1=some (.i g)/\X.c w 2=some (.t P))
    (exact t _ (i _ l.drew).1.1 (i _ l.drew).1.2)
    ((go_at_call 59;apply Calls.w (i _ l.drew).2.1))
   go_wp2_with (go_at_call 60;apply Calls.w (i _ l.drew).2.2);go_ret;exact⟨rfl,V _ (i _ l.drew).1⟩
 .have hb:((9:Int)==9&&D.fs.life==0)=true:=by simp[hl]
  dsimp only at y;rw[hb]at y;generalize eG r P=ga at y h3 h1;have⟨a9,aa⟩:=ga;dsimp only at y h3 h1;have f3:(aa != 3)=true:=by simpa using h3
  have f1:(aa != 1)=true:=by simpa using h1
  go_enter func23,ntmps23;go_wp2;have⟨S,T,U⟩:=t a (z a s).1 (z a s).2;go_region_held3 (λX=>X.c q 1=some (.p D.d 0)/\X.c w 1=some (.i g)/\X.c w 2=some (.t P))
   (first|exact t _ (z _ s.drew).1 (z _ s.drew).2|exact t _ (i _ (AC _ _)).1.1 (i _ (AC _ _)).1.2)
   ((go_at_call 17;apply Calls.m y;rintro e k ⟨rfl,i⟩))
  all_goals
   have l:bW k k:=AC _ _;have⟨S,T,U⟩:=t _ (i _ l).1.1 (i _ l).1.2;go_wp2;go_region_held3 (λX=>X.c q 1=some (.p D.d 0)/\X.c w 1=some (.i g)/\X.c w 2=some (.t P))
    (exact t _ (i _ l.drew).1.1 (i _ l.drew).1.2)
    ((go_at_call 59;apply Calls.w (i _ l.drew).2.1))
   go_wp2_with (go_at_call 60;apply Calls.w (i _ l.drew).2.2);go_ret;exact⟨rfl,V _ (i _ l.drew).1⟩
structure ScS (n B:Nat) (W1 X:World) (q:Nat) (Bk K:Bl) (D:Db) (v:Nat) (o ao:Option (Nat×T)) (ots:List (Option (Nat×T))) (M:RM) (vl:Value) (L:KV):Prop where
 wd:Wd n B X q Bk K D v o ao ots M
 on:On Bk W1 X
 row:X.ownsRow 0 71 2 vl L.length (aJ L)
 new:∀k,vl.ownBlock=some k->W1.1.size<=k
theorem ScS.below{d X Y vl L}(h:ScS n B d X q Bk K D v o ao ots M vl L)(c:bW X Y):ScS n B d Y q Bk K D v o ao ots M vl L :=
 ⟨h.wd.below c,h.on.t (vV c (λb a=>(h.wd.book b a).1)),aS (Y:=λb=>vl.ownBlock=some b) h.row (vV c (λb a=>aL h.row a)) (λb a=>a),h.new⟩
theorem qEg(v v' l S S' w)(h:fD w S v [])(d:fD w S' v' l):cL 63 #[v,v'] w λe w'=>(∃b,e=.r (.bool b))/\w'=w:=by
 obtain⟨a,c,rfl,_⟩:=h;obtain⟨g,j,rfl,_⟩:=d;simp only[jN];by_cases hl:l.length=0
 .rw[hl];go_enter func63,ntmps63;go_wp2;go_loopw [5] (λi f=>i=.i 0/\f=w) (λi _=>0)
  case atStart=>exact⟨rfl,rfl⟩
  case round=>obtain⟨rfl,rfl⟩:=hrel;go_wp2;go_ret;exact⟨⟨_,rfl⟩,rfl⟩
 .have k:((0:Int) != (l.length:Int))=true:=χ
  go_enter func63,ntmps63;go_wp2;go_ret;exact⟨⟨_,rfl⟩,rfl⟩
theorem qHm(h:Wd n B w q Bk K D v o ao ots M)(bh:B<=400000)(a9:jW w M.p9 ps)(bj:ps<=4 * B)(f:∀k,fpK M.p9 ps k->Bk k/\¬Ar k)(N:∀k,Ar k->Bk k)(c)(ax:(c.kind==3)=false)(b2:Kl c):
  cL 23 #[.p q 0,.agg c.cells] w λe w'=>e=.r (.bool true)/\On Ar w w'/\LwS n (B+1) w' q Ar:=by
 have⟨a0,p,P,Q,m,a4,Y,a1,Z⟩:=c;have⟨_,ab,_,_⟩:=b2;dsimp only at ax ab;have⟨r,W⟩:=Ge M.ts p;obtain⟨a,V,a5,af,-⟩:=al1 w (.cells #[.i a0,.i p,.t P,.t Q,.i m,.bool a4,.s Y a1 Z] 46);have l:=h.box (.cells #[.i a0,.i p,.t P,.t Q,.i m,.bool a4,.s Y a1 Z] 46);rw[V]at l;have A:bW a a:=AC _ _;have ad:=h.lk.bounds;have b0:∀G∈M.ts,G.l.length<=1000000:=λG b4=>by have:=(ad.2.2 G b4).2.1;omega
 have⟨⟨i,H⟩,hA,hS⟩:=Oc l.lk ω p P Q m ab r W;have⟨i2,U⟩:=nM ((cU r P Q m).1);have⟨H2,ae⟩:=nM ((cU r P Q m).2);have ba:H2≠9:=by
  rw[<-ae];unfold cU;grind
 have⟨dd,an,hd2⟩:∃dd:Bool,(dd=false->i=i2/\H=H2)/\(dd=true->(i=[]/\H=9)/\D.fs.life=0/\H2≠3/\H2≠1):=by
  rcases hA with q|⟨q,q2,q3⟩
  .exact⟨false,λ_=>by rw[<-U,<-ae,<-q];exact⟨rfl,rfl⟩,nofun⟩
  .exact⟨true,nofun,λ_=>⟨GE q,q2,ae▸q3⟩⟩
 have bu:i2.length<=1000000:=by
  have:=Ld (B:=B) r P Q m (λj G e=>by subst e;exact(ad.2.2 G (BI W.1)).2.1);rw[U]at this;omega
 have aa:i.length<=1000000:=by
  cases dd
  .rw[(an rfl).1];exact bu
  .rw[(hd2 rfl).1.1];simp
 have z:Hid (∀X,X.1[q]?=some M.obj->On (Bl.or Bk (Bl.one w)) a X->X.c q 1=some (.p D.d 0)/\X.c w 1=some (.i p)/\X.c w 2=some (.t P)/\X.c w 3=some (.t Q)/\X.c w 4=some (.i m)):=λX x av=>by
  have a7:=(dC x).2.1;rw[h.x]at a7;have⟨_,b6,b7,b8,b9,_⟩:=dO (av.heap af (.inr rfl));exact⟨a7,b6,b7,b8,b9⟩
 have J:Hid (∀X,bW a X->X.1[q]?=some M.obj/\On (Bl.or Bk (Bl.one w)) a X):=λX x=>⟨(l.below x).ref.box,vV x (λk f=>(l.book k f).1)⟩;have ah:Hid (∀X,bW a X->cL 61 #[.p D.d 0,.i p,.t P,.t Q,.i m] X λe O=>∃vl,e=.r (.tuple #[vl,.i H])/\Hid (ScS n (B+1) a O q (Bl.or Bk (Bl.one w)) K D v o ao ots M vl i)):=λX x=>by
  have s:=l.below x;apply(hS X s.lk.db).m;rintro e O ⟨vl,rfl,au,C,E,b1⟩;have bl:=x.size;exact⟨vl,rfl,s.still au C (DM B),(vV x (λk f=>(l.book k f).1)).t (C.on (λk f=>⟨(s.book k f).1,λe=>(s.apart k (.inl e)).2 f⟩)),E,λk f=>by have:=b1 k f;omega⟩
 have ai:Hid (∀d vl,ScS n (B+1) a d q (Bl.or Bk (Bl.one w)) K D v o ao ots M vl i->(cL 62 #[.p q 2,.i p,.t P,.t Q,.i m] d λe R=>∃t,e=.r (.tuple #[t,.i H2])/\Hid (R.ownsRow 0 71 2 t i2 (aJ i2)/\ScS n (B+1) a R q (Bl.or Bk (Bl.one w)) K D v o ao ots M vl i))):=λd vl g=>by
  apply(Le g.wd.ref p P Q m r W h.lk.n8 b0).m;rintro e R ⟨t,rfl,E,ap,_⟩;rw[U]at E;rw[ae];exact⟨t,rfl,E,g.below ap⟩
 have aj:Hid (∀d vl t,d.ownsRow 0 71 2 t i2 (aJ i2)/\ScS n (B+1) a d q (Bl.or Bk (Bl.one w)) K D v o ao ots M vl i->(cL 63 #[vl,t] d λe a3=>∃bb,e=.r (.bool bb)/\(dd=false->bb=true)/\Hid (ScS n (B+1) a a3 q (Bl.or Bk (Bl.one w)) K D v o ao ots M vl i))):=λd vl t g=>by
  cases dd
  .have⟨q,_⟩:=an rfl
   subst q;apply(Lf vl t i _ _ d (KN g.2.row) (KN g.1) aa).m;rintro e a3 ⟨rfl,aq⟩;exact⟨_,rfl,λ_=>rfl,g.2.below aq⟩
  .have⟨⟨q,_⟩,_⟩:=hd2 rfl
   subst q;apply(qEg vl t i2 _ _ d (KN g.2.row) (KN g.1)).m;rintro e a3 ⟨⟨bb,rfl⟩,rfl⟩;exact⟨_,rfl,nofun,g.2⟩
 have ak:Hid (∀d vl,ScS n (B+1) a d q (Bl.or Bk (Bl.one w)) K D v o ao ots M vl i->(cL 60 #[.p q 0,.i H] d λe w'=>e=.r (.bool dd)/\w'=d)):=λd vl g=>by
  have:=qCg g.wd.ref h.f h.spoiled g.wd.lk.db H (by
   cases dd
   .rw[(an rfl).2,<-ae];exact Xt r P Q m
   .rw[(hd2 rfl).1.2];decide);have e:(H==9&&D.fs.life==0)=dd:=by
   cases dd
   .rw[(an rfl).2];simp[ba]
   .have⟨⟨_,q⟩,q2,_⟩:=hd2 rfl
    simp[q,q2]
  rw[e]at this;exact this
 have al:Hid (∀d vl,ScS n (B+1) a d q (Bl.or Bk (Bl.one w)) K D v o ao ots M vl i->(cL 64 #[.p q 14,vl] d λe w'=>e=.r (.tuple #[])/\Hid (On Ar w w'/\LwS n (B+1) w' q Ar))):=λd vl g=>by
  have bs:=a5.size;have a2:=(vV a5 (λk f=>(h.book k f).1)).t (g.on.m (λk f=>.inl f));have bt:=a2.size;have F:nW vl w:=λk b=>by have:=g.new k b;omega
  apply(Kd g.wd.ref.box rfl (a9.on (a2.m (λk b=>(f k b).1))) ω g.row aa (λk b u b5 e=>by
   have l:=a9.lies k (.inr ⟨u,b5,e⟩);have s:=F k b;omega)).m
  rintro e w' ⟨rfl,vq,qs,ac,bi,aw,C,az⟩;have a8:=az;have L:=λk b=>(h.book k (N k b)).1;refine⟨rfl,(a2.m N).t (C.on (λk b=>⟨by have:=L k b;omega,λe=>?_⟩)),_,vq,qs,⟨K,D,v,o,ao,ots,_,g.wd.rebook (ps:=ps) aw C (λk b=>.inl (f k b).1) (λk b=>⟨λay=>by have l:=h.lk.db.lies k ay;have s:=F k b;omega,λb3=>by have l:=h.ref.lies k b3;have s:=F k b;omega⟩) ac a8,rfl⟩,ac,ω,λk b=>⟨.inr b,λT=>?_⟩,λk b=>.inl (.inl (N k b))⟩
  .rcases e with e|e|e
   .exact(h.book k (N k b)).2 (.inr (.inl e))
   .exact(f k (.inl e)).2 b
   .have l:=L k b;have s:=F k e;omega
  .rcases a8 k b with l|l|l
   .exact(f k l).2 T
   .have s:=L k T;have bg:=F k l;omega
   .have s:=L k T;omega
 have am:Hid (∀X,bW X X.drew):=λX=>(AC _ X).drew;have bm:=(dO af).1;cases dd
 .have⟨q1,q2⟩:=an rfl
  subst q1 q2;go_enter func23,ntmps23;go_wp2;have⟨bb,bc,bd,be,bf⟩:=z a (J a A).1 (J a A).2;go_region_held3 (λX=>X.c q 1=some (.p D.d 0)/\X.c w 1=some (.i p)/\X.c w 2=some (.t P)/\X.c w 3=some (.t Q)/\X.c w 4=some (.i m))
   (first|exact z _ (J _ A.drew).1 (J _ A.drew).2|exact z _ y.wd.ref.box y.on)
   ((go_at_call 61;apply Calls.m (ah _ A.drew);rintro e O ⟨vl,rfl,y⟩;obtain⟨bn,bo,rfl⟩:=aG y.row))
  all_goals
   have⟨bb,bc,bd,be,bf⟩:=z _ y.wd.ref.box y.on;go_wp2;have S:=(show Hid _ from y.below (am O));go_region_held3 (λX=>X.c q 1=some (.p D.d 0)/\X.c w 1=some (.i p)/\X.c w 2=some (.t P)/\X.c w 3=some (.t Q)/\X.c w 4=some (.i m))
    (first|exact z _ S.wd.ref.box S.on|exact z _ I.2.wd.ref.box I.2.on)
    ((go_at_call 62;apply Calls.m (ai _ _ S);rintro e R ⟨t,rfl,I⟩;obtain⟨bp,bq,rfl⟩:=aG I.1))
   all_goals
    go_wp2_with (first
     |(go_at_call 63;apply Calls.m (aj _ _ _ I);rintro e a3 ⟨bb,rfl,hbb,a6⟩;obtain rfl:=hbb σ)
     |(go_at_call 60;apply Calls.w (ak _ _ a6))
     |(go_at_call 64;apply Calls.m (al _ _ a6);rintro e br ⟨rfl,ag⟩))
    go_ret;exact⟨rfl,ag⟩
 .have⟨⟨q1,q2⟩,_,q3,q4⟩:=hd2 rfl
  subst q1 q2;have f3:(H2 != 3)=true:=by simpa using q3
  have f1:(H2 != 1)=true:=by simpa using q4
  go_enter func23,ntmps23;go_wp2;have⟨bb,bc,bd,be,bf⟩:=z a (J a A).1 (J a A).2;go_region_held3 (λX=>X.c q 1=some (.p D.d 0)/\X.c w 1=some (.i p)/\X.c w 2=some (.t P)/\X.c w 3=some (.t Q)/\X.c w 4=some (.i m))
   (first|exact z _ (J _ A.drew).1 (J _ A.drew).2|exact z _ y.wd.ref.box y.on)
   ((go_at_call 61;apply Calls.m (ah _ A.drew);rintro e O ⟨vl,rfl,y⟩;obtain⟨bn,bo,rfl⟩:=aG y.row))
  all_goals
   have⟨bb,bc,bd,be,bf⟩:=z _ y.wd.ref.box y.on;go_wp2;have S:=(show Hid _ from y.below (am O));go_region_held3 (λX=>X.c q 1=some (.p D.d 0)/\X.c w 1=some (.i p)/\X.c w 2=some (.t P)/\X.c w 3=some (.t Q)/\X.c w 4=some (.i m))
    (first|exact z _ S.wd.ref.box S.on|exact z _ I.2.wd.ref.box I.2.on)
    ((go_at_call 62;apply Calls.m (ai _ _ S);rintro e R ⟨t,rfl,I⟩;obtain⟨bp,bq,rfl⟩:=aG I.1))
   all_goals
    go_wp2_with (first
     |(go_at_call 63;apply Calls.m (aj _ _ _ I);rintro e a3 ⟨bb,rfl,hbb,a6⟩)
     |(go_at_call 60;apply Calls.w (ak _ _ a6))
     |(go_at_call 64;apply Calls.m (al _ _ a6);rintro e br ⟨rfl,ag⟩))
    go_ret;exact⟨rfl,ag⟩
end
theorem zS{fs es}(h:∀x∈es,x.good fs):∀b∈kvB es,b.2.size<=400:=λb d=>by
 obtain⟨x,a,rfl⟩:=AY.1 d;have e:=Ia (h x a);have f:x.e.size<=400:=by
  obtain⟨_,_,⟨_,_,g,c⟩|⟨_,_,k,j,c,_,_,i,_⟩⟩:=h x a
  .omega
  .omega
 show x.value.toArray.size<=400;grind
def Aft(l X:World)(nv:Int)(L:KV)(b:Nat)(va:Value):Prop:=l.1.size<=b/\cW X b #[va,.i (nv+1)] 32/\X.ownsRow 0 71 2 va L.length (aJ L)/\nW va l
theorem Aft.below{l X d:World}{f:Int}{L:KV}{b:Nat}{e:Value}(h:Aft l X f L b e)(g:bW X d):Aft l d f L b e:=⟨h.1,g.kp h.2.1,aS h.2.2.1 (vV (Y:=λc=>e.ownBlock=some c) g (λc a=>aL h.2.2.1 a)) (λc a=>a),h.2.2.2⟩
def qRg(n B:Nat)(w l:World)(q:Nat)(Bk:Bl)(D:Db)(M:RM)(x:Int)(t:RT)(fs:Fs)(z:Int):Prop :=
 (((t.ch=[]/\z=0)\/(t.ch≠[]/\((gS t.ch t.oth=true/\z=7)\/(gS t.ch t.oth=false/\((z=8/\n<iW M t)\/(z=9/\D.failed=true))))))/\∀X,bW l X->cL 28 #[.p q 2,.i x] X λe w'=>e=.r (.i 0)/\w'.c q 11=some M.p3/\On Bk w w'/\Lw n (B+1) w' q Bk M.p9) \/
 (t.ch≠[]/\gS t.ch t.oth=false/\z=9/\D.failed=false/\(decide (D.fs.failed<fs.failed)||fs.life==0)=true/\∀X b va,bW l X->Aft l X M.nv (t.ch.foldl dS M.now) b va->cL 28 #[.p q 2,.i x] X λe w'=>e=.r (.i 0)/\On Bk w w'/\(∃N:RM,N.p3=.bool false/\w'.1[q]?=some N.obj)/\cW w' b #[va,.i (M.nv+1)] 32/\∀W,(((w'.setCell (aD q 11) (.bool true)).setCell (aD q 10) (.bool true)).setCell (aD q 8) va).setCell (aD q 9) (.i (M.nv+1))=W->On Bk w W/\Lw n (B+1) W q Bk M.p9) \/
 (t.ch≠[]/\gS t.ch t.oth=false/\z=0/\D.failed=false/\(D.fs.life==0)=false/\∀X,bW l X->cL 80 #[.p q 2,.i x] X λe w'=>e=.r (.tuple #[])/\On Bk w w'/\w'.c q 11=some (.bool false)/\Lw n (B+1) w' q Bk M.p9)
section
variable {n B:Nat}{w:World}{q:Nat}{Bk K:Bl}{D:Db}{v:Nat}{o ao:Option (Nat×T)}{ots:List (Option (Nat×T))}{M:RM}
theorem Lk.small(h:Lk n B w D v o ao ots M):(∀x∈M.now,x.2.size<=400)/\(∀t∈M.ts,∀x∈t.bg,x.2.size<=400)/\∀t∈M.ts,∀x∈t.ch.foldl dS M.now,x.2.size<=400:=by
 refine⟨h.now▸zS (gV h.store.sure.rooted h.store.sure.flat),λt d=>?_,λt d=>?_⟩
 .obtain⟨a,b,rfl⟩:=AW d;have c:=h.each a b;rw[<-c.bg];exact zS (gV c.tr.rooted c.tr.flat)
 .obtain⟨a,b,rfl⟩:=AW d;have⟨i,f,j,k,g,l⟩:=(h.each a b).rise;have e:=by
   have:=(rB (eP h.store.sure.rooted) (M.ts[a]).ch (cs:=[]) EH).1;rw[oD (eP h.store.sure.rooted),h.now,<-(h.each a b).cs]at this;exact this
  rw[<-e];exact zS (kU (eP h.store.sure.rooted) f (gV h.store.sure.rooted h.store.sure.flat) g)
theorem qMd(h:Wd n B w q Bk K D v o ao ots M)(x)(t:cI M.ts x none):
  cL 14 #[.p D.d 0,.i x] w λe a=>e=.r (.i 3)/\aV a K q M/\On Bk w a/\Lw n (B+1) a q Bk M.p9:=by
 have j:=h.lk.n8;have k:=h.lk.len;apply(qQw D x w h.lk.db ω (h.lk.miss t)).m;rintro e a ⟨rfl,i,b⟩;have f:=h.still i b (KS B 1);exact⟨rfl,f.ref,b.on (λd c=>⟨(h.book d c).1,λg=>(h.apart d (.inl g)).2 c⟩),K,D,v,o,ao,ots,M,f,rfl⟩
theorem qMg(h:Wd n B w q Bk K D v o ao ots M)(Y:B<=400000)(a3:n<=4096)(W:2<=n)(x f g)(t:cI M.ts x (some (f,g))):
  cL 14 #[.p D.d 0,.i x] w λe a=>∃z fs,e=.r (.i z)/\aV a K q M/\On Bk w a/\(∃l:Db,l.β=D.β/\aO a 0 l/\l.fs=fs/\fs.safe=n)/\qRg n B w a q Bk D M x g fs z:=by
 have ai:=h.lk.n8;have al:=h.lk.len;have S:=h.lk.bounds;have Z:=h.fl;have O:=λd c=>(h.apart d c).1;have L:∀{a:World},Fr (fpD D) w a->On Bk w a:=λb=>b.on (λd c=>⟨(h.book d c).1,λV=>(h.apart d V).2 c⟩);have a5:∀{a X w':World},On Bk w a->bW a X->Fr (fpR q M) X w'->On Bk w w':=λ{a X w'} a4 j G=>by
  have am:=a4.size;have an:=j.size;exact a4.t ((vV j (λd c=>by have:=(h.book d c).1;omega)).t (G.on (λd c=>⟨by have:=(h.book d c).1;omega,λV=>(h.book d c).2 (.inr V)⟩)))
 have ak:=(AD.1 t.1).1;have a2:f<D.ts:=ω;have aj:=S.2.2 g (BI t.1);have P:∀{a:World}{D':Db} (z:Int),D.sm D'->Fr (fpD D) w a->aI w (fpD D) (fpD D')->(∀N,Lk n (B+1) a D' v o ao (ots.eraseIdx f) {M with ov:=N,ts:=M.ts.eraseIdx f})->((g.ch=[]/\z=0)\/(g.ch≠[]/\((gS g.ch g.oth=true/\z=7)\/(gS g.ch g.oth=false/\((z=8/\n<iW M g)\/(z=9/\D.failed=true))))))->∃z' fs,Ending.r (.i z)=.r (.i z')/\aV a K q M/\On Bk w a/\(∃l:Db,l.β=D.β/\aO a 0 l/\l.fs=fs/\fs.safe=n)/\qRg n B w a q Bk D M x g fs z':=by
  intro a D' z T b m k c;have u:=h.ref.aside b O;have H:=k (.bool false);refine⟨z,D'.fs,rfl,u,L b,⟨D',T.2.1,H.db,rfl,H.store.len⟩,.inl ⟨c,λX j=>?_⟩⟩;apply(yU (u.below j) x f g t ω).m;rintro e w' ⟨rfl,N,R,aa,Q⟩;have G:Fr (fpR q M) X w':=aa.m (λd c=>.inl (.inl c));have ae:=j.size;exact⟨rfl,(dC R.box).2.2.2.2.2.2.2.2.2.2.2.1,a5 (L b) j G,h.bothS T b m (k N) ω R ((AB j).t G) (λd c=>(Q d c).imp id (λa7=>ω)) rfl rfl rfl rfl rfl ⟨rfl,rfl,rfl,rfl,rfl⟩ ⟨rfl,rfl,rfl⟩⟩
 by_cases hch:g.ch=[]
 .apply(Du h.lk ω x f g t 0 (.inl ⟨hch,rfl⟩)).m;rintro e a ⟨rfl,D',I,b,m,k⟩;exact P 0 I b m k (.inl ⟨hch,rfl⟩)
 cases hcf:gS g.ch g.oth with
 |true =>
  apply(Du h.lk ω x f g t 7 (.inr ⟨hch,hcf,rfl⟩)).m;rintro e a ⟨rfl,D',I,b,m,k⟩;exact P 7 I b m k (.inr ⟨hch,.inl ⟨hcf,rfl⟩⟩)
 |false =>
  by_cases hroom:(D.fs.life==0)=false/\(eY n (dI (osL o ao ots f))).length<(bY o (D.ts[f]).cs (eY n (dI (osL o ao ots f)))).2
  .have⟨ab,a8⟩:=Dt h.lk hroom.1 Y a3 W x f g t hch hcf a2 hroom.2;apply a8.m;rintro e a ⟨rfl,D',I,b,m,k⟩;exact P 8 I b m k (.inr ⟨hch,.inr ⟨hcf,.inl ⟨rfl,ab⟩⟩⟩)
  apply(Dr h.lk Y a3 W x f g t hch hcf a2 hroom).m;rintro e a ⟨zz,D',rfl,⟨T,J⟩,b,m,(⟨rfl,hf,hd,hF,k⟩|⟨rfl,hb,ad,hf,a9,o',k⟩)⟩
  .cases hbr:D.failed with
   |true =>
    rcases hF with⟨e1,_⟩|⟨e1,_⟩
    .exact P 9 ⟨T,J,e1,by rw[hf,hbr]⟩ b m k (.inr ⟨hch,.inr ⟨hcf,.inr ⟨rfl,hbr⟩⟩⟩)
    .rw[hbr]at e1;cases e1.1
   |false =>
    have u:=h.ref.aside b O;have H:=k (.bool false);have hw:wrap64 (D.fs.failed+1)=D.fs.failed+1:=rY (η Z.1) (η Z.2.1);have hv:=h.lk.nv;have hS:(decide (D.fs.failed<D'.fs.failed)||D'.fs.life==0)=true/\0<=D'.fs.failed/\D'.fs.failed<=D.fs.failed+1/\∃r C,fN n r D'.fs.safe D'.fs.late v o C/\∀v' t,C v' t->(v'=v+1->kvB (aT t)=g.ch.foldl dS M.now)/\(v'≠v+1->kvB (aT t)=M.ah\/t=o)/\(v'+1=v->kvB (aT t)=M.ah/\M.av=v'):=by
     rcases hF with⟨e1,e2⟩|⟨_,e1,C,e2,e3⟩
     .have e2:=e2.resolve_right (by rw[hbr];decide);have⟨r,C,c1,c2⟩:=h.safe;rw[e1];exact⟨by simp[e2],Z.1,ω,r,C,c1,λv' t a=>⟨λe=>(by have:=((c2.2.2 v' t a).1 e).1;rw[h.twice,hbr]at this;simp at this),(c2.2.2 v' t a).2⟩⟩
     .rw[e1,hw];exact⟨χ,by have:=Z.1;omega,ω,_,C,e2,λv' t a=>(e3 v' t a).elim (λe=>⟨λi=>absurd i e.2.1,λ_=>e.1▸h.lk.ah,λi=>by have⟨r,C,c1,c2⟩:=h.safe;rw[e.1];exact(c2.2.2 _ _ (c1.store (h.lk.failed hbr) W (η h.lk.vB) e.2.2 i)).2.2 i⟩) (λe=>⟨λ_=>e.2,λi=>absurd e.1 i,λi=>ω⟩)⟩
    obtain⟨s1,s2,s3,r,C,s4,s5⟩:=hS;refine⟨9,D'.fs,rfl,u,L b,⟨D',J,H.db,rfl,H.store.len⟩,.inr (.inl ⟨hch,hcf,rfl,hbr,s1,λX bb va j ⟨A1,A2,A3,A4⟩=>?_⟩)⟩;apply(yU (u.below j) x f g t ω).m;rintro e w' ⟨rfl,N,R,aa,Q⟩;have G:Fr (fpR q M) X w':=aa.m (λd c=>.inl (.inl c));have ae:=j.size;have ag:=aa.size;have nb:∀k,a.1.size<=k->k≠q/\(k<X->¬fpR q {M with ov:=N,ts:=M.ts.eraseIdx f} k):=λk hk=>⟨λe=>by have:=u.lies k (.inr (.inl e));omega,λi e=>by
     rcases Q k (.inr e) with c|c
     .have:=u.lies k c;omega
     .omega⟩
    have y1:=aa.heap A2 (λe=>(nb bb A1).1 e);refine⟨rfl,a5 (L b) j G,⟨_,?_,R.box⟩,y1,λW hW=>?_⟩
    .show M.p3=_;rw[h.broken,hbr]
    have FW:=hW▸((((AE (Bl.one q) w').s q 11).s q 10).s q 8).s q 9;have xW:=aC (aC (aC (aC R.box 11 (.bool true)) 10 (.bool true)) 8 va) 9 (.i (M.nv+1));rw[hW]at xW;have y2:=aS A3 (aa.on (Z:=λk=>va.ownBlock=some k) (λk e=>⟨aL A3 e,(nb k (A4 k e)).1⟩)) (λk a=>a);have y3:=aS y2 (FW.on (Z:=λk=>va.ownBlock=some k) (λk e=>⟨aL y2 e,(nb k (A4 k e)).1⟩)) (λk a=>a);have⟨m1,m2⟩:=R.keep FW;have R':=R.reobj (M':={M with ov:=N,ts:=M.ts.eraseIdx f,p0:=va,p1:=.i (M.nv+1),p2:=.bool true,p3:=.bool true,oth:=g.ch.foldl dS M.now}) (K':=λk=>K k\/va.ownBlock=some k) FW (by simpa using xW) (λb a=>.inl a) (λb a=>a.elim (m2 b) (λa=>⟨aL y3 a,(nb b (A4 b a)).2 (aL A3 a)⟩)) ((R.now.on m1).m (λk a=>.inl a)) ⟨(R.ah.1.on m1).m (λk a=>.inl a),(KN y3).m (λk a=>.inr a)⟩ (.inl ⟨rfl,rfl⟩);have GW:=G.t (FW.m (λd c=>.inl (.inl c)));refine⟨a5 (L b) j GW,h.both T J b m (M':={M with ov:=N,ts:=M.ts.eraseIdx f,p0:=va,p1:=.i (M.nv+1),p2:=.bool true,p3:=.bool true,oth:=g.ch.foldl dS M.now}) {(k N) with} R' ((AB j).t GW) (λd c=>?_) rfl rfl (by rw[hf]) (by rw[hf]) rfl ⟨rfl,rfl,rfl,rfl,rfl⟩ ⟨r,C,s4,⟨_,rfl,λ_=>by rw[hv]⟩,(by have⟨_,_,_,_,a,_⟩:=h.safe;exact a),λv' t a=>⟨λe=>⟨rfl,(s5 v' t a).1 e⟩,(s5 v' t a).2⟩⟩ ⟨s2,by have:=Z.2.1;omega,by have:=rQ g.ch M.now;have⟨_,c1,_,_,c2⟩:=h.lk.few;have:=Nu (λt:RT=>t.ch) (BI t.1);show(g.ch.foldl dS M.now).length<=_;omega,Z.2.2.2⟩⟩;rcases c with (c|c)|c
    .exact .inl (.inl c)
    .exact .inr (A4 d c)
    .exact(Q d (.inr c)).imp id (λa7=>ω)
  .have u:=h.ref.aside b O;have H:=k {M with now:=g.ch.foldl dS M.now,nv:=M.nv+1,ah:=M.now,ts:=(M.ts.eraseIdx f).map (λs=>{s with oth:=s.oth++g.ch.map (·.key)})} ⟨rfl,rfl,rfl,rfl,σ,λi U a1=>σ⟩;obtain⟨v1,s1,-,s2⟩:=(H.failed hf).hold;refine⟨0,D'.fs,rfl,u,L b,⟨D',J,H.db,rfl,H.store.len⟩,.inr (.inr ⟨hch,hcf,rfl,hb,ad,λX j=>?_⟩)⟩;have ae:=j.size;apply(qEq (u.below j) x f g t ω ω ⟨by rw[h.lk.nv];have:=h.lk.vB;omega,by rw[h.lk.nv];omega⟩ (BX.2 hch) (λs ac=>ζ)).m;rintro e w' ⟨rfl,ag,v3,N,af,R,a0,G,Q⟩;refine⟨rfl,a5 (L b) j G,by rw[(dC R.box).2.2.2.2.2.2.2.2.2.2.2.1];show some M.p3=_;rw[h.broken,hb],h.both T J b m (k {M with va:=M.vn,av:=M.nv,ah:=M.now,vn:=v3,nv:=M.nv+1,now:=g.ch.foldl dS M.now,ov:=N,ts:=af} ⟨rfl,rfl,rfl,rfl,a0.len,λi U a1=>?_⟩) R ((AB j).t G) (λd c=>(Q d c).imp id (λa7=>ω)) rfl rfl (by rw[hf,<-hb];exact h.twice) (by rw[hf,<-hb];exact h.broken) rfl ⟨rfl,rfl,rfl,rfl,rfl⟩ ⟨_,_,s2,(by have⟨_,_,_,⟨u,p1,_⟩,_⟩:=h.safe;exact⟨u,p1,λe=>by have:=h.twice.symm.t e;simp[hb]at this⟩),λe=>(by have:=h.lk.nv;dsimp only at e;omega),λv' t a=>⟨λe=>(η a.1),λ_=>.inl (a.2▸h.lk.now),λi=>⟨a.2▸h.lk.now,by have:=h.lk.nv;show M.nv=_;omega⟩⟩⟩ ⟨a9▸Z.1,by rw[a9];have:=Z.2.1;omega,by have:=Z.2.2.1;show M.oth.length<=_;omega,h.lk.small.1⟩⟩;have⟨y,A,C,E,F,a6⟩:=a0.each i U a1;grind
end
section
variable {n B:Nat}{w:World}{q:Nat}{Bk K:Bl}{D:Db}{v:Nat}{o ao:Option (Nat×T)}{ots:List (Option (Nat×T))}{M:RM}
theorem qAm(h:Wd n B w q Bk K D v o ao ots M)(c:OpV)(r:cI M.ts c.tx none):
  cL 29 #[.p q 0,.agg c.cells] w λe w'=>e=.r (.bool true)/\On Bk w w'/\Lw n (B+1) w' q Bk M.p9:=by
 have⟨t,L,P,Q,N,wr,V,S,U⟩:=c;dsimp only at r;obtain⟨a,G,x,H,-⟩:=al1 w (.cells #[.i t,.i L,.t P,.t Q,.i N,.bool wr,.s V S U] 46);have b:=h.box (.cells #[.i t,.i L,.t P,.t Q,.i N,.bool wr,.s V S U] 46);rw[G]at b;have f:bW a a:=AC _ _;have l:Hid (∀X,X.1[q]?=some M.obj->On (Bl.or Bk (Bl.one w)) a X->X.c q 1=some (.p D.d 0)/\X.c w 1=some (.i L)):=λX g m=>by
  have A:=(dC g).2.1;rw[h.x]at A;have⟨_,o1,_⟩:=dO (m.heap H (.inr rfl));grind
 have I:=by have:=(dC b.ref.box).1;rw[h.f]at this;exact this
 have i:Hid (∀X,bW a X->(X.1[q]?=some M.obj/\On (Bl.or Bk (Bl.one w)) a X)/\cL 75 #[.p q 2,.i L] X λe w'=>e=.r (.bool false)/\w'=X):=λX g=>⟨⟨(b.below g).ref.box,vV g (λj d=>(b.book j d).1)⟩,Lg (b.below g).ref L none r h.lk.n8⟩;have y:Hid (∀X,bW a X->cL 14 #[.p D.d 0,.i L] X λe k=>e=.r (.i 3)/\Hid ((k.1[q]?=some M.obj/\On (Bl.or Bk (Bl.one w)) a k)/\On Bk w k/\Lw n (B+1) k q Bk M.p9)):=λX g=>by
  apply(qMd (b.below g) L r).m;rintro e k ⟨rfl,E,m,z,Y,Z,o',R,O,W,F,C⟩;have u:=vV g (λj d=>(b.book j d).1);exact⟨rfl,⟨E.box,u.t m⟩,(vV x (λj d=>(h.book j d).1)).t ((u.t m).m (λj d=>.inl d)),z,Y,Z,o',R,O,W,F.less (λj d=>.inl d),C⟩
 go_enter func29,ntmps29;go_wp2_with (first
  |(apply Calls.w (fH D.β D.sv D.lv D.fs a b.lk.db.file))
  |(apply Calls.w (pF D.β D.sv D.lv D.fs a b.lk.db.file)))
 have⟨J,s2⟩:=l a (i a f).1.1 (i a f).1.2;go_region_held3 (λX=>X.c w 1=some (.i L))
  (exact(l _ (i _ f.drew).1.1 (i _ f.drew).1.2).2)
  ((apply Calls.w (i _ f.drew).2))
 go_wp2;go_region_held3 (λX=>X.c q 1=some (.p D.d 0)/\X.c w 1=some (.i L))
  (first|exact l _ (i _ f.drew.drew).1.1 (i _ f.drew.drew).1.2|exact l _ p.1.1 p.1.2)
  ((apply Calls.m (y _ f.drew.drew);rintro e k ⟨rfl,p⟩))
 all_goals go_wp2
 all_goals go_ret
 all_goals exact⟨rfl,p.2⟩
structure CmS (n B:Nat) (W1 X w1:World) (q:Nat) (Bk K:Bl) (D:Db) (M:RM) (x:Int) (t:RT) (fs:Fs) (z:Int):Prop where
 ref:aV w1 K q M
 on:On Bk W1 w1
 file:∃D1:Db,D1.β=D.β/\aO w1 0 D1/\D1.fs=fs/\fs.safe.length=n
 com:qRg n B X w1 q Bk D M x t fs z
 onX:On Bk W1 X
theorem qFd{w:World}{q b:Nat}{d:RM}{e:Value}{z:Int}(h:w.1[q]?=some d.obj)(a:cW w b #[e,.i z] 32):w.c q 11=some d.p3/\(∀i,w.frozen? (aD q i)=false)/\∀f c k,w.setCell (aD q 11) (.bool true)=f->f.setCell (aD q 10) (.bool true)=c->c.setCell (aD q 8) e=k->f.c q 10=some d.p2/\(∀i,f.frozen? (aD q i)=false)/\c.c b 0=some e/\c.c b 1=some (.i z)/\c.c q 8=some d.p0/\c.c q 9=some d.p1/\(∀i,c.frozen? (aD q i)=false)/\k.c q 9=some d.p1/\∀i,k.frozen? (aD q i)=false:=by
 refine⟨(dC h).2.2.2.2.2.2.2.2.2.2.2.1,aF h,?_⟩;rintro _ _ _ rfl rfl rfl;have l:=aC h 11 (.bool true);have g:=aC l 10 (.bool true);have m:=aC g 8 e
 have p:q≠b:=λj=>by subst j;have:=h.symm.t a;simp at this
 have o:cW ((w.setCell (aD q 11) (.bool true)).setCell (aD q 10) (.bool true)) b #[e,.i z] 32:=(((AE (Bl.one q) w).s q 11).s q 10).heap a (λj=>p j.symm);have⟨n,a1⟩:=cM o;exact⟨by simp[World.cell?,l],aF l,n,a1,by simp[World.cell?,g],by simp[World.cell?,g],aF g,by simp[World.cell?,m],aF m⟩
theorem Vp(h:Wd n B w q Bk K D v o ao ots M)(c3:B<=400000)(cc:n<=4096)(c2:2<=n)(c:OpV)(j t)(I:cI M.ts c.tx (some (j,t))):
  cL 29 #[.p q 0,.agg c.cells] w λe w'=>e=.r (.bool true)/\On Bk w w'/\Lw n (B+1) w' q Bk M.p9:=by
 obtain⟨sp,hsp⟩:=h.spoiled
 obtain⟨b3,b,P,Q,N,b5,b1,b4,b2⟩:=c
 dsimp only at I
 obtain⟨r,ar,b8,b6,-⟩:=al1 w (.cells #[.i b3,.i b,.t P,.t Q,.i N,.bool b5,.s b1 b4 b2] 46)
 have A:=h.box (.cells #[.i b3,.i b,.t P,.t Q,.i N,.bool b5,.s b1 b4 b2] 46)
 rw[ar]at A
 have R:bW r r:=AC _ _
 have an:Hid (∀X,X.1[q]?=some M.obj->On (Bl.or Bk (Bl.one w.1.size)) r X->X.c q 1=some (.p D.d 0)/\X.c w 1=some (.i b)):=λX V ah=>by
  have bb:=(dC V).2.1
  rw[h.x]at bb
  obtain⟨_,cg,_⟩:=dO (ah.heap b6 (.inr rfl))
  exact⟨bb,cg⟩
 have ba:Hid (∀X,On (Bl.or Bk (Bl.one w.1.size)) r X->X.c w 1=some (.i b)):=λX ah=>(dO (ah.heap b6 (.inr rfl))).2.1
 have F:=by have:=(dC A.ref.box).1;rw[h.f]at this;exact this
 have au:=fH D.β D.sv D.lv D.fs r A.lk.db.file
 obtain⟨gn,bn⟩:=nM ((D.fs.life==0))
 rw[bn]at au
 have bi:=pF D.β D.sv D.lv D.fs r A.lk.db.file
 have T:Hid (∀X,bW r X->(X.1[q]?=some M.obj/\On (Bl.or Bk (Bl.one w.1.size)) r X)/\cL 75 #[.p q 2,.i b] X λe w'=>e=.r (.bool true)/\w'=X):=λX V=>⟨⟨(A.below V).ref.box,vV V (λJ C=>(A.book J C).1)⟩,Lg (A.below V).ref b _ I h.lk.n8⟩
 have b9:Hid (∀X,bW r X->cL 14 #[.p D.d 0,.i b] X λe l=>∃z fs,e=.r (.i z)/\Hid (CmS n B r X l q (Bl.or Bk (Bl.one w.1.size)) K D M b t fs z)):=λX V=>by
  refine(qMg (A.below V) c3 cc c2 b j t I).m ?_
  rintro e l ⟨z,fs,rfl,a2,ah,c5,c8⟩
  have al:=vV V (λJ C=>(A.book J C).1)
  exact⟨z,fs,rfl,a2,al.t ah,c5,c8,al⟩
 have aj:=h.lk.bounds
 have bl:=BI I.1
 have cn:=aj.2.2 t bl
 obtain⟨bo,bq,br⟩:=h.lk.small
 have bp:=h.fl.2.2.2
 have bm:M.nv<1000000000/\0<=M.nv:=⟨by rw[h.lk.nv];have:=h.lk.vB;omega,by rw[h.lk.nv];omega⟩
 obtain⟨U,ay⟩:=nM (decide (0<t.ch.length))
 obtain⟨Z,H⟩:=nM (gS t.ch t.oth)
 obtain⟨ak,az⟩:=nM (iW M t)
 obtain⟨fd,bd⟩:=nM (D.failed)
 have k:Hid (∀X l z fs,CmS n B r X l q (Bl.or Bk (Bl.one w.1.size)) K D M b t fs z->∀g,bW l g->(g.c w 1=some (.i b)/\g.c q 0=some (.p D.β 0)/\g.c q 12=some (.bool sp)) /\
   (cL 51 #[.p q 0,.i D.fs.failed] g λe w'=>e=.r (.bool (decide (D.fs.failed<fs.failed)||fs.life==0))/\w'=g) /\
   (cL 76 #[.p q 2,.i b] g λe w'=>e=.r (.bool U)/\bW g w') /\
   (cL 77 #[.p q 2,.i b] g λe w'=>e=.r (.bool Z)/\bW g w') /\
   (cL 78 #[.p q 2,.i b] g λe w'=>e=.r (.i (ak:Nat))/\bW g w') /\
   (cL 79 #[.p q 2,.i b] g λe w'=>∃a m d,e=.r (.agg #[.s a m d,.i (M.nv+1)])/\bW g w'/\Hid (w'.ownsRow 0 71 2 (.s a m d) (t.ch.foldl dS M.now).length (aJ (t.ch.foldl dS M.now))/\nW (.s a m d) l)) /\
   (cL 31 #[.p D.β 0] g λe w'=>e=.r (.i n)/\w'=g)):=λX l z fs ap g aw=>by
  have a2:=ap.ref.below aw
  have ax:=dC a2.box
  obtain⟨a7,bf,bd,cm,cf⟩:=ap.file
  have be:=bd.bl aw
  have bc:g.c q 0=some (.p D.β 0):=by rw[ax.1,h.f]
  refine⟨⟨ba.o g (ap.on.t (vV aw (λJ C=>jY (A.book J C).1 ap.on.size))),bc,by rw[ax.2.2.2.2.2.2.2.2.2.2.2.2.1,hsp]⟩,cm▸tP q D.β a7.sv a7.lv a7.fs g (bf▸be.file) bc _,?_,?_,?_,?_,?_⟩
  .rw[<-ay];exact Og a2 b j t I h.lk.n8
  .rw[<-H];exact qEs a2 b j t I h.lk.n8 ω ω
  .rw[<-az];exact Rl a2 b j t I h.lk.n8 (η aj.1) bm (η aj.2.1) (λt cd=>by have:=(aj.2.2 t cd).1;omega) (br t bl) bo bp bq
  .refine(xG a2 b j t I h.lk.n8 (η aj.1) bm).m ?_
   rintro e w' ⟨v',rfl,c7,c4,c9⟩
   obtain⟨a,d,rfl⟩:=aG c7
   exact⟨a,_,d,rfl,c4,c7,λJ C=>vJ aw.size (c9 J C)⟩
  .have:=mI D.β a7.sv a7.lv a7.fs g (bf▸be.file)
   rw[cm,cf]at this
   exact this
 have am:Hid (∀X w',On (Bl.or Bk (Bl.one w.1.size)) r X->On (Bl.or Bk (Bl.one w.1.size)) X w'->w'.c w 1=some (.i b)/\On Bk w w'/\(Lw n (B+1) w' q (Bl.or Bk (Bl.one w.1.size)) M.p9->Lw n (B+1) w' q Bk M.p9)):=λX w' al bn=>⟨ba.o w' (al.t bn),(vV b8 (λJ C=>(h.book J C).1)).t ((al.t bn).m (λJ C=>.inl C)),λ⟨bw,D',v',o',ao',ots',M',av,c1⟩=>⟨bw,D',v',o',ao',ots',M',av.less (λJ C=>.inl C),c1⟩⟩
 have bv:Hid (decide (0<t.ch.length)=U/\gS t.ch t.oth=Z/\iW M t=ak/\D.failed=fd/\(D.fs.life==0)=gn/\M.p3=.bool D.failed):=⟨ay,H,az,bd,bn,h.broken⟩
 clear h A b6 I ay H az bo bp bq br bd bn
 go_enter func29,ntmps29
 go_wp2_with (first
  |(go_at_call 49;apply Calls.w au)
  |(go_at_call 50;apply Calls.w bi))
 obtain⟨ch,G⟩:=an.o r (T.o r R).1.1 (T.o r R).1.2
 go_region_held3 (λX=>X.c w 1=some (.i b))
  (exact(an.o _ (T.o _ R.drew).1.1 (T.o _ R.drew).1.2).2)
  ((go_at_call 75;apply Calls.w (T.o _ R.drew).2))
 go_wp2
 go_region_held3 (λX=>X.c q 1=some (.p D.d 0)/\X.c w 1=some (.i b))
  (first|exact an.o _ (T.o _ R.drew.drew).1.1 (T.o _ R.drew.drew).1.2|exact an.o _ f.o.ref.box f.o.on)
  ((go_at_call 14;apply Calls.m (b9.o _ R.drew.drew);rintro e l ⟨z,fs,rfl,f⟩))
 all_goals
  clear ch G F au bi T b9 b8 ar
  have ag:bW l l:=AC _ _
  obtain⟨G,F,W⟩:=(k.o _ _ _ _ f.o l ag).1
  have bs1:=(k.o _ _ _ _ f.o l ag).2.1
  obtain⟨bs,bs2⟩:=nM ((decide (D.fs.failed<fs.failed)||fs.life==0))
  rw[bs2]at bs1
  have bsH:Hid ((decide (D.fs.failed<fs.failed)||fs.life==0)=bs):=bs2
  clear bs2
  go_wp2_with (go_at_call 51;apply Calls.w bs1)
  clear bs1
  go_region_held3 (λX=>X.c w 1=some (.i b))
   (first|exact(k.o _ _ _ _ f.o _ ag.drew).1.1|exact(k.o _ _ _ _ f.o _ a8).1.1)
   ((go_at_call 76;apply Calls.m (k.o _ _ _ _ f.o _ ag.drew).2.2.1;rintro e bt ⟨rfl,bx⟩;have a8:=ag.drew.t bx))
  all_goals
   clear G F W
   obtain⟨G,F,W⟩:=(k.o _ _ _ _ f.o bt a8).1
   go_wp2
   go_region_held3 (λX=>X.c w 1=some (.i b))
    (first|exact(k.o _ _ _ _ f.o _ a8.drew).1.1|exact(k.o _ _ _ _ f.o _ a9).1.1)
    ((go_at_call 77;apply Calls.m (k.o _ _ _ _ f.o _ a8.drew).2.2.2.1;rintro e bu ⟨rfl,bz⟩;have a9:=a8.drew.t (bz.m a8.size)))
   all_goals
    clear G F W
    obtain⟨G,F,W⟩:=(k.o _ _ _ _ f.o bu a9).1
    go_wp2
    go_region_held3 (λX=>X.c w 1=some (.i b))
     (first|exact(k.o _ _ _ _ f.o _ a9.drew).1.1|exact(k.o _ _ _ _ f.o _ u).1.1)
     ((go_at_call 78;apply Calls.m (k.o _ _ _ _ f.o _ a9.drew).2.2.2.2.1;rintro e O ⟨rfl,c0⟩;have u:=a9.drew.t (c0.m a9.size)))
    all_goals
     clear G F W
     obtain⟨G,F,W⟩:=(k.o _ _ _ _ f.o O u).1
     go_wp2
     refine cY (S:=(λX:World=>X.c w 1=some (.i b))) 7 κ ?_
     have bj:=(k.o _ _ _ _ f.o _ u.drew).1.1
     refine tks [(0,.p q 0),(1,.p q 0),(2,.p q 2),(3,.p w.1.size 1),(4,.i b)] bj ?_
     iterate 5 (refine tk1 rfl ?_;try simp only[pS])
     refine tke ?_
     refine mZ (i:=5) (j:=6) κ rfl rfl (λK s=>?_) (λK s=>?_)
     focus
      go_simp
      go_at_call 79
      apply Calls.m (k.o _ _ _ _ f.o _ u.drew).2.2.2.2.2.1
      rintro e ab ⟨ad,af,ae,rfl,aa,HA⟩
      have E:=u.drew.t (aa.m u.size)
      simp only[]
      refine s.out _ _ (λ_=>(k.o _ _ _ _ f.o _ E).1.1) ?_
      clear s K
      try simp only[pS]
      refine aR (i:=6) κ rfl (λK s=>?_)
      go_simp
      refine s.out _ _ (λ_=>(k.o _ _ _ _ f.o _ (E.alloc E.size _)).1.1) ?_
      clear s K
      try simp only[pS]
      refine aR (i:=7) κ rfl (λK s=>?_)
      go_simp
      refine s.out _ _ (λe=>by cases e) ?_
      clear s K
      try simp only[pS]
      refine dF κ ?_ _
      have x:=E.alloc E.size (.cells #[.s ad af ae,.i (M.nv+1)] 32)
      have HF:Hid (Aft l (ab.alloc (.cells #[.s ad af ae,.i (M.nv+1)] 32)) M.nv (t.ch.foldl dS M.now) ab.1.size (.s ad af ae)):=⟨E.size,aB _ _,CG HA.o.1 _,HA.o.2⟩
      obtain⟨g,ai⟩:=nM (ab.alloc (.cells #[.s ad af ae,.i (M.nv+1)] 32))
      rw[ai]at x HF⊢
      clear ai E aa bj HA
      generalize ab.1.size=bb at HF⊢
     rotate_left
     focus
      go_simp
      refine s.out _ _ (λ_=>(k.o _ _ _ _ f.o _ (u.alloc u.size _).drew).1.1) ?_
      clear s K
      try simp only[pS]
      refine aR (i:=5) κ rfl (λK s=>?_)
      go_simp
      go_at_call 79
      apply Calls.m (k.o _ _ _ _ f.o _ (u.alloc u.size _).drew).2.2.2.2.2.1
      rintro e ab ⟨ad,af,ae,rfl,aa,HA⟩
      have E:=(u.alloc u.size _).drew.t (aa.m (vJ u.size σ))
      have b7:cW ab O.1.size #[.n,.i 0] 32:=(aa.block _ σ).t (by rw[JH];exact aB O _)
      obtain⟨cj,ck⟩:=cM b7
      have cl:=aF b7
      simp only[]
      refine s.out _ _ (λ_=>(k.o _ _ _ _ f.o _ E).1.1) ?_
      clear s K
      try simp only[pS]
      refine aR (i:=7) κ rfl (λK s=>?_)
      go_simp
      refine s.out _ _ (λe=>by cases e) ?_
      clear s K
      try simp only[pS]
      refine dF κ ?_ _
      have b0:=u.size
      have x:=(E.setCell (p:=(aD O 0)) b0 (.s ad af ae)).setCell (p:=(aD O 1)) b0 (.i (M.nv+1))
      have HF:Hid (Aft l ((ab.setCell (aD O.1.size 0) (.s ad af ae)).setCell (aD O.1.size 1) (.i (M.nv+1))) M.nv (t.ch.foldl dS M.now) O.1.size (.s ad af ae)):=⟨b0,by simpa using aC (aC b7 0 (.s ad af ae)) 1 (.i (M.nv+1)),aS HA.o.1 ((((AE (Bl.one O.1.size) ab).s O.1.size 0).s O.1.size 1).on (Z:=λk=>(Value.s ad af ae).ownBlock=some k) (λk e=>⟨aL HA.o.1 e,λi=>by cases i;exact aQ HA.o.1 b7 δ e⟩)) (λk a=>a),HA.o.2⟩
      obtain⟨g,ai⟩:=nM ((ab.setCell (aD O.1.size 0) (.s ad af ae)).setCell (aD O.1.size 1) (.i (M.nv+1)))
      rw[ai]at x HF⊢
      clear ai E aa bj b7 cj ck cl b0 HA
      generalize O.1.size=bb at HF⊢
     all_goals
      clear G F W
      obtain⟨G,F,W⟩:=(k.o _ _ _ _ f.o g x).1
      have aq:=(k.o _ _ _ _ f.o g x).2.2.2.2.2.2
      obtain⟨Y,a5,v3,v4,v5,v6⟩:=bv.o
      rcases f.o.com with⟨ca,ac'⟩|⟨a3,H,rfl,fb,hb,ac'⟩|⟨a3,H,rfl,fb,al,ac'⟩
      .have ac:=(show Hid _ from ac')
       clear ac'
       rcases ca with⟨a3,rfl⟩|⟨a3,⟨H,rfl⟩|⟨H,⟨rfl,co⟩|⟨rfl,fb⟩⟩⟩
       .obtain rfl:U=false:=by rw[<-Y,a3];rfl
        clear Y a5 v3 v4 v5 v6
        go_wp2_with (go_at_call 31;apply Calls.w aq)
        go_region_held3 (λX=>X.c w 1=some (.i b))
         (first|exact(k.o _ _ _ _ f.o _ x.drew).1.1|exact y.o.1)
         ((go_at_call 28;apply Calls.m (ac.o _ x.drew);rintro e a6 ⟨rfl,a0,a1,a2⟩;have y:=(show Hid _ from am.o _ a6 f.o.onX a1)))
        all_goals go_wp2
        all_goals go_ret
        all_goals exact⟨rfl,y.o.2.1,y.o.2.2 a2⟩
       .obtain rfl:U=true:=by rw[<-Y];exact CR (BX.2 a3)
        obtain rfl:Z=true:=by rw[<-a5,H]
        clear Y a5 v3 v4 v5 v6
        go_wp2_with (go_at_call 31;apply Calls.w aq)
        go_region_held3 (λX=>X.c w 1=some (.i b))
         (first|exact(k.o _ _ _ _ f.o _ x.drew).1.1|exact y.o.1)
         ((go_at_call 28;apply Calls.m (ac.o _ x.drew);rintro e a6 ⟨rfl,a0,a1,a2⟩;have y:=(show Hid _ from am.o _ a6 f.o.onX a1)))
        all_goals go_wp2
        all_goals go_ret
        all_goals exact⟨rfl,y.o.2.1,y.o.2.2 a2⟩
       .obtain rfl:U=true:=by rw[<-Y];exact CR (BX.2 a3)
        obtain rfl:Z=false:=by rw[<-a5,H]
        have cb:(n:Int)<(ak:Int):=by rw[<-v3];omega
        clear Y a5 v3 v4 v5 v6
        go_wp2_with (go_at_call 31;apply Calls.w aq)
        go_region_held3 (λX=>X.c w 1=some (.i b))
         (first|exact(k.o _ _ _ _ f.o _ x.drew).1.1|exact y.o.1)
         ((go_at_call 28;apply Calls.m (ac.o _ x.drew);rintro e a6 ⟨rfl,a0,a1,a2⟩;have y:=(show Hid _ from am.o _ a6 f.o.onX a1)))
        all_goals go_wp2
        all_goals refine BH (v:=.bool true) ?_ rfl ⟨rfl,y.o.2.1,y.o.2.2 a2⟩
        all_goals simp[results,results29,go_sem,cb]
       .obtain rfl:U=true:=by rw[<-Y];exact CR (BX.2 a3)
        rw[v6,fb]at ac
        clear Y a5 v3 v4 v5 v6
        go_wp2_with (go_at_call 31;apply Calls.w aq)
        go_region_held3 (λX=>X.c w 1=some (.i b))
         (first|exact(k.o _ _ _ _ f.o _ x.drew).1.1|exact y.o.1)
         ((go_at_call 28;apply Calls.m (ac.o _ x.drew);rintro e a6 ⟨rfl,a0,a1,a2⟩;have y:=(show Hid _ from am.o _ a6 f.o.onX a1)))
        all_goals go_wp2
        all_goals go_ret
        all_goals exact⟨rfl,y.o.2.1,y.o.2.2 a2⟩
      .have ac:=(show Hid _ from λX V=>ac' X bb (.s ad af ae) V)
       clear ac'
       obtain rfl:bs=true:=by rw[<-bsH.o,hb]
       obtain rfl:U=true:=by rw[<-Y];exact CR (BX.2 a3)
       obtain rfl:Z=false:=by rw[<-a5,H]
       clear Y a5 v3 v4 v5 v6
       go_wp2_with (go_at_call 31;apply Calls.w aq)
       go_region_held3 (λX=>X.c w 1=some (.i b))
        (first|exact(k.o _ _ _ _ f.o _ x.drew).1.1|exact y.o.1)
        ((go_at_call 28;apply Calls.m (ac.o _ x.drew (HF.o.below (AC _ _).drew));rintro e a6 ⟨rfl,a1,⟨N',n3,nb⟩,y1,hW'⟩;have y:=(show Hid _ from am.o _ a6 f.o.onX a1)))
       all_goals
        have hW:=(show Hid _ from hW')
        clear hW'
        obtain⟨e1,e2,e3⟩:=qFd nb y1
        rw[n3]at e1
        obtain⟨w1,i1⟩:=nM (a6.setCell (aD q 11) (.bool true))
        obtain⟨w2,i2⟩:=nM (w1.setCell (aD q 10) (.bool true))
        obtain⟨w3,i3⟩:=nM (w2.setCell (aD q 8) (.s ad af ae))
        obtain⟨g1,g2,g3,g4,g5,g6,g7,g8,g9⟩:=e3 w1 w2 w3 i1 i2 i3
        clear nb y1
        go_wp2
        go_ret
        have y2:=hW.o _ (by rw[i1,i2,i3])
        have y3:=am.o _ _ f.o.onX y2.1
        exact⟨rfl,y3.2.1,y3.2.2 y2.2⟩
      .have ac:=(show Hid _ from ac')
       clear ac'
       obtain rfl:U=true:=by rw[<-Y];exact CR (BX.2 a3)
       obtain rfl:Z=false:=by rw[<-a5,H]
       obtain rfl:gn=false:=by rw[<-v5,al]
       clear Y a5 v3 v4 v5 v6
       go_wp2_with (go_at_call 31;apply Calls.w aq)
       go_region_held3 (λX=>X.c w 1=some (.i b))
        (first|exact(k.o _ _ _ _ f.o _ x.drew).1.1|exact y.o.1)
        ((go_at_call 80;apply Calls.m (ac.o _ x.drew);rintro e a6 ⟨rfl,a1,a0,a2⟩;have y:=(show Hid _ from am.o _ a6 f.o.onX a1)))
       all_goals go_wp2
       all_goals go_ret
       all_goals exact⟨rfl,y.o.2.1,y.o.2.2 a2⟩
end
