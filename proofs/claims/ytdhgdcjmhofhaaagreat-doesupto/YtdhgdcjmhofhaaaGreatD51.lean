import Derived.Test.YtdhgdcjmhofhaaaGreatD50
set_option linter.all false
set_option maxRecDepth 100000
set_option maxHeartbeats 8000000
namespace Go.Proofs.YtdhgdcjmhofhaaaGreat.Tree
open Go.RowKit Pages
def LwS(n B:Nat)(w:World)(q:Nat)(Ar:Bl):Prop:=∃Bk vp ps,Lw n B w q Bk vp/\jG w vp ps/\ps.length<=4 * B/\(∀k,fpK vp ps k->Bk k/\¬Ar k)/\∀k,Ar k->Bk k
structure Lr (c:OpV):Prop where
 n0 : -9223372036854775808<=c.n
 n1:c.n<=9223372036854775807
section
variable {n B:Nat}{w w':World}{q:Nat}{Bk K Ar:Bl}{D:Db}{v:Nat}{o ao:Option (Nat×T)}{ots:List (Option (Nat×T))}{M:RM}{ps:List Value}
theorem Wd.rebook(h:Wd n B w q Bk K D v o ao ots M){vq vl:Value}{qs}(N:w'.heap[q]?=some ({M with p9:=vq}:RM).obj)(r:Fr (λk=>k=q\/M.p9.ownBlock=some k\/vl.ownBlock=some k) w w')(a:∀k,fpK M.p9 ps k->Bk k)(m:∀k,vl.ownBlock=some k->¬fpD D k/\¬Bl.or K (fpR q M) k)(Q:jG w' vq qs)(E:∀k,fpK vq qs k->fpK M.p9 ps k\/vl.ownBlock=some k\/w.heap.size<=k):
  Wd n B w' q (Bl.or Bk (fpK vq qs)) K D v o ao ots {M with p9:=vq}:=by
 have G:=r.size;have L:∀k,Bl.or K (fpR q M) k->k≠q->¬(k=q\/M.p9.ownBlock=some k\/vl.ownBlock=some k):=λk e x b=>by
  rcases b with b|b|b
  ·exact x b
  ·exact(h.book k (a k (.inl b))).2 e
  ·exact(m k b).2 e
 have c:=h.ref;have on:On (λk=>Bl.or K (fpR q M) k/\k≠q) w w':=r.on (λk a=>⟨c.lies k a.1,L k a.1 a.2⟩);have T:∀{k H b I},w.heap[k]?=some (.cells H b I)->b≠43->k≠q:=λu O b=>by rw[b,c.box]at u;simp at u;exact O u.2.1.symm
 have p:=on.mono (λk a=>⟨.inl a,(c.kp k a).2.1⟩);have z:∀{l:TypeId}{C y:Nat}{j:Value}{A:List Value},w.ownsRow 0 l C j y A->l≠43->(∀k,j.ownBlock=some k->Bl.or K (fpR q M) k)->w'.ownsRow 0 l C j y A:=λ{l C y j A} F x P=>aS (Y:=λk=>j.ownBlock=some k) F (on.mono (λk a=>⟨P k a,λb=>by subst b;exact aQ F c.box (λb=>x b.symm) a⟩)) (λk a=>a);have R:aZ w' K q {M with p9:=vq}:=⟨N,z c.row (by decide) (λk a=>.inr (.inr (.inl a))),c.now.on p,c.ah.on p,λi g=>⟨(c.each i g).bg.on p,(c.each i g).l.on p,z (c.each i g).ch (by decide) (λk a=>.inr (.inr (.inr ⟨i,g,.inl a⟩))),z (c.each i g).oth (by decide) (λk a=>.inr (.inr (.inr ⟨i,g,.inr a⟩)))⟩,c.apart,λk a=>⟨jY (c.kp k a).1 G,(c.kp k a).2⟩⟩;have J:=h.lk.db.aside r (λk a t=>by
  rcases a with b|b|b
  ·exact(h.apart k t).1 (.inr (.inl b))
  ·exact(h.apart k t).2 (a k (.inl b))
  ·exact(m k b).1 t)
 refine⟨R,{(h.lk.more J (jU B)) with},h.f,h.x,h.twice,h.broken,h.spoiled,h.meta',λk e=>⟨(h.apart k e).1,λd=>?_⟩,λk e=>?_⟩
 ·rcases d with d|d
  ·exact(h.apart k e).2 d
  ·rcases E k d with f|f|f
   ·exact(h.apart k e).2 (a k f)
   ·exact(m k f).1 e
   ·have:=h.lk.db.lies k e;omega
 ·rcases e with d|d
  ·exact⟨jY (h.book k d).1 G,(h.book k d).2⟩
  ·refine⟨Q.lies k d,λs=>?_⟩
   rcases E k d with f|f|f
   ·exact(h.book k (a k f)).2 s
   ·exact(m k f).2 s
   ·have:=c.lies k s;omega
theorem qGf(h:Wd n B w q Bk K D v o ao ots M)(ab:B<=400000)(c:OpV)(a0:c.kind=3):
  cL 23 #[.p q 0,.agg c.cells] w λe w'=>e=.returned (.bool true)/\On Bk w w'/\Lw n (B+1) w' q Bk M.p9:=by
 obtain⟨a5,g,P,Q,A,L,G,I,H⟩:=c;obtain rfl:a5=3:=a0;obtain⟨r,F⟩:=Cs M.ts g;obtain⟨a,E,O,N,-⟩:=al1 w (.cells #[.i 3,.i g,.string P,.string Q,.i A,.bool L,.slice G I H] 46);have p:=h.box (.cells #[.i 3,.i g,.string P,.string Q,.i A,.bool L,.slice G I H] 46);rw[E]at p;have s:bW a a:=AC _ _;have Z:=h.lk.bounds;have a1:∀J∈M.ts,J.l.length<=1000000:=λJ a2=>by have:=(Z.2.2 J a2).2.1;omega
 have t:Hid (∀X,Wd n (B+1) X q (Bl.or Bk (Bl.one w.heap.size)) K D v o ao ots M->On (Bl.or Bk (Bl.one w.heap.size)) a X->X.c q 1=some (.p D.d 0)/\X.c w.heap.size 1=some (.i g)/\X.c w.heap.size 2=some (.string P)):=λX m Y=>by
  have R:=(dL m.ref.box).2.1;rw[h.x]at R;obtain⟨_,a6,a7,_⟩:=fL (Y.heap N (.inr rfl));exact⟨R,a6,a7⟩
 have z:Hid (∀X,bW a X->Wd n (B+1) X q (Bl.or Bk (Bl.one w.heap.size)) K D v o ao ots M/\On (Bl.or Bk (Bl.one w.heap.size)) a X):=λX m=>by
  have j:=p.below m;exact⟨j.still j.lk.db (AF _ _) (DL B),vV m (λf d=>(p.book f d).1)⟩
 have y:Hid (∀X,bW a X->cL 17 #[.p D.d 0,.i g,.string P] X λe k=>e=.returned (.tuple #[.string (eR r P).1,.i (eR r P).2])/\Hid (∀b,bW k b->(Wd n (B+1) b q (Bl.or Bk (Bl.one w.heap.size)) K D v o ao ots M/\On (Bl.or Bk (Bl.one w.heap.size)) a b)/\(cL 59 #[.p q 2,.i g,.string P] b λe w'=>e=.returned (.tuple #[.string (eR r P).1,.i (eR r P).2])/\w'=b)/\(cL 60 #[.p q 0,.i (eR r P).2] b λe w'=>e=.returned (.bool false)/\w'=b))):=λX m=>by
  have j:=p.below m;refine(Ur j.lk (by omega) g P r F).mono ?_;rintro e k ⟨rfl,W,C⟩;refine⟨rfl,λb x=>?_⟩;have u:=(j.still W C (DL B)).below x;have a8:On (Bl.or Bk (Bl.one w.heap.size)) X k:=C.on (λf d=>⟨(j.book f d).1,λe=>(j.apart f (.inl e)).2 d⟩);exact⟨⟨u,((vV m (λf d=>(p.book f d).1)).trans a8).trans (vV x (λf d=>jY (j.book f d).1 C.size))⟩,Cr u.ref g P r F h.lk.n8 a1,Xd u.ref h.f h.spoiled u.lk.db u.lk.well _⟩
 have V:Hid (∀b,Wd n (B+1) b q (Bl.or Bk (Bl.one w.heap.size)) K D v o ao ots M/\On (Bl.or Bk (Bl.one w.heap.size)) a b->On Bk w b/\Lw n (B+1) b q Bk M.p9):=λb x=>⟨(vV O (λf d=>(h.book f d).1)).trans (x.2.mono (λf d=>.inl d)),K,D,v,o,ao,ots,M,x.1.less (λf d=>.inl d),rfl⟩;generalize eR r P=ga at y;obtain⟨a9,aa⟩:=ga;dsimp only at y;have a4:=(fL N).1;clear h p N F;go_enter Tryz.func23,Tryz.ntmps23;go_wp2;obtain⟨S,T,U⟩:=t.out a (z.out a s).1 (z.out a s).2;go_region_held3 (λX=>X.c q 1=some (.p D.d 0)/\X.c w.heap.size 1=some (.i g)/\X.c w.heap.size 2=some (.string P))
  (first|exact t.out _ (z.out _ s.drew).1 (z.out _ s.drew).2|exact t.out _ (i.out _ (AC _ _)).1.1 (i.out _ (AC _ _)).1.2)
  ((go_at_call 17;(with_reducible refine jC (y.out _ s.drew) ?_);rintro e k ⟨rfl,i⟩))
 all_goals
  clear S T U y O a4;have l:bW k k:=AC _ _;obtain⟨S,T,U⟩:=t.out _ (i.out _ l).1.1 (i.out _ l).1.2;go_wp2;go_region_held3 (λX=>X.c q 1=some (.p D.d 0)/\X.c w.heap.size 1=some (.i g)/\X.c w.heap.size 2=some (.string P))
   (exact t.out _ (i.out _ l.drew).1.1 (i.out _ l.drew).1.2)
   ((go_at_call 59;(with_reducible refine jC (i.out _ l.drew).2.1 ?_);rintro e w' ⟨rfl,a3⟩;subst w'))
  go_wp2_with (go_at_call 60;(with_reducible refine jC (i.out _ l.drew).2.2 ?_);rintro e w' ⟨rfl,a3⟩;subst w');go_ret;exact⟨rfl,V.out _ (i.out _ l.drew).1⟩
structure ScS (n B:Nat) (W1 X:World) (q:Nat) (Bk K:Bl) (D:Db) (v:Nat) (o ao:Option (Nat×T)) (ots:List (Option (Nat×T))) (M:RM) (vl:Value) (L:KV):Prop where
 wd:Wd n B X q Bk K D v o ao ots M
 on:On Bk W1 X
 row:X.ownsRow 0 71 2 vl L.length (aG L)
 new:∀k,vl.ownBlock=some k->W1.heap.size<=k
theorem ScS.below{d X Y vl L}(h:ScS n B d X q Bk K D v o ao ots M vl L)(c:bW X Y):ScS n B d Y q Bk K D v o ao ots M vl L :=
 ⟨h.wd.below c,h.on.trans (vV c (λb a=>(h.wd.book b a).1)),aS (Y:=λb=>vl.ownBlock=some b) h.row (vV c (λb a=>aM h.row a)) (λb a=>a),h.new⟩
theorem qBk(h:Wd n B w q Bk K D v o ao ots M)(bh:B<=400000)(a9:jG w M.p9 ps)(bj:ps.length<=4 * B)(f:∀k,fpK M.p9 ps k->Bk k/\¬Ar k)(N:∀k,Ar k->Bk k)(c)(ax:(c.kind==3)=false)(b2:Lr c):
  cL 23 #[.p q 0,.agg c.cells] w λe w'=>e=.returned (.bool true)/\On Ar w w'/\LwS n (B+1) w' q Ar:=by
 have⟨a0,p,P,Q,m,a4,Y,a1,Z⟩:=c;have⟨_,ab⟩:=b2;dsimp only at ax ab;have⟨r,W⟩:=Cs M.ts p;obtain⟨a,V,a5,af,-⟩:=al1 w (.cells #[.i a0,.i p,.string P,.string Q,.i m,.bool a4,.slice Y a1 Z] 46);have l:=h.box (.cells #[.i a0,.i p,.string P,.string Q,.i m,.bool a4,.slice Y a1 Z] 46);rw[V]at l;have A:bW a a:=AC _ _;have ad:=h.lk.bounds;have b0:∀G∈M.ts,G.l.length<=1000000:=λG b4=>by have:=(ad.2.2 G b4).2.1;omega
 have⟨i,U⟩:=nM ((cR r P Q m).1);have⟨H,ae⟩:=nM ((cR r P Q m).2);have aa:i.length<=1000000:=by
  have:=Hl (B:=B) r P Q m (λj G e=>by subst e;exact(ad.2.2 G (BL W.1)).2.1);rw[U]at this;omega
 have z:Hid (∀X,X.heap[q]?=some M.obj->On (Bl.or Bk (Bl.one w.heap.size)) a X->X.c q 1=some (.p D.d 0)/\X.c w.heap.size 1=some (.i p)/\X.c w.heap.size 2=some (.string P)/\X.c w.heap.size 3=some (.string Q)/\X.c w.heap.size 4=some (.i m)):=λX x av=>by
  have a7:=(dL x).2.1;rw[h.x]at a7;have⟨_,b6,b7,b8,b9,_⟩:=fL (av.heap af (.inr rfl));exact⟨a7,b6,b7,b8,b9⟩
 have J:Hid (∀X,bW a X->X.heap[q]?=some M.obj/\On (Bl.or Bk (Bl.one w.heap.size)) a X):=λX x=>⟨(l.below x).ref.box,vV x (λk f=>(l.book k f).1)⟩;have ah:Hid (∀X,bW a X->cL 61 #[.p D.d 0,.i p,.string P,.string Q,.i m] X λe O=>∃vl,e=.returned (.tuple #[vl,.i H])/\Hid (ScS n (B+1) a O q (Bl.or Bk (Bl.one w.heap.size)) K D v o ao ots M vl i)):=λX x=>by
  have s:=l.below x;apply(Ka s.lk (by omega) p P Q m ab r W).mono;rintro e O ⟨vl,rfl,au,C,E,b1⟩;rw[U]at E;rw[ae];have bl:=x.size;exact⟨vl,rfl,s.still au C (DL B),(vV x (λk f=>(l.book k f).1)).trans (C.on (λk f=>⟨(s.book k f).1,λe=>(s.apart k (.inl e)).2 f⟩)),E,λk f=>by have:=b1 k f;omega⟩
 have ai:Hid (∀d vl,ScS n (B+1) a d q (Bl.or Bk (Bl.one w.heap.size)) K D v o ao ots M vl i->(cL 62 #[.p q 2,.i p,.string P,.string Q,.i m] d λe R=>∃t,e=.returned (.tuple #[t,.i H])/\Hid (R.ownsRow 0 71 2 t i.length (aG i)/\ScS n (B+1) a R q (Bl.or Bk (Bl.one w.heap.size)) K D v o ao ots M vl i))):=λd vl g=>by
  apply(Hm g.wd.ref p P Q m r W h.lk.n8 b0).mono;rintro e R ⟨t,rfl,E,ap,_⟩;rw[U]at E;rw[ae];exact⟨t,rfl,E,g.below ap⟩
 have aj:Hid (∀d vl t,d.ownsRow 0 71 2 t i.length (aG i)/\ScS n (B+1) a d q (Bl.or Bk (Bl.one w.heap.size)) K D v o ao ots M vl i->(cL 63 #[vl,t] d λe a3=>e=.returned (.bool true)/\Hid (ScS n (B+1) a a3 q (Bl.or Bk (Bl.one w.heap.size)) K D v o ao ots M vl i))):=λd vl t g=>by
  apply(Hn vl t i _ _ d (KM g.2.row) (KM g.1) aa).mono;rintro e a3 ⟨rfl,aq⟩;exact⟨rfl,g.2.below aq⟩
 have ak:Hid (∀d vl,ScS n (B+1) a d q (Bl.or Bk (Bl.one w.heap.size)) K D v o ao ots M vl i->(cL 60 #[.p q 0,.i H] d λe w'=>e=.returned (.bool false)/\w'=d)):=λd vl g=>Xd g.wd.ref h.f h.spoiled g.wd.lk.db g.wd.lk.well _;have al:Hid (∀d vl,ScS n (B+1) a d q (Bl.or Bk (Bl.one w.heap.size)) K D v o ao ots M vl i->(cL 64 #[.p q 14,vl] d λe w'=>e=.returned (.tuple #[])/\Hid (On Ar w w'/\LwS n (B+1) w' q Ar))):=λd vl g=>by
  have bs:=a5.size;have a2:=(vV a5 (λk f=>(h.book k f).1)).trans (g.on.mono (λk f=>.inl f));have bt:=a2.size;have F:∀k,vl.ownBlock=some k->w.heap.size<=k:=λk b=>by have:=g.new k b;omega
  apply(Gp g.wd.ref.box rfl (a9.on (a2.mono (λk b=>(f k b).1))) (by omega) g.row aa (λk b u b5 e=>by
   have l:=a9.lies k (.inr ⟨u,b5,e⟩);have s:=F k b;omega)).mono
  rintro e w' ⟨rfl,vq,qs,ac,bi,aw,C,az⟩;have a8:=az;have L:∀k,Ar k->k<w.heap.size:=λk b=>(h.book k (N k b)).1;refine⟨rfl,(a2.mono N).trans (C.on (λk b=>⟨by have:=L k b;omega,λe=>?_⟩)),_,vq,qs,⟨K,D,v,o,ao,ots,_,g.wd.rebook (ps:=ps) aw C (λk b=>.inl (f k b).1) (λk b=>⟨λay=>by have l:=h.lk.db.lies k ay;have s:=F k b;omega,λb3=>by have l:=h.ref.lies k b3;have s:=F k b;omega⟩) ac a8,rfl⟩,ac,by omega,λk b=>⟨.inr b,λT=>?_⟩,λk b=>.inl (.inl (N k b))⟩
  ·rcases e with e|e|e
   ·exact(h.book k (N k b)).2 (.inr (.inl e))
   ·exact(f k (.inl e)).2 b
   ·have l:=L k b;have s:=F k e;omega
  ·rcases a8 k b with l|l|l
   ·exact(f k l).2 T
   ·have s:=L k T;have bg:=F k l;omega
   ·have s:=L k T;omega
 have am:Hid (∀X,bW X X.drew):=λX=>(AC _ X).drew;have bm:=(fL af).1;go_enter Tryz.func23,Tryz.ntmps23;go_wp2;have⟨bb,bc,bd,be,bf⟩:=z.out a (J.out a A).1 (J.out a A).2;go_region_held3 (λX=>X.c q 1=some (.p D.d 0)/\X.c w.heap.size 1=some (.i p)/\X.c w.heap.size 2=some (.string P)/\X.c w.heap.size 3=some (.string Q)/\X.c w.heap.size 4=some (.i m))
  (first|exact z.out _ (J.out _ A.drew).1 (J.out _ A.drew).2|exact z.out _ y.out.wd.ref.box y.out.on)
  ((go_at_call 61;(with_reducible apply jC (ah.out _ A.drew));rintro e O ⟨vl,rfl,y⟩;obtain⟨bn,bo,rfl⟩:=aF y.out.row))
 all_goals
  have⟨bb,bc,bd,be,bf⟩:=z.out _ y.out.wd.ref.box y.out.on;go_wp2;have S:=(show Hid _ from y.out.below (am.out O));go_region_held3 (λX=>X.c q 1=some (.p D.d 0)/\X.c w.heap.size 1=some (.i p)/\X.c w.heap.size 2=some (.string P)/\X.c w.heap.size 3=some (.string Q)/\X.c w.heap.size 4=some (.i m))
   (first|exact z.out _ S.out.wd.ref.box S.out.on|exact z.out _ I.out.2.wd.ref.box I.out.2.on)
   ((go_at_call 62;(with_reducible apply jC (ai.out _ _ S.out));rintro e R ⟨t,rfl,I⟩;obtain⟨bp,bq,rfl⟩:=aF I.out.1))
  all_goals
   go_wp2_with (first
    |(go_at_call 63;(with_reducible apply jC (aj.out _ _ _ I.out));rintro e a3 ⟨rfl,a6⟩)
    |(go_at_call 60;(with_reducible apply jC (ak.out _ _ a6.out));rintro e w' ⟨rfl,bk⟩;subst w')
    |(go_at_call 64;(with_reducible apply jC (al.out _ _ a6.out));rintro e br ⟨rfl,ag⟩))
   go_ret;exact⟨rfl,ag.out⟩
end
theorem wG{fs es}(h:∀x∈es,x.good fs):∀b∈kvB es,b.2.size<=400:=λb d=>by
 obtain⟨x,a,rfl⟩:=AY.1 d;have e:=Em (h x a);have f:x.e.size<=400:=by
  obtain⟨_,_,⟨_,_,g,c⟩|⟨_,_,k,j,c,_,_,i,_⟩⟩:=h x a
  ·omega
  ·omega
 show x.value.toArray.size<=400
 grind
theorem rS(q β sv lv fs w)(b:aH w β sv lv fs)(d:(fs.life==0)=false)(g:w.c q 0=some (.p β 0))(z):
  cL 51 #[.p q 0,.i z] w λe w'=>e=.returned (.bool (decide (z<fs.failed)))/\w'=w:=by
 have a:=iL β sv lv fs w b;rw[d]at a;by_cases hg:z<fs.failed
 all_goals
  simp only[hg,decide_true,decide_false];go_enter Tryz.func51,Tryz.ntmps51;go_wp2_with (first
   |(go_at_call 50;(with_reducible apply jC (nU β sv lv fs w b));rintro e w' ⟨rfl,f⟩;subst w')
   |(go_at_call 49;(with_reducible apply jC a);rintro e w' ⟨rfl,f⟩;subst w'))
  refine BI (v:=.bool _) ?_ rfl ⟨rfl,rfl⟩;simp[results,Tryz.results51,go_sem,hg]
section
variable {n B:Nat}{w:World}{q:Nat}{Bk K:Bl}{D:Db}{v:Nat}{o ao:Option (Nat×T)}{ots:List (Option (Nat×T))}{M:RM}
theorem Lk.small(h:Lk n B w D v o ao ots M):(∀x∈M.now,x.2.size<=400)/\(∀x∈M.ah,x.2.size<=400)/\(∀t∈M.ts,∀x∈t.bg,x.2.size<=400)/\∀t∈M.ts,∀x∈t.ch.foldl eE M.now,x.2.size<=400:=by
 refine⟨by rw[<-h.now];exact wG (gD h.store.sure.rooted h.store.sure.flat),by rw[<-h.ah];exact wG (gD h.store.ahead.rooted h.store.ahead.flat),λt d=>?_,λt d=>?_⟩
 ·obtain⟨a,b,rfl⟩:=AU d
  have c:=h.each a b;rw[<-c.bg];exact wG (gD c.tr.rooted c.tr.flat)
 ·obtain⟨a,b,rfl⟩:=AU d
  have⟨i,f,j,k,g,l⟩:=(h.each a b).rise;have e:kvB (bD (aX o) (D.ts[a]'(by grind)).cs)=(M.ts[a]).ch.foldl eE M.now:=by
   have:=(pQ (eI h.store.sure.rooted) (M.ts[a]).ch (cs:=[]) DW).1;rw[mU (eI h.store.sure.rooted),h.now,<-(h.each a b).cs]at this;exact this
  rw[<-e];exact wG (jW (eI h.store.sure.rooted) f (gD h.store.sure.rooted h.store.sure.flat) g)
theorem Vi(h:Wd n B w q Bk K D v o ao ots M)(hB:B<=400000)(hn:n<=4096)(h2:2<=n)(c:OpV)(ho:cC M.ts c.tx none):
  cL 29 #[.p q 0,.agg c.cells] w λe w'=>e=.returned (.bool true)/\On Bk w w'/\Lw n (B+1) w' q Bk M.p9:=by
 have⟨kind,tx,P,Q,N,wr,ka,kn,kc⟩:=c;dsimp only at ho;obtain⟨W1,hW1,B1,x1,-⟩:=al1 w (.cells #[.i kind,.i tx,.string P,.string Q,.i N,.bool wr,.slice ka kn kc] 46);have h1:=h.box (.cells #[.i kind,.i tx,.string P,.string Q,.i N,.bool wr,.slice ka kn kc] 46);rw[hW1]at h1;have B10:bW W1 W1:=AC _ _;have HS:Hid (∀X,X.heap[q]?=some M.obj->On (Bl.or Bk (Bl.one w.heap.size)) W1 X->X.c q 1=some (.p D.d 0)/\X.c w.heap.size 1=some (.i tx)):=λX hX hO=>by
  have b1:=(dL hX).2.1;rw[h.x]at b1;have⟨_,o1,_⟩:=fL (hO.heap x1 (.inr rfl));grind
 have q0:W1.c q 0=some (.p D.β 0):=by have:=(dL h1.ref.box).1;rw[h.f]at this;exact this
 have HO:Hid (∀X,bW W1 X->(X.heap[q]?=some M.obj/\On (Bl.or Bk (Bl.one w.heap.size)) W1 X)/\cL 75 #[.p q 2,.i tx] X λe w'=>e=.returned (.bool false)/\w'=X):=λX hX=>⟨⟨(h1.below hX).ref.box,vV hX (λk hk=>(h1.book k hk).1)⟩,Ho (h1.below hX).ref tx none ho h.lk.n8⟩;have HC:Hid (∀X,bW W1 X->cL 14 #[.p D.d 0,.i tx] X λe w1=>e=.returned (.i 3)/\Hid ((w1.heap[q]?=some M.obj/\On (Bl.or Bk (Bl.one w.heap.size)) W1 w1)/\On Bk w w1/\Lw n (B+1) w1 q Bk M.p9)):=λX hX=>by
  apply(Qy (h1.below hX) hB hn h2 tx none ho).mono;rintro e w1 ⟨z,rfl,hR,hO,hz,_,hQ⟩;have oX:=vV hX (λk hk=>(h1.book k hk).1);rcases hQ with⟨_,rfl,K',D',v',o',ao',ots',M',hW,e9⟩|⟨j,t,e,_⟩|⟨j,t,e,_⟩
  ·exact⟨rfl,⟨hR.box,oX.trans hO⟩,(vV B1 (λk hk=>(h.book k hk).1)).trans ((oX.trans hO).mono (λk hk=>.inl hk)),K',D',v',o',ao',ots',M',hW.less (λk hk=>.inl hk),e9⟩
  ·cases e
  ·cases e
 go_enter Tryz.func29,Tryz.ntmps29;go_wp2_with (first
  |(go_at_call 49;(with_reducible apply jC (iL D.β D.sv D.lv D.fs W1 h1.lk.db.file));rintro e w' ⟨rfl,hw⟩;subst w')
  |(go_at_call 50;(with_reducible apply jC (nU D.β D.sv D.lv D.fs W1 h1.lk.db.file));rintro e w' ⟨rfl,hw⟩;subst w'))
 have⟨s1,s2⟩:=HS.out W1 (HO.out W1 B10).1.1 (HO.out W1 B10).1.2;go_region_held3 (λX=>X.c w.heap.size 1=some (.i tx))
  (exact(HS.out _ (HO.out _ B10.drew).1.1 (HO.out _ B10.drew).1.2).2)
  ((go_at_call 75;(with_reducible apply jC (HO.out _ B10.drew).2);rintro e w' ⟨rfl,hw⟩;subst w'))
 go_wp2;go_region_held3 (λX=>X.c q 1=some (.p D.d 0)/\X.c w.heap.size 1=some (.i tx))
  (first|exact HS.out _ (HO.out _ B10.drew.drew).1.1 (HO.out _ B10.drew.drew).1.2|exact HS.out _ HH.out.1.1 HH.out.1.2)
  ((go_at_call 14;(with_reducible apply jC (HC.out _ B10.drew.drew));rintro e w1 ⟨rfl,HH⟩))
 all_goals go_wp2
 all_goals go_ret
 all_goals exact⟨rfl,HH.out.2⟩
structure CmS (n B:Nat) (W1 X w1:World) (q:Nat) (Bk K:Bl) (D:Db) (M:RM) (x:Int) (r:Option (Nat×RT)) (z:Int):Prop where
 ref:aZ w1 K q M
 on:On Bk W1 w1
 file:∃D1:Db,D1.β=D.β/\aO w1 0 D1/\D1.fs.well/\D1.fs.safe.length=n
 com:qKo n B X w1 q Bk M x r z
 onX:On Bk W1 X
theorem Qu(h:Wd n B w q Bk K D v o ao ots M)(c3:B<=400000)(cc:n<=4096)(c2:2<=n)(c:OpV)(j t)(I:cC M.ts c.tx (some (j,t))):
  cL 29 #[.p q 0,.agg c.cells] w λe w'=>e=.returned (.bool true)/\On Bk w w'/\Lw n (B+1) w' q Bk M.p9:=by
 obtain⟨b3,b,P,Q,N,b5,b1,b4,b2⟩:=c
 dsimp only at I
 obtain⟨r,ar,b8,b6,-⟩:=al1 w (.cells #[.i b3,.i b,.string P,.string Q,.i N,.bool b5,.slice b1 b4 b2] 46)
 have A:=h.box (.cells #[.i b3,.i b,.string P,.string Q,.i N,.bool b5,.slice b1 b4 b2] 46)
 rw[ar]at A
 have R:bW r r:=AC _ _
 have an:Hid (∀X,X.heap[q]?=some M.obj->On (Bl.or Bk (Bl.one w.heap.size)) r X->X.c q 1=some (.p D.d 0)/\X.c w.heap.size 1=some (.i b)):=λX V ah=>by
  have bb:=(dL V).2.1
  rw[h.x]at bb
  obtain⟨_,cg,_⟩:=fL (ah.heap b6 (.inr rfl))
  exact⟨bb,cg⟩
 have ba:Hid (∀X,On (Bl.or Bk (Bl.one w.heap.size)) r X->X.c w.heap.size 1=some (.i b)):=λX ah=>(fL (ah.heap b6 (.inr rfl))).2.1
 have F:r.c q 0=some (.p D.β 0):=by have:=(dL A.ref.box).1;rw[h.f]at this;exact this
 have au:=iL D.β D.sv D.lv D.fs r A.lk.db.file
 rw[show(D.fs.life==0)=false by rw[h.lk.well.2];rfl]at au
 have bi:=nU D.β D.sv D.lv D.fs r A.lk.db.file
 have T:Hid (∀X,bW r X->(X.heap[q]?=some M.obj/\On (Bl.or Bk (Bl.one w.heap.size)) r X)/\cL 75 #[.p q 2,.i b] X λe w'=>e=.returned (.bool true)/\w'=X):=λX V=>⟨⟨(A.below V).ref.box,vV V (λJ C=>(A.book J C).1)⟩,Ho (A.below V).ref b _ I h.lk.n8⟩
 have b9:Hid (∀X,bW r X->cL 14 #[.p D.d 0,.i b] X λe l=>∃z,e=.returned (.i z)/\Hid (CmS n B r X l q (Bl.or Bk (Bl.one w.heap.size)) K D M b (some (j,t)) z)):=λX V=>by
  refine(Qy (A.below V) c3 cc c2 b _ I).mono ?_
  rintro e l ⟨z,rfl,a2,ah,cp,c5,c8⟩
  have al:On (Bl.or Bk (Bl.one w.heap.size)) r X:=vV V (λJ C=>(A.book J C).1)
  exact⟨z,rfl,a2,al.trans ah,c5,c8,al⟩
 have aj:=h.lk.bounds
 have bl:t∈M.ts:=BL I.1
 have cn:=aj.2.2 t bl
 obtain⟨bo,bp,bq,br⟩:=h.lk.small
 have bm:M.nv<1000000000/\0<=M.nv:=⟨by rw[h.lk.nv];have:=h.lk.vB;omega,by rw[h.lk.nv];omega⟩
 obtain⟨U,ay⟩:=nM (decide (0<t.ch.length))
 obtain⟨Z,H⟩:=nM (iT t.ch t.oth)
 obtain⟨ak,az⟩:=nM (kI M t)
 have k:Hid (∀X l z,CmS n B r X l q (Bl.or Bk (Bl.one w.heap.size)) K D M b (some (j,t)) z->∀g,bW l g->(g.c w.heap.size 1=some (.i b)/\g.c q 0=some (.p D.β 0)/\g.c q 11=some (.bool false)/\g.c q 12=some (.bool false)) /\
   (∀z,cL 51 #[.p q 0,.i z] g λe w'=>(∃bs,e=.returned (.bool bs))/\w'=g) /\
   (cL 76 #[.p q 2,.i b] g λe w'=>e=.returned (.bool U)/\bW g w') /\
   (cL 77 #[.p q 2,.i b] g λe w'=>e=.returned (.bool Z)/\bW g w') /\
   (cL 78 #[.p q 2,.i b] g λe w'=>e=.returned (.i (ak:Nat))/\bW g w') /\
   (cL 79 #[.p q 2,.i b] g λe w'=>∃a m d,e=.returned (.agg #[.slice a m d,.i (M.nv+1)])/\bW g w') /\
   (cL 31 #[.p D.β 0] g λe w'=>e=.returned (.i n)/\w'=g)):=λX l z ap g aw=>by
  have a2:=ap.ref.below aw
  have ax:=dL a2.box
  obtain⟨a7,bf,bd,cm,cf⟩:=ap.file
  have be:=bd.on (vV aw bd.lies)
  have bc:g.c q 0=some (.p D.β 0):=by rw[ax.1,h.f]
  refine⟨⟨ba.out g (ap.on.trans (vV aw (λJ C=>jY (A.book J C).1 ap.on.size))),bc,by rw[ax.2.2.2.2.2.2.2.2.2.2.2.1,h.broken],by rw[ax.2.2.2.2.2.2.2.2.2.2.2.2.1,h.spoiled]⟩,λz=>(rS q D.β a7.sv a7.lv a7.fs g (bf▸be.file) (by rw[cm.2];rfl) bc z).mono (λe w' bk=>⟨⟨_,bk.1⟩,bk.2⟩),?_,?_,?_,?_,?_⟩
  ·rw[<-ay];exact Ke a2 b j t I h.lk.n8
  ·rw[<-H];exact Zc a2 b j t I h.lk.n8 (by omega) (by omega)
  ·rw[<-az];exact Mr a2 b j t I h.lk.n8 (by have:=aj.1;omega) bm (by have:=aj.2.1;omega) (λt cd=>by have:=(aj.2.2 t cd).1;omega) (br t bl) bo bp bq
  ·refine(uM a2 b j t I h.lk.n8 (by have:=aj.1;omega) bm).mono ?_
   rintro e w' ⟨v',rfl,c7,c4,_⟩
   obtain⟨a,d,rfl⟩:=aF c7
   exact⟨a,_,d,rfl,c4⟩
  ·have:=mS D.β a7.sv a7.lv a7.fs g (bf▸be.file)
   rw[cf]at this
   exact this
 have am:Hid (∀X w',On (Bl.or Bk (Bl.one w.heap.size)) r X->On (Bl.or Bk (Bl.one w.heap.size)) X w'->Lw n (B+1) w' q (Bl.or Bk (Bl.one w.heap.size)) M.p9->(w'.c q 11=some (.bool false))/\w'.c w.heap.size 1=some (.i b)/\On Bk w w'/\Lw n (B+1) w' q Bk M.p9):=λX w' al bn c6=>by
  obtain⟨bw,D',v',o',ao',ots',M',av,c1⟩:=c6
  refine⟨by rw[(dL av.ref.box).2.2.2.2.2.2.2.2.2.2.2.1,av.broken],ba.out w' (al.trans bn),(vV b8 (λJ C=>(h.book J C).1)).trans ((al.trans bn).mono (λJ C=>.inl C)),bw,D',v',o',ao',ots',M',av.less (λJ C=>.inl C),c1⟩
 have bv:Hid (decide (0<t.ch.length)=U/\iT t.ch t.oth=Z/\kI M t=ak):=⟨ay,H,az⟩
 clear h A b6 I ay H az bo bp bq br
 go_enter Tryz.func29,Tryz.ntmps29
 go_wp2_with (first
  |(go_at_call 49;(with_reducible refine jC au ?_);rintro e w' ⟨rfl,a4⟩;subst w')
  |(go_at_call 50;(with_reducible refine jC bi ?_);rintro e w' ⟨rfl,a4⟩;subst w'))
 obtain⟨ch,G⟩:=an.out r (T.out r R).1.1 (T.out r R).1.2
 go_region_held3 (λX=>X.c w.heap.size 1=some (.i b))
  (exact(an.out _ (T.out _ R.drew).1.1 (T.out _ R.drew).1.2).2)
  ((go_at_call 75;(with_reducible refine jC (T.out _ R.drew).2 ?_);rintro e w' ⟨rfl,a4⟩;subst w'))
 go_wp2
 go_region_held3 (λX=>X.c q 1=some (.p D.d 0)/\X.c w.heap.size 1=some (.i b))
  (first|exact an.out _ (T.out _ R.drew.drew).1.1 (T.out _ R.drew.drew).1.2|exact an.out _ f.out.ref.box f.out.on)
  ((go_at_call 14;(with_reducible refine jC (b9.out _ R.drew.drew) ?_);rintro e l ⟨z,rfl,f⟩))
 all_goals
  clear ch G F au bi T b9 b8 ar
  have ag:bW l l:=AC _ _
  obtain⟨G,F,L,W⟩:=(k.out _ _ _ f.out l ag).1
  go_wp2_with (go_at_call 51;(with_reducible refine jC ((k.out _ _ _ f.out l ag).2.1 _) ?_);rintro e w' ⟨⟨bs,rfl⟩,a4⟩;subst w')
  go_region_held3 (λX=>X.c w.heap.size 1=some (.i b))
   (first|exact(k.out _ _ _ f.out _ ag.drew).1.1|exact(k.out _ _ _ f.out _ a8).1.1)
   ((go_at_call 76;(with_reducible refine jC (k.out _ _ _ f.out _ ag.drew).2.2.1 ?_);rintro e bt ⟨rfl,bx⟩;have a8:bW l bt:=ag.drew.trans bx))
  all_goals
   clear G F L W
   obtain⟨G,F,L,W⟩:=(k.out _ _ _ f.out bt a8).1
   go_wp2
   go_region_held3 (λX=>X.c w.heap.size 1=some (.i b))
    (first|exact(k.out _ _ _ f.out _ a8.drew).1.1|exact(k.out _ _ _ f.out _ a9).1.1)
    ((go_at_call 77;(with_reducible refine jC (k.out _ _ _ f.out _ a8.drew).2.2.2.1 ?_);rintro e bu ⟨rfl,bz⟩;have a9:bW l bu:=a8.drew.trans (bz.mono a8.size)))
   all_goals
    clear G F L W
    obtain⟨G,F,L,W⟩:=(k.out _ _ _ f.out bu a9).1
    go_wp2
    go_region_held3 (λX=>X.c w.heap.size 1=some (.i b))
     (first|exact(k.out _ _ _ f.out _ a9.drew).1.1|exact(k.out _ _ _ f.out _ u).1.1)
     ((go_at_call 78;(with_reducible refine jC (k.out _ _ _ f.out _ a9.drew).2.2.2.2.1 ?_);rintro e O ⟨rfl,c0⟩;have u:bW l O:=a9.drew.trans (c0.mono a9.size)))
    all_goals
     clear G F L W
     obtain⟨G,F,L,W⟩:=(k.out _ _ _ f.out O u).1
     go_wp2
     refine dF (S:=(λX:World=>X.c w.heap.size 1=some (.i b))) 7 (by kernel_rfl) ?_
     have bj:=(show(λX:World=>X.c w.heap.size 1=some (.i b)) O.drew from (k.out _ _ _ f.out _ u.drew).1.1)
     refine tks [(0,.p q 0),(1,.p q 0),(2,.p q 2),(3,.p w.heap.size 1),(4,.i b)] (by assumption) ?_
     iterate 5 (refine⟨_,rfl,by kernel_rfl,λ_ _ _ h=>h,.inl ⟨by rfl,λw c9=>by(try dsimp only at c9);go_simp⟩,?_⟩;try simp only[pS])
     refine tke ?_
     refine qD (i:=5) (j:=6) (by kernel_rfl) rfl rfl (λK s=>?_) (λK s=>?_)
     focus
      go_simp
      go_at_call 79
      (with_reducible refine jC (k.out _ _ _ f.out _ u.drew).2.2.2.2.2.1 ?_)
      rintro e ab ⟨ad,af,ae,rfl,aa⟩
      have E:bW l ab:=u.drew.trans (aa.mono u.size)
      simp only[]
      refine s.out _ _ (λ_=>(k.out _ _ _ f.out _ E).1.1) ?_
      clear s K
      try simp only[pS]
      refine aR (i:=6) (by kernel_rfl) rfl (λK s=>?_)
      go_simp
      refine s.out _ _ (λ_=>(k.out _ _ _ f.out _ (E.alloc E.size _)).1.1) ?_
      clear s K
      try simp only[pS]
      refine aR (i:=7) (by kernel_rfl) rfl (λK s=>?_)
      go_simp
      refine s.out _ _ (λe=>by cases e) ?_
      clear s K
      try simp only[pS]
      refine cY (by kernel_rfl) ?_ _
      have x:=E.alloc E.size (.cells #[.slice ad af ae,.i (M.nv+1)] 32)
      obtain⟨g,ai⟩:=nM (ab.alloc (.cells #[.slice ad af ae,.i (M.nv+1)] 32))
      rw[ai]at x⊢
      clear ai E aa bj
     rotate_left
     focus
      go_simp
      refine s.out _ _ (λ_=>(k.out _ _ _ f.out _ (u.alloc u.size _).drew).1.1) ?_
      clear s K
      try simp only[pS]
      refine aR (i:=5) (by kernel_rfl) rfl (λK s=>?_)
      go_simp
      go_at_call 79
      (with_reducible refine jC (k.out _ _ _ f.out _ (u.alloc u.size _).drew).2.2.2.2.2.1 ?_)
      rintro e ab ⟨ad,af,ae,rfl,aa⟩
      have E:bW l ab:=(u.alloc u.size _).drew.trans (aa.mono (vJ u.size (by simp)))
      have b7:ab.heap[O.heap.size]?=some (.cells #[.n,.i 0] 32):=(aa.block _ (by simp)).trans (by rw[FL];exact aA O _)
      obtain⟨cj,ck⟩:=bS b7
      have cl:=aB b7
      simp only[]
      refine s.out _ _ (λ_=>(k.out _ _ _ f.out _ E).1.1) ?_
      clear s K
      try simp only[pS]
      refine aR (i:=7) (by kernel_rfl) rfl (λK s=>?_)
      go_simp
      refine s.out _ _ (λe=>by cases e) ?_
      clear s K
      try simp only[pS]
      refine cY (by kernel_rfl) ?_ _
      have b0:=u.size
      have x:=(E.setCell (p:=⟨O.heap.size,0,none⟩) b0 (.slice ad af ae)).setCell (p:=⟨O.heap.size,1,none⟩) b0 (.i (M.nv+1))
      obtain⟨g,ai⟩:=nM ((ab.setCell ⟨O.heap.size,0,none⟩ (.slice ad af ae)).setCell ⟨O.heap.size,1,none⟩ (.i (M.nv+1)))
      rw[ai]at x⊢
      clear ai E aa bj b7 cj ck cl b0
     all_goals
      clear G F L W
      obtain⟨G,F,L,W⟩:=(k.out _ _ _ f.out g x).1
      have aq:=(k.out _ _ _ f.out g x).2.2.2.2.2.2
      obtain⟨Y,a5,v3⟩:=bv.out
      rcases f.out.com with⟨e,_⟩|⟨ce,ci,e,ca,bh⟩|⟨ce,ci,e,a3,H,rfl,bg⟩
      ·cases e
      ·simp only[AX,GP]at e
       obtain⟨rfl,rfl⟩:=e
       have ac:Hid (∀X,bW l X->cL 28 #[.p q 2,.i b] X λe w'=>e=.returned (.i 0)/\On (Bl.or Bk (Bl.one w.heap.size)) _ w'/\Lw n (B+1) w' q (Bl.or Bk (Bl.one w.heap.size)) M.p9):=bh
       clear bh
       rcases ca with⟨a3,rfl⟩|⟨a3,H,rfl⟩|⟨a3,H,rfl,co⟩
       ·obtain rfl:U=false:=by rw[<-Y,a3];rfl
        clear Y a5 v3
        go_wp2_with (go_at_call 31;(with_reducible refine jC aq ?_);rintro e w' ⟨rfl,a4⟩;subst w')
        go_region_held3 (λX=>X.c w.heap.size 1=some (.i b))
         (first|exact(k.out _ _ _ f.out _ x.drew).1.1|exact y.out.2.1)
         ((go_at_call 28;(with_reducible refine jC (ac.out _ x.drew) ?_);rintro e a6 ⟨rfl,a1,a0⟩;have y:=(show Hid _ from am.out _ a6 f.out.onX a1 a0)))
        all_goals go_wp2
        all_goals go_ret
        all_goals exact⟨rfl,y.out.2.2⟩
       ·obtain rfl:U=true:=by rw[<-Y];exact DM (BR.2 a3)
        obtain rfl:Z=true:=by rw[<-a5,H]
        clear Y a5 v3
        go_wp2_with (go_at_call 31;(with_reducible refine jC aq ?_);rintro e w' ⟨rfl,a4⟩;subst w')
        go_region_held3 (λX=>X.c w.heap.size 1=some (.i b))
         (first|exact(k.out _ _ _ f.out _ x.drew).1.1|exact y.out.2.1)
         ((go_at_call 28;(with_reducible refine jC (ac.out _ x.drew) ?_);rintro e a6 ⟨rfl,a1,a0⟩;have y:=(show Hid _ from am.out _ a6 f.out.onX a1 a0)))
        all_goals go_wp2
        all_goals go_ret
        all_goals exact⟨rfl,y.out.2.2⟩
       ·obtain rfl:U=true:=by rw[<-Y];exact DM (BR.2 a3)
        obtain rfl:Z=false:=by rw[<-a5,H]
        have cb:(n:Int)<(ak:Int):=by rw[<-v3];omega
        clear Y a5 v3
        go_wp2_with (go_at_call 31;(with_reducible refine jC aq ?_);rintro e w' ⟨rfl,a4⟩;subst w')
        go_region_held3 (λX=>X.c w.heap.size 1=some (.i b))
         (first|exact(k.out _ _ _ f.out _ x.drew).1.1|exact y.out.2.1)
         ((go_at_call 28;(with_reducible refine jC (ac.out _ x.drew) ?_);rintro e a6 ⟨rfl,a1,a0⟩;have y:=(show Hid _ from am.out _ a6 f.out.onX a1 a0)))
        all_goals go_wp2
        all_goals refine BI (v:=.bool true) ?_ rfl ⟨rfl,y.out.2.2⟩
        all_goals simp[results,Tryz.results29,go_sem,cb]
      ·simp only[AX,GP]at e
       obtain⟨rfl,rfl⟩:=e
       have ac:Hid (∀X,bW l X->cL 80 #[.p q 2,.i b] X λe w'=>e=.returned (.tuple #[])/\On (Bl.or Bk (Bl.one w.heap.size)) _ w'/\Lw n (B+1) w' q (Bl.or Bk (Bl.one w.heap.size)) M.p9):=bg
       clear bg
       obtain rfl:U=true:=by rw[<-Y];exact DM (BR.2 a3)
       obtain rfl:Z=false:=by rw[<-a5,H]
       clear Y a5 v3
       go_wp2_with (go_at_call 31;(with_reducible refine jC aq ?_);rintro e w' ⟨rfl,a4⟩;subst w')
       go_region_held3 (λX=>X.c w.heap.size 1=some (.i b))
        (first|exact(k.out _ _ _ f.out _ x.drew).1.1|exact y.out.2.1)
        ((go_at_call 80;(with_reducible refine jC (ac.out _ x.drew) ?_);rintro e a6 ⟨rfl,a1,a0⟩;have y:=(show Hid _ from am.out _ a6 f.out.onX a1 a0)))
       all_goals have cq:=y.out.1
       all_goals clear L
       all_goals go_wp2
       all_goals go_ret
       all_goals exact⟨rfl,y.out.2.2⟩
end
