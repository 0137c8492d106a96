import Derived.Test.YtdhgdcjmhofhaaaGreatD41
set_option linter.all false
set_option maxRecDepth 100000
set_option maxHeartbeats 8000000
namespace Go.Proofs.YtdhgdcjmhofhaaaGreat.Tree
open Go.RowKit Go.Shelf Pages
attribute [local go_sem] CM
def qFh(c n w)(d : -9223372036854775808<=c)(f:c<=9223372036854775807)(a:0<n):
  cL 56 #[.i c,.i n] w λe w'=>∃m:Int,0<=m/\m<n/\e=.r (.i m)/\w'=w:=by
 have b:n≠0:=by omega
 by_cases hc:c<0
 .go_enter Tryz.func56,Tryz.ntmps56
  go_wp2;go_ret;have e : -((c+1).tmod n)=(-(c+1)) % n:=by rw[<-Int.neg_tmod,Int.tmod_eq_emod_of_nonneg (by omega)]
  exact⟨_,by rw[e];exact Int.emod_nonneg _ b,by rw[e];exact Int.emod_lt_of_pos _ a,rfl,rfl⟩
 .go_enter Tryz.func56,Tryz.ntmps56
  go_wp2;go_ret;exact⟨_,Int.emod_nonneg _ b,Int.emod_lt_of_pos _ a,rfl,rfl⟩
def Ni{P}{s:Code}{K d b a w}(R:Nat->World->Prop)(i:∀D w',R D w'->K ⟨b,mk D :: a⟩ w')(first:∀K':Act->World->Prop,(∀D w',R D w'->K' ⟨b,mk D :: a⟩ w')->s.wp P (Exit.then K' d) ⟨b,a⟩ w):s.wp P (Exit.then K d) ⟨b,a⟩ w :=
 wp_cut (λe w'=>∃D,R D w'/\e=⟨b,mk D :: a⟩) (λe w' ⟨D,c,f⟩=>f▸i D w' c) (λj K' g h=>first K' (λD w' c=>h _ _ (g _ _ ⟨D,c,rfl⟩)))
def Ub(r lo hi)(b:Nat)(d:b<=50):(cZ r lo hi b).1=(cZ r lo hi 9223372036854775807).1.take b:=by
 cases r with
 |none=>simp[cZ]
 |some p =>
  have⟨a,f⟩:=p;have c:((9223372036854775807:Int)).toNat=9223372036854775807:=rfl;simp only[cZ];by_cases h:lo.size<=24/\hi.size<=24
  .rw[AU ⟨h.1,h.2,by omega⟩,AU ⟨h.1,h.2,by omega⟩]
   simp only[sC,Int.toNat_natCast,c,List.take_take];rw[GL (by omega)]
  grind
def qAh(r lo hi m)(h:(cZ r lo hi m).2≠0):(cZ r lo hi m).1=[]:=by
 cases r with
 |none=>rfl
 |some p =>
  have⟨a,b⟩:=p;simp only[cZ]at h⊢;grind
section
variable {n B:Nat}{w:World}{q:Nat}{Bk K:Bl}{D:Db}{v:Nat}{o ao:Option (Nat×T)}{ots:List (Option (Nat×T))}{M:RM}
def qEl(h:Lk n B w D v o ao ots M){x}{e:Option (Nat×RT)}(t:cD M.ts x e){lo hi m a}(b:a∈(cZ e lo hi m).1):eO e a.1=(a.2,0):=by
 cases e with
 |none=>simp[cZ]at b
 |some p =>
  have⟨r,C⟩:=p;have f:a∈C.l:=by
   simp only[cZ]at b;split at b
   .exact(((FU _ _).t (List.takeWhile_sublist _)).t (FH _ _)).subset b
   .cases b
  obtain⟨k,rfl⟩:=AD.1 t.1;have⟨u,y,l,z,A,E⟩:=(h.each r k).rise;have i:=h.each r k;have s:1<=a.1.size/\a.1.size<=24:=by
   rw[<-l]at f;obtain⟨c,q,rfl⟩:=AW.1 f;have d:=kM u y (gO i.tr.rooted i.tr.flat) A c q;refine⟨?_,d.2.1⟩;have g:lt ⟨#[]⟩ c.e.key=true:=d.1;rcases JJ c.e.key.size with j|j
   .have:c.e.key=⟨#[]⟩:=FO (Array.eq_empty_of_size_eq_zero j)
    rw[this,cI]at g;cases g
   .exact j
  simp only[eO];rw[AU s,(sQ (by rw[<-l];exact tH z)).2 f]
def qGt(h:Wd n B w q Bk K D v o ao ots M)(hB:B<=400000)(c)(hok:Nb c)(hsP:c.p.size<=2000000)(hsQ:c.q.size<=2000000):
  cL 24 #[.p q 0,.agg c.cells] w λe w'=>e=.r (.bool true)/\bW w w':=by
 obtain⟨kind,tx,P,Q,N,wr,ka,kn,kc⟩:=c
 obtain⟨hN0,hN1⟩:=hok
 dsimp only at hN0 hN1 hsP hsQ
 obtain⟨r,ho⟩:=Dx M.ts tx
 have hb:=h.lk.bounds
 have hls:∀t∈M.ts,t.l.length<=1000000:=λt ht=>by have:=(hb.2.2 t ht).2.1;omega
 obtain⟨W1,hW1,B1,x0,x1,x2,-⟩:=al3 w (.cells #[.p q 0] 26) (.cells #[.i kind,.i tx,.t P,.t Q,.i N,.bool wr,.s ka kn kc] 46) (.cells #[.bool false] 4)
 have HP:Hid (∀X,cL 56 #[.i N,.i 50] X λe w'=>∃m:Int,0<=m/\m<50/\e=.r (.i m)/\w'=X):=λX=>qFh N 50 X hN0 hN1 (by decide)
 have HX:Hid (∀X,bW w X->Wd n B X q Bk K D v o ao ots M/\X.c q 1=some (.p D.d 0)/\X.c q 0=some (.p D.β 0)):=λX hX=>by
  have hW:=h.below hX
  have hb:=dE hW.ref.box
  exact⟨hW,by rw[hb.2.1,h.x],by rw[hb.1,h.f]⟩
 have HO:Hid (∀X,bW W1 X->(X.c w.heap.size 0=some (.p q 0)/\X.c (w.heap.size+1) 1=some (.i tx)/\X.c (w.heap.size+1) 2=some (.t P)/\X.c (w.heap.size+1) 3=some (.t Q))/\X.c (w.heap.size+1) 4=some (.i N)/\cW X (w.heap.size+1+1) #[.bool false] 4/\bW w X):=λX hX=>by
  have k:∀{i:Nat}{ob:Obj},W1.heap[i]?=some ob->X.heap[i]?=some ob:=λh=>(hX.block _ (gL h)).t h
  obtain⟨_,o1,o2,o3,o4,_⟩:=dY (k x1)
  exact⟨⟨bJ (k x0),o1,o2,o3⟩,o4,k x2,B1.t (hX.m B1.size)⟩
 have HH0:Hid (Wd n B w q Bk K D v o ao ots M/\cD M.ts tx r):=⟨h,ho⟩
 have B10:bW W1 W1:=AC _ _
 have k4:=(HO.o W1 B10).2.1
 have hP:=HP.o W1
 clear h ho x0 x1 x2 HP
 refine(AZ (n:=0)).1 (BX Tryz.func24 rfl trivial (wpIn_wide.2 ?_) rfl)
 simp only[Tryz.ntmps24,jA,jB,jN,Nat.reduceAdd,Nat.reduceSub,jR,jO,jP,jT,jE,jF]
 go_upto_region 2 with(go_at_call 56;apply Calls.m hP;rintro e w' ⟨pz,hp0,hp1,rfl,hw⟩;subst w';obtain⟨pk,rfl⟩:∃pk:Nat,pz=(pk:Int):=⟨pz.toNat,by omega⟩)
 obtain⟨W2,hW2,B2,x3,-⟩:=al1 W1 (.cells #[.i pk] 3)
 rw[hW2]
 obtain⟨LL,hLL⟩:=nM ((cZ r P Q pk).1)
 obtain⟨zz,hzz⟩:=nM ((cZ r P Q pk).2)
 have HDn:Hid (∀X,bW X X.drew):=λX=>(AC _ X).drew
 have HS:Hid (∀X,bW W2 X->X.c w.heap.size 0=some (.p q 0)/\X.c (w.heap.size+1) 1=some (.i tx)/\X.c (w.heap.size+1) 2=some (.t P)/\X.c (w.heap.size+1) 3=some (.t Q)/\X.c W1.heap.size 0=some (.i pk)):=λX hX=>by
  obtain⟨⟨a1,a2,a3,a4⟩,_⟩:=HO.o X (B2.t (hX.m B2.size))
  exact⟨a1,a2,a3,a4,bJ ((hX.block _ (gL x3)).t x3)⟩
 have HB2:Hid (∀X,bW W2 X->bW W1 X/\bW w X):=λX hX=>by
  have h1:=B2.t (hX.m B2.size)
  exact⟨h1,(HO.o X h1).2.2.2⟩
 have HSc:Hid (∀X,bW W2 X->cL 62 #[.p q 2,.i tx,.t P,.t Q,.i pk] X λe w'=>∃v,e=.r (.tuple #[v,.i zz])/\w'.ownsRow 0 71 2 v LL.length (aI LL)/\bW W2 w'/\bW X w'):=λX hX=>by
  refine(Iw (HX.o X (HB2.o X hX).2).1.ref tx P Q pk r HH0.o.2 HH0.o.1.lk.n8 hls).m ?_
  rintro e w' ⟨v',rfl,hr,hb',_⟩
  rw[hLL]at hr
  exact⟨v',by rw[hzz],hr,hX.t (hb'.m hX.size),hb'⟩
 have HLZ:Hid (LL=(cZ r P Q 9223372036854775807).1.take pk/\(zz≠0->LL=[])):=⟨by rw[<-hLL];exact Ub r P Q pk (by omega),λhz=>by rw[<-hLL];exact qAh r P Q pk (by rw[hzz];exact hz)⟩
 clear hLL hzz k4 hP
 go_cut [6,7] from 19 to 32 (λm6 z7 wc=>∃(mb:Nat) (ma:Option Addr) (mc:Nat),m6=.p mb 0/\z7=.i zz/\Hid (cW wc mb #[.s ma LL.length mc] 30/\bW W2 wc/\W2.heap.size<=mb/\wc.ownsRow 0 71 2 (.s ma LL.length mc) LL.length (aI LL)))
 case first =>
  refine wp_region_noPanic ?_
  refine cS (S:=(λX:World=>X.c w.heap.size 0=some (.p q 0)/\X.c (w.heap.size+1) 1=some (.i tx)/\X.c (w.heap.size+1) 2=some (.t P)/\X.c (w.heap.size+1) 3=some (.t Q)/\X.c W1.heap.size 0=some (.i pk))) 16 (by kernel_rfl) ?_
  have hHeld:=(show(λX:World=>X.c w.heap.size 0=some (.p q 0)/\X.c (w.heap.size+1) 1=some (.i tx)/\X.c (w.heap.size+1) 2=some (.t P)/\X.c (w.heap.size+1) 3=some (.t Q)/\X.c W1.heap.size 0=some (.i pk)) W2.drew from HS.o _ (HDn.o W2))
  refine tks [(0,.p q 0),(1,.p q 0),(2,.p q 2),(3,.p (w.heap.size+1) 1),(4,.i tx),(5,.p (w.heap.size+1) 2),(6,.t P),(7,.p (w.heap.size+1) 3),(8,.t Q),(9,.i pk)] (by assumption) ?_
  iterate 10 (refine⟨_,rfl,by kernel_rfl,λ_ _ _ h=>h,.inl ⟨by rfl,λw hSw=>by(try dsimp only at hSw);go_simp⟩,?_⟩;try simp only[pS])
  refine tke ?_
  refine mO (i:=10) (j:=14) (by kernel_rfl) rfl rfl (λK hK=>?_) (λK hK=>?_)
  .go_simp
   go_at_call 62
   apply Calls.m (HSc.o _ (HDn.o W2))
   rintro e w5 ⟨vm,rfl,hr5,b5,_⟩
   obtain⟨ma,mc,rfl⟩:=aG hr5
   simp only[]
   refine hK.out _ _ (λ_=>HS.o _ b5) ?_
   clear hK K
   try simp only[pS]
   have hHeld:=(show(λX:World=>X.c w.heap.size 0=some (.p q 0)/\X.c (w.heap.size+1) 1=some (.i tx)/\X.c (w.heap.size+1) 2=some (.t P)/\X.c (w.heap.size+1) 3=some (.t Q)/\X.c W1.heap.size 0=some (.i pk)) w5 from HS.o _ b5)
   refine tks [(11,.tuple #[.s ma LL.length mc,.i zz]),(12,.s ma LL.length mc),(13,.i zz)] (by assumption) ?_
   iterate 3 (refine⟨_,rfl,by kernel_rfl,λ_ _ _ h=>h,.inl ⟨by rfl,λw hSw=>by(try dsimp only at hSw);go_simp⟩,?_⟩;try simp only[pS])
   refine tke ?_
   refine aR (i:=14) (by kernel_rfl) rfl (λK hK=>?_)
   go_simp
   refine hK.out _ _ (λ_=>HS.o _ (b5.alloc b5.size _)) ?_
   clear hK K
   try simp only[pS]
   have b6:=b5.alloc b5.size (.cells #[.s ma LL.length mc] 30)
   refine aR (i:=15) (by kernel_rfl) rfl (λK hK=>?_)
   go_simp
   refine hK.out _ _ (λ_=>HS.o _ b6) ?_
   clear hK K
   try simp only[pS]
   have hHeld:=(show(λX:World=>X.c w.heap.size 0=some (.p q 0)/\X.c (w.heap.size+1) 1=some (.i tx)/\X.c (w.heap.size+1) 2=some (.t P)/\X.c (w.heap.size+1) 3=some (.t Q)/\X.c W1.heap.size 0=some (.i pk)) (w5.alloc (.cells #[.s ma LL.length mc] 30)) from HS.o _ b6)
   refine aR (i:=16) (by kernel_rfl) rfl (λK hK=>?_)
   go_simp
   refine hK.out _ _ (λe=>by cases e) ?_
   clear hK K
   try simp only[pS]
   refine dC (by kernel_rfl) ?_ _
   refine NoPanic.normal ?_
   try go_wp2
   go_meet
   exact⟨w5.heap.size,ma,mc,rfl,rfl,aC w5 _,b6,b5.size,CH (w:=w5) hr5 _⟩
  .go_simp
   have b4:=(AC W2.heap.size W2).alloc (jU _) (.cells #[.n] 30)
   refine hK.out _ _ (λ_=>HS.o _ b4.drew) ?_
   clear hK K
   try simp only[pS]
   refine aR (i:=10) (by kernel_rfl) rfl (λK hK=>?_)
   go_simp
   go_at_call 62
   apply Calls.m (HSc.o _ b4.drew)
   rintro e w5 ⟨vm,rfl,hr5,b5,b5'⟩
   have x5:cW w5 W2.heap.size #[.n] 30:=(b5'.block _ (by simp)).t (by rw[GX];exact aC W2 _)
   have u0:=bJ x5
   have ufr:=aA x5
   obtain⟨ma,mc,rfl⟩:=aG hr5
   simp only[]
   refine hK.out _ _ (λ_=>HS.o _ b5) ?_
   clear hK K
   try simp only[pS]
   have hHeld:=(show(λX:World=>X.c w.heap.size 0=some (.p q 0)/\X.c (w.heap.size+1) 1=some (.i tx)/\X.c (w.heap.size+1) 2=some (.t P)/\X.c (w.heap.size+1) 3=some (.t Q)/\X.c W1.heap.size 0=some (.i pk)) w5 from HS.o _ b5)
   refine tks [(11,.tuple #[.s ma LL.length mc,.i zz]),(12,.s ma LL.length mc),(13,.i zz)] (by assumption) ?_
   iterate 3 (refine⟨_,rfl,by kernel_rfl,λ_ _ _ h=>h,.inl ⟨by rfl,λw hSw=>by(try dsimp only at hSw);go_simp⟩,?_⟩;try simp only[pS])
   refine tke ?_
   have f6:Fr (Bl.one W2.heap.size) w5 (w5.setCell (aD W2.heap.size 0) (.s ma LL.length mc)):=(AE (Bl.one W2.heap.size) w5).s W2.heap.size 0
   have b6:bW W2 (w5.setCell (aD W2.heap.size 0) (.s ma LL.length mc)):=b5.setCell (p:=(aD W2.heap.size 0)) (jU _) _
   refine aR (i:=15) (by kernel_rfl) rfl (λK hK=>?_)
   go_simp
   refine hK.out _ _ (λ_=>HS.o _ b6) ?_
   clear hK K
   try simp only[pS]
   have hHeld:=(show(λX:World=>X.c w.heap.size 0=some (.p q 0)/\X.c (w.heap.size+1) 1=some (.i tx)/\X.c (w.heap.size+1) 2=some (.t P)/\X.c (w.heap.size+1) 3=some (.t Q)/\X.c W1.heap.size 0=some (.i pk)) (w5.setCell (aD W2.heap.size 0) (.s ma LL.length mc)) from HS.o _ b6)
   refine aR (i:=16) (by kernel_rfl) rfl (λK hK=>?_)
   go_simp
   refine hK.out _ _ (λe=>by cases e) ?_
   clear hK K
   try simp only[pS]
   refine dC (by kernel_rfl) ?_ _
   refine NoPanic.normal ?_
   try go_wp2
   go_meet
   exact⟨W2.heap.size,ma,mc,rfl,rfl,by simpa using aB x5 0 (.s ma LL.length mc),b6,jU _,aS (Y:=λk=>(Value.slice ma LL.length mc).ownBlock=some k) hr5 (f6.on (λk hk=>⟨aK hr5 hk,λe=>by simp only[Bl.one]at e;subst e;exact aP hr5 x5 (by decide) hk⟩)) (λk hk=>hk)⟩
 case rest =>
  obtain⟨mb,ma,mc,rfl,rfl,HM⟩:=hcut
  obtain⟨nb,hnb⟩:=nM (wc.heap.size)
  obtain⟨W3,hW3⟩:=nM (wc.alloc (.cells #[.i 0] 3))
  obtain⟨hm1,hm2,hm3,hm4⟩:=HM.o
  have hml:=(gL hm1)
  have n3:cW W3 nb #[.i 0] 3:=by rw[<-hW3,<-hnb];exact aC wc _
  have s3:W3.setCell (aD nb 0) (.i 0)=W3:=dI n3 rfl
  have nf:=aA n3
  have nc0:=bJ n3
  have b3:bW W2 W3:=hW3▸hm2.alloc hm2.size _
  have m3:cW W3 mb #[.s ma LL.length mc] 30:=hW3▸aQ _ hm1
  have r3:W3.ownsRow 0 71 2 (.s ma LL.length mc) LL.length (aI LL):=hW3▸CH (w:=wc) hm4 _
  have mc0:=bJ m3
  have mf:=aA m3
  have hmn:mb≠nb:=by omega
  have H3:Hid (cW W3 nb #[.i 0] 3/\bW W2 W3/\cW W3 mb #[.s ma LL.length mc] 30/\W3.ownsRow 0 71 2 (.s ma LL.length mc) LL.length (aI LL)/\W2.heap.size<=mb/\W2.heap.size<=nb):=⟨n3,b3,m3,r3,hm3,by rw[<-hnb];exact hm2.size⟩
  clear n3 b3 m3 r3 hm1 hm2 hm4 HM
  go_upto_if 34 with fail
  go_cut [] from 33 to 34 (λwc=>∃(ma:Option Addr) (mc:Nat),Hid (cW wc nb #[.i 0] 3/\bW W2 wc/\cW wc mb #[.s ma LL.length mc] 30/\wc.ownsRow 0 71 2 (.s ma LL.length mc) LL.length (aI LL)))
  case first =>
   by_cases hz:zz=0
   .have hzb:(zz==0)=true:=by simpa using hz
    go_wp2
    go_meet
    exact⟨ma,mc,H3.o.1,H3.o.2.1,H3.o.2.2.1,H3.o.2.2.2.1⟩
   .have hzb:(zz==0)=false:=by simpa using hz
    have HE:Hid (LL=[]):=HLZ.o.2 hz
    have f4:Fr (Bl.one mb) W3 (W3.setCell (aD mb 0) .n):=(AE (Bl.one mb) W3).s mb 0
    have HF4:Hid _:=f4
    clear f4 hz
    go_wp2
    go_meet
    refine⟨none,0,HF4.o.heap H3.o.1 (λe=>hmn e.symm),H3.o.2.1.setCell (p:=(aD mb 0)) hm3 _,?_,?_⟩
    .rw[HE.o];simpa using aB H3.o.2.2.1 0 .n
    .rw[HE.o];exact AL _ _ _ _
  case rest =>
   clear s3 nf nc0 mc0 mf
   obtain⟨ma,mc,HM⟩:=hcut
   have HEa:Hid (∀X,cL 65 #[.p D.d 0,.i tx,.t P,.t Q] X λe w' =>
    e=.r (.func (.func 106) #[] #[.p X.heap.size 0,.p (X.heap.size+1) 0,.p (X.heap.size+1+1) 0,.p (X.heap.size+1+1+1) 0]) /\
    cW w' X.heap.size #[.p D.d 0] 29/\cW w' (X.heap.size+1) #[.i tx] 3/\cW w' (X.heap.size+1+1) #[.t P] 9/\cW w' (X.heap.size+1+1+1) #[.t Q] 9/\bW X w'):=λX=>qCu D.d tx P Q hsP hsQ X
   have HK:Hid (∀X,bW wc X->X.c w.heap.size 0=some (.p q 0)/\X.c q 1=some (.p D.d 0)/\X.c (w.heap.size+1) 1=some (.i tx)/\X.c (w.heap.size+1) 2=some (.t P)/\X.c (w.heap.size+1) 3=some (.t Q)):=λX hX=>by
    have hX2:bW W2 X:=HM.o.2.1.t (hX.m HM.o.2.1.size)
    obtain⟨a1,a2,a3,a4,_⟩:=HS.o X hX2
    exact⟨a1,(HX.o X (HB2.o X hX2).2).2.1,a2,a3,a4⟩
   have hnf:∀(f:Nat) (lb:Array Value) (X:World),(binOp .eql 126 (.func (.func f) #[] lb) .nilFunc).run Tryz.prog X=.ok (.bool false) X:=λf lb X=>by kernel_rfl
   obtain⟨s0,s1,s2,s3,s4⟩:=HK.o wc (AC _ _)
   go_wp2
   go_region_held3 (λX=>X.c w.heap.size 0=some (.p q 0)/\X.c q 1=some (.p D.d 0)/\X.c (w.heap.size+1) 1=some (.i tx)/\X.c (w.heap.size+1) 2=some (.t P)/\X.c (w.heap.size+1) 3=some (.t Q))
    (first|exact HK.o _ (HDn.o wc)|exact HK.o _ ((HDn.o wc).t hV1))
    ((go_at_call 65;apply Calls.m (HEa.o _);rintro e V1 ⟨rfl,e0,e1,e2,e3,hV1⟩))
   all_goals
    clear s0 s1 s2 s3 s4
    go_upto_block 0 with fail
    have bV:bW wc V1:=(HDn.o wc).t hV1
    have bV2:bW W2 V1:=HM.o.2.1.t (bV.m HM.o.2.1.size)
    obtain⟨wdV,qV1,qV0⟩:=HX.o V1 (HB2.o V1 bV2).2
    obtain⟨hn3,_,hm5,hr5⟩:=HM.o
    have lnb:=(gL hn3)
    have nV:cW V1 nb #[.i 0] 3:=(bV.block _ lnb).t hn3
    have mV:cW V1 mb #[.s ma LL.length mc] 30:=(bV.block _ (gL hm5)).t hm5
    have rV:=aS (Y:=λk=>(Value.slice ma LL.length mc).ownBlock=some k) hr5 (vV bV (λk hk=>aK hr5 hk)) (λk hk=>hk)
    have pV:cW V1 W1.heap.size #[.i pk] 3:=(bV2.block _ (gL x3)).t x3
    have zd:wc.drew.heap.size=wc.heap.size:=rfl
    have hnbW:=H3.o.2.2.2.2.2
    have z1:=B1.size
    have z2:=B2.size
    have zx3:=(gL x3)
    have zO:=(jJ.1 (HO.o W1 B10).2.2.1).1
    obtain⟨xl,hxl,hit⟩:=qKb wdV.lk (by omega) tx P Q r HH0.o.2 _ _ _ _ (λk=>k<V1.heap.size/\¬Bl.one nb k) e0 e1 e2 e3 ⟨(gL e0),by simp only[Bl.one];omega⟩ ⟨(gL e1),by simp only[Bl.one];omega⟩ ⟨(gL e2),by simp only[Bl.one];omega⟩ ⟨(gL e3),by simp only[Bl.one];omega⟩ (λk hk=>⟨wdV.lk.db.lies k hk,λe=>by
     have h1:=HH0.o.1.lk.db.lies k hk
     simp only[Bl.one]at e;omega⟩)
    have HXL:Hid ((LL=xl.take pk/\∀y∈xl,eO r y.1=(y.2,0))\/(xl=[]/\D.fs.life=0)):=hxl.imp (λe=>⟨by rw[e];exact HLZ.o.1,λy hy=>qEl HH0.o.1.lk HH0.o.2 (lo:=P) (hi:=Q) (m:=9223372036854775807) (by rw[<-e];exact hy)⟩) id
    clear hxl
    have HKP:Hid (∀X,Fr (Bl.one nb) V1 X->X.c w.heap.size 0=some (.p q 0)/\X.c q 1=some (.p D.d 0)/\X.c (w.heap.size+1) 1=some (.i tx)/\X.c W1.heap.size 0=some (.i pk)/\X.c mb 0=some (.s ma LL.length mc)/\X.ownsRow 0 71 2 (.s ma LL.length mc) LL.length (aI LL)/\X.c q 0=some (.p D.β 0)/\cW X (w.heap.size+1+1) #[.bool false] 4/\Wd n B X q Bk K D v o ao ots M/\bW w X):=λX hF=>by
     have bX:bW W2 X:=bV2.t (hF.below bV2.size (oK (by omega)))
     obtain⟨a1,a2,a3,a4,a5⟩:=HS.o X bX
     obtain⟨c1,c2,c3⟩:=HX.o X (HB2.o X bX).2
     refine⟨a1,c2,a2,a5,bJ (hF.heap mV (λe=>hmn e)),aS (Y:=λk=>(Value.slice ma LL.length mc).ownBlock=some k) rV (hF.on (λk hk=>⟨aK rV hk,λe=>by simp only[Bl.one]at e;subst e;exact aP rV nV (by decide) hk⟩)) (λk hk=>hk),c3,(HO.o X (HB2.o X bX).1).2.2.1,c1,(HB2.o X bX).2⟩
    have lV:=(gL nV)
    clear HEa HK HSc HS HX HO HB2 hnf hV1 e0 e1 e2 e3 mV rV pV bV2 wdV
    refine Ni (λD W=>Hid (Fr (Bl.one nb) V1 W/\cW W nb #[.i ((min xl.length pk:Nat):Int)] 3/\V1.heap.size<=D/\W.heap[D]?=some (.deferred (some [])))) ?_ ?_
    .rintro Dm W HDW
     obtain⟨hFW,hN,hD,hDW⟩:=HDW.o
     obtain⟨a0,a1,a2,a3,a4,a5,a6,a7,a8,a9⟩:=HKP.o W hFW
     have hLn:min xl.length pk=LL.length\/D.fs.life=0:=HXL.o.imp (λe=>by rw[e.1,AY];omega) (λe=>e.2)
     obtain⟨nn,hnn⟩:=nM (min xl.length pk)
     rw[hnn]at hN hLn
     clear hnn
     have cN:=bJ hN
     have hDd:=fU D.β D.sv D.lv D.fs W a8.lk.db.file
     have c7:=bJ a7
     have g7:=aA a7
     obtain⟨W6,hW6⟩:=nM (W.setCell (aD (w.heap.size+1+1) 0) (.bool true))
     have f6:Fr (Bl.one (w.heap.size+1+1)) W W6:=hW6▸(AE (Bl.one (w.heap.size+1+1)) W).s (w.heap.size+1+1) 0
     have z6:cW W6 (w.heap.size+1+1) #[.bool true] 4:=by rw[<-hW6];simpa using aB a7 0 (.bool true)
     have hDW6:W6.heap[Dm]?=some (.deferred (some [])):=f6.heap hDW (λe=>by simp only[Bl.one]at e;rw[e,a7]at hDW;simp at hDW)
     have hBe:bW w W6:=a9.t (f6.below a9.size (oK (by omega)))
     have hm':Marks w.heap.size [mk Dm] W6:=⟨[Dm],rfl,by simp,by simp;exact⟨by omega,hDW6⟩⟩
     have HE:Hid (Marks w.heap.size [mk Dm] W6/\bW w W6/\cW W6 (w.heap.size+1+1) #[.bool true] 4):=⟨hm',hBe,z6⟩
     clear hm' hBe z6 hDW6 f6 a1 a2 a3 a5 a7 a8 a9 hFW hN hDW HDW
     by_cases hne:nn=LL.length
     .subst hne
      clear hLn
      go_wp2_with (go_at_call 49;apply Calls.m hDd;rintro e w' ⟨rfl,hw⟩;subst w')
      refine iR (B:=w.heap.size) (u:=.returning) (by simp) HE.o.1 (λw' ht=>⟨.bool true,?_,rfl,HE.o.2.1.t (ht.below.m (jU _))⟩)
      have hs:=bJ (ht.cells _ _ _ _ HE.o.2.2)
      simp[results,Tryz.results24,go_sem,hs]
     .rw[show(D.fs.life==0)=true by simp[hLn.resolve_left hne]]at hDd
      have hnb:((nn:Int)==(LL.length:Int))=false:=by simp;omega
      clear hLn hne
      go_wp2_with (go_at_call 49;apply Calls.m hDd;rintro e w' ⟨rfl,hw⟩;subst w')
      refine iR (B:=w.heap.size) (u:=.returning) (by simp) HE.o.1 (λw' ht=>⟨.bool true,?_,rfl,HE.o.2.1.t (ht.below.m (jU _))⟩)
      have hs:=bJ (ht.cells _ _ _ _ HE.o.2.2)
      simp[results,Tryz.results24,go_sem,hs]
    .intro K' hK'
     go_wp2
     let J:List En->Bl->World->Prop:=λpre Y W=>cW W nb #[.i (pre.length:Nat)] 3/\∀k,Y k↔k=nb
     let I:List En->Bl->World->Prop:=λpre Y W=>pre.length<=pk/\J pre Y W
     let Ix:Code->List En->Bl->World->Prop:=λc pre Y W=>c=.exit 0/\pre.length=pk+1/\cW W nb #[.i (pk:Nat)] 3/\∀k,Y k↔k=nb
     refine(wpIn_wide (n:=0)).1 ?_
     refine fI (P:=Tryz.prog) (Has:=Tj) (Rd:=λk=>k<V1.heap.size/\¬Bl.one nb k) rfl (enters_of Tryz.func106 (by kernel_rfl) rfl) hit (λx args S W hH=>by rw[show args=_ from hH];rfl) I Ix ?_ ?_ ?_ ?_ (Bl.one nb) ⟨AG _,nV,λk=>FT⟩ ?_ ?_ ?_ ?_
     .rintro pre Y A B ⟨hp,h1,h3⟩ ho
      exact⟨hp,ho.heap h1 ((h3 _).2 rfl),h3⟩
     .rintro c pre Y A B ⟨hc,hp,h1,h3⟩ ho
      exact⟨hc,hp,ho.heap h1 ((h3 _).2 rfl),h3⟩
     .rintro pre Y A ⟨hp,h1,h3⟩ k hk
      obtain rfl:=(h3 k).1 hk
      exact(gL h1)
     .rintro c pre Y A ⟨hc,hp,h1,h3⟩ k hk
      obtain rfl:=(h3 k).1 hk
      exact(gL h1)
     .rintro k ⟨hk,hk'⟩
      exact⟨hk',hk⟩
     .rintro l pre y rest args S Y' W hx ⟨hpm0,h1,h3⟩ hH hS' hFW hGW hl0 hl1 hl2 ⟨rr,hr'⟩
      have hH':args=#[.t y.e.key,.t ⟨y.value.toArray⟩]:=hH
      subst hH'
      have hplt:pre.length<xl.length:=by have:=CI List.length hx;rw[AF,jK,jB]at this;omega
      obtain⟨zy,hzy⟩:=nM (xl[pre.length])
      have hye:y=mkE zy:=by
       have:(xl.map mkE)[pre.length]?=some y:=by rw[hx];simp
       rw[BN,jQ hplt,hzy]at this
       simpa using this.symm
      have hyk:y.e.key=zy.1:=by rw[hye];rfl
      have hyv:(⟨y.value.toArray⟩:ByteArray)=zy.2:=by rw[hye];exact Jk zy
      obtain⟨hLt,HG⟩:=HXL.o.resolve_right (λe=>by rw[e.1]at hplt;exact absurd hplt (GN _))
      have hgA:=HG zy (hzy▸AA hplt)
      rw[hyk,hyv]
      unfold iY
      gi_wp2
      refine⟨AE _ _,?_⟩
      intro W₂ hT2
      have fX:Fr (Bl.one l) W W₂:=hT2.fr
      have FVX:Fr (Bl.one nb) V1 W₂:=hFW.grow fX (λk hk=>.inr (by simp only[Bl.one]at hk;omega))
      have bN:=fX.heap h1 (λe=>by simp only[Bl.one]at e;exact hl2 ((h3 _).2 e.symm))
      have cN:=bJ bN
      obtain⟨a0,a1,a2,a3,a4,a5,a6,a7,a8,a9⟩:=HKP.o W₂ FVX
      have HK2:Hid _:=hK'
      clear hK' hye hx
      rcases BR pre.length pk with hlt|hge
      .have hpb:((pre.length:Int)==(pk:Int))=false:=by simp;omega
       have hLl:pre.length<LL.length:=by rw[hLt,AY];omega
       have hpg:¬((LL.length:Int)<=(pre.length:Int)):=by omega
       have hLz:LL[pre.length]=zy:=by rw[<-hzy];simp only[hLt,List.getElem_take]
       obtain⟨k1,k2⟩:=vU hLl
       rw[hLz]at k1 k2
       obtain⟨g,hg,hglt,hgc,hgv⟩:=iO a5 k1
       obtain⟨g',hg',_,_,hgv'⟩:=iO a5 k2
       subst hg
       cases hg'
       have hpi:(pre.length:Int)<(LL.length:Int):=by omega
       have hp0':(0:Int)<=(pre.length:Int):=by omega
       have HGt:Hid (∀X,bW W₂ X->(X.c w.heap.size 0=some (.p q 0)/\X.c q 1=some (.p D.d 0)/\X.c (w.heap.size+1) 1=some (.i tx))/\∀z,cL 60 #[.p q 0,.i z] X λe w'=>e=.r (.bool (z==9&&D.fs.life==0))/\w'=X):=λX hX=>by
        have wX:=a8.below hX
        obtain⟨t0,t1,t2,_⟩:=HKP.o X (FVX.t (AB hX))
        exact⟨⟨t0,t1,t2⟩,Ys wX.ref wX.f wX.spoiled wX.lk.db⟩
       have HN2:Hid (cW W₂ nb #[.i (pre.length:Nat)] 3):=bN
       have HLt:Hid (pre.length<pk):=hlt
       have hsm:(pre.length:Int)+1<=100:=by omega
       have B20:bW W₂ W₂:=AC _ _
       have wX:=a8.below B20.drew
       obtain⟨⟨g1,g2⟩,HA',hGet⟩:=Vz wX.lk (by omega) tx zy.1 r HH0.o.2
       rw[hgA]at HA'
       have HA:Hid _:=HA'
       have HGe:Hid (cL 17 #[.p D.d 0,.i tx,.t zy.1] W₂.drew λe w'=>e=.r (.tuple #[.t g1,.i g2])/\bW W₂ w'):=hGet.m (λe w' ⟨h,hD,hF⟩=>⟨h,B20.drew.t ((wX.lk.db.still hD hF).m B20.drew.size)⟩)
       clear wX hGet HA' HG
       clear hLz hgA hzy hplt hLl hglt hgc k1 k2 a5 a6 a7 a8 a9 bN hpm0 hLt hlt hyk hyv
       gi_wp2
       refine qX (S:=λX=>X.c w.heap.size 0=some (.p q 0)/\X.c q 1=some (.p D.d 0)/\X.c (w.heap.size+1) 1=some (.i tx)) (by kernel_rfl) (by kernel_rfl) (λ_ _ h=>h) (HGt.o _ B20.drew).1 (λhHeld=>?_)
       change wpAnyH _ _ _ _ _ 13 #[false,false,false,false,false,false,false,false,false,false,false,false,false] _ _
       refine cJ.take [(0,77,.p q 0),(1,78,.p q 0),(2,79,.p q 1),(3,80,.p D.d 0),(4,81,.p (w.heap.size+1) 1),(5,82,.i tx),(6,83,.t zy.1)] (n:=6) (by kernel_rfl) (by assumption) ?_
       iterate 7 (refine⟨_,rfl,rfl,by kernel_rfl,λ_ _ _ h=>h,.inl ⟨by rfl,λX hX=>by(try dsimp only at hX);go_simp⟩,?_⟩;simp only[pS])
       rw[cJ]
       refine wH1 (i:=7) (by kernel_rfl) rfl λK hK=>?_
       go_simp
       go_at_call 17
       refine Calls.m HGe.o ?_
       rintro e W₃ ⟨rfl,hb₃⟩
       refine hK.out _ _ (HGt.o _ hb₃).1 (λhHeld=>?_)
       clear hK K
       try simp only[pS]
       refine cJ.take [(8,76,.tuple #[.t g1,.i g2]),(9,85,.t g1),(10,86,.i g2),(11,12,.t g1),(12,13,.i g2)] (n:=0) (by kernel_rfl) (by assumption) ?_
       iterate 5 (refine⟨_,rfl,rfl,by kernel_rfl,λ_ _ _ h=>h,.inl ⟨by rfl,λX hX=>by(try dsimp only at hX);go_simp⟩,?_⟩;simp only[pS])
       rw[cJ]
       refine wpAnyH_done (by kernel_rfl) ?_ _
       have b3:=(hb₃.block _ (gL HN2.o)).t HN2.o
       have cN3:=bJ b3
       have gN3:=aA b3
       obtain⟨W₄,hW4⟩:=nM (W₃.setCell (aD nb 0) (.i ((pre.length:Int)+1)))
       have b4:cW W₄ nb #[.i ((pre.length:Int)+1)] 3:=by rw[<-hW4];simpa using aB b3 0 (.i ((pre.length:Int)+1))
       have F34:Fr (Bl.one nb) W₂ W₄:=(AB hb₃).t (hW4▸(AE (Bl.one nb) W₃).s nb 0)
       have FY:Fr Y' W₂ W₄:=F34.m (λk hk=>.inl ((h3 k).2 hk))
       have HJ:Hid (∃Y'',I (pre++[y]) Y'' W₄/\Fr Y' W₂ W₄/\aJ W₂ Y' Y''):=⟨Y',⟨by rw[jK,AM];have:=HLt.o;omega,by rw[jK,AM];exact b4,h3⟩,FY,CR _ _⟩
       have t0:=(HGt.o _ hb₃).1.1
       have hLet:=(HGt.o _ hb₃).2 g2
       clear a0 a1 a2 a3 a4 cN hgv hgv' b3 b4 F34 FY HGe
       rcases HA.o with e|⟨e,hl,_⟩
       all_goals
        obtain⟨rfl,rfl⟩:=FZ e
        clear e HA
        first|rw[show((0:Int)==9&&D.fs.life==0)=false from rfl]at hLet|rw[show((9:Int)==9&&D.fs.life==0)=true by simp[hl]]at hLet
        gi_wp2_with (refine⟨trivial,rfl,?_⟩;gi_at_call 60;refine(EA l (AZ.2 hLet)).m ?_;clear hLet;rintro e W₅ ⟨rfl,hw5⟩;subst W₅)
        exact HJ.o
      .obtain rfl:pre.length=pk:=by omega
       have HJ:Hid (∃Y'',Ix (.exit 0) (pre++[y]) Y'' W₂/\Fr Y' W₂ W₂/\aJ W₂ Y' Y''):=⟨Y',⟨rfl,by rw[jK,AM],bN,h3⟩,AE _ _,CR _ _⟩
       clear a1 a2 a4 a5 a6 a7 a8 a9 bN hpm0 hLt HG hgA hzy hplt hyk hyv
       gi_wp2
       exact HJ.o
     .rintro Dm Y' W hD hYD ⟨hpm0,h1,h3⟩ hFW hGW hDW
      rw[AF]at hpm0 h1
      have hpm:min xl.length pk=xl.length:=by omega
      exact hK' Dm W ⟨hFW,by rw[hpm];exact h1,hD,hDW⟩
     .rintro Dm c0 pre Y' W hD hYD hp hne ⟨rfl,hpm0,h1,h3⟩ hFW hGW hDW
      have hpl:=hp.length_le
      rw[AF]at hpl
      have hpm:min xl.length pk=pk:=by omega
      have HK':Hid _:=hK'
      clear hK'
      gi_wp2
      exact HK'.o Dm W ⟨hFW,by rw[hpm];exact h1,hD,hDW⟩
end
