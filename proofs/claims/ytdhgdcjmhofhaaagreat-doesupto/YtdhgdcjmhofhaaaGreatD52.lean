import Derived.Test.YtdhgdcjmhofhaaaGreatD51
set_option linter.all false
set_option maxRecDepth 100000
set_option maxHeartbeats 8000000
namespace Go.Proofs.YtdhgdcjmhofhaaaGreat.Tree
open Go.RowKit Go.Shelf Pages
attribute [local go_sem] CM
theorem qDl(c n w)(d : -9223372036854775808<=c)(f:c<=9223372036854775807)(a:0<n):
  cL 56 #[.i c,.i n] w λe w'=>∃m:Int,0<=m/\m<n/\e=.returned (.i m)/\w'=w:=by
 have b:n≠0:=by omega
 by_cases hc:c<0
 ·go_enter Tryz.func56,Tryz.ntmps56
  go_wp2;go_ret;have e : -((c+1).tmod n)=(-(c+1)) % n:=by rw[<-Int.neg_tmod,Int.tmod_eq_emod_of_nonneg (by omega)]
  exact⟨_,by rw[e];exact Int.emod_nonneg _ b,by rw[e];exact Int.emod_lt_of_pos _ a,rfl,rfl⟩
 ·go_enter Tryz.func56,Tryz.ntmps56
  go_wp2;go_ret;exact⟨_,Int.emod_nonneg _ b,Int.emod_lt_of_pos _ a,rfl,rfl⟩
theorem Ly{P}{s:Code}{K d b a w}(R:Nat->World->Prop)(i:∀D w',R D w'->K ⟨b,mk D :: a⟩ w')(first:∀K':Act->World->Prop,(∀D w',R D w'->K' ⟨b,mk D :: a⟩ w')->s.wp P (Exit.then K' d) ⟨b,a⟩ w):s.wp P (Exit.then K d) ⟨b,a⟩ w :=
 wp_cut (λe w'=>∃D,R D w'/\e=⟨b,mk D :: a⟩) (λe w' ⟨D,c,f⟩=>f▸i D w' c) (λj K' g h=>first K' (λD w' c=>h _ _ (g _ _ ⟨D,c,rfl⟩)))
theorem Sq(r lo hi)(b:Nat)(d:b<=50):(cR r lo hi b).1=(cR r lo hi 9223372036854775807).1.take b:=by
 cases r with
 |none=>simp[cR]
 |some p =>
  have⟨e,f⟩:=p;have c:((9223372036854775807:Int)).toNat=9223372036854775807:=rfl;simp only[cR];by_cases h:lo.size<=24/\hi.size<=24
  ·rw[AW ⟨h.1,h.2,by omega⟩,AW ⟨h.1,h.2,by omega⟩]
   simp only[rL,Int.toNat_natCast,c,List.take_take];rw[GB (by omega)]
  grind
theorem Yq(r lo hi m)(h:(cR r lo hi m).2≠0):(cR r lo hi m).1=[]:=by
 cases r with
 |none=>rfl
 |some p =>
  have⟨a,b⟩:=p;simp only[cR]at h⊢;grind
section
variable {n B:Nat}{w:World}{q:Nat}{Bk K:Bl}{D:Db}{v:Nat}{o ao:Option (Nat×T)}{ots:List (Option (Nat×T))}{M:RM}
theorem qCp(h:Lk n B w D v o ao ots M){x r}(t:cC M.ts x r){lo hi m a}(b:a∈(cR r lo hi m).1):eR r a.1=(a.2,0):=by
 cases r with
 |none=>simp[cR]at b
 |some p =>
  have⟨k,C⟩:=p;have e:a∈C.l:=by
   simp only[cR]at b;split at b
   ·exact(((FK _ _).trans (List.takeWhile_sublist _)).trans (EX _ _)).subset b
   ·cases b
  obtain⟨j,rfl⟩:=AD.1 t.1;have⟨u,y,l,z,A,E⟩:=(h.each k j).rise;have i:=h.each k j;have s:1<=a.1.size/\a.1.size<=24:=by
   rw[<-l]at e;obtain⟨c,q,rfl⟩:=AY.1 e;have d:=jW u y (gD i.tr.rooted i.tr.flat) A c q;refine⟨?_,d.2.1⟩;have g:lt ⟨#[]⟩ c.e.key=true:=d.1;rcases JE c.e.key.size with f|f
   ·have:c.e.key=⟨#[]⟩:=GO (Array.eq_empty_of_size_eq_zero f)
    rw[this,cF]at g;cases g
   ·exact f
  simp only[eR];rw[AW s,(rY (by rw[<-l];exact sO z)).2 e]
theorem qEx(h:Wd n B w q Bk K D v o ao ots M)(hB:B<=400000)(c)(hok:Lr c)(hsP:c.p.size<=2000000)(hsQ:c.q.size<=2000000):
  cL 24 #[.p q 0,.agg c.cells] w λe w'=>e=.returned (.bool true)/\bW w w':=by
 obtain⟨kind,tx,P,Q,N,wr,ka,kn,kc⟩:=c
 obtain⟨hN0,hN1⟩:=hok
 dsimp only at hN0 hN1 hsP hsQ
 obtain⟨r,ho⟩:=Cs M.ts tx
 have hb:=h.lk.bounds
 have hls:∀t∈M.ts,t.l.length<=1000000:=λt ht=>by have:=(hb.2.2 t ht).2.1;omega
 obtain⟨W1,hW1,B1,x0,x1,x2,-⟩:=al3 w (.cells #[.p q 0] 26) (.cells #[.i kind,.i tx,.string P,.string Q,.i N,.bool wr,.slice ka kn kc] 46) (.cells #[.bool false] 4)
 have HP:Hid (∀X,cL 56 #[.i N,.i 50] X λe w'=>∃m:Int,0<=m/\m<50/\e=.returned (.i m)/\w'=X):=λX=>qDl N 50 X hN0 hN1 (by decide)
 have HX:Hid (∀X,bW w X->Wd n B X q Bk K D v o ao ots M/\X.c q 1=some (.p D.d 0)/\X.c q 0=some (.p D.β 0)):=λX hX=>by
  have hW:=h.below hX
  have hb:=dL hW.ref.box
  exact⟨hW,by rw[hb.2.1,h.x],by rw[hb.1,h.f]⟩
 have HO:Hid (∀X,bW W1 X->(X.c w.heap.size 0=some (.p q 0)/\X.c (w.heap.size+1) 1=some (.i tx)/\X.c (w.heap.size+1) 2=some (.string P)/\X.c (w.heap.size+1) 3=some (.string Q))/\X.c (w.heap.size+1) 4=some (.i N)/\X.heap[w.heap.size+1+1]?=some (.cells #[.bool false] 4)/\bW w X):=λX hX=>by
  have k:∀{i:Nat}{ob:Obj},W1.heap[i]?=some ob->X.heap[i]?=some ob:=λh=>(hX.block _ (gL h)).trans h
  obtain⟨_,o1,o2,o3,o4,_⟩:=fL (k x1)
  exact⟨⟨bL (k x0),o1,o2,o3⟩,o4,k x2,B1.trans (hX.mono B1.size)⟩
 have HH0:Hid (Wd n B w q Bk K D v o ao ots M/\cC M.ts tx r):=⟨h,ho⟩
 have B10:bW W1 W1:=AC _ _
 have k4:=(HO.out W1 B10).2.1
 have hP:=HP.out W1
 clear h ho x0 x1 x2 HP
 refine(BK (n:=0)).1 (CN Tryz.func24 rfl trivial (wpIn_wide.2 ?_) rfl)
 simp only[Tryz.ntmps24,jA,jB,jN,Nat.reduceAdd,Nat.reduceSub,jR,jO,jP,jT,jE,jF]
 go_upto_region 2 with(go_at_call 56;(with_reducible refine jC hP ?_);rintro e w' ⟨pz,hp0,hp1,rfl,hw⟩;subst w';obtain⟨pk,rfl⟩:∃pk:Nat,pz=(pk:Int):=⟨pz.toNat,by omega⟩)
 obtain⟨W2,hW2,B2,x3,-⟩:=al1 W1 (.cells #[.i pk] 3)
 rw[hW2]
 obtain⟨LL,hLL⟩:=nM ((cR r P Q pk).1)
 obtain⟨zz,hzz⟩:=nM ((cR r P Q pk).2)
 have HDn:Hid (∀X,bW X X.drew):=λX=>(AC _ X).drew
 have HS:Hid (∀X,bW W2 X->X.c w.heap.size 0=some (.p q 0)/\X.c (w.heap.size+1) 1=some (.i tx)/\X.c (w.heap.size+1) 2=some (.string P)/\X.c (w.heap.size+1) 3=some (.string Q)/\X.c W1.heap.size 0=some (.i pk)):=λX hX=>by
  obtain⟨⟨a1,a2,a3,a4⟩,_⟩:=HO.out X (B2.trans (hX.mono B2.size))
  exact⟨a1,a2,a3,a4,bL ((hX.block _ (gL x3)).trans x3)⟩
 have HB2:Hid (∀X,bW W2 X->bW W1 X/\bW w X):=λX hX=>by
  have h1:=B2.trans (hX.mono B2.size)
  exact⟨h1,(HO.out X h1).2.2.2⟩
 have HSc:Hid (∀X,bW W2 X->cL 62 #[.p q 2,.i tx,.string P,.string Q,.i pk] X λe w'=>∃v,e=.returned (.tuple #[v,.i zz])/\w'.ownsRow 0 71 2 v LL.length (aG LL)/\bW W2 w'/\bW X w'):=λX hX=>by
  refine(Hm (HX.out X (HB2.out X hX).2).1.ref tx P Q pk r HH0.out.2 HH0.out.1.lk.n8 hls).mono ?_
  rintro e w' ⟨v',rfl,hr,hb',_⟩
  rw[hLL]at hr
  exact⟨v',by rw[hzz],hr,hX.trans (hb'.mono hX.size),hb'⟩
 have HLZ:Hid (LL=(cR r P Q 9223372036854775807).1.take pk/\(zz≠0->LL=[])):=⟨by rw[<-hLL];exact Sq r P Q pk (by omega),λhz=>by rw[<-hLL];exact Yq r P Q pk (by rw[hzz];exact hz)⟩
 clear hLL hzz k4 hP
 go_cut [6,7] from 19 to 32 (λm6 z7 wc=>∃(mb:Nat) (ma:Option Addr) (mc:Nat),m6=.p mb 0/\z7=.i zz/\Hid (wc.heap[mb]?=some (.cells #[.slice ma LL.length mc] 30)/\bW W2 wc/\W2.heap.size<=mb/\wc.ownsRow 0 71 2 (.slice ma LL.length mc) LL.length (aG LL)))
 case first =>
  refine wp_region_noPanic ?_
  refine dF (S:=(λX:World=>X.c w.heap.size 0=some (.p q 0)/\X.c (w.heap.size+1) 1=some (.i tx)/\X.c (w.heap.size+1) 2=some (.string P)/\X.c (w.heap.size+1) 3=some (.string Q)/\X.c W1.heap.size 0=some (.i pk))) 16 (by kernel_rfl) ?_
  have hHeld:=(show(λX:World=>X.c w.heap.size 0=some (.p q 0)/\X.c (w.heap.size+1) 1=some (.i tx)/\X.c (w.heap.size+1) 2=some (.string P)/\X.c (w.heap.size+1) 3=some (.string Q)/\X.c W1.heap.size 0=some (.i pk)) W2.drew from HS.out _ (HDn.out W2))
  refine tks [(0,.p q 0),(1,.p q 0),(2,.p q 2),(3,.p (w.heap.size+1) 1),(4,.i tx),(5,.p (w.heap.size+1) 2),(6,.string P),(7,.p (w.heap.size+1) 3),(8,.string Q),(9,.i pk)] (by assumption) ?_
  iterate 10 (refine⟨_,rfl,by kernel_rfl,λ_ _ _ h=>h,.inl ⟨by rfl,λw hSw=>by(try dsimp only at hSw);go_simp⟩,?_⟩;try simp only[pS])
  refine tke ?_
  refine qD (i:=10) (j:=14) (by kernel_rfl) rfl rfl (λK hK=>?_) (λK hK=>?_)
  ·go_simp
   go_at_call 62
   (with_reducible refine jC (HSc.out _ (HDn.out W2)) ?_)
   rintro e w5 ⟨vm,rfl,hr5,b5,_⟩
   obtain⟨ma,mc,rfl⟩:=aF hr5
   simp only[]
   refine hK.out _ _ (λ_=>HS.out _ b5) ?_
   clear hK K
   try simp only[pS]
   have hHeld:=(show(λX:World=>X.c w.heap.size 0=some (.p q 0)/\X.c (w.heap.size+1) 1=some (.i tx)/\X.c (w.heap.size+1) 2=some (.string P)/\X.c (w.heap.size+1) 3=some (.string Q)/\X.c W1.heap.size 0=some (.i pk)) w5 from HS.out _ b5)
   refine tks [(11,.tuple #[.slice ma LL.length mc,.i zz]),(12,.slice ma LL.length mc),(13,.i zz)] (by assumption) ?_
   iterate 3 (refine⟨_,rfl,by kernel_rfl,λ_ _ _ h=>h,.inl ⟨by rfl,λw hSw=>by(try dsimp only at hSw);go_simp⟩,?_⟩;try simp only[pS])
   refine tke ?_
   refine aR (i:=14) (by kernel_rfl) rfl (λK hK=>?_)
   go_simp
   refine hK.out _ _ (λ_=>HS.out _ (b5.alloc b5.size _)) ?_
   clear hK K
   try simp only[pS]
   have b6:=b5.alloc b5.size (.cells #[.slice ma LL.length mc] 30)
   refine aR (i:=15) (by kernel_rfl) rfl (λK hK=>?_)
   go_simp
   refine hK.out _ _ (λ_=>HS.out _ b6) ?_
   clear hK K
   try simp only[pS]
   have hHeld:=(show(λX:World=>X.c w.heap.size 0=some (.p q 0)/\X.c (w.heap.size+1) 1=some (.i tx)/\X.c (w.heap.size+1) 2=some (.string P)/\X.c (w.heap.size+1) 3=some (.string Q)/\X.c W1.heap.size 0=some (.i pk)) (w5.alloc (.cells #[.slice ma LL.length mc] 30)) from HS.out _ b6)
   refine aR (i:=16) (by kernel_rfl) rfl (λK hK=>?_)
   go_simp
   refine hK.out _ _ (λe=>by cases e) ?_
   clear hK K
   try simp only[pS]
   refine cY (by kernel_rfl) ?_ _
   refine NoPanic.normal ?_
   try go_wp2
   go_meet
   exact⟨w5.heap.size,ma,mc,rfl,rfl,aA w5 _,b6,b5.size,CG (w:=w5) hr5 _⟩
  ·go_simp
   have b4:=(AC W2.heap.size W2).alloc (jU _) (.cells #[.n] 30)
   refine hK.out _ _ (λ_=>HS.out _ b4.drew) ?_
   clear hK K
   try simp only[pS]
   refine aR (i:=10) (by kernel_rfl) rfl (λK hK=>?_)
   go_simp
   go_at_call 62
   (with_reducible refine jC (HSc.out _ b4.drew) ?_)
   rintro e w5 ⟨vm,rfl,hr5,b5,b5'⟩
   have x5:w5.heap[W2.heap.size]?=some (.cells #[.n] 30):=(b5'.block _ (by simp)).trans (by rw[FL];exact aA W2 _)
   have u0:=bL x5
   have ufr:=aB x5
   obtain⟨ma,mc,rfl⟩:=aF hr5
   simp only[]
   refine hK.out _ _ (λ_=>HS.out _ b5) ?_
   clear hK K
   try simp only[pS]
   have hHeld:=(show(λX:World=>X.c w.heap.size 0=some (.p q 0)/\X.c (w.heap.size+1) 1=some (.i tx)/\X.c (w.heap.size+1) 2=some (.string P)/\X.c (w.heap.size+1) 3=some (.string Q)/\X.c W1.heap.size 0=some (.i pk)) w5 from HS.out _ b5)
   refine tks [(11,.tuple #[.slice ma LL.length mc,.i zz]),(12,.slice ma LL.length mc),(13,.i zz)] (by assumption) ?_
   iterate 3 (refine⟨_,rfl,by kernel_rfl,λ_ _ _ h=>h,.inl ⟨by rfl,λw hSw=>by(try dsimp only at hSw);go_simp⟩,?_⟩;try simp only[pS])
   refine tke ?_
   have f6:Fr (Bl.one W2.heap.size) w5 (w5.setCell ⟨W2.heap.size,0,none⟩ (.slice ma LL.length mc)):=(AF (Bl.one W2.heap.size) w5).setCell (p:=⟨W2.heap.size,0,none⟩) (.inl rfl) _
   have b6:bW W2 (w5.setCell ⟨W2.heap.size,0,none⟩ (.slice ma LL.length mc)):=b5.setCell (p:=⟨W2.heap.size,0,none⟩) (jU _) _
   refine aR (i:=15) (by kernel_rfl) rfl (λK hK=>?_)
   go_simp
   refine hK.out _ _ (λ_=>HS.out _ b6) ?_
   clear hK K
   try simp only[pS]
   have hHeld:=(show(λX:World=>X.c w.heap.size 0=some (.p q 0)/\X.c (w.heap.size+1) 1=some (.i tx)/\X.c (w.heap.size+1) 2=some (.string P)/\X.c (w.heap.size+1) 3=some (.string Q)/\X.c W1.heap.size 0=some (.i pk)) (w5.setCell ⟨W2.heap.size,0,none⟩ (.slice ma LL.length mc)) from HS.out _ b6)
   refine aR (i:=16) (by kernel_rfl) rfl (λK hK=>?_)
   go_simp
   refine hK.out _ _ (λe=>by cases e) ?_
   clear hK K
   try simp only[pS]
   refine cY (by kernel_rfl) ?_ _
   refine NoPanic.normal ?_
   try go_wp2
   go_meet
   exact⟨W2.heap.size,ma,mc,rfl,rfl,by simpa using aC x5 0 (.slice ma LL.length mc),b6,jU _,aS (Y:=λk=>(Value.slice ma LL.length mc).ownBlock=some k) hr5 (f6.on (λk hk=>⟨aM hr5 hk,λe=>by simp only[Bl.one]at e;subst e;exact aQ hr5 x5 (by decide) hk⟩)) (λk hk=>hk)⟩
 case rest =>
  obtain⟨mb,ma,mc,rfl,rfl,HM⟩:=hcut
  obtain⟨nb,hnb⟩:=nM (wc.heap.size)
  obtain⟨W3,hW3⟩:=nM (wc.alloc (.cells #[.i 0] 3))
  obtain⟨hm1,hm2,hm3,hm4⟩:=HM.out
  have hml:=(gL hm1)
  have n3:W3.heap[nb]?=some (.cells #[.i 0] 3):=by rw[<-hW3,<-hnb];exact aA wc _
  have s3:W3.setCell ⟨nb,0,none⟩ (.i 0)=W3:=eD n3 rfl
  have nf:=aB n3
  have nc0:=bL n3
  have b3:bW W2 W3:=hW3▸hm2.alloc hm2.size _
  have m3:W3.heap[mb]?=some (.cells #[.slice ma LL.length mc] 30):=hW3▸aI _ hm1
  have r3:W3.ownsRow 0 71 2 (.slice ma LL.length mc) LL.length (aG LL):=hW3▸CG (w:=wc) hm4 _
  have mc0:=bL m3
  have mf:=aB m3
  have hmn:mb≠nb:=by omega
  have H3:Hid (W3.heap[nb]?=some (.cells #[.i 0] 3)/\bW W2 W3/\W3.heap[mb]?=some (.cells #[.slice ma LL.length mc] 30)/\W3.ownsRow 0 71 2 (.slice ma LL.length mc) LL.length (aG LL)/\W2.heap.size<=mb/\W2.heap.size<=nb):=⟨n3,b3,m3,r3,hm3,by rw[<-hnb];exact hm2.size⟩
  clear n3 b3 m3 r3 hm1 hm2 hm4 HM
  go_upto_if 34 with fail
  go_cut [] from 33 to 34 (λwc=>∃(ma:Option Addr) (mc:Nat),Hid (wc.heap[nb]?=some (.cells #[.i 0] 3)/\bW W2 wc/\wc.heap[mb]?=some (.cells #[.slice ma LL.length mc] 30)/\wc.ownsRow 0 71 2 (.slice ma LL.length mc) LL.length (aG LL)))
  case first =>
   by_cases hz:zz=0
   ·have hzb:(zz==0)=true:=by simpa using hz
    go_wp2
    go_meet
    exact⟨ma,mc,H3.out.1,H3.out.2.1,H3.out.2.2.1,H3.out.2.2.2.1⟩
   ·have hzb:(zz==0)=false:=by simpa using hz
    have HE:Hid (LL=[]):=HLZ.out.2 hz
    have f4:Fr (Bl.one mb) W3 (W3.setCell ⟨mb,0,none⟩ .n):=(AF (Bl.one mb) W3).setCell (p:=⟨mb,0,none⟩) (.inl rfl) _
    have HF4:Hid _:=f4
    clear f4 hz
    go_wp2
    go_meet
    refine⟨none,0,HF4.out.heap H3.out.1 (λe=>hmn e.symm),H3.out.2.1.setCell (p:=⟨mb,0,none⟩) hm3 _,?_,?_⟩
    ·rw[HE.out];simpa using aC H3.out.2.2.1 0 .n
    ·rw[HE.out];exact AL _ _ _ _
  case rest =>
   clear s3 nf nc0 mc0 mf
   obtain⟨ma,mc,HM⟩:=hcut
   have HEa:Hid (∀X,cL 65 #[.p D.d 0,.i tx,.string P,.string Q] X λe w' =>
    e=.returned (.func (.func 106) #[] #[.p X.heap.size 0,.p (X.heap.size+1) 0,.p (X.heap.size+1+1) 0,.p (X.heap.size+1+1+1) 0]) /\
    w'.heap[X.heap.size]?=some (.cells #[.p D.d 0] 29)/\w'.heap[X.heap.size+1]?=some (.cells #[.i tx] 3)/\w'.heap[X.heap.size+1+1]?=some (.cells #[.string P] 9)/\w'.heap[X.heap.size+1+1+1]?=some (.cells #[.string Q] 9)/\bW X w'):=λX=>qAz D.d tx P Q hsP hsQ X
   have HK:Hid (∀X,bW wc X->X.c w.heap.size 0=some (.p q 0)/\X.c q 1=some (.p D.d 0)/\X.c (w.heap.size+1) 1=some (.i tx)/\X.c (w.heap.size+1) 2=some (.string P)/\X.c (w.heap.size+1) 3=some (.string Q)):=λX hX=>by
    have hX2:bW W2 X:=HM.out.2.1.trans (hX.mono HM.out.2.1.size)
    obtain⟨a1,a2,a3,a4,_⟩:=HS.out X hX2
    exact⟨a1,(HX.out X (HB2.out X hX2).2).2.1,a2,a3,a4⟩
   have hnf:∀(f:Nat) (lb:Array Value) (X:World),(binOp .eql 126 (.func (.func f) #[] lb) .nilFunc).run Tryz.prog X=.ok (.bool false) X:=λf lb X=>by kernel_rfl
   obtain⟨s0,s1,s2,s3,s4⟩:=HK.out wc (AC _ _)
   go_wp2
   go_region_held3 (λX=>X.c w.heap.size 0=some (.p q 0)/\X.c q 1=some (.p D.d 0)/\X.c (w.heap.size+1) 1=some (.i tx)/\X.c (w.heap.size+1) 2=some (.string P)/\X.c (w.heap.size+1) 3=some (.string Q))
    (first|exact HK.out _ (HDn.out wc)|exact HK.out _ ((HDn.out wc).trans hV1))
    ((go_at_call 65;(with_reducible refine jC (HEa.out _) ?_);rintro e V1 ⟨rfl,e0,e1,e2,e3,hV1⟩))
   all_goals
    clear s0 s1 s2 s3 s4
    go_upto_block 0 with fail
    have bV:bW wc V1:=(HDn.out wc).trans hV1
    have bV2:bW W2 V1:=HM.out.2.1.trans (bV.mono HM.out.2.1.size)
    obtain⟨wdV,qV1,qV0⟩:=HX.out V1 (HB2.out V1 bV2).2
    obtain⟨hn3,_,hm5,hr5⟩:=HM.out
    have lnb:=(gL hn3)
    have nV:V1.heap[nb]?=some (.cells #[.i 0] 3):=(bV.block _ lnb).trans hn3
    have mV:V1.heap[mb]?=some (.cells #[.slice ma LL.length mc] 30):=(bV.block _ (gL hm5)).trans hm5
    have rV:=aS (Y:=λk=>(Value.slice ma LL.length mc).ownBlock=some k) hr5 (vV bV (λk hk=>aM hr5 hk)) (λk hk=>hk)
    have pV:V1.heap[W1.heap.size]?=some (.cells #[.i pk] 3):=(bV2.block _ (gL x3)).trans x3
    obtain⟨xl,hxl⟩:=nM ((cR r P Q 9223372036854775807).1)
    have hLt:LL=xl.take pk:=by rw[<-hxl];exact HLZ.out.1
    have zd:wc.drew.heap.size=wc.heap.size:=rfl
    have hnbW:=H3.out.2.2.2.2.2
    have z1:=B1.size
    have z2:=B2.size
    have zx3:=(gL x3)
    have zO:=(jJ.1 (HO.out W1 B10).2.2.1).1
    have hit:=qIa wdV.lk (by omega) tx P Q r HH0.out.2 _ _ _ _ (λk=>k<V1.heap.size/\¬Bl.one nb k) e0 e1 e2 e3 ⟨(gL e0),by simp only[Bl.one];omega⟩ ⟨(gL e1),by simp only[Bl.one];omega⟩ ⟨(gL e2),by simp only[Bl.one];omega⟩ ⟨(gL e3),by simp only[Bl.one];omega⟩ (λk hk=>⟨wdV.lk.db.lies k hk,λe=>by
     have h1:=HH0.out.1.lk.db.lies k hk
     simp only[Bl.one]at e;omega⟩)
    rw[hxl]at hit
    have HG:Hid (∀y∈xl,eR r y.1=(y.2,0)):=λy hy=>qCp HH0.out.1.lk HH0.out.2 (lo:=P) (hi:=Q) (m:=9223372036854775807) (by rw[hxl];exact hy)
    have HKP:Hid (∀X,Fr (Bl.one nb) V1 X->X.c w.heap.size 0=some (.p q 0)/\X.c q 1=some (.p D.d 0)/\X.c (w.heap.size+1) 1=some (.i tx)/\X.c W1.heap.size 0=some (.i pk)/\X.c mb 0=some (.slice ma LL.length mc)/\X.ownsRow 0 71 2 (.slice ma LL.length mc) LL.length (aG LL)/\X.c q 0=some (.p D.β 0)/\X.heap[w.heap.size+1+1]?=some (.cells #[.bool false] 4)/\Wd n B X q Bk K D v o ao ots M/\bW w X):=λX hF=>by
     have bX:bW W2 X:=bV2.trans (hF.below bV2.size (oK (by omega)))
     obtain⟨a1,a2,a3,a4,a5⟩:=HS.out X bX
     obtain⟨c1,c2,c3⟩:=HX.out X (HB2.out X bX).2
     refine⟨a1,c2,a2,a5,bL (hF.heap mV (λe=>hmn e)),aS (Y:=λk=>(Value.slice ma LL.length mc).ownBlock=some k) rV (hF.on (λk hk=>⟨aM rV hk,λe=>by simp only[Bl.one]at e;subst e;exact aQ rV nV (by decide) hk⟩)) (λk hk=>hk),c3,(HO.out X (HB2.out X bX).1).2.2.1,c1,(HB2.out X bX).2⟩
    have lV:=(gL nV)
    clear HEa HK HSc HS HX HO HB2 hnf hV1 e0 e1 e2 e3 mV rV pV bV2 wdV
    refine Ly (λD W=>Hid (Fr (Bl.one nb) V1 W/\W.heap[nb]?=some (.cells #[.i ((min xl.length pk:Nat):Int)] 3)/\V1.heap.size<=D/\W.heap[D]?=some (.deferred (some [])))) ?_ ?_
    ·rintro Dm W HDW
     obtain⟨hFW,hN,hD,hDW⟩:=HDW.out
     obtain⟨a0,a1,a2,a3,a4,a5,a6,a7,a8,a9⟩:=HKP.out W hFW
     have hLn:min xl.length pk=LL.length:=by rw[hLt,AZ];omega
     rw[hLn]at hN
     have cN:=bL hN
     have hDd:=iL D.β D.sv D.lv D.fs W a8.lk.db.file
     rw[show(D.fs.life==0)=false by rw[a8.lk.well.2];rfl]at hDd
     have c7:=bL a7
     have g7:=aB a7
     obtain⟨W6,hW6⟩:=nM (W.setCell ⟨w.heap.size+1+1,0,none⟩ (.bool true))
     have f6:Fr (Bl.one (w.heap.size+1+1)) W W6:=hW6▸(AF (Bl.one (w.heap.size+1+1)) W).setCell (p:=⟨w.heap.size+1+1,0,none⟩) (.inl rfl) _
     have z6:W6.heap[w.heap.size+1+1]?=some (.cells #[.bool true] 4):=by rw[<-hW6];simpa using aC a7 0 (.bool true)
     have hDW6:W6.heap[Dm]?=some (.deferred (some [])):=f6.heap hDW (λe=>by simp only[Bl.one]at e;rw[e,a7]at hDW;simp at hDW)
     have hBe:bW w W6:=a9.trans (f6.below a9.size (oK (by omega)))
     have hm':Marks w.heap.size [mk Dm] W6:=⟨[Dm],rfl,by simp,by simp;exact⟨by omega,hDW6⟩⟩
     have HE:Hid (Marks w.heap.size [mk Dm] W6/\bW w W6/\W6.heap[w.heap.size+1+1]?=some (.cells #[.bool true] 4)):=⟨hm',hBe,z6⟩
     clear hm' hBe z6 hDW6 f6 a1 a2 a3 a5 a7 a8 a9 hFW hN hDW HDW hLn
     go_wp2_with (go_at_call 49;(with_reducible refine jC hDd ?_);rintro e w' ⟨rfl,hw⟩;subst w')
     refine lZ (B:=w.heap.size) (u:=.returning) (by simp) HE.out.1 (λw' ht=>⟨.bool true,?_,rfl,HE.out.2.1.trans (ht.below.mono (jU _))⟩)
     have hs:=bL (ht.cells _ _ _ _ HE.out.2.2)
     simp[results,Tryz.results24,go_sem,hs]
    ·intro K' hK'
     go_wp2
     let J:List En->Bl->World->Prop:=λpre Y W=>W.heap[nb]?=some (.cells #[.i (pre.length:Nat)] 3)/\∀k,Y k↔k=nb
     let I:List En->Bl->World->Prop:=λpre Y W=>pre.length<=pk/\J pre Y W
     let Ix:Code->List En->Bl->World->Prop:=λc pre Y W=>c=.exit 0/\pre.length=pk+1/\W.heap[nb]?=some (.cells #[.i (pk:Nat)] 3)/\∀k,Y k↔k=nb
     refine(wpIn_wide (n:=0)).1 ?_
     refine fF (P:=Tryz.prog) (Has:=Sa) (Rd:=λk=>k<V1.heap.size/\¬Bl.one nb k) rfl (enters_of Tryz.func106 (by kernel_rfl) rfl) hit (λx args S W hH=>by rw[show args=_ from hH];rfl) I Ix ?_ ?_ ?_ ?_ (Bl.one nb) ⟨AH _,nV,λk=>EP⟩ ?_ ?_ ?_ ?_
     ·rintro pre Y A B ⟨hp,h1,h3⟩ ho
      exact⟨hp,ho.heap h1 ((h3 _).2 rfl),h3⟩
     ·rintro c pre Y A B ⟨hc,hp,h1,h3⟩ ho
      exact⟨hc,hp,ho.heap h1 ((h3 _).2 rfl),h3⟩
     ·rintro pre Y A ⟨hp,h1,h3⟩ k hk
      obtain rfl:=(h3 k).1 hk
      exact(gL h1)
     ·rintro c pre Y A ⟨hc,hp,h1,h3⟩ k hk
      obtain rfl:=(h3 k).1 hk
      exact(gL h1)
     ·rintro k ⟨hk,hk'⟩
      exact⟨hk',hk⟩
     ·rintro l pre y rest args S Y' W hx ⟨hpm0,h1,h3⟩ hH hS' hFW hGW hl0 hl1 hl2 ⟨rr,hr'⟩
      have hH':args=#[.string y.e.key,.string ⟨y.value.toArray⟩]:=hH
      subst hH'
      have hplt:pre.length<xl.length:=by have:=BZ List.length hx;rw[AE,jK,jB]at this;omega
      obtain⟨zy,hzy⟩:=nM (xl[pre.length])
      have hye:y=mkE zy:=by
       have:(xl.map mkE)[pre.length]?=some y:=by rw[hx];simp
       rw[BN,jQ hplt,hzy]at this
       simpa using this.symm
      have hyk:y.e.key=zy.1:=by rw[hye];rfl
      have hyv:(⟨y.value.toArray⟩:ByteArray)=zy.2:=by rw[hye];exact Ia zy
      have hgA:=HG.out zy (hzy▸AB hplt)
      rw[hyk,hyv]
      unfold iN
      gi_wp2
      refine⟨AF _ _,?_⟩
      intro W₂ hT2
      have fX:Fr (Bl.one l) W W₂:=hT2.fr
      have FVX:Fr (Bl.one nb) V1 W₂:=hFW.grow fX (λk hk=>.inr (by simp only[Bl.one]at hk;omega))
      have bN:=fX.heap h1 (λe=>by simp only[Bl.one]at e;exact hl2 ((h3 _).2 e.symm))
      have cN:=bL bN
      obtain⟨a0,a1,a2,a3,a4,a5,a6,a7,a8,a9⟩:=HKP.out W₂ FVX
      have HK2:Hid _:=hK'
      clear hK' hye hx
      rcases BS pre.length pk with hlt|hge
      ·have hpb:((pre.length:Int)==(pk:Int))=false:=by simp;omega
       have hLl:pre.length<LL.length:=by rw[hLt,AZ];omega
       have hpg:¬((LL.length:Int)<=(pre.length:Int)):=by omega
       have hLz:LL[pre.length]=zy:=by rw[<-hzy];simp only[hLt,List.getElem_take]
       obtain⟨k1,k2⟩:=uV hLl
       rw[hLz]at k1 k2
       obtain⟨g,hg,hglt,hgc,hgv⟩:=kP a5 k1
       obtain⟨g',hg',_,_,hgv'⟩:=kP a5 k2
       subst hg
       cases hg'
       have hpi:(pre.length:Int)<(LL.length:Int):=by omega
       have hp0':(0:Int)<=(pre.length:Int):=by omega
       have HGt:Hid (∀X,bW W₂ X->(X.c w.heap.size 0=some (.p q 0)/\X.c q 1=some (.p D.d 0)/\X.c (w.heap.size+1) 1=some (.i tx))/\(cL 17 #[.p D.d 0,.i tx,.string zy.1] X λe w'=>e=.returned (.tuple #[.string zy.2,.i 0])/\bW W₂ w')/\(cL 60 #[.p q 0,.i 0] X λe w'=>e=.returned (.bool false)/\w'=X)):=λX hX=>by
        have wX:=a8.below hX
        obtain⟨t0,t1,t2,_⟩:=HKP.out X (FVX.trans (AA hX))
        refine⟨⟨t0,t1,t2⟩,?_,Xd wX.ref wX.f wX.spoiled wX.lk.db wX.lk.well 0⟩
        have hGet:=Ur wX.lk (by omega) tx zy.1 r HH0.out.2
        rw[hgA]at hGet
        refine hGet.mono ?_
        rintro e w' ⟨rfl,hD,hF⟩
        exact⟨rfl,hX.trans ((wX.lk.db.still hD hF).mono hX.size)⟩
       have HN2:Hid (W₂.heap[nb]?=some (.cells #[.i (pre.length:Nat)] 3)):=bN
       have HLt:Hid (pre.length<pk):=hlt
       have hsm:(pre.length:Int)+1<=100:=by omega
       have B20:bW W₂ W₂:=AC _ _
       clear hLz hgA hzy hplt hLl hglt hgc k1 k2 a5 a6 a7 a8 a9 bN hpm0 hLt hxl hlt hyk hyv
       gi_wp2
       refine qI (S:=λX=>X.c w.heap.size 0=some (.p q 0)/\X.c q 1=some (.p D.d 0)/\X.c (w.heap.size+1) 1=some (.i tx)) (by kernel_rfl) (by kernel_rfl) (λ_ _ h=>h) (HGt.out _ B20.drew).1 (λhHeld=>?_)
       change wpAnyH _ _ _ _ _ 13 #[false,false,false,false,false,false,false,false,false,false,false,false,false] _ _
       refine oU.take [(0,77,.p q 0),(1,78,.p q 0),(2,79,.p q 1),(3,80,.p D.d 0),(4,81,.p (w.heap.size+1) 1),(5,82,.i tx),(6,83,.string zy.1)] (n:=6) (by kernel_rfl) (by assumption) ?_
       iterate 7 (refine⟨_,rfl,rfl,by kernel_rfl,λ_ _ _ h=>h,.inl ⟨by rfl,λX hX=>by(try dsimp only at hX);go_simp⟩,?_⟩;simp only[pS])
       rw[oU]
       refine wpAnyH_ready (rs:=[7]) (by kernel_rfl) (by simp) (AllReadyH.cons rfl (λK hK=>?_) AllReadyH.nil)
       go_simp
       go_at_call 17
       refine jC (HGt.out _ B20.drew).2.1 ?_
       rintro e W₃ ⟨rfl,hb₃⟩
       refine hK.out _ _ (HGt.out _ hb₃).1 (λhHeld=>?_)
       clear hK K
       try simp only[pS]
       refine oU.take [(8,76,.tuple #[.string zy.2,.i 0]),(9,85,.string zy.2),(10,86,.i 0),(11,12,.string zy.2),(12,13,.i 0)] (n:=0) (by kernel_rfl) (by assumption) ?_
       iterate 5 (refine⟨_,rfl,rfl,by kernel_rfl,λ_ _ _ h=>h,.inl ⟨by rfl,λX hX=>by(try dsimp only at hX);go_simp⟩,?_⟩;simp only[pS])
       rw[oU]
       refine wpAnyH_done (by kernel_rfl) ?_ _
       have b3:=(hb₃.block _ (gL HN2.out)).trans HN2.out
       have cN3:=bL b3
       have gN3:=aB b3
       obtain⟨W₄,hW4⟩:=nM (W₃.setCell ⟨nb,0,none⟩ (.i ((pre.length:Int)+1)))
       have b4:W₄.heap[nb]?=some (.cells #[.i ((pre.length:Int)+1)] 3):=by rw[<-hW4];simpa using aC b3 0 (.i ((pre.length:Int)+1))
       have F34:Fr (Bl.one nb) W₂ W₄:=(AA hb₃).trans (hW4▸(AF (Bl.one nb) W₃).setCell (p:=⟨nb,0,none⟩) (.inl rfl) _)
       have FY:Fr Y' W₂ W₄:=F34.mono (λk hk=>.inl ((h3 k).2 hk))
       have HJ:Hid (∃Y'',I (pre++[y]) Y'' W₄/\Fr Y' W₂ W₄/\aJ W₂ Y' Y''):=⟨Y',⟨by rw[jK,AM];have:=HLt.out;omega,by rw[jK,AM];exact b4,h3⟩,FY,CQ _ _⟩
       have t0:=(HGt.out _ hb₃).1.1
       have hLet:=(HGt.out _ hb₃).2.2
       clear a0 a1 a2 a3 a4 cN hgv hgv' b3 b4 F34 FY
       gi_wp2_with (refine⟨trivial,rfl,?_⟩;gi_at_call 60;refine(DU l (BK.2 hLet)).mono ?_;clear hLet;rintro e W₅ ⟨rfl,hw5⟩;subst W₅)
       exact HJ.out
      ·obtain rfl:pre.length=pk:=by omega
       have HJ:Hid (∃Y'',Ix (.exit 0) (pre++[y]) Y'' W₂/\Fr Y' W₂ W₂/\aJ W₂ Y' Y''):=⟨Y',⟨rfl,by rw[jK,AM],bN,h3⟩,AF _ _,CQ _ _⟩
       clear a1 a2 a4 a5 a6 a7 a8 a9 bN hpm0 hLt hxl hgA hzy hplt hyk hyv
       gi_wp2
       exact HJ.out
     ·rintro Dm Y' W hD hYD ⟨hpm0,h1,h3⟩ hFW hGW hDW
      rw[AE]at hpm0 h1
      have hpm:min xl.length pk=xl.length:=by omega
      exact hK' Dm W ⟨hFW,by rw[hpm];exact h1,hD,hDW⟩
     ·rintro Dm c0 pre Y' W hD hYD hp hne ⟨rfl,hpm0,h1,h3⟩ hFW hGW hDW
      have hpl:=hp.length_le
      rw[AE]at hpl
      have hpm:min xl.length pk=pk:=by omega
      have HK':Hid _:=hK'
      clear hK'
      gi_wp2
      exact HK'.out Dm W ⟨hFW,by rw[hpm];exact h1,hD,hDW⟩
end
