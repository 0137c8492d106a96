import Derived.Test.YtdhgdcjmhofhaaaGreatD42
set_option linter.all false
set_option maxRecDepth 100000
set_option maxHeartbeats 8000000
namespace Go.Proofs.YtdhgdcjmhofhaaaGreat.Tree
open Go.RowKit Go.Shelf Pages Tryz
attribute [local go_sem] CE
theorem yX(c n w)(d : -9223372036854775808<=c)(f:c<=9223372036854775807)(a:0<n):
  cL 56 #[.i c,.i n] w λe w'=>∃m:Int,0<=m/\m<n/\e=.r (.i m)/\w'=w:=by
 have b:n≠0:=ω;by_cases hc:c<0
 .go_enter func56,ntmps56;go_wp2;go_ret;have e : -((c+1).tmod n)=(-(c+1)) % n:=by rw[<-Int.neg_tmod,Int.tmod_eq_emod_of_nonneg ω]
  exact⟨_,e▸Int.emod_nonneg _ b,e▸Int.emod_lt_of_pos _ a,rfl,rfl⟩
 .go_enter func56,ntmps56;go_wp2;go_ret;exact⟨_,Int.emod_nonneg _ b,Int.emod_lt_of_pos _ a,rfl,rfl⟩
theorem Qm{P}{s:Code}{K d b a w}(R:Nat->World->Prop)(i:∀D w',R D w'->K ⟨b,mk D :: a⟩ w')(first:∀K':Act->World->Prop,(∀D w',R D w'->K' ⟨b,mk D :: a⟩ w')->s.wp P (Exit.then K' d) ⟨b,a⟩ w):s.wp P (Exit.then K d) ⟨b,a⟩ w :=
 wp_cut (λe w'=>∃D,R D w'/\e=⟨b,mk D :: a⟩) (λe w' ⟨D,c,f⟩=>f▸i D w' c) (λj K' g h=>first K' (λD w' c=>h _ _ (g _ _ ⟨D,c,rfl⟩)))
theorem Xs(r lo hi)(b:Nat)(d:b<=50):(cU r lo hi b).1=(cU r lo hi 9223372036854775807).1.take b:=by
 cases r with
 |none=>simp[cU]
 |some p =>
  have⟨a,f⟩:=p;have c:((9223372036854775807:Int)).toNat=9223372036854775807:=rfl;simp only[cU];by_cases h:lo.size<=24/\hi.size<=24
  .rw[AU ⟨h.1,h.2,ω⟩,AU ⟨h.1,h.2,ω⟩];simp only[tJ,Int.toNat_natCast,c,List.take_take];rw[GI ω]
  grind
theorem qEe(r lo hi m)(h:(cU r lo hi m).2≠0):(cU r lo hi m).1=[]:=by
 cases r with
 |none=>rfl
 |some p =>
  have⟨a,b⟩:=p;simp only[cU]at h⊢;grind
section
variable {n B:Nat}{w:World}{q:Nat}{Bk K:Bl}{D:Db}{v:Nat}{o ao:Option (Nat×T)}{ots:List (Option (Nat×T))}{M:RM}
theorem qIq(h:Lk n B w D v o ao ots M){x}{e:Option (Nat×RT)}(t:cI M.ts x e){lo hi m a}(b:a∈(cU e lo hi m).1):eG e a.1=(a.2,0):=by
 cases e with
 |none=>simp[cU]at b
 |some p =>
  have⟨r,C⟩:=p;have f:a∈C.l:=by
   simp only[cU]at b;split at b
   .exact(((GN _ _).t (List.takeWhile_sublist _)).t (FT _ _)).subset b
   .cases b
  obtain⟨k,rfl⟩:=AD.1 t.1;have⟨u,y,l,z,A,E⟩:=(h.each r k).rise;have i:=h.each r k;have s:1<=a.1.size/\a.1.size<=24:=by
   rw[<-l]at f;obtain⟨c,q,rfl⟩:=AY.1 f;have d:=kU u y (gV i.tr.rooted i.tr.flat) A c q;refine⟨?_,d.2.1⟩;have g:=d.1;rcases KB c.e.key with j|j
   .have:c.e.key=⟨#[]⟩:=FZ (Array.eq_empty_of_size_eq_zero j);rw[this,cP]at g;cases g
   .exact j
  simp only[eG];rw[AU s,(uA (l▸uR z)).2 f]
theorem qLc(h:Wd n B w q Bk K D v o ao ots M)(hB:B<=400000)(c)(hok:Kl c)(hsP:c.p.size<=2000000)(hsQ:c.q.size<=2000000):
  cL 24 #[.p q 0,.agg c.cells] w λe w'=>e=.r (.bool true)/\bW w w':=by
 obtain⟨kind,tx,P,Q,N,wr,ka,kn,kc⟩:=c
 obtain⟨hN0,hN1⟩:=hok
 dsimp only at hN0 hN1 hsP hsQ
 obtain⟨r,ho⟩:=Ge M.ts tx
 have hb:=h.lk.bounds
 have hls:∀t∈M.ts,t.l.length<=1000000:=λt ht=>by have:=(hb.2.2 t ht).2.1;omega
 obtain⟨W1,hW1,B1,x0,x1,x2,-⟩:=al3 w (.cells #[.p q 0] 26) (.cells #[.i kind,.i tx,.t P,.t Q,.i N,.bool wr,.s ka kn kc] 46) (.cells #[.bool false] 4)
 have HP:Hid (∀X,cL 56 #[.i N,.i 50] X λe w'=>∃m:Int,0<=m/\m<50/\e=.r (.i m)/\w'=X):=λX=>yX N 50 X hN0 hN1 δ
 have HX:Hid (∀X,bW w X->Wd n B X q Bk K D v o ao ots M/\X.c q 1=some (.p D.d 0)/\X.c q 0=some (.p D.β 0)):=λX hX=>by
  have hW:=h.below hX
  have hb:=dC hW.ref.box
  exact⟨hW,by rw[hb.2.1,h.x],by rw[hb.1,h.f]⟩
 have HO:Hid (∀X,bW W1 X->(X.c w 0=some (.p q 0)/\X.c (w+1) 1=some (.i tx)/\X.c (w+1) 2=some (.t P)/\X.c (w+1) 3=some (.t Q))/\X.c (w+1) 4=some (.i N)/\cW X (w+1+1) #[.bool false] 4/\bW w X):=λX hX=>by
  have k:∀{i:Nat}{ob:Obj},W1.1[i]?=some ob->X.1[i]?=some ob:=λh=>(hX.block _ (gL h)).t h
  obtain⟨_,o1,o2,o3,o4,_⟩:=dO (k x1)
  exact⟨⟨bM (k x0),o1,o2,o3⟩,o4,k x2,B1.t (hX.m B1.size)⟩
 have HH0:Hid (Wd n B w q Bk K D v o ao ots M/\cI M.ts tx r):=⟨h,ho⟩
 have B10:bW W1 W1:=AC _ _
 have k4:=(HO.o W1 B10).2.1
 have hP:=HP.o W1
 clear h ho x0 x1 x2 HP
 refine(BG (n:=0)).1 (CH func24 rfl trivial (wpIn_wide.2 ?_) rfl)
 simp only[ntmps24,jA,jB,jN,Nat.reduceAdd,Nat.reduceSub,jR,jO,jP,jT,jE,jF]
 go_upto_region 2 with(apply Calls.m hP;rintro e w' ⟨pz,hp0,hp1,rfl,hw⟩;subst w';obtain⟨pk,rfl⟩:∃pk:Nat,pz=(pk:Int):=⟨pz.toNat,ω⟩)
 obtain⟨W2,hW2,B2,x3,-⟩:=al1 W1 (.cells #[.i pk] 3)
 rw[hW2]
 obtain⟨LL,hLL⟩:=nM ((cU r P Q pk).1)
 obtain⟨zz,hzz⟩:=nM ((cU r P Q pk).2)
 have HDn:Hid (∀X,bW X X.drew):=λX=>(AC _ X).drew
 have HS:Hid (∀X,bW W2 X->X.c w 0=some (.p q 0)/\X.c (w+1) 1=some (.i tx)/\X.c (w+1) 2=some (.t P)/\X.c (w+1) 3=some (.t Q)/\X.c W1 0=some (.i pk)):=λX hX=>by
  obtain⟨⟨a1,a2,a3,a4⟩,_⟩:=HO.o X (B2.t (hX.m B2.size))
  exact⟨a1,a2,a3,a4,bM ((hX.block _ (gL x3)).t x3)⟩
 have HB2:Hid (∀X,bW W2 X->bW W1 X/\bW w X):=λX hX=>by
  have h1:=B2.t (hX.m B2.size)
  exact⟨h1,(HO.o X h1).2.2.2⟩
 have HSc:Hid (∀X,bW W2 X->cL 62 #[.p q 2,.i tx,.t P,.t Q,.i pk] X λe w'=>∃v,e=.r (.tuple #[v,.i zz])/\w'.ownsRow 0 71 2 v LL (aJ LL)/\bW W2 w'/\bW X w'):=λX hX=>by
  refine(Le (HX.o X (HB2.o X hX).2).1.ref tx P Q pk r HH0.o.2 HH0.o.1.lk.n8 hls).m ?_
  rintro e w' ⟨v',rfl,hr,hb',_⟩
  rw[hLL]at hr
  exact⟨v',by rw[hzz],hr,hX.t (hb'.m hX.size),hb'⟩
 have HLZ:Hid (LL=(cU r P Q 9223372036854775807).1.take pk/\(zz≠0->LL=[])):=⟨by rw[<-hLL];exact Xs r P Q pk ω,λhz=>by rw[<-hLL];exact qEe r P Q pk (by rw[hzz];exact hz)⟩
 clear hLL hzz k4 hP
 go_cut [6,7] from 19 to 32 (λm6 z7 wc=>∃(mb:Nat) (ma:Option Addr) (mc:Nat),m6=.p mb 0/\z7=.i zz/\Hid (cW wc mb #[.s ma LL mc] 30/\bW W2 wc/\W2<=mb/\wc.ownsRow 0 71 2 (.s ma LL mc) LL (aJ LL)))
 case first =>
  refine wp_region_noPanic ?_
  refine cY (S:=(λX:World=>X.c w 0=some (.p q 0)/\X.c (w+1) 1=some (.i tx)/\X.c (w+1) 2=some (.t P)/\X.c (w+1) 3=some (.t Q)/\X.c W1 0=some (.i pk))) 16 κ ?_
  refine tks [(0,.p q 0),(1,.p q 0),(2,.p q 2),(3,.p (w+1) 1),(4,.i tx),(5,.p (w+1) 2),(6,.t P),(7,.p (w+1) 3),(8,.t Q),(9,.i pk)] (HS.o _ (HDn.o W2)) ?_
  iterate 10 (refine tk1 rfl ?_;try simp only[pS])
  refine tke ?_
  refine mZ (i:=10) (j:=14) κ rfl rfl (λK hK=>?_) (λK hK=>?_)
  .go_simp
   go_at_call 62
   apply Calls.m (HSc.o _ (HDn.o W2))
   rintro e w5 ⟨vm,rfl,hr5,b5,_⟩
   obtain⟨ma,mc,rfl⟩:=aG hr5
   simp only[]
   refine hK.out _ _ (λ_=>HS.o _ b5) ?_
   clear hK K
   try simp only[pS]
   refine tks [(11,.tuple #[.s ma LL mc,.i zz]),(12,.s ma LL mc),(13,.i zz)] (HS.o _ b5) ?_
   iterate 3 (refine tk1 rfl ?_;try simp only[pS])
   refine tke ?_
   refine aR (i:=14) κ rfl (λK hK=>?_)
   go_simp
   refine hK.out _ _ (λ_=>HS.o _ (b5.alloc b5.size _)) ?_
   clear hK K
   try simp only[pS]
   have b6:=b5.alloc b5.size (.cells #[.s ma LL mc] 30)
   refine aR (i:=15) κ rfl (λK hK=>?_)
   go_simp
   refine hK.out _ _ (λ_=>HS.o _ b6) ?_
   clear hK K
   try simp only[pS]
   refine aR (i:=16) κ rfl (λK hK=>?_)
   go_simp
   refine hK.out _ _ (λe=>by cases e) ?_
   clear hK K
   try simp only[pS]
   refine dF κ ?_ _
   refine NoPanic.normal ?_
   try go_wp2
   go_meet
   exact⟨w5,ma,mc,rfl,rfl,aB w5 _,b6,b5.size,CG (w:=w5) hr5 _⟩
  .go_simp
   have b4:=(AC W2 W2).alloc (jU _) (.cells #[.n] 30)
   refine hK.out _ _ (λ_=>HS.o _ b4.drew) ?_
   clear hK K
   try simp only[pS]
   refine aR (i:=10) κ rfl (λK hK=>?_)
   go_simp
   go_at_call 62
   apply Calls.m (HSc.o _ b4.drew)
   rintro e w5 ⟨vm,rfl,hr5,b5,b5'⟩
   have x5:cW w5 W2 #[.n] 30:=(b5'.block _ σ).t (by rw[JH];exact aB W2 _)
   have u0:=bM x5
   have ufr:=aF x5
   obtain⟨ma,mc,rfl⟩:=aG hr5
   simp only[]
   refine hK.out _ _ (λ_=>HS.o _ b5) ?_
   clear hK K
   try simp only[pS]
   refine tks [(11,.tuple #[.s ma LL mc,.i zz]),(12,.s ma LL mc),(13,.i zz)] (HS.o _ b5) ?_
   iterate 3 (refine tk1 rfl ?_;try simp only[pS])
   refine tke ?_
   have f6:Fr (Bl.one W2) w5 (w5.setCell (aD W2 0) (.s ma LL mc)):=(AE (Bl.one W2) w5).s W2 0
   have b6:bW W2 (w5.setCell (aD W2 0) (.s ma LL mc)):=b5.setCell (p:=(aD W2 0)) (jU _) _
   refine aR (i:=15) κ rfl (λK hK=>?_)
   go_simp
   refine hK.out _ _ (λ_=>HS.o _ b6) ?_
   clear hK K
   try simp only[pS]
   have hHeld:=HS.o _ b6
   refine aR (i:=16) κ rfl (λK hK=>?_)
   go_simp
   refine hK.out _ _ (λe=>by cases e) ?_
   clear hK K
   try simp only[pS]
   refine dF κ ?_ _
   refine NoPanic.normal ?_
   try go_wp2
   go_meet
   exact⟨W2,ma,mc,rfl,rfl,by simpa using aC x5 0 (.s ma LL mc),b6,jU _,aS (Y:=λk=>(Value.slice ma LL mc).ownBlock=some k) hr5 (f6.on (λk hk=>⟨aL hr5 hk,λe=>by simp only[Bl.one]at e;subst e;exact aQ hr5 x5 δ hk⟩)) (λk hk=>hk)⟩
 case rest =>
  obtain⟨mb,ma,mc,rfl,rfl,HM⟩:=hcut
  obtain⟨nb,hnb⟩:=nM (wc.1.size)
  obtain⟨W3,hW3⟩:=nM (wc.alloc (.cells #[.i 0] 3))
  obtain⟨hm1,hm2,hm3,hm4⟩:=HM.o
  have hml:=(gL hm1)
  have n3:cW W3 nb #[.i 0] 3:=by rw[<-hW3,<-hnb];exact aB wc _
  have s3:W3.setCell (aD nb 0) (.i 0)=W3:=cH n3 rfl
  have nf:=aF n3
  have nc0:=bM n3
  have b3:=hW3▸hm2.alloc hm2.size _
  have m3:=hW3▸aP _ hm1
  have r3:=hW3▸CG (w:=wc) hm4 _
  have mc0:=bM m3
  have mf:=aF m3
  have hmn:mb≠nb:=ω
  have H3:Hid (cW W3 nb #[.i 0] 3/\bW W2 W3/\cW W3 mb #[.s ma LL mc] 30/\W3.ownsRow 0 71 2 (.s ma LL mc) LL (aJ LL)/\W2<=mb/\W2.1.size<=nb):=⟨n3,b3,m3,r3,hm3,by rw[<-hnb];exact hm2.size⟩
  clear n3 b3 m3 r3 hm1 hm2 hm4 HM
  go_upto_if 34 with fail
  go_cut [] from 33 to 34 (λwc=>∃(ma:Option Addr) (mc:Nat),Hid (cW wc nb #[.i 0] 3/\bW W2 wc/\cW wc mb #[.s ma LL mc] 30/\wc.ownsRow 0 71 2 (.s ma LL mc) LL (aJ LL)))
  case first =>
   by_cases hz:zz=0
   .have hzb:(zz==0)=true:=by simpa using hz
    go_wp2
    go_meet
    exact⟨ma,mc,H3.o.1,H3.o.2.1,H3.o.2.2.1,H3.o.2.2.2.1⟩
   .have hzb:(zz==0)=false:=by simpa using hz
    have HE:Hid (LL=[]):=HLZ.o.2 hz
    have f4:Fr (Bl.one mb) W3 (W3.setCell (aD mb 0) .n):=(AE (Bl.one mb) W3).s mb 0
    have HF4:Hid _:=f4
    clear f4 hz
    go_wp2
    go_meet
    refine⟨none,0,HF4.o.heap H3.o.1 (λe=>hmn e.symm),H3.o.2.1.setCell (p:=(aD mb 0)) hm3 _,?_,?_⟩
    .rw[HE.o];simpa using aC H3.o.2.2.1 0 .n
    .rw[HE.o];exact AO _ _ _ _
  case rest =>
   clear s3 nf nc0 mc0 mf
   obtain⟨ma,mc,HM⟩:=hcut
   have HEa:Hid (∀X,cL 65 #[.p D.d 0,.i tx,.t P,.t Q] X λe w' =>
    e=.r (.func (.func 106) #[] #[.p X 0,.p (X+1) 0,.p (X+1+1) 0,.p (X+1+1+1) 0]) /\
    cW w' X #[.p D.d 0] 29/\cW w' (X+1) #[.i tx] 3/\cW w' (X+1+1) #[.t P] 9/\cW w' (X+1+1+1) #[.t Q] 9/\bW X w'):=λX=>qGw D.d tx P Q hsP hsQ X
   have HK:Hid (∀X,bW wc X->X.c w 0=some (.p q 0)/\X.c q 1=some (.p D.d 0)/\X.c (w+1) 1=some (.i tx)/\X.c (w+1) 2=some (.t P)/\X.c (w+1) 3=some (.t Q)):=λX hX=>by
    have hX2:=HM.o.2.1.t (hX.m HM.o.2.1.size)
    obtain⟨a1,a2,a3,a4,_⟩:=HS.o X hX2
    exact⟨a1,(HX.o X (HB2.o X hX2).2).2.1,a2,a3,a4⟩
   have hnf:∀(f:Nat) (lb:Array Value) (X:World),(binOp .eql 126 (.func (.func f) #[] lb) .nilFunc).run prog X=.ok (.bool false) X:=λf lb X=>by kernel_rfl
   obtain⟨s0,s1,s2,s3,s4⟩:=HK.o wc (AC _ _)
   go_wp2
   go_region_held3 (λX=>X.c w 0=some (.p q 0)/\X.c q 1=some (.p D.d 0)/\X.c (w+1) 1=some (.i tx)/\X.c (w+1) 2=some (.t P)/\X.c (w+1) 3=some (.t Q))
    (first|exact HK.o _ (HDn.o wc)|exact HK.o _ ((HDn.o wc).t hV1))
    ((apply Calls.m (HEa.o _);rintro e V1 ⟨rfl,e0,e1,e2,e3,hV1⟩))
   all_goals
    clear s0 s1 s2 s3 s4
    go_upto_block 0 with fail
    have bV:=(HDn.o wc).t hV1
    have bV2:=HM.o.2.1.t (bV.m HM.o.2.1.size)
    obtain⟨wdV,qV1,qV0⟩:=HX.o V1 (HB2.o V1 bV2).2
    obtain⟨hn3,_,hm5,hr5⟩:=HM.o
    have lnb:=(gL hn3)
    have nV:=(bV.block _ lnb).t hn3
    have mV:=(bV.block _ (gL hm5)).t hm5
    have rV:=aS (Y:=λk=>(Value.slice ma LL mc).ownBlock=some k) hr5 (vV bV (λk hk=>aL hr5 hk)) (λk hk=>hk)
    have zd:wc.drew.1.size=wc.1.size:=rfl
    have hnbW:=H3.o.2.2.2.2.2
    have zx3:=(gL x3)
    have zO:=(jJ.1 (HO.o W1 B10).2.2.1).1
    obtain⟨xl,hxl,hit⟩:=qOv wdV.lk ω tx P Q r HH0.o.2 _ _ _ _ (λk=>k<V1.1.size/\¬Bl.one nb k) e0 e1 e2 e3 ⟨(gL e0),by simp only[Bl.one];omega⟩ ⟨(gL e1),by simp only[Bl.one];omega⟩ ⟨(gL e2),by simp only[Bl.one];omega⟩ ⟨(gL e3),by simp only[Bl.one];omega⟩ (λk hk=>⟨wdV.lk.db.lies k hk,λe=>by
     have h1:=HH0.o.1.lk.db.lies k hk
     simp only[Bl.one]at e;omega⟩)
    have HXL:Hid ((LL=xl.take pk/\∀y∈xl,eG r y.1=(y.2,0))\/(xl=[]/\D.fs.life=0)):=hxl.imp (λe=>⟨by rw[e];exact HLZ.o.1,λy hy=>qIq HH0.o.1.lk HH0.o.2 (lo:=P) (hi:=Q) (m:=9223372036854775807) (by rw[<-e];exact hy)⟩) id
    clear hxl
    have HKP:Hid (∀X,Fr (Bl.one nb) V1 X->X.c w 0=some (.p q 0)/\X.c q 1=some (.p D.d 0)/\X.c (w+1) 1=some (.i tx)/\X.c W1 0=some (.i pk)/\X.c mb 0=some (.s ma LL mc)/\X.ownsRow 0 71 2 (.s ma LL mc) LL (aJ LL)/\X.c q 0=some (.p D.β 0)/\cW X (w+1+1) #[.bool false] 4/\Wd n B X q Bk K D v o ao ots M/\bW w X):=λX hF=>by
     have bX:=bV2.t (hF.below bV2.size (oK (by omega)))
     obtain⟨a1,a2,a3,a4,a5⟩:=HS.o X bX
     obtain⟨c1,c2,c3⟩:=HX.o X (HB2.o X bX).2
     refine⟨a1,c2,a2,a5,bM (hF.heap mV (λe=>hmn e)),aS (Y:=λk=>(Value.slice ma LL mc).ownBlock=some k) rV (hF.on (λk hk=>⟨aL rV hk,λe=>by simp only[Bl.one]at e;subst e;exact aQ rV nV δ hk⟩)) (λk hk=>hk),c3,(HO.o X (HB2.o X bX).1).2.2.1,c1,(HB2.o X bX).2⟩
    have lV:=(gL nV)
    clear HEa HK HSc HS HX HO HB2 hnf hV1 e0 e1 e2 e3 mV rV bV2 wdV
    refine Qm (λD W=>Hid (Fr (Bl.one nb) V1 W/\cW W nb #[.i ((min xl pk:Nat):Int)] 3/\V1.1.size<=D/\W.1[D]?=some (.deferred (some [])))) ?_ ?_
    .rintro Dm W HDW
     obtain⟨hFW,hN,hD,hDW⟩:=HDW.o
     obtain⟨a0,a1,a2,a3,a4,a5,a6,a7,a8,a9⟩:=HKP.o W hFW
     have hLn:min xl.length pk=LL.length\/D.fs.life=0:=HXL.o.imp (λe=>by rw[e.1,AX];omega) (λe=>e.2)
     obtain⟨nn,hnn⟩:=nM (min xl.length pk)
     rw[hnn]at hN hLn
     clear hnn
     have cN:=bM hN
     have hDd:=fH D.β D.sv D.lv D.fs W a8.lk.db.file
     have c7:=bM a7
     have g7:=aF a7
     obtain⟨W6,hW6⟩:=nM (W.setCell (aD (w+1+1) 0) (.bool true))
     have f6:=hW6▸(AE (Bl.one (w+1+1)) W).s (w+1+1) 0
     have z6:cW W6 (w+1+1) #[.bool true] 4:=by rw[<-hW6];simpa using aC a7 0 (.bool true)
     have hDW6:=f6.heap hDW (λe=>by simp only[Bl.one]at e;rw[e,a7]at hDW;simp at hDW)
     have hBe:=a9.t (f6.below a9.size (oK (by omega)))
     have hm':Marks w [mk Dm] W6:=⟨[Dm],rfl,σ,by simp;exact⟨ω,hDW6⟩⟩
     have HE:Hid (Marks w [mk Dm] W6/\bW w W6/\cW W6 (w+1+1) #[.bool true] 4):=⟨hm',hBe,z6⟩
     clear hm' hBe z6 hDW6 f6 a1 a2 a3 a5 a7 a8 a9 hFW hN hDW HDW
     by_cases hne:nn=LL.length
     .subst hne
      clear hLn
      go_wp2_with (apply Calls.w hDd)
      refine fL (B:=w) (u:=.returning) σ HE.o.1 (λw' ht=>⟨.bool true,?_,rfl,HE.o.2.1.t (ht.below.m (jU _))⟩)
      have hs:=bM (ht.cells _ _ _ _ HE.o.2.2)
      simp[results,results24,go_sem,hs]
     .rw[show(D.fs.life==0)=true by simp[hLn.resolve_left hne]]at hDd
      have hnb:((nn:Int)==(LL.length:Int))=false:=by simp;omega
      clear hLn hne
      go_wp2_with (apply Calls.w hDd)
      refine fL (B:=w) (u:=.returning) σ HE.o.1 (λw' ht=>⟨.bool true,?_,rfl,HE.o.2.1.t (ht.below.m (jU _))⟩)
      have hs:=bM (ht.cells _ _ _ _ HE.o.2.2)
      simp[results,results24,go_sem,hs]
    .intro K' hK'
     go_wp2
     let J:List En->Bl->World->Prop:=λpre Y W=>cW W nb #[.i (pre:Nat)] 3/\∀k,Y k↔k=nb
     let I:List En->Bl->World->Prop:=λpre Y W=>pre.length<=pk/\J pre Y W
     let Ix:Code->List En->Bl->World->Prop:=λc pre Y W=>c=.exit 0/\pre.length=pk+1/\cW W nb #[.i (pk:Nat)] 3/\∀k,Y k↔k=nb
     refine(wpIn_wide (n:=0)).1 ?_
     refine gF (P:=prog) (Has:=Xa) (Rd:=λk=>k<V1.1.size/\¬Bl.one nb k) rfl (enters_of func106 κ rfl) hit (λx args S W hH=>by rw[show args=_ from hH];rfl) I Ix ?_ ?_ ?_ ?_ (Bl.one nb) ⟨AG _,nV,λk=>GF⟩ ?_ ?_ ?_ ?_
     .rintro pre Y A B ⟨hp,h1,h3⟩ ho
      exact⟨hp,ho.heap h1 ((h3 _).2 rfl),h3⟩
     .rintro c pre Y A B ⟨hc,hp,h1,h3⟩ ho
      exact⟨hc,hp,ho.heap h1 ((h3 _).2 rfl),h3⟩
     .rintro pre Y A ⟨hp,h1,h3⟩ k hk
      obtain rfl:=(h3 k).1 hk
      exact(gL h1)
     .rintro c pre Y A ⟨hc,hp,h1,h3⟩ k hk
      obtain rfl:=(h3 k).1 hk
      exact(gL h1)
     .rintro k ⟨hk,hk'⟩
      exact⟨hk',hk⟩
     .rintro l pre y rest args S Y' W hx ⟨hpm0,h1,h3⟩ hH hS' hFW hGW hl0 hl1 hl2 ⟨rr,hr'⟩
      have hH':args=#[.t y.e.key,.t ⟨y.value.toArray⟩]:=hH
      subst hH'
      have hplt:pre.length<xl.length:=by have:=BR List.length hx;rw[AF,jK,jB]at this;omega
      obtain⟨zy,hzy⟩:=nM (xl[pre.length])
      have hye:=by
       have:(xl.map mkE)[pre.length]?=some y:=by rw[hx];simp
       rw[BM,jQ hplt,hzy]at this
       simpa using this.symm
      have hyk:y.e.key=zy.1:=by rw[hye];rfl
      have hyv:(⟨y.value.toArray⟩:ByteArray)=zy.2:=by rw[hye];exact Lx zy
      obtain⟨hLt,HG⟩:=HXL.o.resolve_right (λe=>by rw[e.1]at hplt;exact absurd hplt (FQ _))
      have hgA:=HG zy (hzy▸AA hplt)
      rw[hyk,hyv]
      unfold iM
      gi_wp2
      refine⟨AE _ _,?_⟩
      intro W₂ hT2
      have fX:=hT2.fr
      have FVX:=hFW.grow fX (λk hk=>.inr (by simp only[Bl.one]at hk;omega))
      have bN:=fX.heap h1 (λe=>by simp only[Bl.one]at e;exact hl2 ((h3 _).2 e.symm))
      have cN:=bM bN
      obtain⟨a0,a1,a2,a3,a4,a5,a6,a7,a8,a9⟩:=HKP.o W₂ FVX
      have HK2:Hid _:=hK'
      clear hK' hye hx
      rcases BT pre pk with hlt|hge
      .have hpb:((pre.length:Int)==(pk:Int))=false:=by simp;omega
       have hLl:pre.length<LL.length:=by rw[hLt,AX];omega
       have hpg:¬((LL.length:Int)<=(pre.length:Int)):=ω
       have hLz:LL[pre.length]=zy:=by rw[<-hzy];simp only[hLt,MH]
       obtain⟨k1,k2⟩:=xS hLl
       rw[hLz]at k1 k2
       obtain⟨g,hg,hglt,hgc,hgv⟩:=gU a5 k1
       obtain⟨g',hg',_,_,hgv'⟩:=gU a5 k2
       subst hg
       cases hg'
       have hpi:(pre.length:Int)<(LL.length:Int):=ω
       have hp0':(0:Int)<=(pre.length:Int):=ω
       have HGt:Hid (∀X,bW W₂ X->(X.c w 0=some (.p q 0)/\X.c q 1=some (.p D.d 0)/\X.c (w+1) 1=some (.i tx))/\∀z,z≠10->cL 60 #[.p q 0,.i z] X λe w'=>e=.r (.bool (z==9&&D.fs.life==0))/\w'=X):=λX hX=>by
        have wX:=a8.below hX
        obtain⟨t0,t1,t2,_⟩:=HKP.o X (FVX.t (AB hX))
        exact⟨⟨t0,t1,t2⟩,qCg wX.ref wX.f wX.spoiled wX.lk.db⟩
       have HN2:Hid (cW W₂ nb #[.i (pre:Nat)] 3):=bN
       have HLt:Hid (pre.length<pk):=hlt
       have hsm:(pre.length:Int)+1<=100:=ω
       have B20:bW W₂ W₂:=AC _ _
       have wX:=a8.below B20.drew
       obtain⟨⟨g1,g2⟩,HA',hGet⟩:=Zt wX.lk ω tx zy.1 r HH0.o.2
       have hg10:g2≠10:=by have:=Ax r zy.1;rcases HA' with e|e<;>grind
       rw[hgA]at HA'
       have HA:Hid _:=HA'
       have HGe:Hid (cL 17 #[.p D.d 0,.i tx,.t zy.1] W₂.drew λe w'=>e=.r (.tuple #[.t g1,.i g2])/\bW W₂ w'):=hGet.m (λe w' ⟨h,hD,hF⟩=>⟨h,B20.drew.t ((wX.lk.db.still hD hF).m B20.drew.size)⟩)
       clear wX hGet HA' HG
       clear hLz hgA hzy hplt hLl hglt hgc k1 k2 a5 a6 a7 a8 a9 bN hpm0 hLt hlt hyk hyv
       gi_wp2
       refine rZ (S:=λX=>X.c w 0=some (.p q 0)/\X.c q 1=some (.p D.d 0)/\X.c (w+1) 1=some (.i tx)) κ κ (λ_ _ h=>h) (HGt.o _ B20.drew).1 (λhHeld=>?_)
       change wpAnyH _ _ _ _ _ 13 #[false,false,false,false,false,false,false,false,false,false,false,false,false] _ _
       refine cG.take [(0,77,.p q 0),(1,78,.p q 0),(2,79,.p q 1),(3,80,.p D.d 0),(4,81,.p (w+1) 1),(5,82,.i tx),(6,83,.t zy.1)] (n:=6) κ hHeld ?_
       iterate 7 (refine⟨_,rfl,rfl,κ,λ_ _ _ h=>h,.inl ⟨by rfl,λX hX=>by(try dsimp only at hX);go_simp⟩,?_⟩;simp only[pS])
       rw[cG]
       refine wH1 (i:=7) κ rfl λK hK=>?_
       go_simp
       go_at_call 17
       refine Calls.m HGe.o ?_
       rintro e W₃ ⟨rfl,hb₃⟩
       refine hK.out _ _ (HGt.o _ hb₃).1 (λhHeld=>?_)
       clear hK K
       try simp only[pS]
       refine cG.take [(8,76,.tuple #[.t g1,.i g2]),(9,85,.t g1),(10,86,.i g2),(11,12,.t g1),(12,13,.i g2)] (n:=0) κ hHeld ?_
       iterate 5 (refine⟨_,rfl,rfl,κ,λ_ _ _ h=>h,.inl ⟨by rfl,λX hX=>by(try dsimp only at hX);go_simp⟩,?_⟩;simp only[pS])
       rw[cG]
       refine wpAnyH_done κ ?_ _
       have b3:=(hb₃.block _ (gL HN2.o)).t HN2.o
       have cN3:=bM b3
       have gN3:=aF b3
       obtain⟨W₄,hW4⟩:=nM (W₃.setCell (aD nb 0) (.i ((pre.length:Int)+1)))
       have b4:cW W₄ nb #[.i ((pre.length:Int)+1)] 3:=by rw[<-hW4];simpa using aC b3 0 (.i ((pre.length:Int)+1))
       have F34:=(AB hb₃).t (hW4▸(AE (Bl.one nb) W₃).s nb 0)
       have FY:=F34.m (λk hk=>.inl ((h3 k).2 hk))
       have HJ:Hid (∃Y'',I (pre++[y]) Y'' W₄/\Fr Y' W₂ W₄/\aI W₂ Y' Y''):=⟨Y',⟨by rw[jK,AP];have:=HLt.o;omega,by rw[jK,AP];exact b4,h3⟩,FY,CS _ _⟩
       have t0:=(HGt.o _ hb₃).1.1
       have hLet:=(HGt.o _ hb₃).2 g2 hg10
       clear a0 a1 a2 a3 a4 cN hgv hgv' b3 b4 F34 FY HGe
       rcases HA.o with e|⟨e,hl,_⟩
       all_goals
        obtain⟨rfl,rfl⟩:=GE e
        clear e HA
        first|rw[show((0:Int)==9&&D.fs.life==0)=false from rfl]at hLet|rw[show((9:Int)==9&&D.fs.life==0)=true by simp[hl]]at hLet
        gi_wp2_with (refine⟨trivial,rfl,?_⟩;gi_at_call 60;refine(EN l (BG.2 hLet)).m ?_;clear hLet;rintro e W₅ ⟨rfl,hw5⟩;subst W₅)
        exact HJ.o
      .obtain rfl:pre.length=pk:=ω
       have HJ:Hid (∃Y'',Ix (.exit 0) (pre++[y]) Y'' W₂/\Fr Y' W₂ W₂/\aI W₂ Y' Y''):=⟨Y',⟨rfl,by rw[jK,AP],bN,h3⟩,AE _ _,CS _ _⟩
       clear a1 a2 a4 a5 a6 a7 a8 a9 bN hpm0 hLt HG hgA hzy hplt hyk hyv
       gi_wp2
       exact HJ.o
     .rintro Dm Y' W hD hYD ⟨hpm0,h1,h3⟩ hFW hGW hDW
      rw[AF]at hpm0 h1
      have hpm:min xl.length pk=xl.length:=ω
      exact hK' Dm W ⟨hFW,by rw[hpm];exact h1,hD,hDW⟩
     .rintro Dm c0 pre Y' W hD hYD hp hne ⟨rfl,hpm0,h1,h3⟩ hFW hGW hDW
      have hpl:=hp.length_le
      rw[AF]at hpl
      have hpm:min xl.length pk=pk:=ω
      have HK':Hid _:=hK'
      clear hK'
      gi_wp2
      exact HK'.o Dm W ⟨hFW,by rw[hpm];exact h1,hD,hDW⟩
end
