import Derived.Test.YtpifffkkgnbfpaaGreatQ36
set_option linter.unusedSimpArgs false
set_option linter.unusedVariables false
set_option maxRecDepth 100000
set_option maxHeartbeats 8000000
namespace Go.Proofs.YtpifffkkgnbfpaaGreat.Tree
open Go.RowKit Go.Shelf Pages
attribute [local go_sem] Oper.semAt_some
theorem aM.still {w w':World} {st:Int} {D:Db} (h:aM w st D) (h':aM w' st D) (hF:Fr (Bl.one D.d) w w'):Below w.heap.size w w' :=
 ⟨hF.os,hF.tape,hF.output,hF.size,fun k hk=>by
  by_cases e:k=D.d
  ·subst e;rw [h.box,h'.box]
  ·exact hF.block k hk (fun h=>e h)⟩
theorem Lh {xs:List En} {j:Nat} {x:En} (h:xs[j]?=some x):(cT xs)[j * 2]?=some (.string x.e.key)∧(cT xs)[j * 2+1]?=some (.string ⟨x.value.toArray⟩):=by
 unfold cT
 induction xs generalizing j with
 | nil=>simp at h
 | cons y xs ih =>
  cases j with
  | zero=>simp at h;subst h;simp
  | succ j =>
   simp only [List.getElem?_cons_succ] at h
   obtain⟨h1,h2⟩:=ih h
   have e1:(j+1) * 2=j * 2+2:=by omega
   rw [e1]
   simp only [List.flatMap_cons]
   constructor
   ·rw [List.getElem?_append_right (by simp)];simpa using h1
   ·rw [List.getElem?_append_right (by simp)];simpa using h2
theorem Wt (D:Db) (x:Int) (i:Nat) (t:Tx) (o:Option (Nat×T)) (q:Sp) (b0 b1 b2 b3:Nat) (Rd:Bl) (w:World) (h:aM w 0 D) (hal:(D.fs.life==0)=false) (hro:bI D.fs t.root o) (hfl:fW o) (hn:D.ts.length≤1000) (hi:i<D.ts.length) (ht:D.ts[i]=t) (hx:kS D.ts x=i) (hr:cH t.cs) (hgd:∀ c∈t.cs,c.good) (hcs:t.cs.length≤1000) (hlo:q.lo.size≤24) (hhi:q.hi.size≤24) (hsm:(dP o t.cs q).length≤1000000)
  (x0:w.heap[b0]?=some (.cells #[.pointer (some ⟨D.d,0,none⟩)] 23)) (x1:w.heap[b1]?=some (.cells #[.int .i64 x] 3)) (x2:w.heap[b2]?=some (.cells #[.string q.lo] 9)) (x3:w.heap[b3]?=some (.cells #[.string q.hi] 9)) (r0:Rd b0) (r1:Rd b1) (r2:Rd b2) (r3:Rd b3) (rD:∀ k,fpD D k→Rd k) :
  mT Tryz.prog 55 #[.pointer (some ⟨b0,0,none⟩),.pointer (some ⟨b1,0,none⟩),.pointer (some ⟨b2,0,none⟩),.pointer (some ⟨b3,0,none⟩)] Ie (dP o t.cs q) Rd w:=by
 intro l J Jx Y W hon hRd sJ lJ sJx lJx hY h0
 refine callsIn_of_wp Tryz.func55 rfl trivial ?_ rfl
 simp only [Tryz.ntmps55,jA,jB,jN,Nat.reduceAdd,Nat.reduceSub,jR,jO,jP,jT,jE,jF]
 have lY:=lJ [] Y W h0
 have hD:=h.on (hon.mono rD)
 have c0:=bF (hon.heap x0 r0)
 have c1:=bF (hon.heap x1 r1)
 have c2:=bF (hon.heap x2 r2)
 have c3:=bF (hon.heap x3 r3)
 have hSc:=Bd D x i t o q 9223372036854775807 W hD hal hro hfl hn hi ht hx hr hgd hcs hlo hhi hsm (jU _)
 rw [List.take_of_length_le (by omega)] at hSc
 obtain⟨xs,hxs⟩:=nM (dP o t.cs q)
 rw [hxs] at hSc hsm hY ⊢
 clear hxs hr hgd hcs hx ht hi hn hfl hro hal
 gi_wp2_with (refine⟨trivial,rfl,?_⟩;gi_at_call 28;refine(callsIn_wide.2 hSc).mono ?_;clear hSc;rintro e W1 ⟨v,rfl,hD1,hF1,hrow,hnew⟩;obtain⟨ra,rc,rfl⟩:=aO hrow)
 have B1:Below W.heap.size W W1:=hD.still hD1 hF1
 have HN:Hid (∀ k,(Value.slice ra xs.length rc).ownBlock=some k→W.heap.size≤k):=hnew
 have HB:Hid (Below W.heap.size W W1):=B1
 have HR1:Hid (W1.ownsRow 0 60 2 (.slice ra xs.length rc) xs.length (cT xs)):=hrow
 clear hD hD1 hF1 hnew B1 hrow c0 c1 c2 c3
 gi_wp2
 gi_loopw [20] (fun i wr=>∃ (j:Nat) (Yr:Bl),j≤xs.length∧i=.int .i64 j∧J (xs.take j) Yr wr∧Fr Y W wr∧aI W Y Yr∧wr.ownsRow 0 60 2 (.slice ra xs.length rc) xs.length (cT xs)∧∀ k,(Value.slice ra xs.length rc).ownBlock=some k→¬ Yr k) (fun i _=>xs.length-(intOf i).toNat)
 case atStart =>
  exact⟨0,Y,Nat.zero_le _,rfl,by simpa using sJ _ _ _ _ h0 (vV HB.out lY),Fr.of_below HB.out,aI.refl _ _,HR1.out,fun k hk hy=>by have:=HN.out k hk;have:=lY k hy;omega⟩
 case round =>
  obtain⟨j,Yr,hj,rfl,hJ,hF,hG,hrw,hno⟩:=hrel
  by_cases hlt:j<xs.length
  ·have hji:(j:Int)<(xs.length:Int):=by omega
   have pA:xs[j]?=some xs[j]:=jQ hlt
   obtain⟨y,hy0⟩:=nM (xs[j])
   rw [hy0] at pA
   obtain⟨q1,q2⟩:=Lh pA
   obtain⟨g,hg,hglt,hgc,hgv⟩:=gQ hrw q1
   obtain⟨g',hg',_,_,hgv'⟩:=gQ hrw q2
   subst hg
   cases hg'
   obtain⟨w1,hw1⟩:=nM (wr.alloc (.cells #[.string y.e.key,.string ⟨y.value.toArray⟩] 60))
   have z1:w1.heap[wr.heap.size]?=some (.cells #[.string y.e.key,.string ⟨y.value.toArray⟩] 60):=hw1▸aA wr _
   have f1r:Fr Bl.none wr w1:=hw1▸(Fr.refl _ wr).alloc _
   have f1:Fr Y W w1:=hF.trans (f1r.mono (fun _ h=>h.elim))
   have lYr:=lJ _ _ _ hJ
   have o1:On Yr wr w1:=f1r.on (fun k hk=>⟨lYr k hk,fun h=>h⟩)
   obtain⟨fn,tmps,assign,body,hyy,hRy⟩:=hY _ y _ #[.string y.e.key,.string ⟨y.value.toArray⟩] Bl.none Yr w1 (qM pA) (sJ _ _ _ _ hJ o1) rfl (fun _ h=>h.elim) f1 hG
   obtain⟨m0,m1⟩:=bU z1
   have row1:w1.ownsRow 0 60 2 (.slice (some ⟨g,0,none⟩) xs.length rc) xs.length (cT xs):=aZ hrw (f1r.on (Z:=fun k=>Value.ownBlock _=some k) (fun k hk=>⟨aQ hrw hk,fun h=>h⟩)) (fun k hk=>hk)
   gi_wp2
   clear hyy
   refine⟨rfl,(dF hRy).mono ?_⟩
   have HT:Hid (xs.take (j+1)=xs.take j++[y]):=pI pA
   clear pA q1 q2
   rintro e W3 (⟨rfl,Y3,hJ3,hF3,hG3⟩|⟨rfl,Y3,hJ3,hF3,hG3⟩)
   ·have F3:Fr Y W W3:=f1.grow hF3 hG
    have G3:aI W Y Y3:=hG.trans f1.size hG3
    have row3:W3.ownsRow 0 60 2 (.slice (some ⟨g,0,none⟩) xs.length rc) xs.length (cT xs):=aZ row1 (hF3.on (Z:=fun k=>Value.ownBlock _=some k) (fun k hk=>⟨aQ row1 hk,hno k hk⟩)) (fun k hk=>hk)
    have n3:∀ k,(Value.slice (some ⟨g,0,none⟩) xs.length rc).ownBlock=some k→¬ Y3 k:=fun k hk hy=>by
     rcases hG3 k hy with h'|h'
     ·exact hno k hk h'
     ·have:=aQ row1 hk;omega
    clear hJ hgv hgv' m0 m1 z1
    gi_wp2
    go_roundw
    case rel=>exact⟨j+1,Y3,by omega,by go_num,by rw [HT.out];exact hJ3,F3,G3,row3,n3⟩
    case measure=>simp [intOf];omega
   ·clear hJ hgv hgv' m0 m1 z1
    gi_wp2
    refine bodyPost_ret (results_none rfl _ _ _) rfl ?_
    refine⟨⟨_,rfl⟩,Y3,f1.grow hF3 hG,hG.trans f1.size hG3,.inr ⟨_,?_,?_,hJ3⟩⟩
    ·rw [← HT.out];exact List.take_prefix _ _
    ·simp
  ·obtain rfl:j=xs.length:=by omega
   have HJ:Hid (J xs Yr wr):=by rw [List.take_length] at hJ;exact hJ
   clear hJ
   gi_wp2
   go_end0
   exact⟨⟨_,rfl⟩,Yr,hF,hG,.inl HJ.out⟩
theorem Wu (d:Nat) (x:Int) (lo hi:ByteArray) (hlo:lo.size≤24) (hhi:hi.size≤24) (w:World) :
  Calls Tryz.prog 29 #[.pointer (some ⟨d,0,none⟩),.int .i64 x,.string lo,.string hi] w fun e w' =>
   e=.returned (.func (.func 55) #[] #[.pointer (some ⟨w.heap.size,0,none⟩),.pointer (some ⟨w.heap.size+1,0,none⟩),.pointer (some ⟨w.heap.size+1+1,0,none⟩),.pointer (some ⟨w.heap.size+1+1+1,0,none⟩)]) ∧
   w'.heap[w.heap.size]?=some (.cells #[.pointer (some ⟨d,0,none⟩)] 23)∧w'.heap[w.heap.size+1]?=some (.cells #[.int .i64 x] 3)∧w'.heap[w.heap.size+1+1]?=some (.cells #[.string lo] 9)∧w'.heap[w.heap.size+1+1+1]?=some (.cells #[.string hi] 9)∧Below w.heap.size w w':=by
 obtain⟨W1,hW1⟩:=nM ((((w.alloc (.cells #[.pointer (some ⟨d,0,none⟩)] 23)).alloc (.cells #[.int .i64 x] 3)).alloc (.cells #[.string lo] 9)).alloc (.cells #[.string hi] 9))
 have B1:Below w.heap.size w W1:=hW1▸(((bA _ _).alloc (by simp) _).alloc (by simp;omega) _).alloc (by simp;omega) _
 have x0:W1.heap[w.heap.size]?=some (.cells #[.pointer (some ⟨d,0,none⟩)] 23):=hW1▸aB _ (aB _ (aB _ (aA w _)))
 have x1:W1.heap[w.heap.size+1]?=some (.cells #[.int .i64 x] 3):=by
  rw [← hW1];refine aB _ (aB _ ?_);have:=aA (w.alloc (.cells #[.pointer (some ⟨d,0,none⟩)] 23)) (.cells #[.int .i64 x] 3);simpa using this
 have x2:W1.heap[w.heap.size+1+1]?=some (.cells #[.string lo] 9):=by
  rw [← hW1];refine aB _ ?_;have:=aA ((w.alloc (.cells #[.pointer (some ⟨d,0,none⟩)] 23)).alloc (.cells #[.int .i64 x] 3)) (.cells #[.string lo] 9);simpa using this
 have x3:W1.heap[w.heap.size+1+1+1]?=some (.cells #[.string hi] 9):=by
  rw [← hW1];have:=aA (((w.alloc (.cells #[.pointer (some ⟨d,0,none⟩)] 23)).alloc (.cells #[.int .i64 x] 3)).alloc (.cells #[.string lo] 9)) (.cells #[.string hi] 9);simpa using this
 have HK:Hid (∀ X,Below W1.heap.size W1 X→X.cell? ⟨w.heap.size+1+1,0,none⟩=some (.string lo)∧X.cell? ⟨w.heap.size+1+1+1,0,none⟩=some (.string hi)∧X.setCell ⟨w.heap.size+1+1,0,none⟩ (.string lo)=X∧X.setCell ⟨w.heap.size+1+1+1,0,none⟩ (.string hi)=X∧(∀ k,X.frozen? ⟨w.heap.size+1+1,k,none⟩=false)∧∀ k,X.frozen? ⟨w.heap.size+1+1+1,k,none⟩=false):=fun X hX=>by
  have y2:=(hX.block _ (gL x2)).trans x2
  have y3:=(hX.block _ (gL x3)).trans x3
  exact⟨bF y2,bF y3,gI y2 rfl,gI y3 rfl,aD y2,aD y3⟩
 have HC:Hid (∀ (s:ByteArray) X,s.size≤24→Calls Tryz.prog 47 #[.string s] X fun e w'=>e=.returned (.string s)∧Below X.heap.size X w'):=fun s X hs=>pM s (by omega) X
 have b0:Below W1.heap.size W1 W1.drew:=(Below.refl _ _).drew
 obtain⟨c2,c3,s2,s3,g2,g3⟩:=HK.out W1.drew b0
 have hA:=HC.out lo W1.drew hlo
 have hB:=HC.out hi W1.drew hhi
 have HF:Hid (∀ X,Below W1.heap.size W1 X→X.heap[w.heap.size]?=some (.cells #[.pointer (some ⟨d,0,none⟩)] 23)∧X.heap[w.heap.size+1]?=some (.cells #[.int .i64 x] 3)∧X.heap[w.heap.size+1+1]?=some (.cells #[.string lo] 9)∧X.heap[w.heap.size+1+1+1]?=some (.cells #[.string hi] 9)∧Below w.heap.size w X):=fun X hX =>
  ⟨(hX.block _ (gL x0)).trans x0,(hX.block _ (gL x1)).trans x1,(hX.block _ (gL x2)).trans x2,(hX.block _ (gL x3)).trans x3,B1.trans (hX.mono B1.size)⟩
 clear x0 x1 x2 x3 B1
 go_enter Tryz.func29,Tryz.ntmps29
 go_wp2
 go_region_held3 (fun X=>X.cell? ⟨w.heap.size+1+1,0,none⟩=some (.string lo)∧X.cell? ⟨w.heap.size+1+1+1,0,none⟩=some (.string hi))
  ((first|(with_reducible exact⟨c2,c3⟩)|(simp [c2,c3])))
  (first
   | (go_at_call 47;(with_reducible refine jC hA ?_);rintro e X1 ⟨rfl,hb1⟩;clear hA;have b1:=b0.trans hb1;clear b0;have b0:=b1;clear c2 c3 s2 s3 g2 g3;obtain⟨c2,c3,s2,s3,g2,g3⟩:=HK.out X1 b0;have hB:=HC.out hi X1 hhi;have hA:=HC.out lo X1 hlo)
   | (go_at_call 47;(with_reducible refine jC hB ?_);rintro e X2 ⟨rfl,hb2⟩;clear hB;have b2:=b0.trans (hb2.mono b0.size);clear b0;have b0:=b2;clear c2 c3 s2 s3 g2 g3;obtain⟨c2,c3,s2,s3,g2,g3⟩:=HK.out X2 b0;have hA:=HC.out lo X2 hlo))
 all_goals
  obtain⟨e0,e1,e2,e3,eB⟩:=HF.out _ b0
  clear HF HK HC c2 c3 s2 s3 g2 g3
  go_wp2
  go_ret
  exact⟨rfl,e0,e1,e2,e3,eB⟩
variable {K:List ByteArray} {Kp:Bl} {ao o:Option (Nat×T)} {b d j m n:Nat} {cs:List Ch} {w wq:World} {wr:Bool} {x:Int}
theorem Bc {fs:Fs} {root:Nat}  (hro:bI fs root o)  (hr:cH cs) (q:Sp):dP o cs q=(aX (dD o) cs).filter (fun x=>q.has x.e.key):=by
 unfold dP
 rw [pR hro,Ri (dX hro) hr q]
theorem Yf {fs:Fs} {root:Nat}  (hro:bI fs root o)  (hr:cH cs) {q:Sp} {x:En} (hx:x∈dP o cs q):q.has x.e.key=true∧gS o cs x.e.key=some x.value:=by
 rw [Bc hro hr,List.mem_filter] at hx
 refine⟨hx.2,?_⟩
 unfold gS
 rw [fJ (by rw [oJ];exact qN _ _ (dX hro) hr)]
 exact⟨x,hx.1,rfl,rfl⟩
theorem qCp {lo hi k:ByteArray} (h:(⟨lo,hi⟩:Sp).has k=true):Op.bytesLess k.toList lo.toList=false∧(hi=⟨#[]⟩∨Op.bytesLess k.toList hi.toList=true):=by
 simp only [Sp.has,le,lt,Sp.below,Bool.and_eq_true,Bool.or_eq_true,Bool.not_eq_true'] at h
 exact⟨h.1,h.2.imp jD.1 id⟩
theorem Yg (h:SkO K n Kp w wq d b j m o ao wr x cs) (hc:kZ K cs) (q:Sp) (most:Nat) (hlo:q.lo.size≤24) (hhi:q.hi.size≤24) (hsm:(dP o cs q).length≤1000000) (hm:most≤9223372036854775807) :
  Calls Tryz.prog 28 #[.pointer (some ⟨d,0,none⟩),.int .i64 x,.string q.lo,.string q.hi,.int .i64 (most:Nat)] wq fun e w'=>∃ v,e=.returned (.tuple #[v,.int .i64 0])∧SkO K n Kp w w' d b j m o ao wr x cs∧Below wq.heap.size wq w'∧w'.ownsRow 0 60 2 v ((dP o cs q).take most).length (cT ((dP o cs q).take most))∧∀ k,v.ownBlock=some k→wq.heap.size≤k:=by
 obtain⟨D,h,⟨t,hts,hx,hwr,htr,hcs,hks⟩,rfl,rfl⟩:=h
 subst hcs
 have hti:D.ts[0]'(by rw [hts];simp)=t:=by simp [hts]
 refine(Bd D x 0 t o q most wq h.db (Fs.well_alive h.well) (htr▸h.store.sure.rooted) h.store.sure.flat (by rw [hts];simp) (by rw [hts];simp) hti (by rw [hts];exact iQ (j:=0) (by simp) (by simp [hx]) (fun m hm h=>by omega)) hc.rise hc.good hc.len hlo hhi hsm hm).mono ?_
 rintro e w' ⟨v,rfl,hD,hF,hrow,hli⟩
 exact⟨v,rfl,⟨D,⟨hD,h.well,h.failed,h.ver,h.root,h.aroot,h.last0,h.last1,h.store,h.new,h.on hF (fun k hk=>h.new k (.inl hk)),h.lies⟩,⟨t,hts,hx,hwr,htr,rfl,hks⟩,rfl,rfl⟩,h.db.still hD hF,hrow,hli⟩
theorem qAm (h:SkO K n Kp w wq d b j m o ao wr x cs) (hc:kZ K cs) (q:Sp) (hlo:q.lo.size≤24) (hhi:q.hi.size≤24) (hsm:(dP o cs q).length≤1000000) (b0 b1 b2 b3:Nat)
  (x0:wq.heap[b0]?=some (.cells #[.pointer (some ⟨d,0,none⟩)] 23)) (x1:wq.heap[b1]?=some (.cells #[.int .i64 x] 3)) (x2:wq.heap[b2]?=some (.cells #[.string q.lo] 9)) (x3:wq.heap[b3]?=some (.cells #[.string q.hi] 9)) (Yn:Bl) (hY:∀ k,Yn k→Kp k) (n0:¬ Yn b0) (n1:¬ Yn b1) (n2:¬ Yn b2) (n3:¬ Yn b3) :
  mT Tryz.prog 55 #[.pointer (some ⟨b0,0,none⟩),.pointer (some ⟨b1,0,none⟩),.pointer (some ⟨b2,0,none⟩),.pointer (some ⟨b3,0,none⟩)] Ie (dP o cs q) (fun k=>k<wq.heap.size∧¬ Yn k) wq:=by
 obtain⟨D,h,⟨t,hts,hx,hwr,htr,hcs,hks⟩,rfl,rfl⟩:=h
 subst hcs
 have hti:D.ts[0]'(by rw [hts];simp)=t:=by simp [hts]
 have lt:∀ {k:Nat} {ob:Obj},wq.heap[k]?=some ob→k<wq.heap.size:=fun h=>(gL h)
 exact Wt D x 0 t o q b0 b1 b2 b3 _ wq h.db (Fs.well_alive h.well) (htr▸h.store.sure.rooted) h.store.sure.flat (by rw [hts];simp) (by rw [hts];simp) hti (by rw [hts];exact iQ (j:=0) (by simp) (by simp [hx]) (fun m hm h=>by omega)) hc.rise hc.good hc.len hlo hhi hsm x0 x1 x2 x3 ⟨lt x0,n0⟩ ⟨lt x1,n1⟩ ⟨lt x2,n2⟩ ⟨lt x3,n3⟩ (fun k hk=>⟨h.db.lies k hk,fun hy=>h.new k hk (hY k hy)⟩)
theorem SkO.within {w wq W:World}      (h:SkO K n Kp w wq d b j m o ao wr x cs) {Yn:Bl} (hY:∀ k,Yn k→Kp k) (hF:Fr Yn wq W):SkO K n (fun _=>False) W W d b j m o ao wr x cs:=by
 obtain⟨D,h,r⟩:=h
 exact⟨D,⟨h.db.on (hF.on (fun k hk=>⟨h.db.lies k hk,fun hy=>h.new k hk (hY k hy)⟩)),h.well,h.failed,h.ver,h.root,h.aroot,h.last0,h.last1,h.store,fun _ _ h=>h,On.refl _ _,fun _ h=>h.elim⟩,r⟩
theorem qFa (h:SkO K n Kp w wq d b j m o ao wr x cs) (hc:kZ K cs) (key:ByteArray) (hk1:1≤key.size) (hk2:key.size≤24) (l:List UInt8) (hs:gS o cs key=some l) :
  Calls Tryz.prog 30 #[.pointer (some ⟨d,0,none⟩),.int .i64 x,.string key] wq fun e w'=>e=.returned (.tuple #[.string ⟨l.toArray⟩,.int .i64 0])∧Below wq.heap.size wq w':=by
 obtain⟨D,h,⟨t,hts,hx,hwr,htr,hcs,hks⟩,rfl,rfl⟩:=h
 subst hcs
 have hti:D.ts[0]'(by rw [hts];simp)=t:=by simp [hts]
 refine(Jc D x 0 t o key wq h.db (Fs.well_alive h.well) (htr▸h.store.sure.rooted) h.store.sure.flat (by rw [hts];simp) (by rw [hts];simp) hti (by rw [hts];exact iQ (j:=0) (by simp) (by simp [hx]) (fun m hm h=>by omega)) hc.rise hc.good hc.len hk1 hk2).mono ?_
 rintro e w' ⟨v,z,rfl,hD,hF,hR⟩
 rcases hR with⟨h1,_⟩|⟨l',h1,rfl,rfl⟩
 ·rw [hs] at h1;cases h1
 ·rw [hs] at h1;cases h1;exact⟨rfl,h.db.still hD hF⟩
