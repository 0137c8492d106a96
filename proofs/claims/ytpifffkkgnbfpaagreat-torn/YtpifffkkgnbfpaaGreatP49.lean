import Derived.Test.YtpifffkkgnbfpaaGreatP38
import Derived.Test.YtpifffkkgnbfpaaGreatP47
import Derived.Test.YtpifffkkgnbfpaaGreatP46
import Derived.Test.YtpifffkkgnbfpaaGreatP48
set_option linter.unusedSimpArgs false
set_option linter.unusedVariables false
set_option maxRecDepth 100000
set_option maxHeartbeats 8000000
namespace Go.Proofs.YtpifffkkgnbfpaaGreat.Tree
open Go.RowKit Pages
variable {K:List ByteArray} {Kp:Bl} {ao o:Option (Nat×T)} {b d j n:Nat} {cs:List Ch} {w wq:World}
def SkD (K:List ByteArray) (n:Nat) (Kp:Bl) (w wq:World) (d b j:Nat) (o ao:Option (Nat×T)) (x:Int) (cs:List Ch):Prop:=∃ D,aN wq 0 D∧D.fs.dy∧D.failed=false∧D.ver=j∧D.root=rootOf o∧D.aroot=rootOf ao∧dV K n D.fs j o ao∧(∀ k,fpD D k→¬ Kp k)∧On Kp w wq∧(∀ k,Kp k→k<w.heap.size)∧(∃ t,D.ts=[t]∧t.num=x∧t.cs=cs∧t.ks=[])∧D.d=d∧D.β=b
theorem qFy {d b j m:Nat}  {wr:Bool} {x:Int}  (h:SkO K n Kp w wq d b j m o ao wr x cs) (c:Nat) (hc:c≤1000000) :
  Calls Tryz.prog 27 #[.pointer (some ⟨b,0,none⟩),.int .i64 (c:Nat)] wq fun e w'=>(∃ v,e=.returned v)∧SkD K n Kp w w' d b j o ao x cs:=by
 obtain⟨D,h,⟨t,hts,hx,hwr,htr,hcs,hks⟩,rfl,rfl⟩:=h
 refine(qDr D.β D.sv D.lv D.fs c wq h.db.file (by omega)).mono ?_
 rintro e w' ⟨he,hf,hF⟩
 have hD:=h.db.refile hf (hF.mono (fun k hk=>.inl (.inl hk)))
 exact⟨he,_,hD,⟨h.well.1,by show (-1:Int)≤(c:Nat);omega,by show ((c:Nat):Int)≤_;omega⟩,h.failed,h.ver,h.root,h.aroot,h.store.keep (fr:=[]) h.store.late h.store.len h.store.size (fun _ _=>rfl) (by simp) (by simp) (by simp),h.new,h.on hF (fun k hk=>h.new k (.inr (.inl (.inl hk)))),h.lies,⟨t,hts,hx,hcs,hks⟩,rfl,rfl⟩
def Left (K:List ByteArray) (n:Nat) (fs:Fs) (j:Nat) (o:Option (Nat×T)) (cs:List Ch) (r:Bool):Prop:=∃ j1 o1,(zV K n fs j1 o1∨∃ ao1,dV K n fs j1 o1 ao1)∧((r=false∧j1=j∧o1=o)∨((j1=j+1∨(r=true∧j1=j))∧(cQ o1).map En.kv=(bD (cQ o) cs).map En.kv))
def FB (A:Fs→Prop) (Kp:Bl) (w wq:World) (b:Nat):Prop:=∃ sv lv fs,aG wq b sv lv fs∧A fs∧(∀ k,fpF b sv lv k→¬ Kp k)∧On Kp w wq∧∀ k,Kp k→k<w.heap.size
theorem FB.kept {A:Fs→Prop}    (h:FB A Kp w wq b):On Kp w wq:=by
 obtain⟨_,_,_,_,_,_,h,_⟩:=h
 exact h
theorem FB.left {r:Bool} (h:FB (fun fs=>Left K n fs j o cs r∧fs.well) Kp w wq b):∃ j1 o1,FB (fun fs=>(zV K n fs j1 o1∨∃ ao,dV K n fs j1 o1 ao)∧fs.well) Kp w wq b∧((r=false∧j1=j∧o1=o)∨((j1=j+1∨(r=true∧j1=j))∧(cQ o1).map En.kv=(bD (cQ o) cs).map En.kv)):=by
 obtain⟨sv,lv,fs,hf,⟨⟨j1,o1,hS,hor⟩,hw⟩,r⟩:=h
 exact⟨j1,o1,⟨sv,lv,fs,hf,⟨hS,hw⟩,r⟩,hor⟩
theorem qFi (hK:KOk K n)     {x:Int}  (h:SkD K n Kp w wq d b j o ao x cs) (hc:lT K cs) (hj:j≤1000000) :
  ∃ r:Bool,Calls Tryz.prog 26 #[.pointer (some ⟨d,0,none⟩),.int .i64 x] wq fun e w'=>e=.returned (.int .i64 (if r then 0 else 9))∧FB (fun fs=>Tidy fs∧∀ fs2:Fs,fW fs.safe fs.late fs2.safe→fs2.late=[]→Left K n fs2 j o cs r) Kp w w' b:=by
 obtain⟨D,hD,hdy,hfd,hv,hr,har,S,hnew,hon,hlies,⟨t,hts,hx,hcs,hks⟩,rfl,rfl⟩:=h
 have hF':∀ {D':Db} {w':World},Fr (fpD D) wq w'→aJ wq (fpD D) (fpD D')→(∀ k,fpF D'.β D'.sv D'.lv k→¬ Kp k)∧On Kp w w':=fun hF hG=>by
  refine⟨fun k hk hp=>?_,hon.trans (hF.on (fun k hk=>⟨jY (hlies k hk) hon.size,fun e=>hnew k e hk⟩))⟩
  rcases hG k (.inr (.inl hk)) with h1|h1
  ·exact hnew k h1 hp
  ·have:=hlies k hp
   have:=hon.size
   omega
 by_cases hne:cs=[]
 ·subst hne
  refine⟨true,(Oq D x t wq hD hts hx hcs).mono ?_⟩
  rintro e w' ⟨z,D',rfl,hD',hd,hF,hG,rfl,g,c,hov,rfl⟩
  obtain⟨h1,h2⟩:=hF' hF hG
  refine⟨rfl,D.sv,D.lv,D.fs,hD'.file,⟨S.tidy,fun fs2 hcr hl=>?_⟩,h1,h2,hlies⟩
  rw [S.late] at hcr
  have e:=Dy hcr S.size
  exact⟨j,o,.inr ⟨ao,S.keep (fr:=[]) hl (by rw [e];exact S.len) (by rw [e];exact S.size) (fun p _=>by rw [kU hl,kU S.late,e]) (by simp) (by simp) (by simp)⟩,.inr ⟨.inr ⟨rfl,rfl⟩,by rw [jH (dB S.sure.rooted)]⟩⟩
 ·subst hcs
  have hne':0<t.cs.length:=List.length_pos_iff.2 hne
  obtain⟨hP,hA⟩:=Ai (K:=K) (n:=n) (fs:=D.fs) (o:=o) (cs:=t.cs) (os:=[o,ao]) S.len hK.small (fun o' ho'=>by
   rcases List.mem_cons.1 ho' with rfl|ho'
   ·exact S.sure
   ·rw [List.mem_singleton] at ho';subst ho';exact S.ahead) (by simp) hc.rise hc.good hc.keys hK.k24 hK.ksum (by simp only [jB,jN];exact hK.room)
  have hn40:=hK.n40
  rw [← S.len] at hA
  have hP':nK K n D.fs o t.cs (eJ D.fs.safe.length (dF [o,ao])):=by rw [S.len];exact hP
  obtain⟨_,_,_,c4,_⟩:=gM S hP' (by omega) (by omega)
  obtain⟨⟨r,fs'⟩,hRR⟩:∃ R,D.fs.sureA (bQ o t.cs (eJ D.fs.safe.length (dF [o,ao]))).2 ((j+1) % 2) (aY (j+1:Nat) (rootOf (bQ o t.cs (eJ D.fs.safe.length (dF [o,ao]))).1:Nat))=R:=⟨_,rfl⟩
  have hFo:=Vb S hP' (hA ao (by simp)) (by omega) (by omega) hRR
  refine⟨r,(qGb (K:=K) (n:=n) D x j o ao t wq hD hts hx hne' hks hc.len hdy hfd hv (by omega) S (by omega) hr har hP' r fs' hRR).mono ?_⟩
  rintro e w' ⟨z,D',rfl,hD',hd,hF,hG,rfl,rfl,hβ⟩
  obtain⟨h1,h2⟩:=hF' hF hG
  rw [← hβ]
  refine⟨rfl,D'.sv,D'.lv,D'.fs,hD'.file,⟨hFo.tidy,fun fs2 hcr hl=>?_⟩,h1,h2,hlies⟩
  have hAf:=hFo.aft fs2 hcr hl
  cases hAf with
  | old h=>exact⟨j,o,.inr ⟨ao,h⟩,.inl ⟨rfl,rfl,rfl⟩⟩
  | torn h=>exact⟨j,o,.inl h,.inl ⟨rfl,rfl,rfl⟩⟩
  | new b h=>exact⟨j+1,_,.inr ⟨o,h⟩,.inr ⟨.inl rfl,c4⟩⟩
theorem qDs {A:Fs→Prop}    (h:FB (fun fs=>Tidy fs∧∀ fs2:Fs,fW fs.safe fs.late fs2.safe→fs2.late=[]→A fs2) Kp w wq b) (ka:Option Addr) (kc:Nat) (keep:List Int) (B:Nat) (hR:cT wq B ka (keep.map (.int .i64))) (hB:∀ k,k<B→Kp k) (hn:keep.length≤9223372036854775807) :
  Calls Tryz.prog 15 #[.pointer (some ⟨b,0,none⟩),.slice ka keep.length kc] wq fun e w'=>(∃ v,e=.returned v)∧FB (fun fs=>A fs∧fs.well) Kp w w' b:=by
 obtain⟨sv,lv,fs,hf,⟨hT,hA⟩,hnew,hon,hlies⟩:=h
 refine(Ya b sv lv fs ka kc keep (fun k=>k<B) wq hf (fun p hp=>hT.size _ (List.getElem_mem hp)) hT.late hT.fits hR (fun k hk=>⟨jY (hlies k (hB k hk)) hon.size,fun e=>hnew k e (hB k hk)⟩) hn).mono ?_
 rintro e w' ⟨he,safe',hcr,hf',hF⟩
 refine⟨he,sv,_,_,hf',⟨hA _ hcr rfl,rfl,rfl⟩,fun k hk=>?_,hon.trans (hF.on (fun k hk=>⟨jY (hlies k hk) hon.size,fun e=>hnew k e hk⟩)),hlies⟩
 rcases hk with hk|hk|hk
 ·exact hnew k (.inl hk)
 ·exact hnew k (.inr (.inl hk))
 ·simp [Value.ownBlock] at hk
theorem qEu (h:FB (fun fs=>(zV K n fs j o∨∃ ao,dV K n fs j o ao)∧fs.well) Kp w wq b) (hn:40≤n) (hj:j≤1000000) :
  Calls Tryz.prog 16 #[.pointer (some ⟨b,0,none⟩)] wq fun e w'=>∃ d ao,e=.returned (.tuple #[.pointer (some ⟨d,0,none⟩),.int .i64 0])∧SkL K n Kp w w' d b j 0 o ao:=by
 obtain⟨sv,lv,fs,hf,⟨hS,hw⟩,hnk,ho,hl⟩:=h
 rcases hS with hS|⟨ao,hS⟩
 ·refine(Zx hS.sole hn hw b sv lv wq hf).mono ?_
  rintro e w' ⟨D,rfl,hD,h1,h2,h3,h4,h5,h6,h7,h8,h9,hF,hG⟩
  refine⟨_,o,rfl,D,⟨hD,h3▸hw,h7,h4,h5,h6,by rw [h8];exact Int.le_refl _,by rw [h8];exact Int.le_refl _,h3▸hS.sole.store (by omega) (by omega),fun k hk hp=>?_,ho.trans (hF.on (fun k hk=>⟨jY (hl k hk) ho.size,fun e=>hnk k e hk⟩)),hl⟩,h9,rfl,h1⟩
  rcases hG k hk with h'|h'
  ·exact hnk k h' hp
  ·have:=hl k hp
   have:=ho.size
   omega
 ·refine(Zw ⟨sv,lv,fs,hf,hS,hw,hnk,ho,hl⟩ hn).mono ?_
  rintro e w' ⟨d,he,h⟩
  exact⟨d,ao,he,h⟩
theorem SkL.tells {d b j m:Nat}  {xs:List En} {th:List Bool} {vs:List ByteArray} (h:SkL K n Kp w wq d b j m o ao) (ht:Told xs th vs) (hkv:(cQ o).map En.kv=xs.map En.kv):Told (cQ o) th vs:=by
 obtain⟨D,hD,_⟩:=h
 exact ht.kv hkv (dB hD.store.sure.rooted)
theorem Uv (ra la ka:Option Addr) (rc lc kc:Nat) (raw last keep:List Int) (die:Int) (w:World) (hR:iF w w.heap.size ra rc raw) (hL:iF w w.heap.size la lc last) (hK:iF w w.heap.size ka kc keep) (hd0 : -9223372036854775808≤die) (hd1:die≤9223372036854775807) :
  Calls Tryz.prog 7 #[.slice ra raw.length rc,.slice la last.length lc,.int .i64 die,.slice ka keep.length kc] w fun e w'=>e=.returned (.bool true)∧Below w.heap.size w w':=by
 have hFr:=Jv (n:=400) (by omega) (by omega) w
 have HR:Hid (iF w w.heap.size ra rc raw):=hR
 have HL:Hid (iF w w.heap.size la lc last):=hL
 have HK:Hid (iF w w.heap.size ka kc keep):=hK
 clear hR hL hK
 go_enter Tryz.func7,Tryz.ntmps7
 go_wp2_with (go_at_call 10;(with_reducible refine jC hFr ?_);rintro e X0 ⟨d0,b0,rfl,hL0⟩)
 clear hFr
 have HB0:Hid (oL 400 (Bl.or (fun k=>k<w.heap.size) (Bl.one X0.heap.size)) (X0.alloc fI) d0 b0 0 0 none none X0.heap.size (List.replicate 12 false) (List.replicate 12 ⟨#[]⟩)):=⟨hL0.make fI,pM X0,.inr rfl,told_none⟩
 have HO0:Hid (On (fun k=>k<w.heap.size) w (X0.alloc fI)):=hL0.kept.alloc (fun k hk=>jY hk hL0.kept.size) _
 have HQ:Hid (w.heap.size≤X0.heap.size):=hL0.kept.size
 obtain⟨q,hq⟩:=nM (X0.heap.size)
 rw [hq] at HB0 HQ ⊢
 clear hL0 hq
 go_loopw [12] (fun i wr=>∃ (k j m:Nat) (o ao:Option (Nat×T)) (th:List Bool) (vs:List ByteArray),i=.int .i64 k∧k≤3∧j≤k∧m≤k∧Hid (oL 400 (Bl.or (fun k=>k<w.heap.size) (Bl.one q)) wr d0 b0 j m o ao q th vs)∧Hid (On (fun k=>k<w.heap.size) w wr)) (fun i _=>3-(intOf i).toNat)
 case atStart=>exact⟨0,0,0,none,none,_,_,rfl,by omega,by omega,by omega,HB0,HO0⟩
 case round =>
  obtain⟨k,j,m,o,ao,th,vs,rfl,hk3,hjk,hmk,HB,HO⟩:=hrel
  clear HB0 HO0
  by_cases hlt:k<3
  ·have hki:(k:Int)<3:=by omega
   have hP1:=Jl (HR.out.on HO.out) k 6 (by omega) (by omega)
   rw [show ((6:Nat):Int)=6 from rfl] at hP1
   go_wp2_with (first
    | (go_at_call 12;(with_reducible refine jC hP1 ?_);rintro e X ⟨ra1,rc1,rfl,hR1,hX⟩;subst X;have hCm:=uI (kOk (n:=400) (by omega) (by omega)) HB.out (by omega) (by omega) ra1 rc1 (iQ raw k 6) w.heap.size hR1 (fun i hi=>⟨.inl hi,fun e=>by have:=HQ.out;omega⟩) (fun x hx=>HR.out.i64 x (wW hx));clear hP1)
    | (go_at_call 11;(with_reducible refine jC hCm ?_);rintro e X1 ⟨rfl,j1,o1,ao1,th1,vs1,hB1,hj1,hO1⟩;clear hCm))
   exact⟨⟨k+1,j1,m+1,o1,ao1,th1,vs1,by go_num,by omega,by omega,by omega,hB1,HO.out.trans (hO1.mono (fun i hi=>⟨.inl hi,fun e=>by have:=HQ.out;omega⟩))⟩,by simp [intOf];omega⟩
  ·obtain rfl:k=3:=by omega
   have hV:=Sx HB.out.st
   go_wp2_with (first
    | (go_at_call 17;(with_reducible refine jC hV ?_);rintro e X1 ⟨rfl,hS1⟩;have x1:bI X1 q th vs:=HB.out.book.on hS1.kept HB.out.own;have xz:=pM X1;clear hV)
    | (refine nL rfl (.tmp 11) rfl q rfl x1 ?_)
    | (refine wN rfl (.tmp 15) (.tmp 43) rfl X1.heap.size rfl rfl xz x1.lt x1.lv ?_;intro X3 hB3 hF3;have hBg:=Km ((hS1.make fI).touch hF3 (.inr rfl)) true (by omega))
    | (go_at_call 18;(with_reducible refine jC hBg ?_);rintro e X4 ⟨x,rfl,hS4⟩))
   have hz1:wr.heap.size≤X1.heap.size:=hS1.kept.size
   have hKl:=HB.out.st.below
   have hbA:Below X1.heap.size X1 (X1.alloc fI):=bA _ _
   have HO3:Hid (On (Bl.or (fun k=>k<w.heap.size) (Bl.one q)) wr X3):=(hS1.kept.trans (vV hbA (fun k hk=>jY (hKl k hk) hz1))).trans (hF3.on (fun k hk=>⟨jY (hKl k hk) (vJ hz1 hbA.size),fun e=>by simp only [Bl.one] at e;have:=hKl k hk;omega⟩))
   have HO4:Hid (On (Bl.or (fun k=>k<w.heap.size) (Bl.one q)) wr X4):=HO3.out.trans (hS4.kept.mono (fun i hi=>.inl hi))
   obtain⟨nq,hnq⟩:=nM (X1.heap.size)
   have HNQ:Hid (∀ k,(Bl.or (fun k=>k<w.heap.size) (Bl.one q)) k→k<nq):=fun k hk=>by have:=hKl k hk;omega
   have HD4:Hid (nF 400 (Bl.or (Bl.or (fun k=>k<w.heap.size) (Bl.one q)) (Bl.one nq)) X4 d0 b0 j (m+1) o ao x [] nq th vs):=by
    rw [hnq] at hS4 hB3
    exact⟨hS4.now,⟨.nil,by simp,by simp,by simp⟩,hB3.on hS4.kept (.inr rfl),.inr rfl,by rw [jH HB.out.told.rise];exact HB.out.told⟩
   rw [hnq]
   clear hS1 x1 xz hB3 hF3 hbA hz1 hKl hBg hS4 HO3 hnq
   go_loopw [18] (fun i wq=>∃ (k:Nat) (cs:List Ch) (th':List Bool) (vs':List ByteArray),i=.int .i64 k∧k≤8∧Hid (nF 400 (Bl.or (Bl.or (fun k=>k<w.heap.size) (Bl.one q)) (Bl.one nq)) wq d0 b0 j (m+1) o ao x cs nq th' vs')∧cs.length≤k∧Hid (On (Bl.or (fun k=>k<w.heap.size) (Bl.one q)) wr wq)) (fun i _=>8-(intOf i).toNat)
   case atStart=>exact⟨0,[],th,vs,rfl,by omega,HD4,by simp,HO4⟩
   case round =>
    obtain⟨k,cs,th',vs',rfl,hk8,HD,hcl,HOq⟩:=hrel
    clear HD4 HO4
    have HOw:Hid (On (fun k=>k<w.heap.size) w wr):=HO.out.trans (HOq.out.mono (fun i hi=>.inl hi))
    by_cases hlt:k<last.length∧k<8
    ·have hk1:(k:Int)<(last.length:Int):=by omega
     have hk2:(k:Int)<8:=by omega
     obtain⟨y,hy⟩:=nM (last[k]'hlt.1)
     have hyr:=HL.out.i64 y (hy▸List.getElem_mem hlt.1)
     rcases (HL.out.on HOw.out).row with hR'|⟨rb,off,rfl,hrb,hRc⟩
     ·have h0:(last.map (Value.int .i64)).length=0:=by rw [hR'];rfl
      rw [List.length_map] at h0
      omega
     have hcell:wr.cell? ⟨rb,off+k,none⟩=some (.int .i64 y):=hRc k _ (by rw [List.getElem?_map,jQ hlt.1,hy];rfl)
     have hDe:=Oe HD.out y hyr.1 hyr.2 (by omega)
     have hlcp:last.length≤lc:=HL.out.cap
     clear hy hyr hRc
     go_wp2_with (go_at_call 19;(with_reducible refine jC hDe ?_);rintro e X5 ⟨rfl,cs2,th2,vs2,hD2,hl2,ho2⟩)
     exact⟨⟨k+1,cs2,th2,vs2,by go_num,by omega,hD2,by omega,HOq.out.trans (ho2.mono (fun i hi=>⟨.inl hi,fun e=>by subst e;have:=HNQ.out _ hi;omega⟩))⟩,by simp [intOf];omega⟩
    ·obtain⟨c,hc⟩:∃ c:Nat,kB die 40=c:=⟨(kB die 40).toNat,(Int.toNat_of_nonneg (dI die 40 (by omega)).1).symm⟩
     have hc40:c<40:=by have:=(dI die 40 (by omega)).2;omega
     have HPk:Hid (∀ X,Calls Tryz.prog 22 #[.int .i64 die,.int .i64 40] X fun e w'=>e=.returned (.int .i64 (c:Nat))∧w'=X):=fun X=>by rw [← hc];exact mL die 40 X hd0 hd1 (by omega)
     have hPk:=HPk.out wr
     have hDi:=qFy HD.out.st c (by omega)
     have hw:IntKind.i64.wrap ((j:Int)+1)=(j:Int)+1:=by rw [IntKind.wrap_i64];omega
     have hKn:keep.length≤9223372036854775807:=vJ HK.out.cap HK.out.big
     clear hc
     rcases (by omega:last.length≤k∨(k<last.length∧8≤k)) with hx|hx
     all_goals
      have hx1:(last.length:Int)≤(k:Int)∨((k:Int)<(last.length:Int)∧(8:Int)≤(k:Int)):=by omega
      go_wp2_with (first
       | (go_at_call 22;(with_reducible refine jC hPk ?_);rintro e X ⟨rfl,hX⟩;subst X;clear hPk)
       | (go_at_call 27;(with_reducible refine jC hDi ?_);rintro e X5 ⟨⟨v5,rfl⟩,hS5⟩;obtain⟨r,hCm⟩:=qFi (kOk (n:=400) (by omega) (by omega)) hS5 HD.out.ok (by omega);clear hDi hS5;cases r)
       | (go_at_call 26;(with_reducible refine jC hCm ?_);rintro e X6 ⟨rfl,hB6⟩;have hCr:=qDs hB6 ka kc keep w.heap.size (HK.out.on (HOw.out.trans (hB6.kept.mono (fun i hi=>.inl (.inl hi))))).row (fun i hi=>.inl (.inl hi)) hKn;clear hCm hB6)
       | (go_at_call 15;(with_reducible refine jC hCr ?_);rintro e X7 ⟨⟨v7,rfl⟩,hF7⟩;obtain⟨j1,o1,hB7,hor⟩:=hF7.left;have hOp:=qEu hB7 (by omega) (by omega);clear hCr hF7 hB7)
       | (go_at_call 16;(with_reducible refine jC hOp ?_);rintro e X8 ⟨d8,ao8,rfl,hS8⟩;have hV8:=Sx hS8;clear hOp)
       | (go_at_call 17;(with_reducible refine jC hV8 ?_);rintro e X9 ⟨rfl,hS9⟩;clear hV8;have y9:=HD.out.book.on hS9.kept (.inr rfl);have z9:=(HB.out.book.on HOq.out (.inr rfl)).on hS9.kept (.inl (.inr rfl));(rcases hor with⟨hr,hj1,ho1⟩|⟨hj1|⟨hr,hj1⟩,hkv⟩)<;>(first|(exact absurd hr (by decide))|(have hSh:=jD hS9 th vs (ho1▸HB.out.told) (by omega);subst hj1)|(have hSh:=jD hS9 th' vs' (hS9.tells HD.out.told hkv) (by omega);subst hj1)))
       | (refine nL rfl (.tmp 15) rfl nq rfl y9 ?_)
       | (refine lV rfl (.tmp 15) rfl nq rfl y9 ?_)
       | (refine lV rfl (.tmp 11) rfl q rfl z9 ?_)
       | (go_at_call 13;(with_reducible refine jC hSh ?_);rintro e X10 ⟨rfl,hS10⟩))
      all_goals
       go_ret
       have hOf:=HOw.out.trans (hS10.kept.mono (fun i hi=>.inl (.inl hi)))
       exact⟨rfl,hOf.os,hOf.tape,hOf.output,hOf.size,hOf.block⟩
