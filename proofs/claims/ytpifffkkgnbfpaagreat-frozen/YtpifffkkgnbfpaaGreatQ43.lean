import Derived.Test.YtpifffkkgnbfpaaGreatQ38
import Derived.Test.YtpifffkkgnbfpaaGreatQ39
import Derived.Test.YtpifffkkgnbfpaaGreatQ42
set_option linter.unusedSimpArgs false
set_option linter.unusedVariables false
set_option maxRecDepth 100000
set_option maxHeartbeats 8000000
namespace Go.Proofs.YtpifffkkgnbfpaaGreat.Tree
open Go.RowKit Pages
variable {Kp:Bl} {ao o oh:Option (Nat×T)} {b d j m q r:Nat} {th ths:List Bool} {u:Ut} {vs vss:List ByteArray} {wq:World} {write:Bool} {x z:Int}
theorem SkL.g {K:List ByteArray} {n:Nat}  {w wq:World}   (h:SkL K n Kp w wq d b j m o ao):∃ z:Int,0≤z∧z≤(m:Nat)∧SkG K n Kp w wq d b j m z o ao []:=by
 obtain⟨D,h,hi,rfl,rfl⟩:=h
 exact⟨D.last,h.last0,h.last1,D,h,⟨by rw [hi];rfl,fun i hi' _=>by rw [hi] at hi';simp at hi',.nil,by simp⟩,rfl,rfl,rfl⟩
structure kN (Kp:Bl) (wq:World) (d b j m:Nat) (z:Int) (o ao:Option (Nat×T)) (u:Ut) (q r:Nat) (th:List Bool) (vs:List ByteArray) (ths:List Bool) (vss:List ByteArray) (x:Int) (write:Bool) (oh:Option (Nat×T)):Prop where
 st:SkG aU 600 Kp wq wq d b j m z o ao [u]
 x:u.x=x
 wr:u.wr=write
 ot:u.ot=oh
 ok:kZ aU u.cs
 bq:bG wq q th vs
 tq:Told (dD o) th vs
 br:bG wq r ths vss
 tr:Told (aX (dD oh) u.cs) ths vss
theorem kN.grow {wq w':World} {d b j m j' m':Nat} {z z':Int} {o ao o' ao':Option (Nat×T)}   {th th':List Bool} {vs vs':List ByteArray}      (h:kN Kp wq d b j m z o ao u q r th vs ths vss x write oh) {us':List Ut} (hB:yW 600 Kp w' d b j' m' z' o' ao' us' q th' vs') (hS:Ia [u] us') (hO:On (fun k=>Kp k∧k≠q) wq w') (hr:Kp r) (hn:r≠q):∃ u',kN Kp w' d b j' m' z' o' ao' u' q r th' vs' ths vss x write oh∧u'.cs=u.cs:=by
 obtain⟨f,hf,rfl⟩:=hS
 obtain⟨f1,f2,f3,f4⟩:=hf u
 exact⟨f u,⟨hB.st,f1.trans h.x,f2.trans h.wr,f3.trans h.ot,by rw [f4];exact h.ok,hB.book,hB.told,h.br.on hO ⟨hr,hn⟩,by rw [f4];exact h.tr⟩,f4⟩
theorem kN.deed (h:kN Kp wq d b j m z o ao u q r th vs ths vss x true oh) (hr:Kp r) (hq:Kp q) (hn:r≠q) (c:Int) (h0 : -9223372036854775808≤c) (h1:c≤9223372036854775807) (hl:u.cs.length<100) :
  Calls Tryz.prog 19 #[.pointer (some ⟨d,0,none⟩),.int .i64 x,.pointer (some ⟨r,0,none⟩),.int .i64 c] wq fun e w'=>e=.returned (.bool true)∧∃ u' ths' vss',kN Kp w' d b j m z o ao u' q r th vs ths' vss' x true oh∧u'.cs.length≤u.cs.length+1∧On (fun k=>Kp k∧k≠r) wq w':=by
 have hD:qI 600 Kp wq d b j m z o ao [u] 0 u r ths vss:=⟨h.st,rfl,by simp,h.wr,h.ok,h.br,hr,by rw [h.ot];exact h.tr⟩
 have:=qAp hD c h0 h1 hl
 rw [h.x] at this
 refine this.mono ?_
 rintro e w' ⟨rfl,us',u',ths',vss',hD',rfl,hx,ho,hk,hle,hO⟩
 exact⟨rfl,u',ths',vss',⟨hD'.st,hx.trans h.x,hD'.wr,ho.trans h.ot,hD'.ok,h.bq.on hO ⟨hq,Ne.symm hn⟩,h.tq,hD'.book,by rw [← h.ot,← ho];exact hD'.told⟩,hle,hO⟩
theorem kN.sees (h:kN Kp wq d b j m z o ao u q r th vs ths vss x write oh) :
  Calls Tryz.prog 20 #[.pointer (some ⟨d,0,none⟩),.int .i64 x,.agg (bookC ths vss)] wq fun e w'=>e=.returned (.bool true)∧SkG aU 600 Kp wq w' d b j m z o ao [u]:=by
 have:=Pi h.st (i:=0) rfl (by simp) h.ok ths vss (by rw [h.ot];exact h.tr)
 rw [h.x] at this
 exact this
theorem kN.to {wq w':World} {d b j m m':Nat} {z z':Int}           (h:kN Kp wq d b j m z o ao u q r th vs ths vss x write oh) (hS:SkG aU 600 Kp wq w' d b j m' z' o ao [u]) (hr:Kp r) (hq:Kp q):kN Kp w' d b j m' z' o ao u q r th vs ths vss x write oh :=
 ⟨hS.now,h.x,h.wr,h.ot,h.ok,h.bq.on hS.kept hq,h.tq,h.br.on hS.kept hr,h.tr⟩
theorem Ui {us:List Ut} (h:Ia [] us):us=[]:=by
 obtain⟨f,_,rfl⟩:=h;rfl
theorem Ms (ra ka:Option Addr) (rc kc:Nat) (raw mine:List Int) (write:Bool) (w:World) (hR:mS w w.heap.size ra rc raw) (hK:mS w w.heap.size ka kc mine) :
  Calls Tryz.prog 4 #[.slice ra raw.length rc,.slice ka mine.length kc,.bool write] w fun e w'=>e=.returned (.bool true)∧Below w.heap.size w w':=by
 have hFr:=Ti (n:=600) (by omega) (by omega) w
 have HR:Hid (mS w w.heap.size ra rc raw):=hR
 have HK:Hid (mS w w.heap.size ka kc mine):=hK
 have hkc:mine.length≤9223372036854775807:=vJ hK.cap hK.big
 clear hR hK
 go_enter Tryz.func4,Tryz.ntmps4
 go_wp2_with (first
  | (go_at_call 10;(with_reducible refine jC hFr ?_);rintro e X0 ⟨d,b,rfl,hL0⟩;obtain⟨z0,hz0,hz1,hG0⟩:=(hL0.make gG).g;have HB0:Hid (yW 600 (Bl.or (fun k=>k<w.heap.size) (Bl.one X0.heap.size)) (X0.alloc gG) d b 0 0 z0 none none [] X0.heap.size (List.replicate 12 false) (List.replicate 12 ⟨#[]⟩)):=⟨hG0,pC X0,.inr rfl,told_none⟩;have HO0:Hid (On (fun k=>k<w.heap.size) w (X0.alloc gG)):=hL0.kept.alloc (fun k hk=>jY hk hL0.kept.size) _;have HQ:Hid (w.heap.size≤X0.heap.size):=hL0.kept.size;have hP0:=Po (HR.out.on HO0.out) 0 8 (by omega) (by omega);rw [show ((8:Nat):Int)=8 from rfl,show ((0:Nat):Int)=0 from rfl] at hP0;clear hFr hG0)
  | (go_at_call 12;(with_reducible refine jC hP0 ?_);rintro e X ⟨ra1,rc1,rfl,hR1,hX⟩;subst X;have hCm:=vM (kOk (n:=600) (by omega) (by omega)) HB0.out (by simp) (by simp) (by omega) (by omega) ra1 rc1 (gT raw 0 8) w.heap.size hR1 (fun i hi=>⟨.inl hi,fun e=>by have:=HQ.out;omega⟩) (fun x hx=>HR.out.i64 x (oI hx));clear hP0)
  | (go_at_call 11;(with_reducible refine jC hCm ?_);rintro e X1 ⟨rfl,j1,o1,ao1,us1,th,vs,hB1,hSm,hj1,hO1⟩;obtain rfl:=Ui hSm;have hBg:=Jp hB1.st write (by omega) (by simp);clear hCm hSm)
  | (go_at_call 18;(with_reducible refine jC hBg ?_);rintro e X2 ⟨rfl,hG2⟩;have x2:bG X2 X0.heap.size th vs:=hB1.book.on hG2.kept (.inr rfl);have xz:=pC X2;clear hBg)
  | (refine gR rfl (.tmp 9) rfl X0.heap.size rfl x2 ?_)
  | (refine nU rfl (.tmp 13) (.tmp 43) rfl X2.heap.size rfl rfl xz x2.lt x2.lv ?_;intro X3 hB3 hF3))
 have hz2:X1.heap.size≤X2.heap.size:=hG2.kept.size
 have hq1:X0.heap.size<X1.heap.size:=(gL hB1.book.box)
 have bA:Below X2.heap.size X2 (X2.alloc gG):=bA _ _
 have o23:∀ {Y:Bl},(∀ k,Y k→k<X2.heap.size)→On Y X2 X3:=fun hY=>(vV bA hY).trans (hF3.on (fun k hk=>⟨jY (hY k hk) bA.size,fun e=>by simp only [Bl.one] at e;have:=hY k hk;omega⟩))
 have HZ3:Hid (kN (Bl.or (Bl.or (fun k=>k<w.heap.size) (Bl.one X0.heap.size)) (Bl.one X2.heap.size)) X3 d b j1 (0+1+1) (z0+1+1) o1 ao1 ⟨z0+1+1,write,o1,[],fun _=>False⟩ X0.heap.size X2.heap.size th vs th vs (z0+1+1) write o1):=⟨(hG2.make gG).touch hF3 (.inr rfl),rfl,rfl,rfl,Dn aU,x2.on (o23 (Y:=Bl.one X0.heap.size) (oK (by omega))) rfl,hB1.told,hB3,by show Told (aX (dD o1) []) th vs;rw [iX hB1.told.rise];exact hB1.told⟩
 have HO3:Hid (On (fun k=>k<w.heap.size) w X3):=((HO0.out.trans (hO1.mono (fun i hi=>⟨.inl hi,fun e=>by have:=HQ.out;omega⟩))).trans (hG2.kept.mono (fun i hi=>.inl hi))).trans (o23 (fun i hi=>by have:=HQ.out;have:i<w.heap.size:=hi;omega))
 obtain⟨q,hq⟩:=nM (X0.heap.size)
 obtain⟨r,hr⟩:=nM (X2.heap.size)
 obtain⟨x,hx⟩:=nM (z0+1+1)
 have hrq:r≠q:=by omega
 have hHQ:=HQ.out
 have HWQ:Hid (w.heap.size≤q∧w.heap.size≤r):=⟨by omega,by omega⟩
 have HRQ:Hid (r≠q):=hrq
 rw [hq,hr,hx] at HZ3 ⊢
 have HJ1:Hid (j1≤0+1):=hj1
 clear hG2 x2 xz hB3 hF3 bA o23 hB1 hO1 HB0 HO0 HQ hL0 hz2 hq1 hq hr hrq hx hj1 hz0 hz1 hR1 hHQ
 go_loopw [14] (fun i wr=>∃ (k j m:Nat) (z:Int) (o ao:Option (Nat×T)) (u:Ut) (th:List Bool) (vs:List ByteArray) (ths:List Bool) (vss:List ByteArray),i=.int .i64 ((k:Int)+1)∧k≤5∧Hid (j≤k+1∧m≤2 * k+2∧u.cs.length≤k)∧Hid (kN (Bl.or (Bl.or (fun k=>k<w.heap.size) (Bl.one q)) (Bl.one r)) wr d b j m z o ao u q r th vs ths vss x write o1)∧Hid (On (fun k=>k<w.heap.size) w wr)) (fun i _=>7-(intOf i).toNat)
 case atStart=>exact⟨0,j1,0+1+1,_,o1,ao1,_,th,vs,th,vs,rfl,by omega,⟨by have:=HJ1.out;omega,by omega,by simp⟩,HZ3,HO3⟩
 case round =>
  obtain⟨k,j,m,z,o,ao,u,th,vs,ths,vss,rfl,hk5,HM,HZ,HO⟩:=hrel
  clear HZ3 HO3 HJ1
  have hw8:IntKind.i64.wrap (8 * ((k:Int)+1))=8 * ((k:Int)+1):=by rw [IntKind.wrap_i64];omega
  have hwk:IntKind.i64.wrap (k:Int)=(k:Int):=by rw [IntKind.wrap_i64];omega
  have hwk1:IntKind.i64.wrap ((k:Int)+1-1)=(k:Int):=by rw [IntKind.wrap_i64];omega
  by_cases hlt:k<5∧8 * (k+1)≤raw.length
  ·have hki:(k:Int)+1<6:=by omega
   have h8i:8 * ((k:Int)+1)≤(raw.length:Int):=by omega
   have hP1:=Po (HR.out.on HO.out) (k+1) 8 (by omega) (by omega)
   rw [show ((8:Nat):Int)=8 from rfl,show ((k+1:Nat):Int)=(k:Int)+1 by simp] at hP1
   cases write with
   | false =>
    go_wp2_with (first
     | (go_at_call 12;(with_reducible refine jC hP1 ?_);rintro e X ⟨ra1,rc1,rfl,hR1,hX⟩;subst X;have hCm:=vM (kOk (n:=600) (by omega) (by omega)) (⟨HZ.out.st,HZ.out.bq,.inl (.inr rfl),HZ.out.tq⟩:yW 600 (Bl.or (Bl.or (fun k=>k<w.heap.size) (Bl.one q)) (Bl.one r)) wr d b j m z o ao [u] q th vs) (by simp) (by show (1+3) * (1+3 * 12)+2≤600;omega) (by have:=HM.out;omega) (by have:=HM.out;omega) ra1 rc1 (gT raw (k+1) 8) w.heap.size hR1 (fun i hi=>⟨.inl (.inl hi),fun e=>by have:=HWQ.out;omega⟩) (fun y hy=>HR.out.i64 y (oI hy));clear hP1)
     | (go_at_call 11;(with_reducible refine jC hCm ?_);rintro e X5 ⟨rfl,j5,o5,ao5,us5,th5,vs5,hB5,hSm,hj5,hO5⟩;obtain⟨u5,hZ5,hcs5⟩:=HZ.out.grow hB5 hSm hO5 (.inr rfl) HRQ.out;have HL5:Hid (u5.cs.length≤k):=(by show _≤_;rw [hcs5];exact HM.out.2.2);have HO5:Hid (On (fun k=>k<w.heap.size) w X5):=HO.out.trans (hO5.mono (fun i hi=>⟨.inl (.inl hi),fun e=>by have:=HWQ.out;have:i<w.heap.size:=hi;omega⟩));have hSe:=hZ5.sees;have xr:=hZ5.br;clear hCm hB5 hSm hcs5 hO5)
     | (refine gR rfl (.tmp 13) rfl r rfl xr ?_)
     | (go_at_call 20;(with_reducible refine jC hSe ?_);rintro e X7 ⟨rfl,hS7⟩;have hZ7:=hZ5.to hS7 (.inr rfl) (.inl (.inr rfl));have HO7:Hid (On (fun k=>k<w.heap.size) w X7):=HO5.out.trans (hS7.kept.mono (fun i hi=>.inl (.inl hi)));have hSh:=zO hZ7.st (by simp) th5 vs5 hZ7.tq (by have:=HM.out;omega);have xq:=hZ7.bq;clear hSe hS7)
     | (refine gR rfl (.tmp 9) rfl q rfl xq ?_)
     | (go_at_call 13;(with_reducible refine jC hSh ?_);rintro e X8 ⟨rfl,hS8⟩;have hZ8:=hZ7.to hS8 (.inr rfl) (.inl (.inr rfl));have HO8:Hid (On (fun k=>k<w.heap.size) w X8):=HO7.out.trans (hS8.kept.mono (fun i hi=>.inl (.inl hi)));clear hSh hS8))
    exact⟨⟨k+1,j5,m+1+1,_,o5,ao5,u5,th5,vs5,ths,vss,by go_num,by omega,⟨by have:=HM.out;omega,by have:=HM.out;omega,by have:=HL5.out;omega⟩,hZ8,HO8⟩,by simp [intOf];omega⟩
   | true =>
    by_cases hmi:k<mine.length
    ·have hmii:(k:Int)<(mine.length:Int):=by omega
     obtain⟨y,hy⟩:=nM (mine[k]'hmi)
     have hyr:=HK.out.i64 y (hy▸List.getElem_mem hmi)
     obtain⟨rb,off,rfl,HCL⟩:∃ rb off,ka=some ⟨rb,off,none⟩∧Hid (∀ X,On (fun k=>k<w.heap.size) w X→X.cell? ⟨rb,off+k,none⟩=some (.int .i64 y)):=by
      rcases HK.out.row with h0|⟨rb,off,rfl,hrb,hRc⟩
      ·have:=congrArg List.length h0
       simp at this
       rw [this] at hmi
       simp at hmi
      ·refine⟨rb,off,rfl,fun X hX=>?_⟩
       rcases cR.onK HK.out.row hX (fun k hk=>hk) with h0|⟨rb',off',he,_,hRc'⟩
       ·have:=congrArg List.length h0
        simp at this
        rw [this] at hmi
        simp at hmi
       ·simp only [Option.some.injEq,Addr.mk.injEq,and_true] at he
        obtain⟨rfl,rfl⟩:=he
        exact hRc' k _ (by rw [List.getElem?_map,jQ hmi,hy];rfl)
     clear hy
     go_wp2_with (first
      | (go_at_call 12;(with_reducible refine jC hP1 ?_);rintro e X ⟨ra1,rc1,rfl,hR1,hX⟩;subst X;have hCm:=vM (kOk (n:=600) (by omega) (by omega)) (⟨HZ.out.st,HZ.out.bq,.inl (.inr rfl),HZ.out.tq⟩:yW 600 (Bl.or (Bl.or (fun k=>k<w.heap.size) (Bl.one q)) (Bl.one r)) wr d b j m z o ao [u] q th vs) (by simp) (by show (1+3) * (1+3 * 12)+2≤600;omega) (by have:=HM.out;omega) (by have:=HM.out;omega) ra1 rc1 (gT raw (k+1) 8) w.heap.size hR1 (fun i hi=>⟨.inl (.inl hi),fun e=>by have:=HWQ.out;omega⟩) (fun y hy=>HR.out.i64 y (oI hy));clear hP1)
      | (go_at_call 11;(with_reducible refine jC hCm ?_);rintro e X5 ⟨rfl,j5,o5,ao5,us5,th5,vs5,hB5,hSm,hj5,hO5⟩;obtain⟨u5,hZ5,hcs5⟩:=HZ.out.grow hB5 hSm hO5 (.inr rfl) HRQ.out;have HL5:Hid (u5.cs.length≤k):=(by show _≤_;rw [hcs5];exact HM.out.2.2);have HO5:Hid (On (fun k=>k<w.heap.size) w X5):=HO.out.trans (hO5.mono (fun i hi=>⟨.inl (.inl hi),fun e=>by have:=HWQ.out;have:i<w.heap.size:=hi;omega⟩));have hDe:=hZ5.deed (.inr rfl) (.inl (.inr rfl)) HRQ.out y hyr.1 hyr.2 (by have:=HL5.out;omega);have hcell:X5.cell? ⟨rb,off+k,none⟩=some (.int .i64 y):=HCL.out X5 HO5.out;clear hCm hB5 hSm hcs5 hO5)
      | (go_at_call 19;(with_reducible refine jC hDe ?_);rintro e X6 ⟨rfl,u6,ths6,vss6,hZ6,hl6,hO6⟩;have HL6:Hid (u6.cs.length≤k+1):=(by have:=HL5.out;show _≤_;omega);have HO6:Hid (On (fun k=>k<w.heap.size) w X6):=HO5.out.trans (hO6.mono (fun i hi=>⟨.inl (.inl hi),fun e=>by have:=HWQ.out;have:i<w.heap.size:=hi;omega⟩));have hSe:=hZ6.sees;have xr:=hZ6.br;clear hDe hl6 hO6)
      | (refine gR rfl (.tmp 13) rfl r rfl xr ?_)
      | (go_at_call 20;(with_reducible refine jC hSe ?_);rintro e X7 ⟨rfl,hS7⟩;have hZ7:=hZ6.to hS7 (.inr rfl) (.inl (.inr rfl));have HO7:Hid (On (fun k=>k<w.heap.size) w X7):=HO6.out.trans (hS7.kept.mono (fun i hi=>.inl (.inl hi)));have hSh:=zO hZ7.st (by simp) th5 vs5 hZ7.tq (by have:=HM.out;omega);have xq:=hZ7.bq;clear hSe hS7)
      | (refine gR rfl (.tmp 9) rfl q rfl xq ?_)
      | (go_at_call 13;(with_reducible refine jC hSh ?_);rintro e X8 ⟨rfl,hS8⟩;have hZ8:=hZ7.to hS8 (.inr rfl) (.inl (.inr rfl));have HO8:Hid (On (fun k=>k<w.heap.size) w X8):=HO7.out.trans (hS8.kept.mono (fun i hi=>.inl (.inl hi)));clear hSh hS8))
     exact⟨⟨k+1,j5,m+1+1,_,o5,ao5,u6,th5,vs5,ths6,vss6,by go_num,by omega,⟨by have:=HM.out;omega,by have:=HM.out;omega,by have:=HL6.out;omega⟩,hZ8,HO8⟩,by simp [intOf];omega⟩
    ·have hmii:¬ ((k:Int)<(mine.length:Int)):=by omega
     go_wp2_with (first
      | (go_at_call 12;(with_reducible refine jC hP1 ?_);rintro e X ⟨ra1,rc1,rfl,hR1,hX⟩;subst X;have hCm:=vM (kOk (n:=600) (by omega) (by omega)) (⟨HZ.out.st,HZ.out.bq,.inl (.inr rfl),HZ.out.tq⟩:yW 600 (Bl.or (Bl.or (fun k=>k<w.heap.size) (Bl.one q)) (Bl.one r)) wr d b j m z o ao [u] q th vs) (by simp) (by show (1+3) * (1+3 * 12)+2≤600;omega) (by have:=HM.out;omega) (by have:=HM.out;omega) ra1 rc1 (gT raw (k+1) 8) w.heap.size hR1 (fun i hi=>⟨.inl (.inl hi),fun e=>by have:=HWQ.out;omega⟩) (fun y hy=>HR.out.i64 y (oI hy));clear hP1)
      | (go_at_call 11;(with_reducible refine jC hCm ?_);rintro e X5 ⟨rfl,j5,o5,ao5,us5,th5,vs5,hB5,hSm,hj5,hO5⟩;obtain⟨u5,hZ5,hcs5⟩:=HZ.out.grow hB5 hSm hO5 (.inr rfl) HRQ.out;have HL5:Hid (u5.cs.length≤k):=(by show _≤_;rw [hcs5];exact HM.out.2.2);have HO5:Hid (On (fun k=>k<w.heap.size) w X5):=HO.out.trans (hO5.mono (fun i hi=>⟨.inl (.inl hi),fun e=>by have:=HWQ.out;have:i<w.heap.size:=hi;omega⟩));have hSe:=hZ5.sees;have xr:=hZ5.br;clear hCm hB5 hSm hcs5 hO5)
      | (refine gR rfl (.tmp 13) rfl r rfl xr ?_)
      | (go_at_call 20;(with_reducible refine jC hSe ?_);rintro e X7 ⟨rfl,hS7⟩;have hZ7:=hZ5.to hS7 (.inr rfl) (.inl (.inr rfl));have HO7:Hid (On (fun k=>k<w.heap.size) w X7):=HO5.out.trans (hS7.kept.mono (fun i hi=>.inl (.inl hi)));have hSh:=zO hZ7.st (by simp) th5 vs5 hZ7.tq (by have:=HM.out;omega);have xq:=hZ7.bq;clear hSe hS7)
      | (refine gR rfl (.tmp 9) rfl q rfl xq ?_)
      | (go_at_call 13;(with_reducible refine jC hSh ?_);rintro e X8 ⟨rfl,hS8⟩;have hZ8:=hZ7.to hS8 (.inr rfl) (.inl (.inr rfl));have HO8:Hid (On (fun k=>k<w.heap.size) w X8):=HO7.out.trans (hS8.kept.mono (fun i hi=>.inl (.inl hi)));clear hSh hS8))
     exact⟨⟨k+1,j5,m+1+1,_,o5,ao5,u5,th5,vs5,ths,vss,by go_num,by omega,⟨by have:=HM.out;omega,by have:=HM.out;omega,by have:=HL5.out;omega⟩,hZ8,HO8⟩,by simp [intOf];omega⟩
  ·have hAb:=qDd HZ.out.st (i:=0) rfl (by simp)
   rw [HZ.out.x] at hAb
   rcases (by omega:5≤k∨(k<5∧raw.length<8 * (k+1))) with hx|hx
   all_goals
    have hx1:(6:Int)≤(k:Int)+1∨((k:Int)+1<6∧(raw.length:Int)<8 * ((k:Int)+1)):=by omega
    go_wp2_with (first
     | (go_at_call 21;(with_reducible refine jC hAb ?_);rintro e X5 ⟨rfl,hG5⟩;have hAc:=qBj hG5 x;clear hAb)
     | (go_at_call 21;(with_reducible refine jC hAc ?_);rintro e X6 ⟨rfl,hG6⟩;have xq:bG X6 q th vs:=HZ.out.bq.on hG6.kept (.inl (.inr rfl));have hSh:=zO hG6 (by simp) th vs HZ.out.tq (by have:=HM.out;omega);clear hAc)
     | (refine Ty (by rfl) (.tmp 9) rfl q rfl xq ?_)
     | (go_at_call 13;(with_reducible refine jC hSh ?_);rintro e X7 ⟨rfl,hS7⟩;clear hSh))
    go_ret
    have OF:On (fun k=>k<w.heap.size) w X7:=HO.out.trans (hS7.kept.mono (fun i hi=>.inl (.inl hi)))
    exact⟨rfl,OF.os,OF.tape,OF.output,OF.size,OF.block⟩
