import Derived.Test.YtpifffkkgnbfpaaGreatQ45
import Derived.Test.YtpifffkkgnbfpaaGreatQ38
set_option linter.unusedSimpArgs false
set_option linter.unusedVariables false
set_option maxRecDepth 100000
set_option maxHeartbeats 8000000
namespace Go.Proofs.YtpifffkkgnbfpaaGreat.Tree
open Go.RowKit Go.Shelf Pages
variable {ao o:Option (Nat×T)} {b d j m:Nat} {cs:List Ch} {th:List Bool} {vs:List ByteArray} {w:World} {x:Int}
attribute [local go_sem] Oper.semAt_some
theorem On.cell' {Y:Bl} {w w':World} (h:On Y w w') {b o:Nat} {v:Value} (hy:Y b) (hc:w.cell? ⟨b,o,none⟩=some v):w'.cell? ⟨b,o,none⟩=some v:=by
 have hbl:b<w.heap.size:=by
  rcases Nat.lt_or_ge b w.heap.size with h|h
  ·exact h
  ·simp [World.cell?,Array.getElem?_eq_none h] at hc
 obtain⟨ob,hob⟩:∃ ob,w.heap[b]?=some ob:=⟨_,Array.getElem?_eq_getElem hbl⟩
 rw [World.cell?_of_block (w:=w) (a:=⟨b,o,none⟩) ((h.heap hob hy).trans hob.symm)]
 exact hc
theorem SkO.below' {K:List ByteArray} {n:Nat} {Kp:Bl} {w wq:World}   {wr:Bool}   (h:SkO K n Kp w wq d b j m o ao wr x cs):∀ k,Kp k→k<w.heap.size:=by
 obtain⟨D,h,_⟩:=h
 exact h.lies
structure WSt (w:World) (leave:Int) (d b j m q11 q15 q19 q20:Nat) (o ao:Option (Nat×T)) (wr:Bool) (x:Int) (cs:List Ch) (th:List Bool) (vs:List ByteArray) (lo hi:ByteArray) (X:World):Prop where
 st:SkO aU 400 (fun _=>False) X X d b j m o ao wr x cs
 ok:kZ aU cs
 book:bG X (q11+1) th vs
 told:Told (aX (dD o) cs) th vs
 x8:X.heap[w.heap.size]?=some (.cells #[.int .i64 leave] 3)
 x10:X.heap[w.heap.size+1]?=some (.cells #[.bool false] 4)
 x11:X.heap[q11]?=some (.cells #[.pointer (some ⟨d,0,none⟩)] 23)
 x15:X.heap[q15]?=some (.cells #[.int .i64 x] 3)
 x19:X.heap[q19]?=some (.cells #[.string lo] 9)
 x20:X.heap[q20]?=some (.cells #[.string hi] 9)
 below:Below w.heap.size w X
theorem WSt.step {leave:Int} {d b j m q11 q15 q19 q20:Nat}  {wr:Bool}     {lo hi:ByteArray} {X X':World} (h:WSt w leave d b j m q11 q15 q19 q20 o ao wr x cs th vs lo hi X) (hb:Below X.heap.size X X'):WSt w leave d b j m q11 q15 q19 q20 o ao wr x cs th vs lo hi X':=by
 have k:∀ {i:Nat} {ob:Obj},X.heap[i]?=some ob→X'.heap[i]?=some ob:=fun h=>(hb.block _ (gL h)).trans h
 exact⟨(h.st.step hb).now,h.ok,⟨k h.book.box,h.book.lt,h.book.lv⟩,h.told,k h.x8,k h.x10,k h.x11,k h.x15,k h.x19,k h.x20,h.below.trans (hb.mono h.below.size)⟩
theorem kG.drew' {n:Nat} {Kp:Bl} {wq:World}     {q:Nat}   (h:kG n Kp wq d b j m o ao x cs q th vs):kG n Kp wq.drew d b j m o ao x cs q th vs:=by
 obtain⟨⟨D,hS,r⟩,h2,h3,h4,h5⟩:=h
 have bd:Below wq.heap.size wq wq.drew:=(Below.refl _ _).drew
 exact⟨⟨D,⟨hS.db.on (vV bd hS.db.lies),hS.well,hS.failed,hS.ver,hS.root,hS.aroot,hS.last0,hS.last1,hS.store,hS.new,On.refl _ _,fun k hk=>hS.lies k hk⟩,r⟩,h2,⟨h3.box,h3.lt,h3.lv⟩,h4,h5⟩
theorem Ow {P:Program} {s:Code} {K:Act→World→Prop} {Q':Exit→Act→World→Prop} {tm:Array Value} {ds:List Deferred}  (R:Nat→World→Prop) (rest:∀ D w',R D w'→K ⟨tm,mk D :: ds⟩ w')
  (first:∀ K':Act→World→Prop,(∀ D w',R D w'→K' ⟨tm,mk D :: ds⟩ w')→s.wp P (Exit.then K' Q') ⟨tm,ds⟩ w):s.wp P (Exit.then K Q') ⟨tm,ds⟩ w :=
 wp_cut (fun a' w'=>∃ D,R D w'∧a'=⟨tm,mk D :: ds⟩) (fun a' w' ⟨D,h,e⟩=>e▸rest D w' h) (fun J K' h1 h2=>first K' (fun D w' h=>h2 _ _ (h1 _ _ ⟨D,h,rfl⟩)))
theorem Jv {ops:Array Oper} {S:World→Prop} {op:Oper} {a:Act} (hw:Region.wanted op (yielded ops a.tmps)=true) (x:Operand) (ho:op.op=.load 30 x) (q:Nat) (hx:a.eval x=.pointer (some ⟨q,0,none⟩))   (h1:th.length=12) (h2:vs.length=12) (hS:∀ w,S w→bG w q th vs):YieldsIf Tryz.prog ops S op (.agg (bookC th vs)) a:=by
 obtain⟨d,h3,h4⟩:=Jo
 have:=yieldsIf_load_mid hw _ x ho q 0 hx (bookC th vs).toList d (fun w h=>(hS w h).range) h3 h4 (by rw [vE,Array.length_toList,iB h1 h2])
 simpa using this
theorem Jz (ra:Option Addr) (rc:Nat) (raw:List Int) (frm too leave:Int) (write:Bool) (w:World) (hR:mS w w.heap.size ra rc raw) (f0 : -9223372036854775808≤frm) (f1:frm≤9223372036854775807) (t0 : -9223372036854775808≤too) (t1:too≤9223372036854775807) (l0 : -9223372036854775808≤leave) (l1:leave≤9223372036854775807) :
  Calls Tryz.prog 8 #[.slice ra raw.length rc,.int .i64 frm,.int .i64 too,.int .i64 leave,.bool write] w fun e w'=>e=.returned (.bool true)∧Below w.heap.size w w':=by
 obtain⟨W1,hW1⟩:=nM ((w.alloc (.cells #[.int .i64 leave] 3)).alloc (.cells #[.bool false] 4))
 have B1:Below w.heap.size w W1:=hW1▸(bA _ _).alloc (by simp) _
 have y8:W1.heap[w.heap.size]?=some (.cells #[.int .i64 leave] 3):=hW1▸aB _ (aA w _)
 have y10:W1.heap[w.heap.size+1]?=some (.cells #[.bool false] 4):=by
  rw [← hW1];have:=aA (w.alloc (.cells #[.int .i64 leave] 3)) (.cells #[.bool false] 4);simpa using this
 have z1:W1.heap.size=w.heap.size+2:=by rw [← hW1];simp
 have hFr:=Ti (n:=400) (by omega) (by omega) W1
 have HR:Hid (mS w w.heap.size ra rc raw):=hR
 clear hR
 refine(callsIn_wide (n:=0)).1 (callsIn_of_wp_marks Tryz.func8 rfl trivial (wpIn_wide.2 ?_) rfl)
 simp only [Tryz.ntmps8,jA,jB,jN,Nat.reduceAdd,Nat.reduceSub,jR,jO,jP,jT,jE,jF]
 go_wp2_with (go_at_call 10;(with_reducible refine jC hFr ?_);rintro e X0 ⟨d0,b0,rfl,hL0⟩)
 clear hFr
 obtain⟨q11,hq11⟩:∃ q,X0.heap.size=q:=⟨_,rfl⟩
 obtain⟨X2,hX2⟩:=nM ((X0.alloc (.cells #[.pointer (some ⟨d0,0,none⟩)] 23)).alloc gG)
 have hL2:=(hL0.make (.cells #[.pointer (some ⟨d0,0,none⟩)] 23)).make gG
 have zq:(X0.alloc (.cells #[.pointer (some ⟨d0,0,none⟩)] 23)).heap.size=q11+1:=by simp [← hq11]
 have x11:X2.heap[q11]?=some (.cells #[.pointer (some ⟨d0,0,none⟩)] 23):=by rw [← hX2,← hq11];exact aB _ (aA X0 _)
 have k2:=pC (X0.alloc (.cells #[.pointer (some ⟨d0,0,none⟩)] 23))
 rw [hX2,zq] at hL2 k2
 rw [hq11] at hL2
 have bd:Below X2.heap.size X2 X2.drew:=(Below.refl _ _).drew
 have HK0:Hid (On (fun k=>k<W1.heap.size) W1 X2.drew):=by
  have h1:=hL0.kept
  rw [← hX2]
  exact((h1.alloc (fun k hk=>jY hk h1.size) _).alloc (fun k hk=>by have:=h1.size;simp;omega) _).drew
 have HB2:Hid (tZ 400 (Bl.or (Bl.or (fun k=>k<W1.heap.size) (Bl.one q11)) (Bl.one (q11+1))) X2.drew d0 b0 0 0 none none (q11+1) (List.replicate 12 false) (List.replicate 12 ⟨#[]⟩)) :=
  ⟨(hL2.step bd).now,⟨k2.box,k2.lt,k2.lv⟩,.inr rfl,told_none⟩
 have c11:X2.cell? ⟨q11,0,none⟩=some (.pointer (some ⟨d0,0,none⟩)):=bF x11
 have hq2:w.heap.size+2≤q11:=by have:=hL0.kept.size;omega
 have hP1:=Po ((HR.out.on (vV B1 (fun k hk=>hk))).on (HK0.out.mono (fun k hk=>by omega))) 0 8 (by omega) (by omega)
 rw [show ((8:Nat):Int)=8 from rfl,show ((0:Nat):Int)=0 from rfl] at hP1
 have HC:Hid (∀ ra1 rc1,cR X2.drew w.heap.size ra1 ((gT raw 0 8).map (.int .i64))→Calls Tryz.prog 11 #[.pointer (some ⟨d0,0,none⟩),.pointer (some ⟨q11+1,0,none⟩),.slice ra1 (gT raw 0 8).length rc1] X2.drew fun e w'=>e=.returned (.bool true)∧∃ j' o' ao' th' vs',tZ 400 (Bl.or (Bl.or (fun k=>k<W1.heap.size) (Bl.one q11)) (Bl.one (q11+1))) w' d0 b0 j' (0+1) o' ao' (q11+1) th' vs'∧j'≤0+1∧On (fun k=>(Bl.or (Bl.or (fun k=>k<W1.heap.size) (Bl.one q11)) (Bl.one (q11+1))) k∧k≠q11+1) X2.drew w'):=fun ra1 rc1 hR1 =>
  Rr (kOk (n:=400) (by omega) (by omega)) HB2.out (by omega) (by omega) ra1 rc1 (gT raw 0 8) w.heap.size hR1 (fun i hi=>⟨.inl (.inl (by omega)),by omega⟩) (fun x hx=>HR.out.i64 x (oI hx))
 rw [hX2,hq11]
 clear hL0 hL2 hX2 hW1 zq hq11
 go_region_held3 (fun X=>X.cell? ⟨q11,0,none⟩=some (.pointer (some ⟨d0,0,none⟩)))
  ((first|exact c11|(simp [c11])))
  (first
   | (go_at_call 12;(with_reducible refine jC hP1 ?_);rintro e X ⟨ra1,rc1,rfl,hR1,hX⟩;subst X;have hCm:=HC.out ra1 rc1 hR1;clear hP1)
   | (go_at_call 11;(with_reducible refine jC hCm ?_);rintro e X3 ⟨rfl,j,o,ao,th,vs,hB3,hj,hO3⟩;have x3:=hO3.heap x11 ⟨.inl (.inr rfl),by omega⟩;have c11:=bF x3))
 have hBg:=Tv hB3.st write (by omega)
 have HB3:Hid _:=hB3
 have HO3:Hid _:=hO3
 have HX3:Hid _:=x3
 clear hB3 hO3 x3 HC hCm
 rename_i hHeld1
 clear hHeld1
 go_upto_if 56 with(go_at_call 18;(with_reducible refine jC hBg ?_);rintro e X4 ⟨x,rfl,hS4⟩)
 obtain⟨q15,hq15⟩:∃ q,X4.heap.size=q:=⟨_,rfl⟩
 obtain⟨X5,hX5⟩:=nM (X4.alloc (.cells #[.int .i64 x] 3))
 have hS5:=hS4.make (.cells #[.int .i64 x] 3)
 have x15:X5.heap[q15]?=some (.cells #[.int .i64 x] 3):=by rw [← hX5,← hq15];exact aA X4 _
 rw [hX5,hq15] at hS5
 obtain⟨Kp,hKp⟩:∃ Kp:Bl,Bl.or (Bl.or (Bl.or (fun k=>k<W1.heap.size) (Bl.one q11)) (Bl.one (q11+1))) (Bl.one q15)=Kp:=⟨_,rfl⟩
 have o5:On (fun k=>(Bl.or (Bl.or (fun k=>k<W1.heap.size) (Bl.one q11)) (Bl.one (q11+1))) k) X3 X5:=by rw [← hX5];exact hS4.kept.alloc (fun k hk=>jY (HB3.out.st.below k hk) hS4.kept.size) _
 have hq15':q11+1<q15:=by have:=(gL HB3.out.book.box);have:=hS4.kept.size;omega
 have HBk5:Hid (bG X5 (q11+1) th vs):=HB3.out.book.on o5 (.inr rfl)
 have HO5:Hid (On (fun k=>k<W1.heap.size) W1 X5):=HK0.out.trans ((HO3.out.mono (fun k hk=>⟨.inl (.inl hk),by omega⟩)).trans (o5.mono (fun k hk=>.inl (.inl hk))))
 have HX5:Hid (X5.heap[q11]?=some (.cells #[.pointer (some ⟨d0,0,none⟩)] 23)∧X5.heap[q15]?=some (.cells #[.int .i64 x] 3)):=⟨o5.heap HX3.out (.inl (.inr rfl)),x15⟩
 rw [hKp] at hS5
 rw [hX5,hq15]
 have HS5:Hid (SkO aU 400 Kp X5 X5 d0 b0 j (0+1+1) o ao write x []):=hS5
 have hd0w:w.heap.size≤d0:=by
  obtain⟨Dd,hd,_,rfl,_⟩:=HS5.out
  exact Nat.le_of_not_lt (fun hlt=>hd.new Dd.d (.inl rfl) (hKp▸.inl (.inl (.inl (by show _<_;omega)))))
 have HT5:Hid (Told (aX (dD o) []) th vs):=by show Told _ _ _;rw [iX HB3.out.told.rise];exact HB3.out.told
 clear hS4 hS5 hX5 hBg o5
 go_cut [] from 17 to 75 (fun wc=>∃ (cs:List Ch) (th':List Bool) (vs':List ByteArray),Hid (SkO aU 400 Kp wc wc d0 b0 j (0+1+1) o ao write x cs)∧Hid (kZ aU cs)∧Hid (bG wc (q11+1) th' vs')∧Hid (Told (aX (dD o) cs) th' vs')∧Hid (On (fun k=>Kp k∧k≠q11+1) X5 wc))
 case first =>
  cases write
  ·go_wp2
   go_meet
   exact⟨[],th,vs,HS5,⟨.nil,by simp,by simp,by simp⟩,HBk5,HT5,On.refl _ _⟩
  ·go_wp2
   go_loopw [17] (fun i wr=>∃ (k:Nat) (cs:List Ch) (th':List Bool) (vs':List ByteArray),i=.int .i64 (k+8:Nat)∧k≤6∧Hid (kG 400 Kp wr d0 b0 j (0+1+1) o ao x cs (q11+1) th' vs')∧cs.length≤k∧Hid (On (fun k=>Kp k∧k≠q11+1) X5 wr)) (fun i _=>14-(intOf i).toNat)
   case atStart=>exact⟨0,[],th,vs,rfl,by omega,⟨HS5.out,⟨.nil,by simp,by simp,by simp⟩,HBk5.out,hKp▸.inl (.inr rfl),HT5.out⟩,by simp,On.refl _ _⟩
   case round =>
    obtain⟨k,cs,th',vs',rfl,hk6,HD,hcl,HOq⟩:=hrel
    by_cases hlt:k+8<raw.length∧k<6
    ·have hk1:((k+8:Nat):Int)<(raw.length:Int):=by omega
     have hk2:((k+8:Nat):Int)<14:=by omega
     obtain⟨y,hy⟩:=nM (raw[k+8]'hlt.1)
     have hyr:=HR.out.i64 y (hy▸List.getElem_mem hlt.1)
     have HOw:On (fun k=>k<w.heap.size) w wr:=((vV B1 (fun k hk=>hk)).trans (HO5.out.mono (fun i hi=>by omega))).trans (HOq.out.mono (fun i hi=>⟨hKp▸.inl (.inl (.inl (by omega))),by omega⟩))
     rcases (HR.out.on HOw).row with hR'|⟨rb,off,rfl,hrb,hRc⟩
     ·have h0:(raw.map (Value.int .i64)).length=0:=by rw [hR'];rfl
      rw [List.length_map] at h0
      omega
     have hcell:wr.cell? ⟨rb,off+(k+8),none⟩=some (.int .i64 y):=hRc (k+8) _ (by rw [List.getElem?_map,jQ hlt.1,hy];rfl)
     have hlcp:raw.length≤rc:=HR.out.cap
     have hi0:(0:Int)≤(k:Int)+8:=by omega
     have hi1:(k:Int)+8<(raw.length:Int):=by omega
     have hi2:((k:Int)+8).toNat=k+8:=by omega
     have hDe:=Nq (kG.drew' HD.out) y hyr.1 hyr.2 (by omega)
     have c11:=bF (HOq.out.heap HX5.out.1 ⟨hKp▸.inl (.inl (.inr rfl)),by omega⟩)
     have c15:=bF (HOq.out.heap HX5.out.2 ⟨hKp▸.inr rfl,by omega⟩)
     clear hy hyr hRc HOw
     go_wp2
     go_region_held3 (fun X=>X.cell? ⟨q11,0,none⟩=some (.pointer (some ⟨d0,0,none⟩))∧X.cell? ⟨q15,0,none⟩=some (.int .i64 x)∧X.cell? ⟨rb,off+(k+8),none⟩=some (.int .i64 y))
      ((first|exact⟨c11,c15,hcell⟩|(simp [c11,c15,hcell])))
      (first|(go_at_call 19;(with_reducible refine jC hDe ?_);rintro e X6 ⟨rfl,cs2,th2,vs2,hD2,hl2,ho2⟩;have c11:=bF (ho2.heap (HOq.out.heap HX5.out.1 ⟨hKp▸.inl (.inl (.inr rfl)),by omega⟩) ⟨hKp▸.inl (.inl (.inr rfl)),by omega⟩);have c15:=bF (ho2.heap (HOq.out.heap HX5.out.2 ⟨hKp▸.inr rfl,by omega⟩) ⟨hKp▸.inr rfl,by omega⟩);have hcell:=ho2.cell' (b:=rb) (o:=off+(k+8)) (v:=.int .i64 y) ⟨hKp▸.inl (.inl (.inl (by omega))),by omega⟩ hcell))
     all_goals
      have HO6:=HOq.out.trans ((vV ((Below.refl _ wr).drew) (fun i hi=>jY (HS5.out.below' i hi.1) HOq.out.size)).trans ho2)
      go_wp2
      exact⟨⟨k+1,cs2,th2,vs2,by go_num,by omega,hD2,by omega,HO6⟩,by simp [intOf];omega⟩
    ·rcases (by omega:raw.length≤k+8∨(k+8<raw.length∧14≤k+8)) with hx|hx
     all_goals
      have hx1:(raw.length:Int)≤((k+8:Nat):Int)∨(((k+8:Nat):Int)<(raw.length:Int)∧(14:Int)≤((k+8:Nat):Int)):=by omega
      go_wp2
      go_meet
      exact⟨cs,th',vs',HD.out.st,HD.out.ok,HD.out.book,HD.out.told,HOq⟩
 case rest =>
  obtain⟨cs,th',vs',HS,HC',HBk,HTd,HOn⟩:=hcut
  obtain⟨kf,hkf⟩:∃ k:Nat,iE frm 12=k:=⟨(iE frm 12).toNat,(Int.toNat_of_nonneg (dC frm 12 (by omega)).1).symm⟩
  obtain⟨kt,hkt⟩:∃ k:Nat,iE too 12=k:=⟨(iE too 12).toNat,(Int.toNat_of_nonneg (dC too 12 (by omega)).1).symm⟩
  have hkf12:kf<12:=by have:=(dC frm 12 (by omega)).2;omega
  have hkt12:kt<12:=by have:=(dC too 12 (by omega)).2;omega
  have hP1:=jH frm 12 wc f0 f1 (by omega)
  rw [hkf] at hP1
  have hK1:=sH kf hkf12 wc
  go_upto_if 84 with(first
   | (go_at_call 22;(with_reducible refine jC hP1 ?_);rintro e X ⟨rfl,hX⟩;subst X;clear hP1)
   | (go_at_call 24;(with_reducible refine jC hK1 ?_);rintro e Y1 ⟨rfl,hY1⟩;clear hK1;have hP2:=jH too 12 (Y1.alloc (.cells #[.string (aU[kf]'hkf12)] 9)) t0 t1 (by omega);rw [hkt] at hP2;have hK2:=sH kt hkt12 (Y1.alloc (.cells #[.string (aU[kf]'hkf12)] 9)))
   | (go_at_call 22;(with_reducible refine jC hP2 ?_);rintro e X ⟨rfl,hX⟩;subst X;clear hP2)
   | (go_at_call 24;(with_reducible refine jC hK2 ?_);rintro e Y2 ⟨rfl,hY2⟩;clear hK2;have hP3:=jH too 5 (Y2.alloc (.cells #[.string (aU[kt]'hkt12)] 9)) t0 t1 (by omega))
   | (go_at_call 22;(with_reducible refine jC hP3 ?_);rintro e X ⟨rfl,hX⟩;subst X;clear hP3))
  obtain⟨q19,hq19⟩:∃ q,Y1.heap.size=q:=⟨_,rfl⟩
  obtain⟨q20,hq20⟩:∃ q,Y2.heap.size=q:=⟨_,rfl⟩
  obtain⟨lo,hlo⟩:∃ s,aU[kf]'hkf12=s:=⟨_,rfl⟩
  obtain⟨hh,hhh⟩:∃ s,aU[kt]'hkt12=s:=⟨_,rfl⟩
  have hlo24:lo.size≤24:=hlo▸(kE _ (List.getElem_mem hkf12)).2
  have hhh24:hh.size≤24:=hhh▸(kE _ (List.getElem_mem hkt12)).2
  rw [hlo] at hY2
  rw [hhh,hq20,hq19]
  have HOw:Hid (On (fun k=>k<w.heap.size) w wc):=((vV B1 (fun k hk=>hk)).trans (HO5.out.mono (fun i hi=>by omega))).trans (HOn.out.mono (fun i hi=>⟨hKp▸.inl (.inl (.inl (by omega))),by omega⟩))
  have HW2:Hid (∀ hh:ByteArray,WSt w leave d0 b0 j (0+1+1) q11 q15 q19 q20 o ao write x cs th' vs' lo hh (Y2.alloc (.cells #[.string hh] 9))):=by
   intro hh
   have bAl:Below Y1.heap.size Y1 (Y1.alloc (.cells #[.string lo] 9)):=bA _ _
   have bB:Below Y2.heap.size Y2 (Y2.alloc (.cells #[.string hh] 9)):=bA _ _
   have e1:=bAl.size
   have e2:=hY2.size
   have e0:=hY1.size
   have bY:Below wc.heap.size wc (Y2.alloc (.cells #[.string hh] 9)):=((hY1.trans (bAl.mono e0)).trans (hY2.mono (by omega))).trans (bB.mono (by omega))
   have k:∀ {i:Nat} {ob:Obj},wc.heap[i]?=some ob→(Y2.alloc (.cells #[.string hh] 9)).heap[i]?=some ob:=fun h=>(bY.block _ (gL h)).trans h
   have k5:∀ {i:Nat} {ob:Obj},X5.heap[i]?=some ob→Kp i→i≠q11+1→wc.heap[i]?=some ob:=fun h h1 h2=>HOn.out.heap h ⟨h1,h2⟩
   refine⟨((HS.out.within (Yn:=fun _=>False) (fun _ h=>h.elim) (Fr.refl _ wc)).step bY).now,HC'.out,⟨k HBk.out.box,HBk.out.lt,HBk.out.lv⟩,HTd.out,k (k5 (HO5.out.heap y8 (by show _<_;omega)) (hKp▸.inl (.inl (.inl (by show _<_;omega)))) (by omega)),k (k5 (HO5.out.heap y10 (by show _<_;omega)) (hKp▸.inl (.inl (.inl (by show _<_;omega)))) (by omega)),k (k5 HX5.out.1 (hKp▸.inl (.inl (.inr rfl))) (by omega)),k (k5 HX5.out.2 (hKp▸.inr rfl) (by omega)),?_,?_,?_⟩
   ·have h1:=aA Y1 (.cells #[.string lo] 9)
    rw [hq19] at h1
    have h2:=(hY2.block _ (gL h1)).trans h1
    exact aB _ h2
   ·rw [← hq20];exact aA Y2 _
   ·exact(⟨HOw.out.os,HOw.out.tape,HOw.out.output,HOw.out.size,HOw.out.block⟩:Below w.heap.size w wc).trans (bY.mono HOw.out.size)
  go_cut [] from 76 to 84 (fun wd=>∃ hi:ByteArray,hi.size≤24∧Hid (WSt w leave d0 b0 j (0+1+1) q11 q15 q19 q20 o ao write x cs th' vs' lo hi wd))
  case first =>
   have hb20:=(HW2.out hh).x20
   have c20:=bF hb20
   have g20:=aD hb20
   by_cases h5:iE too 5=0
   ·go_wp2
    go_meet
    exact⟨⟨#[]⟩,by decide,HW2.out _⟩
   ·have h5b:(iE too 5==0)=false:=by simp [h5]
    go_wp2
    go_meet
    exact⟨hh,hhh24,HW2.out hh⟩
  case rest =>
   obtain⟨hi,hhi24,HW⟩:=hcut
   have hcs:=HW.out.ok
   obtain⟨xs,hxs⟩:=nM (dP o cs ⟨lo,hi⟩)
   have hxl:xs.length≤12:=by
    obtain⟨fsr,hror⟩:=HW.out.st.rooted
    have h1:=Au HW.out.told
    have h2:=Rs th' HW.out.told.lt 12
    have h3:=List.length_filter_le (fun x:En=>(⟨lo,hi⟩:Sp).has x.e.key) (aX (dD o) cs)
    rw [← hxs,Bc hror hcs.rise]
    omega
   have hSc:=Yg HW.out.st hcs ⟨lo,hi⟩ 100 hlo24 hhi24 (by rw [hxs];omega) (by decide)
   rw [hxs,List.take_of_length_le (by omega),show ((100:Nat):Int)=100 from rfl] at hSc
   have c11:=bF HW.out.x11
   have c15:=bF HW.out.x15
   have c19:=bF HW.out.x19
   have c20:=bF HW.out.x20
   go_upto_region 21 with(go_at_call 28;(with_reducible refine jC hSc ?_);rintro e Z1 ⟨v,rfl,_,hZ1,hrow1,hnew1⟩;obtain⟨la,lcp,rfl⟩:=aO hrow1)
   obtain⟨q21,hq21⟩:∃ q,Z1.heap.size=q:=⟨_,rfl⟩
   obtain⟨Z2,hZ2⟩:=nM (Z1.alloc (.cells #[.slice la xs.length lcp] 56))
   have bZ:Below Z1.heap.size Z1 Z2:=hZ2▸(bA _ _)
   have x21:Z2.heap[q21]?=some (.cells #[.slice la xs.length lcp] 56):=by rw [← hZ2,← hq21];exact aA Z1 _
   have HW2':=(HW.out.step hZ1).step bZ
   have HR1:Hid (Z2.ownsRow 0 60 2 (.slice la xs.length lcp) xs.length (cT xs)):=aZ hrow1 (vV bZ (Y:=fun k=>(Value.slice la xs.length lcp).ownBlock=some k) (fun k hk=>aQ hrow1 hk)) (fun k hk=>hk)
   obtain⟨pk,hpk⟩:∃ k:Nat,iE leave 9=k:=⟨(iE leave 9).toNat,(Int.toNat_of_nonneg (dC leave 9 (by omega)).1).symm⟩
   have hpk9:pk<9:=by have:=(dC leave 9 (by omega)).2;omega
   have HPk:Hid (∀ X,Calls Tryz.prog 22 #[.int .i64 leave,.int .i64 9] X fun e w'=>e=.returned (.int .i64 (pk:Nat))∧w'=X):=fun X=>by rw [← hpk];exact jH leave 9 X l0 l1 (by omega)
   have bZd:Below Z2.heap.size Z2 Z2.drew:=(Below.refl _ _).drew
   have HWd:=HW2'.step bZd
   have hSm:=Yg HWd.st hcs ⟨lo,hi⟩ pk hlo24 hhi24 (by rw [hxs];omega) (by omega)
   obtain⟨ys,hys⟩:=nM (xs.take pk)
   rw [hxs,hys] at hSm
   have hPm:=HPk.out Z2.drew
   have c8:=bF HW2'.x8
   have c11:=bF HW2'.x11
   have c15:=bF HW2'.x15
   have c19:=bF HW2'.x19
   have c20:=bF HW2'.x20
   rw [hZ2,hq21]
   have HWZ:Hid _:=HW2'
   clear hSc hZ2 hrow1 HW2' HWd
   go_region_held3 (fun X=>X.cell? ⟨q11,0,none⟩=some (.pointer (some ⟨d0,0,none⟩))∧X.cell? ⟨q15,0,none⟩=some (.int .i64 x)∧X.cell? ⟨q19,0,none⟩=some (.string lo)∧X.cell? ⟨q20,0,none⟩=some (.string hi)∧X.cell? ⟨w.heap.size,0,none⟩=some (.int .i64 leave))
    ((first|exact⟨c11,c15,c19,c20,c8⟩|(simp [c11,c15,c19,c20,c8])))
    (first
     | (go_at_call 22;(with_reducible refine jC hPm ?_);rintro e X ⟨rfl,hX⟩;subst X;clear hPm)
     | (go_at_call 28;(with_reducible refine jC hSm ?_);rintro e Z3 ⟨v3,rfl,_,hZ3,hrow3,hnew3⟩;obtain⟨ma,mcp,rfl⟩:=aO hrow3;have HW3:=HWZ.out.step (bZd.trans hZ3);have c8:=bF HW3.x8;have c11:=bF HW3.x11;have c15:=bF HW3.x15;have c19:=bF HW3.x19;have c20:=bF HW3.x20))
   have x21':=(hZ3.block _ (jJ.1 ((bZd.block _ (gL x21)).trans x21)).1).trans ((bZd.block _ (gL x21)).trans x21)
   have c21:=bF x21'
   have hyl:ys.length=min pk xs.length:=by rw [← hys,List.length_take]
   have hmn:min (xs.length:Int) (pk:Int)=(ys.length:Int):=by omega
   have hyx:ys.length≤xs.length:=by omega
   have HYL:Hid (ys.length=min pk xs.length):=hyl
   clear hyl
   have HR3:Hid (Z3.ownsRow 0 60 2 (.slice la xs.length lcp) xs.length (cT xs)):=aZ HR1.out (vV (bZd.trans hZ3) (Y:=fun k=>(Value.slice la xs.length lcp).ownBlock=some k) (fun k hk=>aQ HR1.out hk)) (fun k hk=>hk)
   have HM3:Hid (Z3.ownsRow 0 60 2 (.slice ma ys.length mcp) ys.length (cT ys)):=hrow3
   have HYS:Hid (xs.take pk=ys):=hys
   have HWZ3:Hid _:=HW3
   have hP3:=HPk.out Z3.drew
   rename_i hHeld2
   clear hHeld2 hrow3 HW3 hSm hys HR1 HWZ bZd x21 bZ c11 c15 c19 c20
   go_upto_region 22 with fail
   go_region_held3 (fun X=>X.cell? ⟨q21,0,none⟩=some (.slice la xs.length lcp)∧X.cell? ⟨w.heap.size,0,none⟩=some (.int .i64 leave))
    ((first|exact⟨c21,c8⟩|(simp [c21,c8])))
    (first
     | (go_at_call 22;(with_reducible refine jC hP3 ?_);rintro e X ⟨rfl,hX⟩;subst X;clear hP3))
   rename_i hHeld3
   clear hHeld3
   have HX21:Hid (Z3.heap[q21]?=some (.cells #[.slice la xs.length lcp] 56)):=x21'
   clear x21' c21 c8
   go_wp2
   go_loopw [25] (fun i wr=>∃ k:Nat,i=.int .i64 k∧k≤ys.length∧Hid (Below Z3.heap.size Z3 wr)) (fun i _=>ys.length-(intOf i).toNat)
   case atStart=>exact⟨0,rfl,Nat.zero_le _,(Below.refl _ _).drew⟩
   case round =>
    obtain⟨k,rfl,hk,HBw⟩:=hrel
    have c21:=bF ((HBw.out.block _ (gL HX21.out)).trans HX21.out)
    by_cases hlt:k<ys.length
    ·have hki:(k:Int)<(ys.length:Int):=by omega
     have hkx:(k:Int)<(xs.length:Int):=by omega
     have hk0:(0:Int)≤(k:Int):=by omega
     obtain⟨y,hy⟩:=nM (xs[k]'(by omega))
     have px:xs[k]?=some y:=by rw [jQ (by omega),hy]
     have py:ys[k]?=some y:=by rw [← HYS.out,List.getElem?_take_of_lt (by have:=HYL.out;omega)];exact px
     have row1:=aZ HR3.out (vV HBw.out (Y:=fun k=>(Value.slice la xs.length lcp).ownBlock=some k) (fun k hk=>aQ HR3.out hk)) (fun k hk=>hk)
     have row2:=aZ HM3.out (vV HBw.out (Y:=fun k=>(Value.slice ma ys.length mcp).ownBlock=some k) (fun k hk=>aQ HM3.out hk)) (fun k hk=>hk)
     obtain⟨a1,a2⟩:=Lh px
     obtain⟨b1,b2⟩:=Lh py
     obtain⟨g,hg,hglt,hgc,hgv⟩:=gQ row1 a1
     obtain⟨g',hg',_,_,hgv'⟩:=gQ row1 a2
     obtain⟨h,hh1,hhlt,hhc,hhv⟩:=gQ row2 b1
     obtain⟨h',hh',_,_,hhv'⟩:=gQ row2 b2
     subst hg hh1
     cases hg'
     cases hh'
     clear px py hy row1 row2 a1 a2 b1 b2
     go_wp2
     go_region_held3 (fun X=>X.cell? ⟨q21,0,none⟩=some (.slice (some ⟨g,0,none⟩) xs.length lcp)∧X.cell? ⟨g,k * 2,none⟩=some (.string y.e.key)∧X.cell? ⟨g,k * 2+1,none⟩=some (.string ⟨y.value.toArray⟩)∧X.cell? ⟨h,k * 2,none⟩=some (.string y.e.key)∧X.cell? ⟨h,k * 2+1,none⟩=some (.string ⟨y.value.toArray⟩))
      ((first|exact⟨c21,hgv,hgv',hhv,hhv'⟩|(simp [c21,hgv,hgv',hhv,hhv'])))
      (fail)
     go_wp2
     exact⟨⟨k+1,by go_num,by omega,HBw.out.trans ((Below.refl _ wr).drew.mono HBw.out.size)⟩,by simp [intOf];omega⟩
    ·obtain rfl:k=ys.length:=by omega
     obtain⟨q26,hq26⟩:∃ q,wr.heap.size=q:=⟨_,rfl⟩
     obtain⟨V0,hV0⟩:=nM (wr.alloc (.cells #[.int .i64 0] 3))
     have bV:Below wr.heap.size wr V0:=hV0▸(bA _ _)
     have x26:V0.heap[q26]?=some (.cells #[.int .i64 0] 3):=by rw [← hV0,← hq26];exact aA wr _
     have s26:V0.setCell ⟨q26,0,none⟩ (.int .i64 0)=V0:=gI x26 rfl
     have g26:=aD x26
     have c26:=bF x26
     have HWV:=(HWZ3.out.step HBw.out).step bV
     have c11:=bF HWV.x11
     have c15:=bF HWV.x15
     have c19:=bF HWV.x19
     have c20:=bF HWV.x20
     have hEa:=Wu d0 x lo hi hlo24 hhi24 V0
     have hnf:∀ (f:Nat) (lb:Array Value) (X:World),(binOp .eql 62 (.func (.func f) #[] lb) .nilFunc).run Tryz.prog X=.ok (.bool false) X:=fun f lb X=>by kernel_rfl
     go_upto_block 4 with(go_at_call 29;(with_reducible refine jC hEa ?_);rintro e V1 ⟨rfl,e0,e1,e2,e3,hV1⟩)
     have hSn:=(HWZ3.out.step HBw.out).st.make (.cells #[.int .i64 0] 3)
     rw [hV0,hq26] at hSn
     have hS1:=(hSn.step hV1).now
     have lV:V0.heap.size=q26+1:=by rw [← hV0,← hq26];simp
     have hit:=qAm hS1 hcs ⟨lo,hi⟩ hlo24 hhi24 (by rw [hxs];omega) _ _ _ _ e0 e1 e2 e3 (Bl.one q26) (fun k hk=>.inr hk) (by simp only [Bl.one];omega) (by simp only [Bl.one];omega) (by simp only [Bl.one];omega) (by simp only [Bl.one];omega)
     rw [hxs] at hit
     have HW1:Hid (WSt w leave d0 b0 j (0+1+1) q11 q15 q19 q20 o ao write x cs th' vs' lo hi V1):=HWV.step hV1
     have n26:=(hV1.block _ (gL x26)).trans x26
     have lt26:=(gL n26)
     have zz:=HBw.out.size
     have zv:=bV.size
     have zw:=hV1.size
     have bZV:Below Z3.heap.size Z3 V1:=(HBw.out.trans (bV.mono zz)).trans (hV1.mono (by omega))
     have x21v:=(bZV.block _ (gL HX21.out)).trans HX21.out
     have l21:=(gL HX21.out)
     have rowV:=aZ HR3.out (vV bZV (Y:=fun k=>(Value.slice la xs.length lcp).ownBlock=some k) (fun k hk=>aQ HR3.out hk)) (fun k hk=>hk)
     have n8:w.heap.size≠q26:=by have:=HW1.out.below.size;have:=(gL HWZ3.out.x8);omega
     have n11:q11≠q26:=by have:=(gL HWZ3.out.x11);omega
     have n15:q15≠q26:=by have:=(gL HWZ3.out.x15);omega
     have n19:q19≠q26:=by have:=(gL HWZ3.out.x19);omega
     have n20:q20≠q26:=by have:=(gL HWZ3.out.x20);omega
     have n21:q21≠q26:=by omega
     have nrow:∀ k,(Value.slice la xs.length lcp).ownBlock=some k→k≠q26:=fun k hk=>by have:=aQ HR3.out hk;omega
     refine Ow (fun D W=>Hid (Fr (Bl.one q26) V1 W∧W.heap[q26]?=some (.cells #[.int .i64 ((min xs.length (1+pk):Nat):Int)] 3)∧V1.heap.size≤D∧W.heap[D]?=some (.deferred (some [])))) ?_ ?_
     ·rintro D W HDW
      obtain⟨hFW,h26,hD,hDW⟩:=HDW.out
      obtain⟨q32,hq32⟩:∃ q,W.heap.size=q:=⟨_,rfl⟩
      obtain⟨U0,hU0⟩:=nM (W.alloc (.cells #[.int .i64 0] 3))
      have x32:U0.heap[q32]?=some (.cells #[.int .i64 0] 3):=by rw [← hU0,← hq32];exact aA W _
      have s32:U0.setCell ⟨q32,0,none⟩ (.int .i64 0)=U0:=gI x32 rfl
      have g32:=aD x32
      have c32:=bF x32
      have FU:Fr (Bl.one q26) V1 U0:=hU0▸hFW.alloc _
      have kU:∀ {i:Nat} {ob:Obj},V1.heap[i]?=some ob→i≠q26→U0.heap[i]?=some ob:=fun h hn=>FU.heap h (fun e=>hn e)
      have wU:∀ {i:Nat} {ob:Obj},W.heap[i]?=some ob→U0.heap[i]?=some ob:=fun h=>by rw [← hU0];exact aB _ h
      have u26:=wU h26
      have uD:=wU hDW
      have hSU:=(hS1.within (Yn:=Bl.one q26) (fun k hk=>.inr hk) hFW).make (.cells #[.int .i64 0] 3)
      rw [hU0,hq32] at hSU
      have l32:=(gL x32)
      have lq:V1.heap.size≤q32:=by rw [← hq32];exact hFW.size
      have l3:V0.heap.size+1+1+1<V1.heap.size:=(gL e3)
      have hit2:=qAm hSU hcs ⟨lo,hi⟩ hlo24 hhi24 (by rw [hxs];omega) _ _ _ _ (kU e0 (by omega)) (kU e1 (by omega)) (kU e2 (by omega)) (kU e3 (by omega)) (Bl.one q32) (fun k hk=>.inr hk) (by simp only [Bl.one];omega) (by simp only [Bl.one];omega) (by simp only [Bl.one];omega) (by simp only [Bl.one];omega)
      rw [hxs] at hit2
      have HU:Hid (∀ X,Fr (Bl.one q32) U0 X→X.heap[w.heap.size]?=some (.cells #[.int .i64 leave] 3)∧X.heap[w.heap.size+1]?=some (.cells #[.bool false] 4)∧X.heap[q11]?=some (.cells #[.pointer (some ⟨d0,0,none⟩)] 23)∧X.heap[q15]?=some (.cells #[.int .i64 x] 3)∧X.heap[q21]?=some (.cells #[.slice la xs.length lcp] 56)∧X.heap[q26]?=some (.cells #[.int .i64 ((min xs.length (1+pk):Nat):Int)] 3)∧X.heap[D]?=some (.deferred (some []))∧bG X (q11+1) th' vs'∧X.ownsRow 0 60 2 (.slice la xs.length lcp) xs.length (cT xs)∧SkO aU 400 (fun _=>False) X X d0 b0 j (0+1+1) o ao write x cs∧Below w.heap.size w X):=by
       intro X hX
       have k1:∀ {i:Nat} {ob:Obj},V1.heap[i]?=some ob→i≠q26→X.heap[i]?=some ob:=fun h hn=>hX.heap (kU h hn) (fun e=>by simp only [Bl.one] at e;have:=(gL h);omega)
       have k2:∀ {i:Nat} {ob:Obj},W.heap[i]?=some ob→X.heap[i]?=some ob:=fun h=>hX.heap (wU h) (fun e=>by simp only [Bl.one] at e;have:=(gL h);omega)
       have n12:q11+1≠q26:=by have:=(gL HWZ3.out.book.box);omega
       have n10:w.heap.size+1≠q26:=by have:=(gL HWZ3.out.x10);omega
       refine⟨k1 HW1.out.x8 n8,k1 HW1.out.x10 n10,k1 HW1.out.x11 n11,k1 HW1.out.x15 n15,k1 x21v n21,k2 h26,k2 hDW,⟨k1 HW1.out.book.box n12,HW1.out.book.lt,HW1.out.book.lv⟩,?_,hSU.within (Yn:=Bl.one q32) (fun k hk=>.inr hk) hX,?_⟩
       ·exact aZ (aZ rowV (FU.on (Z:=fun k=>(Value.slice la xs.length lcp).ownBlock=some k) (fun k hk=>⟨aQ rowV hk,fun e=>nrow k hk e⟩)) (fun k hk=>hk)) (hX.on (Z:=fun k=>(Value.slice la xs.length lcp).ownBlock=some k) (fun k hk=>⟨by have:=aQ rowV hk;have:=FU.size;omega,fun e=>by simp only [Bl.one] at e;have:=aQ rowV hk;omega⟩)) (fun k hk=>hk)
       ·have h1:Below w.heap.size w V1:=HW1.out.below
        have s1:=h1.size
        have lw:w.heap.size<Z3.heap.size:=(gL HWZ3.out.x8)
        refine h1.trans ?_
        refine Below.trans (b:=U0) (FU.below s1 (oK (by omega))) (hX.below (by have:=FU.size;omega) (oK (by omega)))
      go_wp2
      refine(wpIn_wide (n:=0)).1 ?_
      refine eS (P:=Tryz.prog) (Has:=Ie) (Rd:=fun k=>k<U0.heap.size∧¬ Bl.one q32 k) rfl (enters_of Tryz.func55 (by kernel_rfl) rfl) hit2 (fun x args S W hH=>by rw [show args=_ from hH];rfl) (fun pre Y W=>W.heap[q32]?=some (.cells #[.int .i64 (pre.length:Nat)] 3)∧∀ k,Y k↔k=q32) (fun _ _ _ _=>False) ?_ ?_ ?_ ?_ (Bl.one q32) ⟨x32,fun k=>Iff.rfl⟩ ?_ ?_ ?_ ?_
      ·rintro pre Y A B ⟨h1,h3⟩ ho
       exact⟨ho.heap h1 ((h3 _).2 rfl),h3⟩
      ·exact fun _ _ _ _ _ h _=>h
      ·rintro pre Y A ⟨h1,h3⟩ k hk
       obtain rfl:=(h3 k).1 hk
       exact(gL h1)
      ·exact fun _ _ _ _ h=>h.elim
      ·rintro k ⟨hk,hk'⟩
       exact⟨hk',hk⟩
      ·rintro l pre y rest args S Y' W' hx ⟨h1,h3⟩ hH hS' hFX hGW hl0 hl1 hl2 ⟨r,hr'⟩
       have hH':args=#[.string y.e.key,.string ⟨y.value.toArray⟩]:=hH
       subst hH'
       have hxp:xs[pre.length]?=some y:=by rw [hx];simp
       have hplt:pre.length<xs.length:=by rw [hx];simp
       unfold iC
       gi_wp2
       refine⟨Fr.refl _ _,?_⟩
       intro W₂ hT2
       have fX:Fr (Bl.one l) W' W₂:=hT2.fr
       have FX2:Fr (Bl.one q32) U0 W₂:=hFX.grow fX (fun k hk=>.inr (by simp only [Bl.one] at hk;omega))
       have b32:=fX.heap h1 (fun e=>by simp only [Bl.one] at e;exact hl2 ((h3 _).2 e.symm))
       have c32:=bF b32
       have g32:=aD b32
       obtain⟨_,_,_,_,y21,_,_,_,row2,_,_⟩:=HU.out W₂ FX2
       have c21:=bF y21
       obtain⟨a1,a2⟩:=Lh hxp
       obtain⟨g,hg,hglt,hgc,hgv⟩:=gQ row2 a1
       subst hg
       have hpi:(pre.length:Int)<(xs.length:Int):=by omega
       have hpg:¬ ((xs.length:Int)≤(pre.length:Int)):=by omega
       have hp0:(0:Int)≤(pre.length:Int):=by omega
       obtain⟨W₄,hW4⟩:=nM (W₂.setCell ⟨q32,0,none⟩ (.int .i64 ((pre.length:Int)+1)))
       have b4:W₄.heap[q32]?=some (.cells #[.int .i64 ((pre.length:Int)+1)] 3):=by rw [← hW4];simpa using aF b32 0 (.int .i64 ((pre.length:Int)+1))
       have F4:Fr (Bl.one q32) W₂ W₄:=hW4▸(Fr.refl (Bl.one q32) W₂).setCell (p:=⟨q32,0,none⟩) (.inl rfl) _
       have HEnd:Hid (∃ Y'',(W₄.heap[q32]?=some (.cells #[.int .i64 ((pre++[y]).length:Nat)] 3)∧∀ k,Y'' k↔k=q32)∧Fr Y' W₂ W₄∧aI W₂ Y' Y''):=⟨Y',⟨by rw [jK,List.length_singleton];exact b4,h3⟩,F4.mono (fun k hk=>.inl ((h3 k).2 hk)),aI.refl _ _⟩
       clear hx hxp hplt a1 a2 row2 hgc b32 b4 F4 y21
       gi_wp2
       exact HEnd.out
      ·rintro D2 Y' X hD2 hYD ⟨h1,h3⟩ hFX hGW hDX
       obtain⟨y8',y10',y11',y15',y21',y26',yD,hBk,hrw,hSX,hBw'⟩:=HU.out X hFX
       have c8:=bF y8'
       have c11:=bF y11'
       have c15:=bF y15'
       have c21:=bF y21'
       have c26:=bF y26'
       have c32:=bF h1
       obtain⟨mn,hmn0⟩:=nM (min xs.length (1+pk))
       have hmn:min (xs.length:Int) (1+(pk:Int))=(mn:Int):=by omega
       rw [hmn0] at c26 y26'
       have hwr:IntKind.i64.wrap (1+(pk:Int))=1+(pk:Int):=by rw [IntKind.wrap_i64];omega
       have hP:=HPk.out X.drew
       have hBd:bG X.drew (q11+1) th' vs':=⟨hBk.box,hBk.lt,hBk.lv⟩
       have hSd:=hSX.step ((Below.refl _ X).drew)
       have hSe:=Ku hSd hcs th' vs' HW1.out.told
       have nd10:d0≠w.heap.size+1:=fun e=>by obtain⟨Dd,hd,_,rfl,_⟩:=hSX;have:=hd.db.box;rw [e,y10'] at this;simp [dbO] at this
       have ndD:d0≠D:=fun e=>by obtain⟨Dd,hd,_,rfl,_⟩:=hSX;have:=hd.db.box;rw [e,yD] at this;simp [dbO] at this
       have ndD2:d0≠D2:=fun e=>by obtain⟨Dd,hd,_,rfl,_⟩:=hSX;have:=hd.db.box;rw [e,hDX] at this;simp [dbO] at this
       have lwd:w.heap.size≤D∧w.heap.size≤D2:=by
        have s1:=HW1.out.below.size
        have s2:=FU.size
        omega
       have hDD:D≠D2:=by have:=(gL uD);omega
       clear HU
       go_wp2
       refine wp_region_noPanic ?_
       refine wp_region_held_drew (S:=fun X=>X.cell? ⟨q26,0,none⟩=some (.int .i64 (mn:Int))∧X.cell? ⟨q21,0,none⟩=some (.slice la xs.length lcp)∧X.cell? ⟨w.heap.size,0,none⟩=some (.int .i64 leave)∧X.cell? ⟨q32,0,none⟩=some (.int .i64 (xs.length:Nat))∧X.cell? ⟨q11,0,none⟩=some (.pointer (some ⟨d0,0,none⟩))∧X.cell? ⟨q15,0,none⟩=some (.int .i64 x)∧bG X (q11+1) th' vs') (by kernel_rfl) ⟨c26,c21,c8,c32,c11,c15,hBd⟩ (fun hHeld=>?_)
       change wpAnyH _ _ _ _ _ 21 #[false,false,false,false,false,false,false,false,false,false,false,false,false,false,false,false,false,false,false,false,false] _ _
       refine dL.take [(0,219,.int .i64 (mn:Int)),(1,220,.slice la xs.length lcp),(2,221,.int .i64 (xs.length:Nat)),(3,222,.int .i64 leave)] (n:=17) (by kernel_rfl) (by assumption) ?_
       iterate 4 (refine⟨_,rfl,rfl,by kernel_rfl,fun _ _ _ h=>h,.inl ⟨by rfl,fun X hX=>by(try dsimp only at hX);go_simp⟩,?_⟩;simp only [Act.put,jV,jZ,jX])
       rw [dL]
       refine wpAnyH_ready (rs:=[4]) (by kernel_rfl) (by simp) (AllReadyH.cons rfl (fun K hK=>?_) AllReadyH.nil)
       go_simp
       go_at_call 22
       refine jC hP ?_
       rintro e X1 ⟨rfl,hX⟩
       subst X1
       refine hK.out _ _ ⟨c26,c21,c8,c32,c11,c15,hBd⟩ (fun hHeld=>?_)
       clear hK K
       try simp only [Act.put,jV,jZ,jX]
       refine dL.take [(5,224,.int .i64 (1+(pk:Int))),(6,225,.int .i64 (mn:Int)),(7,226,.bool true),(8,227,.bool true),(9,228,.int .i64 (xs.length:Nat)),(10,229,.slice la xs.length lcp),(11,230,.int .i64 (xs.length:Nat)),(12,231,.bool true),(13,232,.bool true),(14,233,.bool true),(15,234,.pointer (some ⟨d0,0,none⟩)),(16,235,.int .i64 x),(17,236,.agg (bookC th' vs'))] (n:=3) (by kernel_rfl) (by assumption) ?_
       iterate 12 (refine⟨_,rfl,rfl,by kernel_rfl,fun _ _ _ h=>h,.inl ⟨by rfl,fun X hX=>by(try dsimp only at hX);go_simp;try exact hwr⟩,?_⟩;simp only [Act.put,jV,jZ,jX])
       refine⟨_,rfl,rfl,by kernel_rfl,fun _ _ _ h=>h,Jv (by rfl) _ rfl (q11+1) (by rfl) hBk.lt hBk.lv (fun X hX=>hX.2.2.2.2.2.2),?_⟩
       simp only [Act.put,jV,jZ,jX]
       rw [dL]
       refine wpAnyH_ready (rs:=[18]) (by kernel_rfl) (by simp) (AllReadyH.cons rfl (fun K hK=>?_) AllReadyH.nil)
       go_simp
       go_at_call 20
       refine jC hSe ?_
       rintro e X2 ⟨rfl,hS2,hF2⟩
       have kD:∀ {i:Nat} {cb:Array Value} {tb:TypeId},X.heap[i]?=some (.cells cb tb)→tb≠88→X2.heap[i]?=some (.cells cb tb):=fun h hn=>hF2.heap (w:=X.drew) h (fun e=>by
        simp only [Bl.one] at e
        obtain⟨Dd,hd,_,rfl,_⟩:=hSX
        have hb:=hd.db.box
        rw [← e,h] at hb
        simp only [dbO,Option.some.injEq,Obj.cells.injEq] at hb
        exact hn hb.2.1)
       have z10:=kD y10' (by decide)
       have zD:X2.heap[D]?=some (.deferred (some [])):=hF2.heap (w:=X.drew) yD (fun e=>ndD e.symm)
       have zD2:X2.heap[D2]?=some (.deferred (some [])):=hF2.heap (w:=X.drew) hDX (fun e=>ndD2 e.symm)
       have g10:=aD z10
       have c10:=bF z10
       have c26:=bF (kD y26' (by decide))
       have c21:=bF (kD y21' (by decide))
       have c8:=bF (kD y8' (by decide))
       have c32:=bF (kD h1 (by decide))
       have c11:=bF (kD y11' (by decide))
       have c15:=bF (kD y15' (by decide))
       have hB2:bG X2 (q11+1) th' vs':=⟨kD hBk.box (by decide),hBk.lt,hBk.lv⟩
       obtain⟨X3,hX3⟩:=nM (X2.setCell ⟨w.heap.size+1,0,none⟩ (.bool true))
       have F3:Fr (Bl.one (w.heap.size+1)) X2 X3:=hX3▸(Fr.refl (Bl.one (w.heap.size+1)) X2).setCell (p:=⟨w.heap.size+1,0,none⟩) (.inl rfl) _
       refine hK.out _ _ ⟨c26,c21,c8,c32,c11,c15,hB2⟩ (fun hHeld=>?_)
       clear hK K
       try simp only [Act.put,jV,jZ,jX]
       refine dL.take [(19,238,.bool true)] (n:=1) (by kernel_rfl) (by assumption) ?_
       iterate 1 (refine⟨_,rfl,rfl,by kernel_rfl,fun _ _ _ h=>h,.inl ⟨by rfl,fun X hX=>by(try dsimp only at hX);go_simp⟩,?_⟩;simp only [Act.put,jV,jZ,jX])
       rw [dL]
       refine wpAnyH_ready (rs:=[20]) (by kernel_rfl) (by simp) (AllReadyH.cons rfl (fun K hK=>?_) AllReadyH.nil)
       go_simp
       have k3:∀ {i:Nat} {ob:Obj},X2.heap[i]?=some ob→i≠w.heap.size+1→X3.heap[i]?=some ob:=fun h hn=>F3.heap h (fun e=>hn e)
       have m26:q26≠w.heap.size+1:=fun e=>by rw [e,y10'] at y26';simp at y26'
       have m21:q21≠w.heap.size+1:=fun e=>by rw [e,y10'] at y21';simp at y21'
       have m8:w.heap.size≠w.heap.size+1:=by omega
       have m32:q32≠w.heap.size+1:=fun e=>by rw [e,y10'] at h1;simp at h1
       have m11:q11≠w.heap.size+1:=fun e=>by rw [e,y10'] at y11';simp at y11'
       have m15:q15≠w.heap.size+1:=fun e=>by rw [e,y10'] at y15';simp at y15'
       have mBk:q11+1≠w.heap.size+1:=fun e=>m8 (by have:=Nat.succ.inj e;exact absurd this (fun e'=>by rw [e',y8'] at y11';simp at y11'))
       have mD:D≠w.heap.size+1:=fun e=>by rw [e,y10'] at yD;simp at yD
       have mD2:D2≠w.heap.size+1:=fun e=>by rw [e,y10'] at hDX;simp at hDX
       refine hK.out _ _ ⟨bF (k3 (kD y26' (by decide)) m26),bF (k3 (kD y21' (by decide)) m21),bF (k3 (kD y8' (by decide)) m8),bF (k3 (kD h1 (by decide)) m32),bF (k3 (kD y11' (by decide)) m11),bF (k3 (kD y15' (by decide)) m15),⟨k3 (kD hBk.box (by decide)) mBk,hBk.lt,hBk.lv⟩⟩ (fun hHeld=>?_)
       clear hK K
       try simp only [Act.put,jV,jZ,jX]
       refine wpAnyH_done (by kernel_rfl) ?_ _
       refine NoPanic.normal ?_
       have z3:X3.heap[w.heap.size+1]?=some (.cells #[.bool true] 4):=by rw [← hX3];simpa using aF z10 0 (.bool true)
       have hm':Marks w.heap.size [mk D2,mk D] X3:=⟨[D2,D],rfl,by simp;exact fun e=>hDD e.symm,by simp;exact⟨⟨lwd.2,k3 zD2 mD2⟩,lwd.1,k3 zD mD⟩⟩
       have hBe:Below w.heap.size w X3:=(hBw'.trans ((Below.refl _ X).drew.mono hBw'.size)).trans ((hF2.below (B:=w.heap.size) hBw'.size (oK (by omega))).trans (F3.below (by have:=hBw'.size;have:=hF2.size;have e:X.drew.heap.size=X.heap.size:=rfl;omega) (oK (by omega))))
       go_wp2
       refine kQ (B:=w.heap.size) (u:=.returning) (by simp) hm' (fun w' ht=>⟨.bool true,?_,rfl,hBe.trans (ht.below.mono (jU _))⟩)
       have hs:=bF (ht.cells _ _ _ _ z3)
       simp [results,Tryz.results8,go_sem,hs]
      ·exact fun _ _ _ _ _ _ _ _ _ h=>h.elim
     ·intro K' hK'
      go_wp2
      let J:List En→Bl→World→Prop:=fun pre Y W=>W.heap[q26]?=some (.cells #[.int .i64 (pre.length:Nat)] 3)∧∀ k,Y k↔k=q26
      let I:List En→Bl→World→Prop:=fun pre Y W=>pre.length<1+pk∧J pre Y W
      let Ix:Code→List En→Bl→World→Prop:=fun c pre Y W=>c=.exit 4∧pre.length=1+pk∧J pre Y W
      refine(wpIn_wide (n:=0)).1 ?_
      refine eS (P:=Tryz.prog) (Has:=Ie) (Rd:=fun k=>k<V1.heap.size∧¬ Bl.one q26 k) rfl (enters_of Tryz.func55 (by kernel_rfl) rfl) hit (fun x args S W hH=>by rw [show args=_ from hH];rfl) I Ix ?_ ?_ ?_ ?_ (Bl.one q26) ⟨by simp;omega,n26,fun k=>Iff.rfl⟩ ?_ ?_ ?_ ?_
      ·rintro pre Y A B ⟨hp,h1,h3⟩ ho
       exact⟨hp,ho.heap h1 ((h3 _).2 rfl),h3⟩
      ·rintro c pre Y A B ⟨hc,hp,h1,h3⟩ ho
       exact⟨hc,hp,ho.heap h1 ((h3 _).2 rfl),h3⟩
      ·rintro pre Y A ⟨hp,h1,h3⟩ k hk
       obtain rfl:=(h3 k).1 hk
       exact(gL h1)
      ·rintro c pre Y A ⟨hc,hp,h1,h3⟩ k hk
       obtain rfl:=(h3 k).1 hk
       exact(gL h1)
      ·rintro k ⟨hk,hk'⟩
       exact⟨hk',hk⟩
      ·rintro l pre y rest args S Y' W hx ⟨hpm0,h1,h3⟩ hH hS' hFW hGW hl0 hl1 hl2 ⟨r,hr'⟩
       have hH':args=#[.string y.e.key,.string ⟨y.value.toArray⟩]:=hH
       subst hH'
       have hxp:xs[pre.length]?=some y:=by rw [hx];simp
       have hplt:pre.length<xs.length:=by rw [hx];simp
       have hym:y∈dP o cs ⟨lo,hi⟩:=by rw [hxs,hx];simp
       unfold iC
       gi_wp2
       refine⟨Fr.refl _ _,?_⟩
       intro W₂ hT2
       have fX:Fr (Bl.one l) W W₂:=hT2.fr
       have FVX:Fr (Bl.one q26) V1 W₂:=hFW.grow fX (fun k hk=>.inr (by simp only [Bl.one] at hk;omega))
       have kp:∀ {i:Nat} {cb:Array Value} {tb:TypeId},V1.heap[i]?=some (.cells cb tb)→i≠q26→W₂.heap[i]?=some (.cells cb tb):=fun h hn=>FVX.heap h (fun e=>hn (by simpa only [Bl.one] using e))
       have b26:=fX.heap h1 (fun e=>by simp only [Bl.one] at e;exact hl2 ((h3 _).2 e.symm))
       have c26:=bF b26
       have c21:=bF (kp x21v n21)
       have c11:=bF (kp HW1.out.x11 n11)
       have c15:=bF (kp HW1.out.x15 n15)
       have c19:=bF (kp HW1.out.x19 n19)
       have c20:=bF (kp HW1.out.x20 n20)
       have row2:=aZ rowV (FVX.on (Z:=fun k=>(Value.slice la xs.length lcp).ownBlock=some k) (fun k hk=>⟨aQ rowV hk,fun e=>nrow k hk e⟩)) (fun k hk=>hk)
       obtain⟨a1,a2⟩:=Lh hxp
       obtain⟨g,hg,hglt,hgc,hgv⟩:=gQ row2 a1
       obtain⟨g',hg',_,_,hgv'⟩:=gQ row2 a2
       subst hg
       cases hg'
       have hpi:(pre.length:Int)<(xs.length:Int):=by omega
       have hpg:¬ ((xs.length:Int)≤(pre.length:Int)):=by omega
       have hp0:(0:Int)≤(pre.length:Int):=by omega
       obtain⟨fsr,hror⟩:=HW1.out.st.rooted
       obtain⟨hSeen,hSV⟩:=Yf hror hcs.rise hym
       have hky:y.e.key∈aU:=by
        rw [Bc hror hcs.rise,List.mem_filter] at hym
        exact HW1.out.told.keys y hym.1
       obtain⟨hk1,hk2⟩:=kE _ hky
       obtain⟨hCl,hCh⟩:=qCp hSeen
       have hGet:=qFa ((hS1.within (Yn:=Bl.one q26) (fun k hk=>.inr hk) FVX)) hcs y.e.key hk1 hk2 _ hSV
       have HFV:Hid (Fr (Bl.one q26) V1 W₂):=FVX
       have HPick:=HPk
       have h26:Hid (W₂.heap[q26]?=some (.cells #[.int .i64 (pre.length:Nat)] 3)):=b26
       clear hSeen hSV hky hym hk1 hk2 hxp a1 a2 row2 hror b26 hglt hgc hx hplt
       obtain⟨lst,hlst⟩:=nM (decide (pre.length=pk))
       have hpm:(((pre.length:Int)+1)==(1+(pk:Int)))=lst:=by rw [← hlst,Bool.eq_iff_iff,beq_iff_eq,decide_eq_true_iff];omega
       have HLS:Hid (decide (pre.length=pk)=lst):=hlst
       have HPM0:Hid (pre.length<1+pk):=hpm0
       have HK':Hid _:=hK'
       have hwr:IntKind.i64.wrap (1+(pk:Int))=1+(pk:Int):=by rw [IntKind.wrap_i64];omega
       clear hlst hK' hpm0
       have hCe:(hi.toList.isEmpty=true)∨(hi.toList.isEmpty=false∧Op.bytesLess y.e.key.toList hi.toList=true):=by
        rcases hCh with h|h
        ·exact .inl (jD.2 h)
        ·refine .inr ⟨?_,h⟩
         cases hq:hi.toList with
         | nil=>rw [hq] at h;cases hz:y.e.key.toList<;>rw [hz] at h<;>simp [Op.bytesLess] at h
         | cons a l=>rfl
       clear hCh
       rcases hCe with hCe|⟨hCe,hCh⟩
       all_goals
        gi_wp2_with (refine⟨trivial,rfl,?_⟩;gi_at_call 30;refine(CallsIn.inRound l (callsIn_wide.2 hGet)).mono ?_;clear hGet;rintro e W₃ ⟨rfl,hb₃⟩;have b3:=(hb₃.block _ (gL h26.out)).trans h26.out;have c26:=bF b3;have g26:=aD b3;obtain⟨W₄,hW4⟩:=nM (W₃.setCell ⟨q26,0,none⟩ (.int .i64 ((pre.length:Int)+1))))
        have b4:W₄.heap[q26]?=some (.cells #[.int .i64 ((pre.length:Int)+1)] 3):=by rw [← hW4];simpa using aF b3 0 (.int .i64 ((pre.length:Int)+1))
        have F34:Fr (Bl.one q26) W₂ W₄:=(Fr.of_below hb₃).trans (hW4▸(Fr.refl (Bl.one q26) W₃).setCell (p:=⟨q26,0,none⟩) (.inl rfl) _)
        have c26:=bF b4
        have c8:=bF ((HFV.out.trans F34).heap HW1.out.x8 (fun e=>n8 e))
        have hP:=HPick.out W₄.drew
        clear b3
        refine fY (S:=fun X=>X.cell? ⟨q26,0,none⟩=some (.int .i64 ((pre.length:Int)+1))∧X.cell? ⟨w.heap.size,0,none⟩=some (.int .i64 leave)) (by kernel_rfl) (by kernel_rfl) (fun _ _ h=>h) ⟨c26,c8⟩ (fun hHeld=>?_)
        change wpAnyH _ _ _ _ _ 5 #[false,false,false,false,false] _ _
        refine dL.take [(0,196,.int .i64 ((pre.length:Int)+1)),(1,197,.int .i64 leave)] (n:=3) (by kernel_rfl) (by assumption) ?_
        iterate 2 (refine⟨_,rfl,rfl,by kernel_rfl,fun _ _ _ h=>h,.inl ⟨by rfl,fun X hX=>by(try dsimp only at hX);go_simp⟩,?_⟩;simp only [Act.put,jV,jZ,jX])
        rw [dL]
        refine wpAnyH_ready (rs:=[2]) (by kernel_rfl) (by simp) (AllReadyH.cons rfl (fun K hK=>?_) AllReadyH.nil)
        go_simp
        go_at_call 22
        refine jC hP ?_
        rintro e X ⟨rfl,hX⟩
        subst X
        refine hK.out _ _ ⟨c26,c8⟩ (fun hHeld=>?_)
        clear hK K
        try simp only [Act.put,jV,jZ,jX]
        refine dL.take [(3,199,.int .i64 (1+(pk:Int))),(4,200,.bool lst)] (n:=0) (by kernel_rfl) (by assumption) ?_
        iterate 2 (refine⟨_,rfl,rfl,by kernel_rfl,fun _ _ _ h=>h,.inl ⟨by rfl,fun X hX=>by(try dsimp only at hX);go_simp;try exact hwr⟩,?_⟩;simp only [Act.put,jV,jZ,jX])
        rw [dL]
        refine wpAnyH_done (by kernel_rfl) ?_ _
        have FY:Fr Y' W₂ W₄.drew:=(F34.mono (fun k hk=>.inl ((h3 k).2 hk))).drew
        have HJ:J (pre++[y]) Y' W₄.drew:=⟨by rw [jK,List.length_singleton];exact b4,h3⟩
        cases lst
        ·gi_wp2
         exact⟨Y',⟨by have:=of_decide_eq_false HLS.out;have:=HPM0.out;rw [jK,List.length_singleton];omega,HJ⟩,FY,aI.refl _ _⟩
        ·gi_wp2
         exact⟨Y',⟨rfl,by have:=of_decide_eq_true HLS.out;rw [jK,List.length_singleton];omega,HJ⟩,FY,aI.refl _ _⟩
      ·rintro D Y' W hD hYD ⟨hpm0,h1,h3⟩ hFW hGW hDW
       have hpm:min xs.length (1+pk)=xs.length:=by omega
       exact hK' D W ⟨hFW,by rw [hpm];exact h1,hD,hDW⟩
      ·rintro D c0 pre Y' W hD hYD hp hne ⟨rfl,hpm0,h1,h3⟩ hFW hGW hDW
       have hpl:=hp.length_le
       have hpm:min xs.length (1+pk)=pre.length:=by omega
       have HK':Hid _:=hK'
       clear hK'
       gi_wp2
       exact HK'.out D W ⟨hFW,by rw [hpm];exact h1,hD,hDW⟩
