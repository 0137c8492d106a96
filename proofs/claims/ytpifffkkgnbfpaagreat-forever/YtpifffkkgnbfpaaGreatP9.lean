import Derived.Test.YtpifffkkgnbfpaaGreatP8
import Derived.Deep.DeepCutAuto
import Derived.Test.YtpifffkkgnbfpaaGreatP6
set_option linter.unusedSimpArgs false
set_option linter.unusedVariables false
set_option maxRecDepth 100000
set_option maxHeartbeats 8000000
namespace Go.Proofs.YtpifffkkgnbfpaaGreat.Pages
open Go.RowKit
variable {B c g k n β ρ:Nat} {a w w':World} {bs:List UInt8} {e:TypeId} {es:List Ent} {o:Obj} {v:Value} {xs:List Value}
theorem dQ.alloc (h:dQ ρ a w) (o:Obj):dQ ρ a (w.alloc o) :=
 h.trans ⟨rfl,rfl,rfl,by simp,fun k hk _=>Below.heap_alloc _ _ _ hk⟩
theorem dQ.keep (h:dQ ρ w w')   (hr:k≠ρ) (hk:w.heap[k]?=some o):w'.heap[k]?=some o:=by
 rw [h.block k (Array.getElem?_eq_some_iff.1 hk).1 hr];exact hk
theorem eL {o x:Obj} (hk:w.heap[k]?=some o):(w.alloc x).heap[k]?=some o:=by
 rw [Below.heap_alloc _ _ _ (Array.getElem?_eq_some_iff.1 hk).1];exact hk
theorem Rd.alloc {a:Nat} (h:Rd w ρ g c bs a) (o:Obj):Rd (w.alloc o) ρ g c bs a :=
 h.only ((dQ.refl ρ w).alloc o) (eL h.box) h.le
theorem Rd.lt' {a:Nat} (h:Rd w ρ g c bs a):ρ<w.heap.size:=(Array.getElem?_eq_some_iff.1 h.box).1
theorem rE (ρ g c:Nat) (bs:List UInt8) (a:Nat) (w:World) (h:Rd w ρ g c bs a) :
  Calls Tryz.prog 150 #[.pointer (some ⟨ρ,0,none⟩),.int .i64 2] w fun e w'=>e=.returned (.int .i64 (gX bs a 2:Nat))∧Rd w' ρ g c bs (aT bs a 2)∧dQ ρ w w':=by
 refine(tQ ρ g c bs a 2 w h (by omega)).mono fun e w' ⟨he,hr,ho⟩=>⟨?_,hr,ho⟩
 rw [he]
 refine yI (congrArg (Value.int .i64) ?_)
 have:=Tl bs a 2
 unfold wrap64
 omega
theorem Rd.set {a:Nat} (h:Rd w ρ g c bs a)  (hβ:β≠ρ) (hg:β≠g) (i:Nat) (v:Value):Rd (w.setCell ⟨β,i,none⟩ v) ρ g c bs a :=
 ⟨by rw [Below.heap_setCell _ _ _ _ (fun e=>hβ e.symm)];exact h.box,fun j hj=>by rw [World.cell?_of_block (w:=w) (Below.heap_setCell _ _ _ _ (fun e=>hg e.symm))];exact h.bytes j hj,h.ne,by have:=h.lt;simpa [World.setCell] using this,h.le,h.len,h.cap⟩
theorem dQ.set (h:dQ ρ a w)  (hβ:a.heap.size≤β) (i:Nat) (v:Value):dQ ρ a (w.setCell ⟨β,i,none⟩ v) :=
 ⟨h.os,h.tape,h.output,by have:=h.size;simpa [World.setCell] using this,fun k hk hr=>by rw [Below.heap_setCell _ _ _ _ (by simp;omega)];exact h.block k hk hr⟩
theorem iS (hk:w.heap[k]?=some o)  (hb:k≠β) (i:Nat) (v:Value):(w.setCell ⟨β,i,none⟩ v).heap[k]?=some o:=by
 rw [Below.heap_setCell _ _ _ _ hb];exact hk
theorem qFt {u:World}  {a0 a1 a2 a3:Value} {t:TypeId} (h:u.heap[β]?=some (.cells #[a0,a1,a2,a3] t)) (v0 v1 v2 v3:Value):((((u.setCell ⟨β,0,none⟩ v0).setCell ⟨β,1,none⟩ v1).setCell ⟨β,2,none⟩ v2).setCell ⟨β,3,none⟩ v3).heap[β]?=some (.cells #[v0,v1,v2,v3] t):=by
 have:=aD (aD (aD (aD h 0 v0) 1 v1) 2 v2) 3 v3
 simpa using this
def qN (bs:List UInt8) (a:Nat):Ent :=
 if bs.getD (gV bs a) 0=0 then ⟨⟨(mC bs a).toArray⟩,⟨(mC bs (aT bs (gV bs a) 1)).toArray⟩,(mC bs (aT bs (gV bs a) 1)).length,0⟩
 else ⟨⟨(mC bs a).toArray⟩,⟨#[]⟩,gX bs (aT bs (gV bs a) 1) 2,gX bs (aT bs (aT bs (gV bs a) 1) 2) 2⟩
def Ad (bs:List UInt8) (a:Nat):Nat :=
 if bs.getD (gV bs a) 0=0 then gV bs (aT bs (gV bs a) 1) else aT bs (aT bs (aT bs (gV bs a) 1) 2) 2
theorem Rz (ρ g c:Nat) (bs:List UInt8) (a:Nat) (w:World) (h:Rd w ρ g c bs a) :
  Calls Tryz.prog 152 #[.pointer (some ⟨ρ,0,none⟩)] w fun e w'=>e=.returned (.agg #[.string (qN bs a).key,.string (qN bs a).val,.int .i64 (qN bs a).size,.int .i64 (qN bs a).over])∧Rd w' ρ g c bs (Ad bs a)∧dQ ρ w w':=by
 have hρ:=h.lt'
 have hβ:w.heap.size≠ρ:=by omega
 obtain⟨K,hK⟩:∃ K,K=(⟨(mC bs a).toArray⟩:ByteArray):=⟨_,rfl⟩
 have hT:=sC ρ g c bs a (w.alloc (.cells #[.string ⟨#[]⟩,.string ⟨#[]⟩,.int .i64 0,.int .i64 0] 108)) (h.alloc _)
 rw [← hK] at hT
 have hZ:=aA w (.cells #[.string ⟨#[]⟩,.string ⟨#[]⟩,.int .i64 0,.int .i64 0] 108)
 have ho0:=(dQ.refl ρ w).alloc (.cells #[.string ⟨#[]⟩,.string ⟨#[]⟩,.int .i64 0,.int .i64 0] 108)
 have hN1:=fun w' (h':Rd w' ρ g c bs (gV bs a))=>kD ρ g c bs (gV bs a) w' h'
 obtain⟨m,hmd⟩:∃ m,m=bs.getD (gV bs a) 0:=⟨_,rfl⟩
 rw [← hmd] at hN1
 cases hm:(m.toNat==0)
 ·have hm0:¬ bs.getD (gV bs a) 0=0:=by rw [← hmd];intro e;rw [e] at hm;simp at hm
  have hmi:((m.toNat:Int)==0)=false:=by simpa using hm
  obtain⟨n1,hn1⟩:∃ n1,n1=gX bs (aT bs (gV bs a) 1) 2:=⟨_,rfl⟩
  obtain⟨n2,hn2⟩:∃ n2,n2=gX bs (aT bs (aT bs (gV bs a) 1) 2) 2:=⟨_,rfl⟩
  have HR:Hid (qN bs a=⟨K,⟨#[]⟩,n1,n2⟩):=by show _=_;unfold qN;rw [if_neg hm0,hK,hn1,hn2]
  have HA:Hid (Ad bs a=aT bs (aT bs (aT bs (gV bs a) 1) 2) 2):=by show _=_;unfold Ad;rw [if_neg hm0]
  have hM1:=fun w2 (h2:Rd w2 ρ g c bs (aT bs (gV bs a) 1))=>rE ρ g c bs (aT bs (gV bs a) 1) w2 h2
  have hM2:=fun w2 (h2:Rd w2 ρ g c bs (aT bs (aT bs (gV bs a) 1) 2))=>rE ρ g c bs (aT bs (aT bs (gV bs a) 1) 2) w2 h2
  rw [← hn1] at hM1
  rw [← hn2] at hM2
  have hgl:=h.lt
  clear hm hm0 hK hn1 hn2 hmd
  go_enter Tryz.func152,Tryz.ntmps152
  go_wp2_with (go_at_call 153;refine hT.mono ?_;rintro e w1 ⟨rfl,hr1,ho1⟩;have hZ1:=ho1.keep hβ hZ;have hγ:w1.heap.size≠ρ:=Nat.ne_of_gt hr1.lt';have hγβ:w.heap.size<w1.heap.size:=(Array.getElem?_eq_some_iff.1 hZ1).1;have hE1:=aA w1 (.cells #[.string K,.string ⟨#[]⟩,.int .i64 0,.int .i64 0] 108);have hZ1':=eL (x:=.cells #[.string K,.string ⟨#[]⟩,.int .i64 0,.int .i64 0] 108) hZ1)
  go_upto_region 6 with(go_at_call 150;refine(hN1 _ (hr1.alloc _)).mono ?_;rintro e w2 ⟨rfl,hr2,ho2⟩;have hE2:=ho2.keep hγ hE1;have hZ2:=ho2.keep hβ hZ1')
  go_upto_region 7 with(go_at_call 150;refine(hM1 _ hr2).mono ?_;rintro e w3 ⟨rfl,hr3,ho3⟩;have hE3:=ho3.keep hγ hE2;have hZ3:=ho3.keep hβ hZ2;obtain⟨c0,c1,c2,c3⟩:=iE hE3;have hf1:=aF hE3;have hγg:w1.heap.size≠g:=by omega)
  have hE4:(w3.setCell ⟨w1.heap.size,2,none⟩ (.int .i64 (n1:Int))).heap[w1.heap.size]?=some (.cells #[.string K,.string ⟨#[]⟩,.int .i64 (n1:Int),.int .i64 0] 108):=by have:=aD hE3 2 (.int .i64 (n1:Int));simpa using this
  have hZ4:=iS hZ3 (Nat.ne_of_lt hγβ) 2 (.int .i64 (n1:Int))
  go_wp2_with (go_at_call 150;refine(hM2 _ (hr3.set hγ hγg 2 _)).mono ?_;rintro e w5 ⟨rfl,hr5,ho5⟩;have hE5:=ho5.keep hγ hE4;have hZ5:=ho5.keep hβ hZ4;obtain⟨d0,d1,d2,d3⟩:=iE hE5;obtain⟨z0,z1,z2,z3⟩:=iE hZ5;have hf2:=aF hE5;have hf3:=aF hZ5)
  have hU:=qFt (iS hZ5 (Nat.ne_of_lt hγβ) 3 (.int .i64 (n2:Int))) (.string K) (.string ⟨#[]⟩) (.int .i64 (n1:Int)) (.int .i64 (n2:Int))
  obtain⟨y0,y1,y2,y3⟩:=iE hU
  have hR:=((((hr5.set hγ hγg 3 (.int .i64 (n2:Int))).set hβ (by omega) 0 (.string K)).set hβ (by omega) 1 (.string ⟨#[]⟩)).set hβ (by omega) 2 (.int .i64 (n1:Int))).set hβ (by omega) 3 (.int .i64 (n2:Int))
  have hO:=(((((ho0.trans ho1).alloc (.cells #[.string K,.string ⟨#[]⟩,.int .i64 0,.int .i64 0] 108)).trans ho2).trans ho3).set (β:=w1.heap.size) (by omega) 2 (.int .i64 (n1:Int)))
  have hO2:=(((((hO.trans ho5).set (β:=w1.heap.size) (by omega) 3 (.int .i64 (n2:Int))).set (β:=w.heap.size) (by omega) 0 (.string K)).set (β:=w.heap.size) (by omega) 1 (.string ⟨#[]⟩)).set (β:=w.heap.size) (by omega) 2 (.int .i64 (n1:Int))).set (β:=w.heap.size) (by omega) 3 (.int .i64 (n2:Int))
  refine bodyPost_ret (v:=.agg #[.string K,.string ⟨#[]⟩,.int .i64 (n1:Int),.int .i64 (n2:Int)]) ?_ rfl ⟨?_,?_,hO2⟩
  ·simp [results,Tryz.results152,go_sem,y0,y1,y2,y3]
  ·rw [HR.out]
  ·rw [HA.out];exact hR
 ·have hm0:bs.getD (gV bs a) 0=0:=by rw [← hmd];apply UInt8.toNat_inj.1;simpa using hm
  have hmi:((m.toNat:Int)==0)=true:=by simpa using hm
  obtain⟨V,hV⟩:∃ V,V=(⟨(mC bs (aT bs (gV bs a) 1)).toArray⟩:ByteArray):=⟨_,rfl⟩
  have hVs:V.size=(mC bs (aT bs (gV bs a) 1)).length:=by rw [hV];show (mC bs (aT bs (gV bs a) 1)).toArray.size=_;simp
  have HR:Hid (qN bs a=⟨K,V,V.size,0⟩):=by show _=_;unfold qN;rw [if_pos hm0,hK,hVs,hV]
  have HA:Hid (Ad bs a=gV bs (aT bs (gV bs a) 1)):=by show _=_;unfold Ad;rw [if_pos hm0]
  have hT2:=fun w2 (h2:Rd w2 ρ g c bs (aT bs (gV bs a) 1))=>sC ρ g c bs (aT bs (gV bs a) 1) w2 h2
  rw [← hV] at hT2
  clear hVs hm hm0 hK hV hmd
  go_enter Tryz.func152,Tryz.ntmps152
  go_wp2_with (go_at_call 153;refine hT.mono ?_;rintro e w1 ⟨rfl,hr1,ho1⟩;have hZ1:=ho1.keep hβ hZ;have hγ:w1.heap.size≠ρ:=Nat.ne_of_gt hr1.lt';have hγβ:w.heap.size<w1.heap.size:=(Array.getElem?_eq_some_iff.1 hZ1).1;have hE1:=aA w1 (.cells #[.string K,.string ⟨#[]⟩,.int .i64 0,.int .i64 0] 108);have hZ1':=eL (x:=.cells #[.string K,.string ⟨#[]⟩,.int .i64 0,.int .i64 0] 108) hZ1)
  go_wp2_with (first|(go_at_call 150;refine(hN1 _ (hr1.alloc _)).mono ?_;rintro e w2 ⟨rfl,hr2,ho2⟩;have hE2:=ho2.keep hγ hE1;have hZ2:=ho2.keep hβ hZ1')|(go_at_call 153;refine(hT2 _ hr2).mono ?_;rintro e w3 ⟨rfl,hr3,ho3⟩;have hE3:=ho3.keep hγ hE2;have hZ3:=ho3.keep hβ hZ2;obtain⟨c0,c1,c2,c3⟩:=iE hE3;obtain⟨z0,z1,z2,z3⟩:=iE hZ3;have hf1:=aF hE3;have hf2:=aF hZ3))
  have hgl:=h.lt
  have hU:=qFt (iS (iS hZ3 (Nat.ne_of_lt hγβ) 1 (.string V)) (Nat.ne_of_lt hγβ) 2 (.int .i64 (V.size:Int))) (.string K) (.string V) (.int .i64 (V.size:Int)) (.int .i64 0)
  obtain⟨y0,y1,y2,y3⟩:=iE hU
  have hR:=(((((hr3.set hγ (by omega) 1 (.string V)).set hγ (by omega) 2 (.int .i64 (V.size:Int))).set hβ (by omega) 0 (.string K)).set hβ (by omega) 1 (.string V)).set hβ (by omega) 2 (.int .i64 (V.size:Int))).set hβ (by omega) 3 (.int .i64 0)
  have hO:=((((((ho0.trans ho1).alloc (.cells #[.string K,.string ⟨#[]⟩,.int .i64 0,.int .i64 0] 108)).trans ho2).trans ho3).set (β:=w1.heap.size) (by omega) 1 (.string V)).set (β:=w1.heap.size) (by omega) 2 (.int .i64 (V.size:Int)))
  have hO2:=(((hO.set (β:=w.heap.size) (by omega) 0 (.string K)).set (β:=w.heap.size) (by omega) 1 (.string V)).set (β:=w.heap.size) (by omega) 2 (.int .i64 (V.size:Int))).set (β:=w.heap.size) (by omega) 3 (.int .i64 0)
  refine bodyPost_ret (v:=.agg #[.string K,.string V,.int .i64 (V.size:Int),.int .i64 0]) ?_ rfl ⟨?_,?_,hO2⟩
  ·simp [results,Tryz.results152,go_sem,y0,y1,y2,y3]
  ·rw [HR.out]
  ·rw [HA.out];exact hR
def kF (ver root:Int):Bool:=ver==0&&root==0
def fM (keys:List ByteArray) (kids:List Int):Bool:=(keys.length:Int)==0&&(kids.length:Int)==0
def kQ (ents:List Ent):Bool:=(ents.length:Int)==0
def kE (next:Int) (data:ByteArray):Bool:=next==0&&data.toList.isEmpty
def dX (kind ver root next:Int) (keys:List ByteArray) (kids:List Int) (ents:List Ent) (data:ByteArray):Bool :=
 if kind=1 then fM keys kids&&kQ ents&&kE next data&&Hd ver root
 else if kind=2 then kF ver root&&kQ ents&&kE next data&&gQ keys kids
 else if kind=3 then kF ver root&&fM keys kids&&kE next data&&(decide (ents.length≠0)&&fS ⟨#[]⟩ ents)
 else if kind=4 then kF ver root&&fM keys kids&&kQ ents&&Ce next data
 else false
theorem wQ (kind:Int) (ver root next:Int) (ka ia ea:Option Addr) (kc ic ec:Nat) (data:ByteArray) (keys:List ByteArray) (kids:List Int) (ents:List Ent) (w:World) (hK:cT w w.heap.size ka (keys.map .string)) (hI:cT w w.heap.size ia (kids.map (.int .i64))) (hE:cT w w.heap.size ea (ents.flatMap Ent.cells)) (hkn:keys.length≤1073741824) (hin:kids.length≤1073741824) (hen:ents.length≤1073741824) :
  Calls Tryz.prog 141 #[.agg #[.int .i64 kind,.int .i64 ver,.int .i64 root,.int .i64 next,.slice ka keys.length kc,.slice ia kids.length ic,.slice ea ents.length ec,.string data]] w fun e w'=>e=.returned (.bool (dX kind ver root next keys kids ents data))∧Below w.heap.size w w':=by
 have hb:=(Below.refl w.heap.size w).alloc (Nat.le_refl _) (.cells #[.int .i64 kind,.int .i64 ver,.int .i64 root,.int .i64 next,.slice ka keys.length kc,.slice ia kids.length ic,.slice ea ents.length ec,.string data] 85)
 have hKb:=(hK.below hb).mono (show w.heap.size≤(w.alloc (.cells #[.int .i64 kind,.int .i64 ver,.int .i64 root,.int .i64 next,.slice ka keys.length kc,.slice ia kids.length ic,.slice ea ents.length ec,.string data] 85)).heap.size by simp)
 have hIb:=(hI.below hb).mono (show w.heap.size≤(w.alloc (.cells #[.int .i64 kind,.int .i64 ver,.int .i64 root,.int .i64 next,.slice ka keys.length kc,.slice ia kids.length ic,.slice ea ents.length ec,.string data] 85)).heap.size by simp)
 have hEb:=(hE.below hb).mono (show w.heap.size≤(w.alloc (.cells #[.int .i64 kind,.int .i64 ver,.int .i64 root,.int .i64 next,.slice ka keys.length kc,.slice ia kids.length ic,.slice ea ents.length ec,.string data] 85)).heap.size by simp)
 clear hK hI hE
 go_enter Tryz.func141,Tryz.ntmps141
 go_upto_region 1 with fail
 go_cut [3] (fun s3 wx=>s3=.bool (kF ver root)∧wx=(w.alloc (.cells #[.int .i64 kind,.int .i64 ver,.int .i64 root,.int .i64 next,.slice ka keys.length kc,.slice ia kids.length ic,.slice ea ents.length ec,.string data] 85)))
 case first =>
  cases hq:(ver==0)
  all_goals (go_wp2_with fail;go_meet;exact⟨congrArg Value.bool (by simp only [kF,hq,Bool.true_and,Bool.false_and]),rfl⟩)
 case rest =>
 obtain⟨rfl,rfl⟩:=hcut
 go_upto_region 2 with fail
 go_cut [4] (fun s4 wx=>s4=.bool (fM keys kids)∧wx=(w.alloc (.cells #[.int .i64 kind,.int .i64 ver,.int .i64 root,.int .i64 next,.slice ka keys.length kc,.slice ia kids.length ic,.slice ea ents.length ec,.string data] 85)))
 case first =>
  cases hq:((keys.length:Int)==0)
  all_goals (go_wp2_with fail;go_meet;exact⟨congrArg Value.bool (by simp only [fM,hq,Bool.true_and,Bool.false_and]),rfl⟩)
 case rest =>
 obtain⟨rfl,rfl⟩:=hcut
 go_upto_region 3 with fail
 go_cut [5] (fun s5 wx=>s5=.bool (kQ ents)∧wx=(w.alloc (.cells #[.int .i64 kind,.int .i64 ver,.int .i64 root,.int .i64 next,.slice ka keys.length kc,.slice ia kids.length ic,.slice ea ents.length ec,.string data] 85)))
 case first =>
  go_wp2_with fail
  all_goals (go_meet;exact⟨rfl,rfl⟩)
 case rest =>
 obtain⟨rfl,rfl⟩:=hcut
 go_upto_region 4 with fail
 go_cut [6] (fun s6 wx=>s6=.bool (kE next data)∧wx=(w.alloc (.cells #[.int .i64 kind,.int .i64 ver,.int .i64 root,.int .i64 next,.slice ka keys.length kc,.slice ia kids.length ic,.slice ea ents.length ec,.string data] 85)))
 case first =>
  cases hq:(next==0)
  all_goals (go_wp2_with fail;go_meet;exact⟨congrArg Value.bool (by simp only [kE,hq,Bool.true_and,Bool.false_and]),rfl⟩)
 case rest =>
 obtain⟨rfl,rfl⟩:=hcut
 by_cases k1:kind=1
 ·have HR:Hid (dX kind ver root next keys kids ents data=(fM keys kids&&kQ ents&&kE next data&&Hd ver root)):=by show _=_;unfold dX;rw [if_pos k1]
  have kb1:(kind==1)=true:=beq_iff_eq.2 k1
  clear k1
  go_wp2_with (go_at_call 154;refine(Ex _ _ _ _ _ _ _ _ _ _ _ _ _ _ _ ).mono ?_;rintro e w1 ⟨rfl,hb1⟩)
  all_goals go_ret
  all_goals first|refine⟨bT ?_,hb⟩|refine⟨bT ?_,hb.trans (hb1.mono (by simp))⟩
  all_goals (rw [HR.out];simp [*])
 have kb1:(kind==1)=false:=beq_eq_false_iff_ne.2 k1
 by_cases k2:kind=2
 ·have HR:Hid (dX kind ver root next keys kids ents data=(kF ver root&&kQ ents&&kE next data&&gQ keys kids)):=by show _=_;unfold dX;rw [if_neg k1,if_pos k2]
  have kb2:(kind==2)=true:=beq_iff_eq.2 k2
  clear k1 k2
  go_wp2_with (go_at_call 155;refine(Aa _ _ _ _ _ _ _ _ _ _ _ _ _ _ _ hKb hIb hkn hin).mono ?_;rintro e w1 ⟨rfl,hb1⟩)
  all_goals go_ret
  all_goals first|refine⟨bT ?_,hb⟩|refine⟨bT ?_,hb.trans (hb1.mono (by simp))⟩
  all_goals (rw [HR.out];simp [*])
 have kb2:(kind==2)=false:=beq_eq_false_iff_ne.2 k2
 by_cases k3:kind=3
 ·have HR:Hid (dX kind ver root next keys kids ents data=(kF ver root&&fM keys kids&&kE next data&&(decide (ents.length≠0)&&fS ⟨#[]⟩ ents))):=by show _=_;unfold dX;rw [if_neg k1,if_neg k2,if_pos k3]
  have kb3:(kind==3)=true:=beq_iff_eq.2 k3
  clear k1 k2 k3
  go_wp2_with (go_at_call 156;refine(Ey _ _ _ _ _ _ _ _ _ _ _ _ _ _ _ hEb hen).mono ?_;rintro e w1 ⟨rfl,hb1⟩)
  all_goals go_ret
  all_goals first|refine⟨bT ?_,hb⟩|refine⟨bT ?_,hb.trans (hb1.mono (by simp))⟩
  all_goals (rw [HR.out];simp [*])
 have kb3:(kind==3)=false:=beq_eq_false_iff_ne.2 k3
 by_cases k4:kind=4
 ·have HR:Hid (dX kind ver root next keys kids ents data=(kF ver root&&fM keys kids&&kQ ents&&Ce next data)):=by show _=_;unfold dX;rw [if_neg k1,if_neg k2,if_neg k3,if_pos k4]
  have kb4:(kind==4)=true:=beq_iff_eq.2 k4
  clear k1 k2 k3 k4
  go_wp2_with (go_at_call 157;refine(Ew _ _ _ _ _ _ _ _ _ _ _ _ _ _ _ ).mono ?_;rintro e w1 ⟨rfl,hb1⟩)
  all_goals go_ret
  all_goals first|refine⟨bT ?_,hb⟩|refine⟨bT ?_,hb.trans (hb1.mono (by simp))⟩
  all_goals (rw [HR.out];simp [*])
 have kb4:(kind==4)=false:=beq_eq_false_iff_ne.2 k4
 have HR:Hid (dX kind ver root next keys kids ents data=false):=by show _=_;unfold dX;rw [if_neg k1,if_neg k2,if_neg k3,if_neg k4]
 clear k1 k2 k3 k4
 go_wp2
 go_ret
 exact⟨bT (by rw [HR.out]),hb⟩
def fieldsB (kind ver root next:Int) (keys:List ByteArray) (kids:List Int) (ents:List Ent) (data:ByteArray):List UInt8 :=
 if kind=1 then beB 1 1++beB 8 ver++beB 2 root
 else if kind=2 then beB 1 2++eE keys kids
 else if kind=3 then beB 1 3++lK ents
 else beB 1 4++beB 2 next++dM data
def Ez (bs:List UInt8):List UInt8:=bs++List.replicate (252-bs.length) 0
def tC (bs:List UInt8):List UInt8:=Ez bs++beB 4 (Crc.crc (Ez bs):Nat)
def encS (kind ver root next:Int) (keys:List ByteArray) (kids:List Int) (ents:List Ent) (data:ByteArray):ByteArray :=
 if (dX kind ver root next keys kids ents data&&decide ((fieldsB kind ver root next keys kids ents data).length≤252))=true then ⟨(tC (fieldsB kind ver root next keys kids ents data)).toArray⟩ else ⟨#[]⟩
def cM (kind ver root next:Int) (keys:List ByteArray) (kids:List Int) (ents:List Ent) (data:ByteArray):Int :=
 if (dX kind ver root next keys kids ents data&&decide ((fieldsB kind ver root next keys kids ents data).length≤252))=true then 0 else 2
structure Small (keys:List ByteArray) (kids:List Int) (ents:List Ent) (data:ByteArray):Prop where
 nKeys:keys.length≤1073741824
 nKids:kids.length≤1073741824
 nEnts:ents.length≤1073741824
 each:∀ e∈ents,e.key.size≤1073741824∧e.val.size≤1073741824
 lBranch:(eE keys kids).length≤34359738368
 lLeaf:(lK ents).length≤34359738368
 lData:data.size≤1073741824
theorem Buf.string (h:Buf w B v bs):(convert 115 9 v).run Tryz.prog w=.ok (.string ⟨bs.toArray⟩) w:=by
 obtain⟨hx1,hx2⟩:=id h
 rcases hx2 with⟨rfl,h0⟩|⟨g,cap,cur,rfl,hbg,hg,hnc,hcm,hcs,htake⟩
 ·obtain rfl:=List.eq_nil_of_length_eq_zero h0
  exact run_convert_bytes_nil w 115 5 Tryz.underlying115 Tryz.underlying5 0 0 9 Tryz.underlying9
 ·refine run_convert_bytes_back w 115 9 5 ⟨g,0,none⟩ cap bs Tryz.underlying115 Tryz.underlying5 Tryz.underlying9 fun j hj=>?_
  exact World.ownsRow.cells (w:=w) h (g:=g) rfl j _ (by simp [List.getElem?_eq_getElem hj,eC])
theorem Buf.shape (h:Buf w B v bs):∃ a cap,v=.slice a bs.length cap:=by
 obtain⟨_,hx2⟩:=id h
 rcases hx2 with⟨rfl,h0⟩|⟨g,cap,cur,rfl,_⟩
 ·exact⟨none,0,by rw [h0]⟩
 ·exact⟨_,_,rfl⟩
theorem Qd {a a':ByteArray} {b b':Int} (h1:a=a') (h2:b=b'):Ending.returned (.tuple #[.string a,.int .i64 b])=.returned (.tuple #[.string a',.int .i64 b']):=by rw [h1,h2]
theorem Zr (h:bs.length≤252):(Ez bs).length=252:=by simp [Ez];omega
theorem Lq {kind ver root next:Int} {keys:List ByteArray} {kids:List Int} {ents:List Ent} {data:ByteArray} (h:dX kind ver root next keys kids ents data=true):kind=1∨kind=2∨kind=3∨kind=4:=by
 unfold dX at h
 by_cases k1:kind=1
 ·exact .inl k1
 by_cases k2:kind=2
 ·exact .inr (.inl k2)
 by_cases k3:kind=3
 ·exact .inr (.inr (.inl k3))
 by_cases k4:kind=4
 ·exact .inr (.inr (.inr k4))
 rw [if_neg k1,if_neg k2,if_neg k3,if_neg k4] at h
 cases h
theorem Dr (kind ver root next:Int) (ka ia ea:Option Addr) (kc ic ec:Nat) (data:ByteArray) (keys:List ByteArray) (kids:List Int) (ents:List Ent) (w:World) (B:Nat) (hB:B≤w.heap.size) (hK:cT w B ka (keys.map .string)) (hI:cT w B ia (kids.map (.int .i64))) (hE:cT w B ea (ents.flatMap Ent.cells)) (hs:Small keys kids ents data) (hk:kind=1∨kind=2∨kind=3∨kind=4) :
  Calls Tryz.prog 142 #[.agg #[.int .i64 kind,.int .i64 ver,.int .i64 root,.int .i64 next,.slice ka keys.length kc,.slice ia kids.length ic,.slice ea ents.length ec,.string data]] w fun e w'=>∃ b',e=.returned b'∧Buf w' B b' (fieldsB kind ver root next keys kids ents data)∧cJ B w w':=by
 have s1:=hs.lBranch
 have s2:=hs.lLeaf
 have s3:=hs.lData
 rcases hk with rfl|rfl|rfl|rfl
 ·simpa [fieldsB] using Nu ver root next ka ia ea kc ic ec data keys kids ents B w hB
 ·simpa [fieldsB] using Fl ver root next ka ia ea kc ic ec data keys kids ents B w hB hK hI hs.nKeys hs.nKids (by omega)
 ·simpa [fieldsB] using Nv ver root next ka ia ea kc ic ec data keys kids ents B w hB hE hs.nEnts hs.each (by omega)
 ·simpa [fieldsB] using Nt ver root next ka ia ea kc ic ec data keys kids ents B w hB (by omega)
theorem Nw {kind ver root next:Int} {keys:List ByteArray} {kids:List Int} {ents:List Ent} {data:ByteArray} (hs:Small keys kids ents data):(fieldsB kind ver root next keys kids ents data).length≤34359738400∧1≤(fieldsB kind ver root next keys kids ents data).length:=by
 have s1:=hs.lBranch
 have s2:=hs.lLeaf
 have s3:=hs.lData
 unfold fieldsB
 split
 ·simp [aI]
 split
 ·simp [aI];omega
 split
 ·simp [aI];omega
 ·simp [aI,dM];omega
theorem qF (kind ver root next:Int) (ka ia ea:Option Addr) (kc ic ec:Nat) (data:ByteArray) (keys:List ByteArray) (kids:List Int) (ents:List Ent) (w:World) (hK:cT w w.heap.size ka (keys.map .string)) (hI:cT w w.heap.size ia (kids.map (.int .i64))) (hE:cT w w.heap.size ea (ents.flatMap Ent.cells)) (hs:Small keys kids ents data) :
  Calls Tryz.prog 119 #[.agg #[.int .i64 kind,.int .i64 ver,.int .i64 root,.int .i64 next,.slice ka keys.length kc,.slice ia kids.length ic,.slice ea ents.length ec,.string data]] w fun e w'=>e=.returned (.tuple #[.string (encS kind ver root next keys kids ents data),.int .i64 (cM kind ver root next keys kids ents data)])∧Below w.heap.size w w':=by
 have hb:=(Below.refl w.heap.size w).alloc (Nat.le_refl _) (.cells #[.int .i64 kind,.int .i64 ver,.int .i64 root,.int .i64 next,.slice ka keys.length kc,.slice ia kids.length ic,.slice ea ents.length ec,.string data] 85)
 have hbox:=aA w (.cells #[.int .i64 kind,.int .i64 ver,.int .i64 root,.int .i64 next,.slice ka keys.length kc,.slice ia kids.length ic,.slice ea ents.length ec,.string data] 85)
 have hKb:=(hK.below hb).mono (show w.heap.size≤(w.alloc (.cells #[.int .i64 kind,.int .i64 ver,.int .i64 root,.int .i64 next,.slice ka keys.length kc,.slice ia kids.length ic,.slice ea ents.length ec,.string data] 85)).heap.size by simp)
 have hIb:=(hI.below hb).mono (show w.heap.size≤(w.alloc (.cells #[.int .i64 kind,.int .i64 ver,.int .i64 root,.int .i64 next,.slice ka keys.length kc,.slice ia kids.length ic,.slice ea ents.length ec,.string data] 85)).heap.size by simp)
 have hEb:=(hE.below hb).mono (show w.heap.size≤(w.alloc (.cells #[.int .i64 kind,.int .i64 ver,.int .i64 root,.int .i64 next,.slice ka keys.length kc,.slice ia kids.length ic,.slice ea ents.length ec,.string data] 85)).heap.size by simp)
 have hkn:=hs.nKeys
 have hin:=hs.nKids
 have hen:=hs.nEnts
 obtain⟨fl,fl1⟩:=Nw (kind:=kind) (ver:=ver) (root:=root) (next:=next) hs
 cases hr:dX kind ver root next keys kids ents data
 ·have HS:Hid (encS kind ver root next keys kids ents data=⟨#[]⟩):=by show _=_;simp [encS,hr]
  have HE:Hid (cM kind ver root next keys kids ents data=2):=by show _=_;simp [cM,hr]
  go_enter Tryz.func119,Tryz.ntmps119
  go_wp2_with (go_at_call 141;refine(wQ _ _ _ _ _ _ _ _ _ _ _ _ _ _ _ hKb hIb hEb hkn hin hen).mono ?_;rintro e w1 ⟨rfl,hb1⟩)
  go_ret2
  exact⟨Qd HS.out.symm HE.out.symm,hb.trans (hb1.mono (by simp))⟩
 ·have hk:=Lq hr
  obtain⟨fs,hfs⟩:∃ fs,fs=fieldsB kind ver root next keys kids ents data:=⟨_,rfl⟩
  rw [← hfs] at fl fl1
  have HF:Hid (fs=fieldsB kind ver root next keys kids ents data):=hfs
  clear hfs
  by_cases hlen:fs.length≤252
  ·have HS:Hid (encS kind ver root next keys kids ents data=⟨(tC fs).toArray⟩):=by show _=_;unfold encS;rw [← HF.out];simp [hr,hlen]
   have HE:Hid (cM kind ver root next keys kids ents data=0):=by show _=_;unfold cM;rw [← HF.out];simp [hr,hlen]
   have hz:252-(fs.length:Int)=((252-fs.length:Nat):Int):=by omega
   have hne:fs≠[]:=by intro h;rw [h] at fl1;simp at fl1
   have lz:fs.length+(252-fs.length)≤140737488355328:=by omega
   have pl:=Zr hlen
   have ln:(Ez fs).length+8≤140737488355328:=by omega
   have lc:(⟨(Ez fs).toArray⟩:ByteArray).size≤maxLen:=by show (Ez fs).toArray.size≤_;rw [List.size_toArray,pl];decide
   have HZ:Hid (252-(fs.length:Int)=((252-fs.length:Nat):Int)):=hz
   clear hz pl
   go_enter Tryz.func119,Tryz.ntmps119
   go_wp2_with (first
    | (go_at_call 141;refine(wQ _ _ _ _ _ _ _ _ _ _ _ _ _ _ _ hKb hIb hEb hkn hin hen).mono ?_;rintro e w1 ⟨rfl,hb1⟩;have hx1:=(cJ.of_below hb1 (Nat.le_refl _)).other _ _ hbox rfl;obtain⟨e0,e1,e2,e3,e4,e5,e6,e7⟩:=bL hx1;have HB1:Below w.heap.size w w1:=hb.trans (hb1.mono (by simp));have hBn:w.heap.size≤w1.heap.size:=HB1.size;clear hb1 hKb hIb hEb hbox)
    | (go_at_call 142;refine(Dr _ _ _ _ _ _ _ _ _ _ _ _ _ _ _ w.heap.size hBn (hK.below HB1) (hI.below HB1) (hE.below HB1) hs hk).mono ?_;rintro e w2 ⟨b2,rfl,hb2,g2⟩;rw [← HF.out] at hb2;obtain⟨a2,c2,rfl⟩:=hb2.shape;have hB2:w.heap.size≤w2.heap.size:=Nat.le_trans hBn g2.size;clear e0 e1 e2 e3 e4 e5 e6 e7 hx1)
    | (at_builtin;refine zY _ rfl (.tmp 16) (.tmp 17) rfl w.heap.size fs _ rfl hb2 hne hB2 (252-fs.length) _ HZ.out rfl lz ?_;intro b3 w3 hb3 g3;have hcv:=hb3.string;have hB3:w.heap.size≤w3.heap.size:=Nat.le_trans hB2 g3.size)
    | (go_at_call 144;refine(Crc.Zq _ _ lc).mono ?_;rintro e w' ⟨rfl,rfl⟩)
    | (go_at_call 143;refine(eG _ _ _ _ w.heap.size _ hb3 hB3 (by decide) (by decide) ln).mono ?_;rintro e w4 ⟨b4,rfl,hb4,g4⟩;have hcv4:=hb4.string))
   go_ret2
   exact⟨Qd (HS.out.trans (by simp [tC,Ez])).symm HE.out.symm,HB1.trans (g2.below.trans (g3.below.trans g4.below))⟩
  ·have HS:Hid (encS kind ver root next keys kids ents data=⟨#[]⟩):=by show _=_;unfold encS;rw [← HF.out];simp [hr,hlen]
   have HE:Hid (cM kind ver root next keys kids ents data=2):=by show _=_;unfold cM;rw [← HF.out];simp [hr,hlen]
   go_enter Tryz.func119,Tryz.ntmps119
   go_wp2_with (first
    | (go_at_call 141;refine(wQ _ _ _ _ _ _ _ _ _ _ _ _ _ _ _ hKb hIb hEb hkn hin hen).mono ?_;rintro e w1 ⟨rfl,hb1⟩;have hx1:=(cJ.of_below hb1 (Nat.le_refl _)).other _ _ hbox rfl;obtain⟨e0,e1,e2,e3,e4,e5,e6,e7⟩:=bL hx1;have HB1:Below w.heap.size w w1:=hb.trans (hb1.mono (by simp));have hBn:w.heap.size≤w1.heap.size:=HB1.size;clear hb1 hKb hIb hEb hbox)
    | (go_at_call 142;refine(Dr _ _ _ _ _ _ _ _ _ _ _ _ _ _ _ w.heap.size hBn (hK.below HB1) (hI.below HB1) (hE.below HB1) hs hk).mono ?_;rintro e w2 ⟨b2,rfl,hb2,g2⟩;rw [← HF.out] at hb2;obtain⟨a2,c2,rfl⟩:=hb2.shape;have hB2:w.heap.size≤w2.heap.size:=Nat.le_trans hBn g2.size;clear e0 e1 e2 e3 e4 e5 e6 e7 hx1))
   go_ret2
   exact⟨Qd HS.out.symm HE.out.symm,HB1.trans g2.below⟩
theorem qFw:(Tryz.prog.info? 9).map (fun i=>(i.zero,i.size,i.bytes))=some (some (.string ⟨#[]⟩),1,16):=by kernel_rfl
def Keys (w:World) (B:Nat) (v:Value) (ks:List ByteArray):Prop:=w.ownsRow B 9 1 v ks.length (ks.map .string)
theorem Keys.nil (w:World) (B:Nat):Keys w B (.slice none 0 0) []:=World.ownsRow_nil _ _ _ _
theorem Keys.alloc {ks:List ByteArray} (h:Keys w B v ks) (o:Obj):Keys (w.alloc o) B v ks:=World.ownsRow.alloc (w:=w) h o
theorem Keys.below {ks:List ByteArray} (h:Keys w B v ks) (hb:Below w.heap.size w w'):Keys w' B v ks :=
 World.ownsRow.kept (row:=none) h ⟨hb.os,hb.tape,hb.output,hb.size,fun k hk _=>hb.block k hk⟩ (by cases v.ownBlock<;>simp)
theorem Eu {ops:Array Oper} {rest:List Oper} {o:Oper} {a:Act} {Q:Exit→Act→World→Prop} (w:World) (hgd:o.guard=none) (sl x:Operand)
  (ho:o.op=.call { callee:=.builtin .append,args:=#[sl,x],argTypes:=#[70,70] }) (B:Nat) (ks:List ByteArray) (v:Value) (hs:a.eval sl=v) (hv:Keys w B v ks) (hB:B≤w.heap.size)
  (k:ByteArray) (hx:a.eval x=.slice (some ⟨w.heap.size,0,none⟩) 1 1) (hl:ks.length+1≤4294967296)
  (h:∀ v' w',Keys w' B v' (ks++[k])→Below B w w'→wpList Tryz.prog ops Q rest (a.put o.dst v') w') :
  wpList Tryz.prog ops Q (o :: rest) a (w.alloc (.cells #[.string k] 9)):=by
 obtain⟨i0,hi,hz0,hz1,hz2⟩:=info_parts qFw
 refine wpList_append_own _ hgd sl x 70 ho B 9 i0 (.string ⟨#[]⟩) 1 16 Tryz.underlying70 hi hz0 hz1 hz2 rfl (by decide) v ks.length (ks.map .string) hs (hv.alloc _) ⟨w.heap.size,0,none⟩ 1 1 [.string k] hx rfl (one_cell _ _) (by intro u hu;simp at hu;subst hu;rfl) (by unfold maxLen;omega) (by omega) (by simp;omega) ?_
 intro v1 w1 ho1 hg1 _
 refine h v1 w1 ?_ (((Below.refl B w).alloc hB _).grown hg1 (by simp;omega) (fun k' hk'=>(World.ownsRow.lt (w:=w) hv k' hk').1))
 unfold Keys
 rw [List.map_append,List.length_append]
 exact ho1
theorem qFd:(Tryz.prog.info? 3).map (fun i=>(i.zero,i.size,i.bytes))=some (some (.int .i64 0),1,8):=by kernel_rfl
def Ints (w:World) (B:Nat) (v:Value) (ks:List Int):Prop:=w.ownsRow B 3 1 v ks.length (ks.map (.int .i64))
theorem Ints.nil (w:World) (B:Nat):Ints w B (.slice none 0 0) []:=World.ownsRow_nil _ _ _ _
theorem Ints.alloc {ks:List Int} (h:Ints w B v ks) (o:Obj):Ints (w.alloc o) B v ks:=World.ownsRow.alloc (w:=w) h o
theorem qZ (h:w.ownsRow B e 1 v n xs) (ho:dQ ρ w w') (hρ:ρ<B):w'.ownsRow B e 1 v n xs :=
 World.ownsRow.kept (row:=some ρ) h ⟨ho.os,ho.tape,ho.output,ho.size,fun k hk hr=>ho.block k hk (fun e=>hr (by rw [e]))⟩ (by
  cases hv:v.ownBlock with
  | none=>exact .inl rfl
  | some k=>exact .inr (fun e=>by have:=(World.ownsRow.lt (w:=w) h k hv).1;simp at e;omega))
theorem rB {B B':Nat}     (h:w.ownsRow B e 1 v n xs) (hb:B'≤B):w.ownsRow B' e 1 v n xs:=by
 obtain⟨hl,hn|⟨k,cap,row,hv,hk,hr⟩⟩:=h
 ·exact⟨hl,.inl hn⟩
 ·exact⟨hl,.inr ⟨k,cap,row,hv,by omega,hr⟩⟩
theorem dQ.below (h:dQ ρ a w) (hb:Below B w w') (hB:a.heap.size≤B):dQ ρ a w' :=
 ⟨hb.os.trans h.os,hb.tape.trans h.tape,hb.output.trans h.output,Nat.le_trans h.size hb.size,fun k hk hr=>(hb.block k (by omega)).trans (h.block k hk hr)⟩
theorem Rd.below {a:Nat} (h:Rd w ρ g c bs a) (hb:Below B w w') (hρ:ρ<B) (hg:g<B):Rd w' ρ g c bs a :=
 ⟨(hb.block ρ hρ).trans h.box,fun j hj=>by rw [hb.cell (p:=⟨g,j,none⟩) hg];exact h.bytes j hj,h.ne,Nat.lt_of_lt_of_le h.lt hb.size,h.le,h.len,h.cap⟩
theorem Ev {ops:Array Oper} {rest:List Oper} {o:Oper} {a:Act} {Q:Exit→Act→World→Prop} (w:World) (hgd:o.guard=none) (sl x:Operand)
  (ho:o.op=.call { callee:=.builtin .append,args:=#[sl,x],argTypes:=#[22,22] }) (B:Nat) (ks:List Int) (v:Value) (hs:a.eval sl=v) (hv:Ints w B v ks) (hB:B≤w.heap.size)
  (k:Int) (hx:a.eval x=.slice (some ⟨w.heap.size,0,none⟩) 1 1) (hl:ks.length+1≤4294967296)
  (h:∀ v' w',Ints w' B v' (ks++[k])→Below B w w'→wpList Tryz.prog ops Q rest (a.put o.dst v') w') :
  wpList Tryz.prog ops Q (o :: rest) a (w.alloc (.cells #[.int .i64 k] 3)):=by
 obtain⟨i0,hi,hz0,hz1,hz2⟩:=info_parts qFd
 refine wpList_append_own _ hgd sl x 22 ho B 3 i0 (.int .i64 0) 1 8 Tryz.underlying22 hi hz0 hz1 hz2 rfl (by decide) v ks.length (ks.map (.int .i64)) hs (hv.alloc _) ⟨w.heap.size,0,none⟩ 1 1 [.int .i64 k] hx rfl (one_cell _ _) (by intro u hu;simp at hu;subst hu;rfl) (by unfold maxLen;omega) (by omega) (by simp;omega) ?_
 intro v1 w1 ho1 hg1 _
 refine h v1 w1 ?_ (((Below.refl B w).alloc hB _).grown hg1 (by simp;omega) (fun k' hk'=>(World.ownsRow.lt (w:=w) hv k' hk').1))
 unfold Ints
 rw [List.map_append,List.length_append]
 exact ho1
def iR (bs:List UInt8) (a n:Nat):List Int:=(List.range n).map fun i=>(gX bs (aT bs a (2 * i)) 2:Int)
def kR (bs:List UInt8) (a:Nat):Nat→Nat
 | 0=>a
 | j+1=>gV bs (kR bs a j)
def iJ (bs:List UInt8) (a n:Nat):List ByteArray:=(List.range n).map fun j=>(⟨(mC bs (kR bs a j)).toArray⟩:ByteArray)
theorem Gr (bs:List UInt8) (a i k:Nat):aT bs (aT bs a i) k=aT bs a (i+k):=by unfold aT;omega
theorem Qz (bs:List UInt8) (a n:Nat):iR bs a (n+1)=iR bs a n++[(gX bs (aT bs a (2 * n)) 2:Int)]:=by simp [iR,List.range_succ]
theorem Rf (bs:List UInt8) (a n:Nat):iJ bs a (n+1)=iJ bs a n++[(⟨(mC bs (kR bs a n)).toArray⟩:ByteArray)]:=by simp [iJ,List.range_succ]
theorem Pa (ρ g c:Nat) (bs:List UInt8) (a:Nat) (w:World) (h:Rd w ρ g c bs a) :
  Calls Tryz.prog 151 #[.pointer (some ⟨ρ,0,none⟩)] w fun e w'=>∃ vk vi,e=.returned (.tuple #[vk,vi]) ∧
   Keys w' w.heap.size vk (iJ bs (aT bs (aT bs a 1) (2 * ((bs.getD a 0).toNat+1))) (bs.getD a 0).toNat)∧Ints w' w.heap.size vi (iR bs (aT bs a 1) ((bs.getD a 0).toNat+1)) ∧
   Rd w' ρ g c bs (kR bs (aT bs (aT bs a 1) (2 * ((bs.getD a 0).toNat+1))) (bs.getD a 0).toNat)∧dQ ρ w w':=by
 have hρ:=h.lt'
 have hgl:=h.lt
 have hN:=kD ρ g c bs a w h
 have hmt:=(bs.getD a 0).toNat_lt
 obtain⟨m,hm⟩:∃ m,m=(bs.getD a 0).toNat:=⟨_,rfl⟩
 obtain⟨p,hp⟩:∃ p,p=aT bs a 1:=⟨_,rfl⟩
 rw [← hm] at hN hmt ⊢
 rw [← hp] at hN ⊢
 have hple:p≤bs.length:=by rw [hp];unfold aT;omega
 clear hm hp
 obtain⟨P,hP⟩:∃ P,P=aT bs p (2 * (m+1)):=⟨_,rfl⟩
 rw [← hP]
 have HP:Hid (P=aT bs p (2 * (m+1))):=hP
 clear hP
 go_enter Tryz.func151,Tryz.ntmps151
 go_wp2_with (go_at_call 150;refine hN.mono ?_;rintro e w1 ⟨rfl,hr1,ho1⟩)
 go_loopw [3,9] (fun u i wr=>∃ j:Nat,j≤m+1∧i=.int .i64 j∧Ints wr w.heap.size u (iR bs p j)∧Rd wr ρ g c bs (aT bs p (2 * j))∧dQ ρ w wr) (fun _ i _=>m+1-(intOf i).toNat)
 case atStart=>exact⟨0,Nat.zero_le _,rfl,Ints.nil _ _,by rw [Gq hple];exact hr1,ho1⟩
 case round =>
  clear hr1 ho1
  obtain⟨j,hj,rfl,hi,hr,ho⟩:=hrel
  have hsz:w.heap.size≤wr.heap.size:=ho.size
  by_cases hlt:j<m+1
  ·have hM:=rE ρ g c bs (aT bs p (2 * j)) wr hr
   have lk:(iR bs p j).length+1≤4294967296:=by simp [iR];omega
   have hks:=Qz bs p j
   rw [Gr] at hM
   obtain⟨n1,hn1⟩:∃ n1,n1=gX bs (aT bs p (2 * j)) 2:=⟨_,rfl⟩
   rw [← hn1] at hM hks
   have HK:Hid (iR bs p (j+1)=iR bs p j++[(n1:Int)]):=hks
   clear hn1 hks
   have hj2:2 * j+2=2 * (j+1):=by omega
   rw [hj2] at hM
   clear hj2
   go_wp2_with (first|(go_at_call 150;refine hM.mono ?_;rintro e w2 ⟨rfl,hr2,ho2⟩;have hi2:Ints w2 w.heap.size u3 (iR bs p j):=qZ hi ho2 hρ;have hs2:w.heap.size≤w2.heap.size:=Nat.le_trans hsz ho2.size)|(at_builtin;refine Ev w2 rfl (.tmp 11) (.tmp 14) rfl w.heap.size _ u3 rfl hi2 hs2 (n1:Int) rfl lk ?_;intro v3 w3 hi3 hb3))
   go_roundw
   case rel=>first|exact⟨j+1,by omega,by go_num,by rw [HK.out];exact hi3,hr2.below hb3 hρ hgl,(ho.trans ho2).below hb3 (Nat.le_refl _)⟩|((repeat apply Exists.intro);exact⟨⟨j+1,by omega,by go_num,by rw [HK.out];exact hi3,hr2.below hb3 hρ hgl,(ho.trans ho2).below hb3 (Nat.le_refl _)⟩,rfl⟩)
   case measure=>simp [intOf];omega
  ·obtain rfl:j=m+1:=by omega
   obtain⟨w0,hw0⟩:∃ w0,w0=wr:=⟨_,rfl⟩
   subst hw0
   rw [← HP.out] at hr
   clear HP hlt hj
   have hρ0:ρ<w0.heap.size:=by omega
   have hg0:g<w0.heap.size:=by omega
   go_wp2
   go_loopw [2,18] (fun u i wr=>∃ j:Nat,j≤m∧i=.int .i64 j∧Keys wr w0.heap.size u (iJ bs P j)∧Rd wr ρ g c bs (kR bs P j)∧dQ ρ w0 wr) (fun _ i _=>m-(intOf i).toNat)
   case atStart=>exact⟨0,Nat.zero_le _,rfl,Keys.nil _ _,hr,dQ.refl _ _⟩
   case round =>
    clear hr
    obtain⟨j,hj,rfl,hk,hr,ho0⟩:=hrel
    have hsz0:w0.heap.size≤wr.heap.size:=ho0.size
    by_cases hlt:j<m
    ·have hM:=sC ρ g c bs (kR bs P j) wr hr
     have lk:(iJ bs P j).length+1≤4294967296:=by simp [iJ];omega
     have hks:=Rf bs P j
     have hkp:gV bs (kR bs P j)=kR bs P (j+1):=rfl
     rw [hkp] at hM
     obtain⟨n1,hn1⟩:∃ n1,n1=(⟨(mC bs (kR bs P j)).toArray⟩:ByteArray):=⟨_,rfl⟩
     rw [← hn1] at hM hks
     have HK:Hid (iJ bs P (j+1)=iJ bs P j++[n1]):=hks
     clear hn1 hks hkp
     go_wp2_with (first|(go_at_call 153;refine hM.mono ?_;rintro e w2 ⟨rfl,hr2,ho2⟩;have hk2:Keys w2 w0.heap.size u2 (iJ bs P j):=qZ hk ho2 hρ0;have hs2:w0.heap.size≤w2.heap.size:=Nat.le_trans hsz0 ho2.size)|(at_builtin;refine Eu w2 rfl (.tmp 20) (.tmp 23) rfl w0.heap.size _ u2 rfl hk2 hs2 n1 rfl lk ?_;intro v3 w3 hk3 hb3))
     go_roundw
     case rel=>first|exact⟨j+1,by omega,by go_num,by rw [HK.out];exact hk3,hr2.below hb3 hρ0 hg0,(ho0.trans ho2).below hb3 (Nat.le_refl _)⟩|((repeat apply Exists.intro);exact⟨⟨j+1,by omega,by go_num,by rw [HK.out];exact hk3,hr2.below hb3 hρ0 hg0,(ho0.trans ho2).below hb3 (Nat.le_refl _)⟩,rfl⟩)
     case measure=>simp [intOf];omega
    ·obtain rfl:j=m:=by omega
     go_wp2
     go_ret2
     exact⟨u2,u3,rfl,rB hk hsz,qZ hi ho0 hρ,hr,ho.trans ho0⟩
theorem Se (s:ByteArray) (u:World):∃ c v,(convert 9 115 (.string s)).run Tryz.prog u=.ok (.slice (some ⟨u.heap.size,0,none⟩) s.size c) v∧v.heap.size=u.heap.size+1∧Below u.heap.size u v ∧
  (∀ (j:Nat) (hj:j<s.data.toList.length),v.cell? ⟨u.heap.size,j,none⟩=some (eC s.data.toList[j]))∧s.size≤c:=by
 refine⟨_,_,run_bytes_of_string u 9 115 5 s Tryz.underlying9 Tryz.underlying115 Tryz.underlying5,by simp,?_,?_,grownCap_ge _ _ _ _⟩
 ·exact((Below.refl u.heap.size u).drew).alloc (by simp) _
 ·intro j hj
  have hj':j<s.data.size:=by simpa using hj
  have e:(u.drew.alloc (.cells (bytesRow s (grownCap u s.size 0 5)) 5 ((bytesRow s (grownCap u s.size 0 5)).size,(bytesRow s (grownCap u s.size 0 5)).size+1))).heap[u.heap.size]?=some (.cells (bytesRow s (grownCap u s.size 0 5)) 5 ((bytesRow s (grownCap u s.size 0 5)).size,(bytesRow s (grownCap u s.size 0 5)).size+1)):=aA u.drew _
  simp only [World.cell?,e]
  have hj2:j<s.size:=hj'
  simp [bytesRow,eC,Array.getElem?_append,hj',hj2]
theorem qAa (ρ g c:Nat) (bs:List UInt8) (a:Nat) (w:World) (h:Rd w ρ g c bs a) :
  Calls Tryz.prog 150 #[.pointer (some ⟨ρ,0,none⟩),.int .i64 8] w fun e w'=>e=.returned (.int .i64 (wrap64 (gX bs a 8)))∧Rd w' ρ g c bs (aT bs a 8)∧dQ ρ w w' :=
 tQ ρ g c bs a 8 w h (by omega)
theorem uS {u:World}  {a0 a1 a2 a3 a4 a5 a6 a7:Value} {t:TypeId} (h:u.heap[β]?=some (.cells #[a0,a1,a2,a3,a4,a5,a6,a7] t)) (v0 v1 v2 v3 v4 v5 v6 v7:Value) :
  ((((((((u.setCell ⟨β,0,none⟩ v0).setCell ⟨β,1,none⟩ v1).setCell ⟨β,2,none⟩ v2).setCell ⟨β,3,none⟩ v3).setCell ⟨β,4,none⟩ v4).setCell ⟨β,5,none⟩ v5).setCell ⟨β,6,none⟩ v6).setCell ⟨β,7,none⟩ v7).heap[β]?=some (.cells #[v0,v1,v2,v3,v4,v5,v6,v7] t):=by
 have:=aD (aD (aD (aD (aD (aD (aD (aD h 0 v0) 1 v1) 2 v2) 3 v3) 4 v4) 5 v5) 6 v6) 7 v7
 simpa using this
theorem mZ (h:Below B w a) (ho:dQ ρ a w') (hρ:B≤ρ) (hB:B≤a.heap.size):Below B w w' :=
 h.trans ⟨ho.os,ho.tape,ho.output,ho.size,fun k hk=>ho.block k (by omega) (by omega)⟩
theorem nY (h:Below B w a)  (hβ:B≤β) (v0 v1 v2 v3 v4 v5 v6 v7:Value) :
  Below B w ((((((((a.setCell ⟨β,0,none⟩ v0).setCell ⟨β,1,none⟩ v1).setCell ⟨β,2,none⟩ v2).setCell ⟨β,3,none⟩ v3).setCell ⟨β,4,none⟩ v4).setCell ⟨β,5,none⟩ v5).setCell ⟨β,6,none⟩ v6).setCell ⟨β,7,none⟩ v7) :=
 (((((((h.setCell hβ v0).setCell hβ v1).setCell hβ v2).setCell hβ v3).setCell hβ v4).setCell hβ v5).setCell hβ v6).setCell hβ v7
theorem eV (w:World) (o:Obj):(w.alloc o).heap.size=w.heap.size+1:=by simp
abbrev gD:Obj:=.cells #[.int .i64 0,.int .i64 0,.int .i64 0,.int .i64 0,.slice none 0 0,.slice none 0 0,.slice none 0 0,.string ⟨#[]⟩] 85
abbrev kC (k:Int):Obj:=.cells #[.int .i64 k,.int .i64 0,.int .i64 0,.int .i64 0,.slice none 0 0,.slice none 0 0,.slice none 0 0,.string ⟨#[]⟩] 85
theorem oU (s:ByteArray) (w:World) (hs:s.size=256):∃ c v,(convert 9 115 (.string s)).run Tryz.prog (w.alloc gD)=.ok (.slice (some ⟨w.heap.size+1,0,none⟩) s.size c) v∧v.heap.size=w.heap.size+1+1 ∧
  Rd (v.alloc (.cells #[.slice (some ⟨w.heap.size+1,0,none⟩) s.size c,.int .i64 0] 228)) (w.heap.size+1+1) (w.heap.size+1) c s.data.toList 0 ∧
  (v.alloc (.cells #[.slice (some ⟨w.heap.size+1,0,none⟩) s.size c,.int .i64 0] 228)).heap[w.heap.size]?=some gD ∧
  Below w.heap.size w (v.alloc (.cells #[.slice (some ⟨w.heap.size+1,0,none⟩) s.size c,.int .i64 0] 228)):=by
 obtain⟨c,v,hcv,hvs,hvb,hvc,hcc⟩:=Se s (w.alloc gD)
 have ez:(w.alloc gD).heap.size=w.heap.size+1:=eV w gD
 rw [ez] at hcv hvs hvb hvc
 have hl:s.data.toList.length=s.size:=by rw [Array.length_toList];rfl
 have hb0:Below w.heap.size w (w.alloc gD):=(Below.refl _ w).alloc (Nat.le_refl _) _
 have hb1:Below w.heap.size w v:=hb0.trans (hvb.mono (by omega))
 have hz:v.heap[w.heap.size]?=some gD:=(hvb.block w.heap.size (by omega)).trans (aA w gD)
 have hn:=aA v (.cells #[.slice (some ⟨w.heap.size+1,0,none⟩) s.size c,.int .i64 0] 228)
 rw [hvs] at hn
 refine⟨c,v,hcv,hvs,⟨?_,?_,by omega,by rw [eV];omega,Nat.zero_le _,by omega,by omega⟩,eL hz,hb1.alloc (by omega) _⟩
 ·rw [hl];exact hn
 ·intro j hj
  rw [World.cell?_of_block (w:=v) (Below.heap_alloc _ _ _ (by show w.heap.size+1<v.heap.size;omega))]
  exact hvc j hj
theorem Vo (s:ByteArray) (w:World) (hs:s.size=256) (hk:(s.data.toList.getD 0 0).toNat=1) :
  Calls Tryz.prog 139 #[.string s] w fun e w'=>e=.returned (.agg #[.int .i64 1,.int .i64 (wrap64 (gX s.data.toList (aT s.data.toList 0 1) 8)),.int .i64 (gX s.data.toList (aT s.data.toList (aT s.data.toList 0 1) 8) 2:Nat),.int .i64 0,.slice none 0 0,.slice none 0 0,.slice none 0 0,.string ⟨#[]⟩])∧Below w.heap.size w w':=by
 obtain⟨c,v,hcv,hvs,hrd,hzz,hbb⟩:=oU s w hs
 obtain⟨bs,hbs⟩:∃ bs,bs=s.data.toList:=⟨_,rfl⟩
 rw [← hbs] at hrd hk ⊢
 have hN:=kD _ _ _ _ _ _ hrd
 obtain⟨p,hp⟩:∃ p,p=aT bs 0 1:=⟨_,rfl⟩
 rw [hk,← hp] at hN
 rw [← hp]
 have hM:=fun w2 (h2:Rd w2 (w.heap.size+1+1) (w.heap.size+1) c bs p)=>qAa _ _ _ _ _ _ h2
 have hM2:=fun w2 (h2:Rd w2 (w.heap.size+1+1) (w.heap.size+1) c bs (aT bs p 8))=>rE _ _ _ _ _ _ h2
 obtain⟨n1,hn1⟩:∃ n1,n1=wrap64 (gX bs p 8):=⟨_,rfl⟩
 obtain⟨n2,hn2⟩:∃ n2,n2=gX bs (aT bs p 8) 2:=⟨_,rfl⟩
 rw [← hn1] at hM ⊢
 rw [← hn2] at hM2 ⊢
 clear hs hn1 hn2 hp hk hbs
 go_enter Tryz.func139,Tryz.ntmps139
 go_upto_region 4 with(go_at_call 150;refine hN.mono ?_;rintro e w1 ⟨rfl,hr1,ho1⟩)
 have hZ1:=eL (x:=kC 1) (ho1.keep (by omega) hzz)
 have hE1:=aA w1 (kC 1)
 have hγ:w1.heap.size≠w.heap.size+1+1:=Nat.ne_of_gt hr1.lt'
 have hγg:w1.heap.size≠w.heap.size+1:=Nat.ne_of_gt hr1.lt
 have hγz:w.heap.size<w1.heap.size:=by have:=hr1.lt;omega
 go_upto_region 6 with(go_at_call 150;refine(hM _ (hr1.alloc _)).mono ?_;rintro e w2 ⟨rfl,hr2,ho2⟩;have hE2:=ho2.keep hγ hE1;have hZ2:=ho2.keep (by omega) hZ1;obtain⟨c0,c1,c2,c3,c4,c5,c6,c7⟩:=bL hE2;have hf1:=aF hE2)
 have hE3:(w2.setCell ⟨w1.heap.size,1,none⟩ (.int .i64 n1)).heap[w1.heap.size]?=some (.cells #[.int .i64 1,.int .i64 n1,.int .i64 0,.int .i64 0,.slice none 0 0,.slice none 0 0,.slice none 0 0,.string ⟨#[]⟩] 85):=aD hE2 1 (.int .i64 n1)
 have hZ3:=iS hZ2 (Nat.ne_of_lt hγz) 1 (.int .i64 n1)
 go_upto_region 17 with(go_at_call 150;refine(hM2 _ (hr2.set hγ hγg 1 _)).mono ?_;rintro e w4 ⟨rfl,hr4,ho4⟩;have hE4:=ho4.keep hγ hE3;have hZ4:=ho4.keep (by omega) hZ3;obtain⟨d0,d1,d2,d3,d4,d5,d6,d7⟩:=bL hE4;have hf2:=aF hE4)
 have hE5:(w4.setCell ⟨w1.heap.size,2,none⟩ (.int .i64 (n2:Int))).heap[w1.heap.size]?=some (.cells #[.int .i64 1,.int .i64 n1,.int .i64 (n2:Int),.int .i64 0,.slice none 0 0,.slice none 0 0,.slice none 0 0,.string ⟨#[]⟩] 85):=aD hE4 2 (.int .i64 (n2:Int))
 have hZ5:=iS hZ4 (Nat.ne_of_lt hγz) 2 (.int .i64 (n2:Int))
 obtain⟨f0,f1,f2,f3,f4,f5,f6,f7⟩:=bL hE5
 have hf3:=aF hZ5
 obtain⟨z0,z1,z2,z3,z4,z5,z6,z7⟩:=bL hZ4
 have hU:=uS hZ5 (.int .i64 1) (.int .i64 n1) (.int .i64 (n2:Int)) (.int .i64 0) (.slice none 0 0) (.slice none 0 0) (.slice none 0 0) (.string ⟨#[]⟩)
 obtain⟨y0,y1,y2,y3,y4,y5,y6,y7⟩:=bL hU
 have hO:=(((ho1.alloc (kC 1)).trans ho2).set (β:=w1.heap.size) ho1.size 1 (.int .i64 n1)).trans ho4
 have hO2:=hO.set (β:=w1.heap.size) ho1.size 2 (.int .i64 (n2:Int))
 have hB:=nY (mZ hbb hO2 (by omega) (by rw [eV];omega)) (β:=w.heap.size) (Nat.le_refl _) (.int .i64 1) (.int .i64 n1) (.int .i64 (n2:Int)) (.int .i64 0) (.slice none 0 0) (.slice none 0 0) (.slice none 0 0) (.string ⟨#[]⟩)
 go_wp2
 refine bodyPost_ret (v:=.agg #[.int .i64 1,.int .i64 n1,.int .i64 (n2:Int),.int .i64 0,.slice none 0 0,.slice none 0 0,.slice none 0 0,.string ⟨#[]⟩]) ?_ rfl ⟨rfl,hB⟩
 simp [results,Tryz.results139,go_sem,y0,y1,y2,y3,y4,y5,y6,y7]
theorem Vm (s:ByteArray) (w:World) (hs:s.size=256) (hk:(s.data.toList.getD 0 0).toNat=4) :
  Calls Tryz.prog 139 #[.string s] w fun e w'=>e=.returned (.agg #[.int .i64 4,.int .i64 0,.int .i64 0,.int .i64 (gX s.data.toList (aT s.data.toList 0 1) 2:Nat),.slice none 0 0,.slice none 0 0,.slice none 0 0,.string ⟨(mC s.data.toList (aT s.data.toList (aT s.data.toList 0 1) 2)).toArray⟩])∧Below w.heap.size w w':=by
 obtain⟨c,v,hcv,hvs,hrd,hzz,hbb⟩:=oU s w hs
 obtain⟨bs,hbs⟩:∃ bs,bs=s.data.toList:=⟨_,rfl⟩
 rw [← hbs] at hrd hk ⊢
 have hN:=kD _ _ _ _ _ _ hrd
 obtain⟨p,hp⟩:∃ p,p=aT bs 0 1:=⟨_,rfl⟩
 rw [hk,← hp] at hN
 rw [← hp]
 have hM:=fun w2 (h2:Rd w2 (w.heap.size+1+1) (w.heap.size+1) c bs p)=>rE _ _ _ _ _ _ h2
 have hM2:=fun w2 (h2:Rd w2 (w.heap.size+1+1) (w.heap.size+1) c bs (aT bs p 2))=>sC _ _ _ _ _ _ h2
 obtain⟨n1,hn1⟩:∃ n1,n1=gX bs p 2:=⟨_,rfl⟩
 obtain⟨n2,hn2⟩:∃ n2,n2=(⟨(mC bs (aT bs p 2)).toArray⟩:ByteArray):=⟨_,rfl⟩
 rw [← hn1] at hM ⊢
 rw [← hn2] at hM2 ⊢
 clear hs hn1 hn2 hp hk hbs
 go_enter Tryz.func139,Tryz.ntmps139
 go_upto_region 4 with(go_at_call 150;refine hN.mono ?_;rintro e w1 ⟨rfl,hr1,ho1⟩)
 have hZ1:=eL (x:=kC 4) (ho1.keep (by omega) hzz)
 have hE1:=aA w1 (kC 4)
 have hγ:w1.heap.size≠w.heap.size+1+1:=Nat.ne_of_gt hr1.lt'
 have hγg:w1.heap.size≠w.heap.size+1:=Nat.ne_of_gt hr1.lt
 have hγz:w.heap.size<w1.heap.size:=by have:=hr1.lt;omega
 go_upto_region 16 with(go_at_call 150;refine(hM _ (hr1.alloc _)).mono ?_;rintro e w2 ⟨rfl,hr2,ho2⟩;have hE2:=ho2.keep hγ hE1;have hZ2:=ho2.keep (by omega) hZ1;obtain⟨c0,c1,c2,c3,c4,c5,c6,c7⟩:=bL hE2;have hf1:=aF hE2)
 have hE3:(w2.setCell ⟨w1.heap.size,3,none⟩ (.int .i64 (n1:Int))).heap[w1.heap.size]?=some (.cells #[.int .i64 4,.int .i64 0,.int .i64 0,.int .i64 (n1:Int),.slice none 0 0,.slice none 0 0,.slice none 0 0,.string ⟨#[]⟩] 85):=aD hE2 3 (.int .i64 (n1:Int))
 have hZ3:=iS hZ2 (Nat.ne_of_lt hγz) 3 (.int .i64 (n1:Int))
 go_upto_region 17 with(go_at_call 153;refine(hM2 _ (hr2.set hγ hγg 3 _)).mono ?_;rintro e w4 ⟨rfl,hr4,ho4⟩;have hE4:=ho4.keep hγ hE3;have hZ4:=ho4.keep (by omega) hZ3;obtain⟨d0,d1,d2,d3,d4,d5,d6,d7⟩:=bL hE4;have hf2:=aF hE4)
 have hE5:(w4.setCell ⟨w1.heap.size,7,none⟩ (.string n2)).heap[w1.heap.size]?=some (.cells #[.int .i64 4,.int .i64 0,.int .i64 0,.int .i64 (n1:Int),.slice none 0 0,.slice none 0 0,.slice none 0 0,.string n2] 85):=aD hE4 7 (.string n2)
 have hZ5:=iS hZ4 (Nat.ne_of_lt hγz) 7 (.string n2)
 obtain⟨f0,f1,f2,f3,f4,f5,f6,f7⟩:=bL hE5
 have hf3:=aF hZ5
 obtain⟨z0,z1,z2,z3,z4,z5,z6,z7⟩:=bL hZ4
 have hU:=uS hZ5 (.int .i64 4) (.int .i64 0) (.int .i64 0) (.int .i64 (n1:Int)) (.slice none 0 0) (.slice none 0 0) (.slice none 0 0) (.string n2)
 obtain⟨y0,y1,y2,y3,y4,y5,y6,y7⟩:=bL hU
 have hO:=(((ho1.alloc (kC 4)).trans ho2).set (β:=w1.heap.size) ho1.size 3 (.int .i64 (n1:Int))).trans ho4
 have hO2:=hO.set (β:=w1.heap.size) ho1.size 7 (.string n2)
 have hB:=nY (mZ hbb hO2 (by omega) (by rw [eV];omega)) (β:=w.heap.size) (Nat.le_refl _) (.int .i64 4) (.int .i64 0) (.int .i64 0) (.int .i64 (n1:Int)) (.slice none 0 0) (.slice none 0 0) (.slice none 0 0) (.string n2)
 go_wp2
 refine bodyPost_ret (v:=.agg #[.int .i64 4,.int .i64 0,.int .i64 0,.int .i64 (n1:Int),.slice none 0 0,.slice none 0 0,.slice none 0 0,.string n2]) ?_ rfl ⟨rfl,hB⟩
 simp [results,Tryz.results139,go_sem,y0,y1,y2,y3,y4,y5,y6,y7]
theorem Vn (s:ByteArray) (w:World) (hs:s.size=256) (k:Nat) (hk:(s.data.toList.getD 0 0).toNat=k) (h1:k≠1) (h2:k≠2) (h3:k≠3) (h4:k≠4) :
  Calls Tryz.prog 139 #[.string s] w fun e w'=>e=.returned (.agg #[.int .i64 k,.int .i64 0,.int .i64 0,.int .i64 0,.slice none 0 0,.slice none 0 0,.slice none 0 0,.string ⟨#[]⟩])∧Below w.heap.size w w':=by
 obtain⟨c,v,hcv,hvs,hrd,hzz,hbb⟩:=oU s w hs
 obtain⟨bs,hbs⟩:∃ bs,bs=s.data.toList:=⟨_,rfl⟩
 rw [← hbs] at hrd hk
 have hN:=kD _ _ _ _ _ _ hrd
 rw [hk] at hN
 have e1:((k:Int)==1)=false:=by simp;omega
 have e2:((k:Int)==2)=false:=by simp;omega
 have e3:((k:Int)==3)=false:=by simp;omega
 have e4:((k:Int)==4)=false:=by simp;omega
 clear hs hk hbs h1 h2 h3 h4
 go_enter Tryz.func139,Tryz.ntmps139
 go_upto_region 4 with(go_at_call 150;refine hN.mono ?_;rintro e w1 ⟨rfl,hr1,ho1⟩)
 have hZ1:=eL (x:=kC k) (ho1.keep (by omega) hzz)
 have hE1:=aA w1 (kC k)
 generalize hw2:w1.alloc (kC k)=w2 at *
 have hγz:w.heap.size<w1.heap.size:=by have:=hr1.lt;omega
 obtain⟨f0,f1,f2,f3,f4,f5,f6,f7⟩:=bL hE1
 have hf3:=aF hZ1
 obtain⟨z0,z1,z2,z3,z4,z5,z6,z7⟩:=bL hZ1
 have hU:=uS hZ1 (.int .i64 k) (.int .i64 0) (.int .i64 0) (.int .i64 0) (.slice none 0 0) (.slice none 0 0) (.slice none 0 0) (.string ⟨#[]⟩)
 obtain⟨y0,y1,y2,y3,y4,y5,y6,y7⟩:=bL hU
 have hO2:=ho1.alloc (kC k)
 rw [hw2] at hO2
 clear hw2
 have hB:=nY (mZ hbb hO2 (by omega) (by rw [eV];omega)) (β:=w.heap.size) (Nat.le_refl _) (.int .i64 k) (.int .i64 0) (.int .i64 0) (.int .i64 0) (.slice none 0 0) (.slice none 0 0) (.slice none 0 0) (.string ⟨#[]⟩)
 go_wp2
 refine bodyPost_ret (v:=.agg #[.int .i64 k,.int .i64 0,.int .i64 0,.int .i64 0,.slice none 0 0,.slice none 0 0,.slice none 0 0,.string ⟨#[]⟩]) ?_ rfl ⟨rfl,hB⟩
 simp [results,Tryz.results139,go_sem,y0,y1,y2,y3,y4,y5,y6,y7]
theorem eI (h:w.ownsRow B e 1 v n xs) (hβ:β<B) (i:Nat) (u:Value):(w.setCell ⟨β,i,none⟩ u).ownsRow B e 1 v n xs :=
 qZ h ((dQ.refl β w).setCell i u) hβ
theorem uX (h:w.ownsRow B e 1 v n xs) (hβ:β<B) (v0 v1 v2 v3 v4 v5 v6 v7:Value) :
  ((((((((w.setCell ⟨β,0,none⟩ v0).setCell ⟨β,1,none⟩ v1).setCell ⟨β,2,none⟩ v2).setCell ⟨β,3,none⟩ v3).setCell ⟨β,4,none⟩ v4).setCell ⟨β,5,none⟩ v5).setCell ⟨β,6,none⟩ v6).setCell ⟨β,7,none⟩ v7).ownsRow B e 1 v n xs :=
 eI (eI (eI (eI (eI (eI (eI (eI h hβ 0 v0) hβ 1 v1) hβ 2 v2) hβ 3 v3) hβ 4 v4) hβ 5 v5) hβ 6 v6) hβ 7 v7
theorem Gu (h:w.ownsRow B e 1 v n xs):∃ a c,v=.slice a n c:=by
 obtain⟨hl,⟨rfl,rfl⟩|⟨k,cap,row,hv,hk⟩⟩:=h
 ·exact⟨_,_,rfl⟩
 ·exact⟨_,_,hv⟩
theorem Lr (s:ByteArray) (w:World) (hs:s.size=256) (hk:(s.data.toList.getD 0 0).toNat=2) (p:Nat) (hp:p=aT s.data.toList 0 1) (m:Nat) (hm:m=(s.data.toList.getD p 0).toNat) (P:Nat) (hP:P=aT s.data.toList (aT s.data.toList p 1) (2 * (m+1))) :
  Calls Tryz.prog 139 #[.string s] w fun e w'=>∃ vk vi,e=.returned (.agg #[.int .i64 2,.int .i64 0,.int .i64 0,.int .i64 0,vk,vi,.slice none 0 0,.string ⟨#[]⟩]) ∧
   Keys w' w.heap.size vk (iJ s.data.toList P m)∧Ints w' w.heap.size vi (iR s.data.toList (aT s.data.toList p 1) (m+1))∧Below w.heap.size w w':=by
 obtain⟨c,v,hcv,hvs,hrd,hzz,hbb⟩:=oU s w hs
 obtain⟨bs,hbs⟩:∃ bs,bs=s.data.toList:=⟨_,rfl⟩
 rw [← hbs] at hrd hk hm hp hP ⊢
 have hN:=kD _ _ _ _ _ _ hrd
 rw [hk,← hp] at hN
 have hM:=fun w2 (h2:Rd w2 (w.heap.size+1+1) (w.heap.size+1) c bs p)=>Pa _ _ _ _ _ _ h2
 rw [← hm,← hP] at hM
 obtain⟨ks,hks⟩:∃ ks,ks=iJ bs P m:=⟨_,rfl⟩
 obtain⟨is,his⟩:∃ is,is=iR bs (aT bs p 1) (m+1):=⟨_,rfl⟩
 rw [← hks,← his] at hM
 rw [← hks,← his]
 clear hs hp hk hbs hm hP hks his
 go_enter Tryz.func139,Tryz.ntmps139
 go_upto_region 4 with(go_at_call 150;refine hN.mono ?_;rintro e w1 ⟨rfl,hr1,ho1⟩)
 have hZ1:=eL (x:=kC 2) (ho1.keep (by omega) hzz)
 have hE1:=aA w1 (kC 2)
 have hz1:=eV w1 (kC 2)
 have hγ:w1.heap.size≠w.heap.size+1+1:=Nat.ne_of_gt hr1.lt'
 have hγg:w1.heap.size≠w.heap.size+1:=Nat.ne_of_gt hr1.lt
 have hγz:w.heap.size<w1.heap.size:=by have:=hr1.lt;omega
 have hM1:=hM _ (hr1.alloc (kC 2))
 rw [hz1] at hM1
 clear hM
 go_upto_region 17 with(go_at_call 151;refine hM1.mono ?_;rintro e w2 ⟨vk,vi,rfl,hK2,hI2,hr2,ho2⟩;obtain⟨ka,kc,rfl⟩:=Gu hK2;obtain⟨ia,ic,rfl⟩:=Gu hI2;have hE2:=ho2.keep hγ hE1;have hZ2:=ho2.keep (by omega) hZ1;obtain⟨c0,c1,c2,c3,c4,c5,c6,c7⟩:=bL hE2;have hf1:=aF hE2)
 have hE3:(w2.setCell ⟨w1.heap.size,4,none⟩ (.slice ka ks.length kc)).heap[w1.heap.size]?=some (.cells #[.int .i64 2,.int .i64 0,.int .i64 0,.int .i64 0,.slice ka ks.length kc,.slice none 0 0,.slice none 0 0,.string ⟨#[]⟩] 85):=aD hE2 4 (.slice ka ks.length kc)
 have hZ3:=iS hZ2 (Nat.ne_of_lt hγz) 4 (.slice ka ks.length kc)
 have hE5:((w2.setCell ⟨w1.heap.size,4,none⟩ (.slice ka ks.length kc)).setCell ⟨w1.heap.size,5,none⟩ (.slice ia is.length ic)).heap[w1.heap.size]?=some (.cells #[.int .i64 2,.int .i64 0,.int .i64 0,.int .i64 0,.slice ka ks.length kc,.slice ia is.length ic,.slice none 0 0,.string ⟨#[]⟩] 85):=aD hE3 5 (.slice ia is.length ic)
 have hZ5:=iS hZ3 (Nat.ne_of_lt hγz) 5 (.slice ia is.length ic)
 have hO2:=(((ho1.alloc (kC 2)).trans ho2).set (β:=w1.heap.size) ho1.size 4 (.slice ka ks.length kc)).set (β:=w1.heap.size) ho1.size 5 (.slice ia is.length ic)
 have hK5:Keys _ _ _ _:=eI (eI hK2 (Nat.lt_succ_self _) 4 (.slice ka ks.length kc)) (Nat.lt_succ_self _) 5 (.slice ia is.length ic)
 have hI5:Ints _ _ _ _:=eI (eI hI2 (Nat.lt_succ_self _) 4 (.slice ka ks.length kc)) (Nat.lt_succ_self _) 5 (.slice ia is.length ic)
 generalize hw5:(w2.setCell ⟨w1.heap.size,4,none⟩ (.slice ka ks.length kc)).setCell ⟨w1.heap.size,5,none⟩ (.slice ia is.length ic)=w5 at *
 clear hw5
 obtain⟨f0,f1,f2,f3,f4,f5,f6,f7⟩:=bL hE5
 have hf3:=aF hZ5
 obtain⟨z0,z1,z2,z3,z4,z5,z6,z7⟩:=bL hZ5
 have hU:=uS hZ5 (.int .i64 2) (.int .i64 0) (.int .i64 0) (.int .i64 0) (.slice ka ks.length kc) (.slice ia is.length ic) (.slice none 0 0) (.string ⟨#[]⟩)
 obtain⟨y0,y1,y2,y3,y4,y5,y6,y7⟩:=bL hU
 have hB:=nY (mZ hbb hO2 (by omega) (by rw [eV];omega)) (β:=w.heap.size) (Nat.le_refl _) (.int .i64 2) (.int .i64 0) (.int .i64 0) (.int .i64 0) (.slice ka ks.length kc) (.slice ia is.length ic) (.slice none 0 0) (.string ⟨#[]⟩)
 have hK6:=rB (uX hK5 (Nat.lt_succ_of_lt hγz) (.int .i64 2) (.int .i64 0) (.int .i64 0) (.int .i64 0) (.slice ka ks.length kc) (.slice ia is.length ic) (.slice none 0 0) (.string ⟨#[]⟩)) (B':=w.heap.size) (by omega)
 have hI6:=rB (uX hI5 (Nat.lt_succ_of_lt hγz) (.int .i64 2) (.int .i64 0) (.int .i64 0) (.int .i64 0) (.slice ka ks.length kc) (.slice ia is.length ic) (.slice none 0 0) (.string ⟨#[]⟩)) (B':=w.heap.size) (by omega)
 go_wp2
 refine bodyPost_ret (v:=.agg #[.int .i64 2,.int .i64 0,.int .i64 0,.int .i64 0,.slice ka ks.length kc,.slice ia is.length ic,.slice none 0 0,.string ⟨#[]⟩]) ?_ rfl ⟨_,_,rfl,hK6,hI6,hB⟩
 simp [results,Tryz.results139,go_sem,y0,y1,y2,y3,y4,y5,y6,y7]
theorem Tz:(Tryz.prog.info? 108).map (fun i=>(i.zero,i.size,i.bytes))=some (some (.agg #[.string ⟨#[]⟩,.string ⟨#[]⟩,.int .i64 0,.int .i64 0]),4,48):=by kernel_rfl
def fQ (w:World) (B:Nat) (v:Value) (es:List Ent):Prop:=w.ownsRow B 108 4 v es.length (es.flatMap Ent.cells)
theorem fQ.nil (w:World) (B:Nat):fQ w B (.slice none 0 0) []:=World.ownsRow_nil _ _ _ _
theorem fQ.alloc (h:fQ w B v es) (o:Obj):fQ (w.alloc o) B v es:=World.ownsRow.alloc (w:=w) h o
theorem fQ.only (h:fQ w B v es) (ho:dQ ρ w w') (hρ:ρ<B):fQ w' B v es :=
 World.ownsRow.kept (row:=some ρ) h ⟨ho.os,ho.tape,ho.output,ho.size,fun k hk hr=>ho.block k hk (fun e=>hr (by rw [e]))⟩ (by
  cases hv:v.ownBlock with
  | none=>exact .inl rfl
  | some k=>exact .inr (fun e=>by have:=(World.ownsRow.lt (w:=w) h k hv).1;simp at e;omega))
theorem fQ.set (h:fQ w B v es) (hβ:β<B) (i:Nat) (u:Value):fQ (w.setCell ⟨β,i,none⟩ u) B v es :=
 h.only ((dQ.refl β w).setCell i u) hβ
theorem fQ.mono {B B':Nat}   (h:fQ w B v es) (hb:B'≤B):fQ w B' v es:=by
 obtain⟨hl,hn|⟨k,cap,row,hv,hk,hr⟩⟩:=h
 ·exact⟨hl,.inl hn⟩
 ·exact⟨hl,.inr ⟨k,cap,row,hv,by omega,hr⟩⟩
theorem fQ.slice (h:fQ w B v es):∃ a c,v=.slice a es.length c:=by
 obtain⟨hl,⟨rfl,h0⟩|⟨k,cap,row,hv,hk⟩⟩:=h
 ·rw [h0];exact⟨_,_,rfl⟩
 ·exact⟨_,_,hv⟩
theorem Rt (w:World) (a0 a1 a2 a3:Value) (t:TypeId):∀ j u,[a0,a1,a2,a3][j]?=some u→(w.alloc (.cells #[a0,a1,a2,a3] t)).cell? ((⟨w.heap.size,0,none⟩:Addr).add j)=some u:=by
 intro j u hj
 have hlt:j<4:=by have:=(List.getElem?_eq_some_iff.1 hj).1;simpa using this
 have hn:=aA w (.cells #[a0,a1,a2,a3] t)
 have e:(⟨w.heap.size,0,none⟩:Addr).add j=⟨w.heap.size,j,none⟩:=by unfold Addr.add;split<;>simp_all
 rw [e]
 simp only [World.cell?,hn]
 have:j=0∨j=1∨j=2∨j=3:=by omega
 rcases this with rfl|rfl|rfl|rfl<;>simpa using hj
def lE (bs:List UInt8) (a:Nat):Nat→Nat
 | 0=>a
 | j+1=>Ad bs (lE bs a j)
def eQ (bs:List UInt8) (a n:Nat):List Ent:=(List.range n).map fun j=>qN bs (lE bs a j)
theorem Rx (bs:List UInt8) (a n:Nat):eQ bs a (n+1)=eQ bs a n++[qN bs (lE bs a n)]:=by simp [eQ,List.range_succ]
