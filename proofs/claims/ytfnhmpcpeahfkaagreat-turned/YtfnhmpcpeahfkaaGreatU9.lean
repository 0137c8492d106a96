/-
  Joined: Read2, Right2, Enc, Field, Rising, RefRightA, RefRightB, RefRightC, Read3.
-/
import Derived.Test.YtfnhmpcpeahfkaaGreatU8
import Derived.Deep.DeepCutAuto
import Derived.Test.YtfnhmpcpeahfkaaGreatU6
set_option linter.unusedSimpArgs false
set_option linter.unusedVariables false
set_option maxRecDepth 100000
set_option maxHeartbeats 8000000
namespace Go.Proofs.YtfnhmpcpeahfkaaGreat.Pages
open Go.RowKit
variable {B a c g k β ρ:Nat} {bs:List UInt8} {o:Obj} {v:Value} {w w':World}
theorem dQ.alloc {a w:World} (h:dQ ρ a w) (o:Obj):dQ ρ a (w.alloc o) :=
 h.trans ⟨rfl,rfl,rfl,by simp,fun k hk _=>Below.heap_alloc _ _ _ hk⟩
theorem dQ.keep (h:dQ ρ w w')   (hr:k≠ρ) (hk:w.heap[k]?=some o):w'.heap[k]?=some o:=by
 rw [h.block k (Array.getElem?_eq_some_iff.1 hk).1 hr];exact hk
theorem eI {o x:Obj} (hk:w.heap[k]?=some o):(w.alloc x).heap[k]?=some o:=by
 rw [Below.heap_alloc _ _ _ (Array.getElem?_eq_some_iff.1 hk).1];exact hk
theorem Rd.alloc (h:Rd w ρ g c bs a) (o:Obj):Rd (w.alloc o) ρ g c bs a :=
 h.only ((dQ.refl ρ w).alloc o) (eI h.box) h.le
theorem Rd.lt' (h:Rd w ρ g c bs a):ρ<w.heap.size:=(Array.getElem?_eq_some_iff.1 h.box).1
theorem qF (ρ g c:Nat) (bs:List UInt8) (a:Nat) (w:World) (h:Rd w ρ g c bs a) :
  Calls Tryz.prog 150 #[.pointer (some ⟨ρ,0,none⟩),.int .i64 2] w fun e w'=>e=.returned (.int .i64 (gX bs a 2:Nat))∧Rd w' ρ g c bs (aY bs a 2)∧dQ ρ w w':=by
 refine(sV ρ g c bs a 2 w h (by omega)).mono fun e w' ⟨he,hr,ho⟩=>⟨?_,hr,ho⟩
 rw [he]
 refine wY (congrArg (Value.int .i64) ?_)
 have:=qQf bs a 2
 unfold wrap64
 omega
theorem Rd.set (h:Rd w ρ g c bs a)  (hβ:β≠ρ) (hg:β≠g) (i:Nat) (v:Value):Rd (w.setCell ⟨β,i,none⟩ v) ρ g c bs a :=
 ⟨by rw [Below.heap_setCell _ _ _ _ (fun e=>hβ e.symm)];exact h.box,fun j hj=>by rw [World.cell?_of_block (w:=w) (Below.heap_setCell _ _ _ _ (fun e=>hg e.symm))];exact h.bytes j hj,h.ne,by have:=h.lt;simpa [World.setCell] using this,h.le,h.len,h.cap⟩
theorem dQ.set {a w:World} (h:dQ ρ a w)  (hβ:a.heap.size≤β) (i:Nat) (v:Value):dQ ρ a (w.setCell ⟨β,i,none⟩ v) :=
 ⟨h.os,h.tape,h.output,by have:=h.size;simpa [World.setCell] using this,fun k hk hr=>by rw [Below.heap_setCell _ _ _ _ (by simp;omega)];exact h.block k hk hr⟩
theorem iG (hk:w.heap[k]?=some o)  (hb:k≠β) (i:Nat) (v:Value):(w.setCell ⟨β,i,none⟩ v).heap[k]?=some o:=by
 rw [Below.heap_setCell _ _ _ _ hb];exact hk
theorem vAz {u:World}  {a0 a1 a2 a3:Value} {t:TypeId} (h:u.heap[β]?=some (.cells #[a0,a1,a2,a3] t)) (v0 v1 v2 v3:Value):((((u.setCell ⟨β,0,none⟩ v0).setCell ⟨β,1,none⟩ v1).setCell ⟨β,2,none⟩ v2).setCell ⟨β,3,none⟩ v3).heap[β]?=some (.cells #[v0,v1,v2,v3] t):=by
 have:=aI (aI (aI (aI h 0 v0) 1 v1) 2 v2) 3 v3
 simpa using this
def pQ (bs:List UInt8) (a:Nat):Ent :=
 if bs.getD (gO bs a) 0=0 then ⟨⟨(lE bs a).toArray⟩,⟨(lE bs (aY bs (gO bs a) 1)).toArray⟩,(lE bs (aY bs (gO bs a) 1)).length,0⟩
 else ⟨⟨(lE bs a).toArray⟩,⟨#[]⟩,gX bs (aY bs (gO bs a) 1) 2,gX bs (aY bs (aY bs (gO bs a) 1) 2) 2⟩
def yL (bs:List UInt8) (a:Nat):Nat :=
 if bs.getD (gO bs a) 0=0 then gO bs (aY bs (gO bs a) 1) else aY bs (aY bs (aY bs (gO bs a) 1) 2) 2
theorem qOv (ρ g c:Nat) (bs:List UInt8) (a:Nat) (w:World) (h:Rd w ρ g c bs a) :
  Calls Tryz.prog 152 #[.pointer (some ⟨ρ,0,none⟩)] w fun e w'=>e=.returned (.agg #[.string (pQ bs a).key,.string (pQ bs a).val,.int .i64 (pQ bs a).size,.int .i64 (pQ bs a).over])∧Rd w' ρ g c bs (yL bs a)∧dQ ρ w w':=by
 have hρ:=h.lt'
 have hβ:w.heap.size≠ρ:=by omega
 obtain⟨K,hK⟩:∃ K,K=(⟨(lE bs a).toArray⟩:ByteArray):=⟨_,rfl⟩
 have hT:=rB ρ g c bs a (w.alloc (.cells #[.string ⟨#[]⟩,.string ⟨#[]⟩,.int .i64 0,.int .i64 0] 108)) (h.alloc _)
 rw [← hK] at hT
 have hZ:=aB w (.cells #[.string ⟨#[]⟩,.string ⟨#[]⟩,.int .i64 0,.int .i64 0] 108)
 have ho0:=(dQ.refl ρ w).alloc (.cells #[.string ⟨#[]⟩,.string ⟨#[]⟩,.int .i64 0,.int .i64 0] 108)
 have hN1:=fun w' (h':Rd w' ρ g c bs (gO bs a))=>jC ρ g c bs (gO bs a) w' h'
 obtain⟨m,hmd⟩:∃ m,m=bs.getD (gO bs a) 0:=⟨_,rfl⟩
 rw [← hmd] at hN1
 cases hm:(m.toNat==0)
 ·have hm0:¬ bs.getD (gO bs a) 0=0:=by rw [← hmd];intro e;rw [e] at hm;simp at hm
  have hmi:((m.toNat:Int)==0)=false:=by simpa using hm
  obtain⟨n1,hn1⟩:∃ n1,n1=gX bs (aY bs (gO bs a) 1) 2:=⟨_,rfl⟩
  obtain⟨n2,hn2⟩:∃ n2,n2=gX bs (aY bs (aY bs (gO bs a) 1) 2) 2:=⟨_,rfl⟩
  have HR:Hid (pQ bs a=⟨K,⟨#[]⟩,n1,n2⟩):=by show _=_;unfold pQ;rw [if_neg hm0,hK,hn1,hn2]
  have HA:Hid (yL bs a=aY bs (aY bs (aY bs (gO bs a) 1) 2) 2):=by show _=_;unfold yL;rw [if_neg hm0]
  have hM1:=fun w2 (h2:Rd w2 ρ g c bs (aY bs (gO bs a) 1))=>qF ρ g c bs (aY bs (gO bs a) 1) w2 h2
  have hM2:=fun w2 (h2:Rd w2 ρ g c bs (aY bs (aY bs (gO bs a) 1) 2))=>qF ρ g c bs (aY bs (aY bs (gO bs a) 1) 2) w2 h2
  rw [← hn1] at hM1
  rw [← hn2] at hM2
  have hgl:=h.lt
  clear hm hm0 hK hn1 hn2 hmd
  go_enter Tryz.func152,Tryz.ntmps152
  go_wp2_with (go_at_call 153;refine hT.mono ?_;rintro e w1 ⟨rfl,hr1,ho1⟩;have hZ1:=ho1.keep hβ hZ;have hγ:w1.heap.size≠ρ:=Nat.ne_of_gt hr1.lt';have hγβ:w.heap.size<w1.heap.size:=(Array.getElem?_eq_some_iff.1 hZ1).1;have hE1:=aB w1 (.cells #[.string K,.string ⟨#[]⟩,.int .i64 0,.int .i64 0] 108);have hZ1':=eI (x:=.cells #[.string K,.string ⟨#[]⟩,.int .i64 0,.int .i64 0] 108) hZ1)
  go_upto_region 6 with(go_at_call 150;refine(hN1 _ (hr1.alloc _)).mono ?_;rintro e w2 ⟨rfl,hr2,ho2⟩;have hE2:=ho2.keep hγ hE1;have hZ2:=ho2.keep hβ hZ1')
  go_upto_region 7 with(go_at_call 150;refine(hM1 _ hr2).mono ?_;rintro e w3 ⟨rfl,hr3,ho3⟩;have hE3:=ho3.keep hγ hE2;have hZ3:=ho3.keep hβ hZ2;obtain⟨c0,c1,c2,c3⟩:=gK hE3;have hf1:=aJ hE3;have hγg:w1.heap.size≠g:=by omega)
  have hE4:(w3.setCell ⟨w1.heap.size,2,none⟩ (.int .i64 (n1:Int))).heap[w1.heap.size]?=some (.cells #[.string K,.string ⟨#[]⟩,.int .i64 (n1:Int),.int .i64 0] 108):=by have:=aI hE3 2 (.int .i64 (n1:Int));simpa using this
  have hZ4:=iG hZ3 (Nat.ne_of_lt hγβ) 2 (.int .i64 (n1:Int))
  go_wp2_with (go_at_call 150;refine(hM2 _ (hr3.set hγ hγg 2 _)).mono ?_;rintro e w5 ⟨rfl,hr5,ho5⟩;have hE5:=ho5.keep hγ hE4;have hZ5:=ho5.keep hβ hZ4;obtain⟨d0,d1,d2,d3⟩:=gK hE5;obtain⟨z0,z1,z2,z3⟩:=gK hZ5;have hf2:=aJ hE5;have hf3:=aJ hZ5)
  have hU:=vAz (iG hZ5 (Nat.ne_of_lt hγβ) 3 (.int .i64 (n2:Int))) (.string K) (.string ⟨#[]⟩) (.int .i64 (n1:Int)) (.int .i64 (n2:Int))
  obtain⟨y0,y1,y2,y3⟩:=gK hU
  have hR:=((((hr5.set hγ hγg 3 (.int .i64 (n2:Int))).set hβ (by omega) 0 (.string K)).set hβ (by omega) 1 (.string ⟨#[]⟩)).set hβ (by omega) 2 (.int .i64 (n1:Int))).set hβ (by omega) 3 (.int .i64 (n2:Int))
  have hO:=(((((ho0.trans ho1).alloc (.cells #[.string K,.string ⟨#[]⟩,.int .i64 0,.int .i64 0] 108)).trans ho2).trans ho3).set (β:=w1.heap.size) (by omega) 2 (.int .i64 (n1:Int)))
  have hO2:=(((((hO.trans ho5).set (β:=w1.heap.size) (by omega) 3 (.int .i64 (n2:Int))).set (β:=w.heap.size) (by omega) 0 (.string K)).set (β:=w.heap.size) (by omega) 1 (.string ⟨#[]⟩)).set (β:=w.heap.size) (by omega) 2 (.int .i64 (n1:Int))).set (β:=w.heap.size) (by omega) 3 (.int .i64 (n2:Int))
  refine bodyPost_ret (v:=.agg #[.string K,.string ⟨#[]⟩,.int .i64 (n1:Int),.int .i64 (n2:Int)]) ?_ rfl ⟨?_,?_,hO2⟩
  ·simp [results,Tryz.results152,go_sem,y0,y1,y2,y3]
  ·rw [HR.out]
  ·rw [HA.out];exact hR
 ·have hm0:bs.getD (gO bs a) 0=0:=by rw [← hmd];apply UInt8.toNat_inj.1;simpa using hm
  have hmi:((m.toNat:Int)==0)=true:=by simpa using hm
  obtain⟨V,hV⟩:∃ V,V=(⟨(lE bs (aY bs (gO bs a) 1)).toArray⟩:ByteArray):=⟨_,rfl⟩
  have hVs:V.size=(lE bs (aY bs (gO bs a) 1)).length:=by rw [hV];show (lE bs (aY bs (gO bs a) 1)).toArray.size=_;simp
  have HR:Hid (pQ bs a=⟨K,V,V.size,0⟩):=by show _=_;unfold pQ;rw [if_pos hm0,hK,hVs,hV]
  have HA:Hid (yL bs a=gO bs (aY bs (gO bs a) 1)):=by show _=_;unfold yL;rw [if_pos hm0]
  have hT2:=fun w2 (h2:Rd w2 ρ g c bs (aY bs (gO bs a) 1))=>rB ρ g c bs (aY bs (gO bs a) 1) w2 h2
  rw [← hV] at hT2
  clear hVs hm hm0 hK hV hmd
  go_enter Tryz.func152,Tryz.ntmps152
  go_wp2_with (go_at_call 153;refine hT.mono ?_;rintro e w1 ⟨rfl,hr1,ho1⟩;have hZ1:=ho1.keep hβ hZ;have hγ:w1.heap.size≠ρ:=Nat.ne_of_gt hr1.lt';have hγβ:w.heap.size<w1.heap.size:=(Array.getElem?_eq_some_iff.1 hZ1).1;have hE1:=aB w1 (.cells #[.string K,.string ⟨#[]⟩,.int .i64 0,.int .i64 0] 108);have hZ1':=eI (x:=.cells #[.string K,.string ⟨#[]⟩,.int .i64 0,.int .i64 0] 108) hZ1)
  go_wp2_with (first|(go_at_call 150;refine(hN1 _ (hr1.alloc _)).mono ?_;rintro e w2 ⟨rfl,hr2,ho2⟩;have hE2:=ho2.keep hγ hE1;have hZ2:=ho2.keep hβ hZ1')|(go_at_call 153;refine(hT2 _ hr2).mono ?_;rintro e w3 ⟨rfl,hr3,ho3⟩;have hE3:=ho3.keep hγ hE2;have hZ3:=ho3.keep hβ hZ2;obtain⟨c0,c1,c2,c3⟩:=gK hE3;obtain⟨z0,z1,z2,z3⟩:=gK hZ3;have hf1:=aJ hE3;have hf2:=aJ hZ3))
  have hgl:=h.lt
  have hU:=vAz (iG (iG hZ3 (Nat.ne_of_lt hγβ) 1 (.string V)) (Nat.ne_of_lt hγβ) 2 (.int .i64 (V.size:Int))) (.string K) (.string V) (.int .i64 (V.size:Int)) (.int .i64 0)
  obtain⟨y0,y1,y2,y3⟩:=gK hU
  have hR:=(((((hr3.set hγ (by omega) 1 (.string V)).set hγ (by omega) 2 (.int .i64 (V.size:Int))).set hβ (by omega) 0 (.string K)).set hβ (by omega) 1 (.string V)).set hβ (by omega) 2 (.int .i64 (V.size:Int))).set hβ (by omega) 3 (.int .i64 0)
  have hO:=((((((ho0.trans ho1).alloc (.cells #[.string K,.string ⟨#[]⟩,.int .i64 0,.int .i64 0] 108)).trans ho2).trans ho3).set (β:=w1.heap.size) (by omega) 1 (.string V)).set (β:=w1.heap.size) (by omega) 2 (.int .i64 (V.size:Int)))
  have hO2:=(((hO.set (β:=w.heap.size) (by omega) 0 (.string K)).set (β:=w.heap.size) (by omega) 1 (.string V)).set (β:=w.heap.size) (by omega) 2 (.int .i64 (V.size:Int))).set (β:=w.heap.size) (by omega) 3 (.int .i64 0)
  refine bodyPost_ret (v:=.agg #[.string K,.string V,.int .i64 (V.size:Int),.int .i64 0]) ?_ rfl ⟨?_,?_,hO2⟩
  ·simp [results,Tryz.results152,go_sem,y0,y1,y2,y3]
  ·rw [HR.out]
  ·rw [HA.out];exact hR
def jE (ver root:Int):Bool:=ver==0&&root==0
def fB (keys:List ByteArray) (kids:List Int):Bool:=(keys.length:Int)==0&&(kids.length:Int)==0
def jR (ents:List Ent):Bool:=(ents.length:Int)==0
def jD (next:Int) (data:ByteArray):Bool:=next==0&&data.toList.isEmpty
def dO (kind ver root next:Int) (keys:List ByteArray) (kids:List Int) (ents:List Ent) (data:ByteArray):Bool :=
 if kind=1 then fB keys kids&&jR ents&&jD next data&&qEq ver root
 else if kind=2 then jE ver root&&jR ents&&jD next data&&gH keys kids
 else if kind=3 then jE ver root&&fB keys kids&&jD next data&&(decide (ents.length≠0)&&fJ ⟨#[]⟩ ents)
 else if kind=4 then jE ver root&&fB keys kids&&jR ents&&qAs next data
 else false
theorem vQ (kind:Int) (ver root next:Int) (ka ia ea:Option Addr) (kc ic ec:Nat) (data:ByteArray) (keys:List ByteArray) (kids:List Int) (ents:List Ent) (w:World) (hK:cY w w.heap.size ka (keys.map .string)) (hI:cY w w.heap.size ia (kids.map (.int .i64))) (hE:cY w w.heap.size ea (ents.flatMap Ent.cells)) (hkn:keys.length≤1073741824) (hin:kids.length≤1073741824) (hen:ents.length≤1073741824) :
  Calls Tryz.prog 141 #[.agg #[.int .i64 kind,.int .i64 ver,.int .i64 root,.int .i64 next,.slice ka keys.length kc,.slice ia kids.length ic,.slice ea ents.length ec,.string data]] w fun e w'=>e=.returned (.bool (dO kind ver root next keys kids ents data))∧Below w.heap.size w w':=by
 have hb:=(Below.refl w.heap.size w).alloc (Nat.le_refl _) (.cells #[.int .i64 kind,.int .i64 ver,.int .i64 root,.int .i64 next,.slice ka keys.length kc,.slice ia kids.length ic,.slice ea ents.length ec,.string data] 85)
 have hKb:=(hK.below hb).mono (show w.heap.size≤(w.alloc (.cells #[.int .i64 kind,.int .i64 ver,.int .i64 root,.int .i64 next,.slice ka keys.length kc,.slice ia kids.length ic,.slice ea ents.length ec,.string data] 85)).heap.size by simp)
 have hIb:=(hI.below hb).mono (show w.heap.size≤(w.alloc (.cells #[.int .i64 kind,.int .i64 ver,.int .i64 root,.int .i64 next,.slice ka keys.length kc,.slice ia kids.length ic,.slice ea ents.length ec,.string data] 85)).heap.size by simp)
 have hEb:=(hE.below hb).mono (show w.heap.size≤(w.alloc (.cells #[.int .i64 kind,.int .i64 ver,.int .i64 root,.int .i64 next,.slice ka keys.length kc,.slice ia kids.length ic,.slice ea ents.length ec,.string data] 85)).heap.size by simp)
 clear hK hI hE
 go_enter Tryz.func141,Tryz.ntmps141
 go_upto_region 1 with fail
 go_cut [3] (fun s3 wx=>s3=.bool (jE ver root)∧wx=(w.alloc (.cells #[.int .i64 kind,.int .i64 ver,.int .i64 root,.int .i64 next,.slice ka keys.length kc,.slice ia kids.length ic,.slice ea ents.length ec,.string data] 85)))
 case first =>
  cases hq:(ver==0)
  all_goals (go_wp2_with fail;go_meet;exact⟨congrArg Value.bool (by simp only [jE,hq,Bool.true_and,Bool.false_and]),rfl⟩)
 case rest =>
 obtain⟨rfl,rfl⟩:=hcut
 go_upto_region 2 with fail
 go_cut [4] (fun s4 wx=>s4=.bool (fB keys kids)∧wx=(w.alloc (.cells #[.int .i64 kind,.int .i64 ver,.int .i64 root,.int .i64 next,.slice ka keys.length kc,.slice ia kids.length ic,.slice ea ents.length ec,.string data] 85)))
 case first =>
  cases hq:((keys.length:Int)==0)
  all_goals (go_wp2_with fail;go_meet;exact⟨congrArg Value.bool (by simp only [fB,hq,Bool.true_and,Bool.false_and]),rfl⟩)
 case rest =>
 obtain⟨rfl,rfl⟩:=hcut
 go_upto_region 3 with fail
 go_cut [5] (fun s5 wx=>s5=.bool (jR ents)∧wx=(w.alloc (.cells #[.int .i64 kind,.int .i64 ver,.int .i64 root,.int .i64 next,.slice ka keys.length kc,.slice ia kids.length ic,.slice ea ents.length ec,.string data] 85)))
 case first =>
  go_wp2_with fail
  all_goals (go_meet;exact⟨rfl,rfl⟩)
 case rest =>
 obtain⟨rfl,rfl⟩:=hcut
 go_upto_region 4 with fail
 go_cut [6] (fun s6 wx=>s6=.bool (jD next data)∧wx=(w.alloc (.cells #[.int .i64 kind,.int .i64 ver,.int .i64 root,.int .i64 next,.slice ka keys.length kc,.slice ia kids.length ic,.slice ea ents.length ec,.string data] 85)))
 case first =>
  cases hq:(next==0)
  all_goals (go_wp2_with fail;go_meet;exact⟨congrArg Value.bool (by simp only [jD,hq,Bool.true_and,Bool.false_and]),rfl⟩)
 case rest =>
 obtain⟨rfl,rfl⟩:=hcut
 by_cases k1:kind=1
 ·have HR:Hid (dO kind ver root next keys kids ents data=(fB keys kids&&jR ents&&jD next data&&qEq ver root)):=by show _=_;unfold dO;rw [if_pos k1]
  have kb1:(kind==1)=true:=beq_iff_eq.2 k1
  clear k1
  go_wp2_with (go_at_call 154;refine(qCx _ _ _ _ _ _ _ _ _ _ _ _ _ _ _ ).mono ?_;rintro e w1 ⟨rfl,hb1⟩)
  all_goals go_ret
  all_goals first|refine⟨bT ?_,hb⟩|refine⟨bT ?_,hb.trans (hb1.mono (by simp))⟩
  all_goals (rw [HR.out];simp [*])
 have kb1:(kind==1)=false:=beq_eq_false_iff_ne.2 k1
 by_cases k2:kind=2
 ·have HR:Hid (dO kind ver root next keys kids ents data=(jE ver root&&jR ents&&jD next data&&gH keys kids)):=by show _=_;unfold dO;rw [if_neg k1,if_pos k2]
  have kb2:(kind==2)=true:=beq_iff_eq.2 k2
  clear k1 k2
  go_wp2_with (go_at_call 155;refine(yG _ _ _ _ _ _ _ _ _ _ _ _ _ _ _ hKb hIb hkn hin).mono ?_;rintro e w1 ⟨rfl,hb1⟩)
  all_goals go_ret
  all_goals first|refine⟨bT ?_,hb⟩|refine⟨bT ?_,hb.trans (hb1.mono (by simp))⟩
  all_goals (rw [HR.out];simp [*])
 have kb2:(kind==2)=false:=beq_eq_false_iff_ne.2 k2
 by_cases k3:kind=3
 ·have HR:Hid (dO kind ver root next keys kids ents data=(jE ver root&&fB keys kids&&jD next data&&(decide (ents.length≠0)&&fJ ⟨#[]⟩ ents))):=by show _=_;unfold dO;rw [if_neg k1,if_neg k2,if_pos k3]
  have kb3:(kind==3)=true:=beq_iff_eq.2 k3
  clear k1 k2 k3
  go_wp2_with (go_at_call 156;refine(qCy _ _ _ _ _ _ _ _ _ _ _ _ _ _ _ hEb hen).mono ?_;rintro e w1 ⟨rfl,hb1⟩)
  all_goals go_ret
  all_goals first|refine⟨bT ?_,hb⟩|refine⟨bT ?_,hb.trans (hb1.mono (by simp))⟩
  all_goals (rw [HR.out];simp [*])
 have kb3:(kind==3)=false:=beq_eq_false_iff_ne.2 k3
 by_cases k4:kind=4
 ·have HR:Hid (dO kind ver root next keys kids ents data=(jE ver root&&fB keys kids&&jR ents&&qAs next data)):=by show _=_;unfold dO;rw [if_neg k1,if_neg k2,if_neg k3,if_pos k4]
  have kb4:(kind==4)=true:=beq_iff_eq.2 k4
  clear k1 k2 k3 k4
  go_wp2_with (go_at_call 157;refine(qCw _ _ _ _ _ _ _ _ _ _ _ _ _ _ _ ).mono ?_;rintro e w1 ⟨rfl,hb1⟩)
  all_goals go_ret
  all_goals first|refine⟨bT ?_,hb⟩|refine⟨bT ?_,hb.trans (hb1.mono (by simp))⟩
  all_goals (rw [HR.out];simp [*])
 have kb4:(kind==4)=false:=beq_eq_false_iff_ne.2 k4
 have HR:Hid (dO kind ver root next keys kids ents data=false):=by show _=_;unfold dO;rw [if_neg k1,if_neg k2,if_neg k3,if_neg k4]
 clear k1 k2 k3 k4
 go_wp2
 go_ret
 exact⟨bT (by rw [HR.out]),hb⟩
def fieldsB (kind ver root next:Int) (keys:List ByteArray) (kids:List Int) (ents:List Ent) (data:ByteArray):List UInt8 :=
 if kind=1 then beB 1 1++beB 8 ver++beB 2 root
 else if kind=2 then beB 1 2++eA keys kids
 else if kind=3 then beB 1 3++kM ents
 else beB 1 4++beB 2 next++dN data
def yI (bs:List UInt8):List UInt8:=bs++List.replicate (252-bs.length) 0
def qO (bs:List UInt8):List UInt8:=yI bs++beB 4 (Crc.crc (yI bs):Nat)
def encS (kind ver root next:Int) (keys:List ByteArray) (kids:List Int) (ents:List Ent) (data:ByteArray):ByteArray :=
 if (dO kind ver root next keys kids ents data&&decide ((fieldsB kind ver root next keys kids ents data).length≤252))=true then ⟨(qO (fieldsB kind ver root next keys kids ents data)).toArray⟩ else ⟨#[]⟩
def cH (kind ver root next:Int) (keys:List ByteArray) (kids:List Int) (ents:List Ent) (data:ByteArray):Int :=
 if (dO kind ver root next keys kids ents data&&decide ((fieldsB kind ver root next keys kids ents data).length≤252))=true then 0 else 2
structure Small (keys:List ByteArray) (kids:List Int) (ents:List Ent) (data:ByteArray):Prop where
 nKeys:keys.length≤1073741824
 nKids:kids.length≤1073741824
 nEnts:ents.length≤1073741824
 each:∀ e∈ents,e.key.size≤1073741824∧e.val.size≤1073741824
 lBranch:(eA keys kids).length≤34359738368
 lLeaf:(kM ents).length≤34359738368
 lData:data.size≤1073741824
theorem Buf.string (h:Buf w B v bs):(convert 115 9 v).run Tryz.prog w=.ok (.string ⟨bs.toArray⟩) w:=by
 obtain⟨hx1,hx2⟩:=id h
 rcases hx2 with⟨rfl,h0⟩|⟨g,cap,cur,rfl,hbg,hg,hnc,hcm,hcs,htake⟩
 ·obtain rfl:=List.eq_nil_of_length_eq_zero h0
  exact run_convert_bytes_nil w 115 5 Tryz.underlying115 Tryz.underlying5 0 0 9 Tryz.underlying9
 ·refine run_convert_bytes_back w 115 9 5 ⟨g,0,none⟩ cap bs Tryz.underlying115 Tryz.underlying5 Tryz.underlying9 fun j hj=>?_
  exact World.ownsRow.cells (w:=w) h (g:=g) rfl j _ (by simp [List.getElem?_eq_getElem hj,cW])
theorem Buf.shape (h:Buf w B v bs):∃ a cap,v=.slice a bs.length cap:=by
 obtain⟨_,hx2⟩:=id h
 rcases hx2 with⟨rfl,h0⟩|⟨g,cap,cur,rfl,_⟩
 ·exact⟨none,0,by rw [h0]⟩
 ·exact⟨_,_,rfl⟩
theorem qMy {a a':ByteArray} {b b':Int} (h1:a=a') (h2:b=b'):Ending.returned (.tuple #[.string a,.int .i64 b])=.returned (.tuple #[.string a',.int .i64 b']):=by rw [h1,h2]
theorem qVm (h:bs.length≤252):(yI bs).length=252:=by simp [yI];omega
theorem qIv {kind ver root next:Int} {keys:List ByteArray} {kids:List Int} {ents:List Ent} {data:ByteArray} (h:dO kind ver root next keys kids ents data=true):kind=1∨kind=2∨kind=3∨kind=4:=by
 unfold dO at h
 by_cases k1:kind=1
 ·exact .inl k1
 by_cases k2:kind=2
 ·exact .inr (.inl k2)
 by_cases k3:kind=3
 ·exact .inr (.inr (.inl k3))
 by_cases k4:kind=4
 ·exact .inr (.inr (.inr k4))
 rw [if_neg k1,if_neg k2,if_neg k3,if_neg k4] at h
 cases h
theorem qBz (kind ver root next:Int) (ka ia ea:Option Addr) (kc ic ec:Nat) (data:ByteArray) (keys:List ByteArray) (kids:List Int) (ents:List Ent) (w:World) (B:Nat) (hB:B≤w.heap.size) (hK:cY w B ka (keys.map .string)) (hI:cY w B ia (kids.map (.int .i64))) (hE:cY w B ea (ents.flatMap Ent.cells)) (hs:Small keys kids ents data) (hk:kind=1∨kind=2∨kind=3∨kind=4) :
  Calls Tryz.prog 142 #[.agg #[.int .i64 kind,.int .i64 ver,.int .i64 root,.int .i64 next,.slice ka keys.length kc,.slice ia kids.length ic,.slice ea ents.length ec,.string data]] w fun e w'=>∃ b',e=.returned b'∧Buf w' B b' (fieldsB kind ver root next keys kids ents data)∧cD B w w':=by
 have s1:=hs.lBranch
 have s2:=hs.lLeaf
 have s3:=hs.lData
 rcases hk with rfl|rfl|rfl|rfl
 ·simpa [fieldsB] using qKy ver root next ka ia ea kc ic ec data keys kids ents B w hB
 ·simpa [fieldsB] using qDe ver root next ka ia ea kc ic ec data keys kids ents B w hB hK hI hs.nKeys hs.nKids (by omega)
 ·simpa [fieldsB] using qKz ver root next ka ia ea kc ic ec data keys kids ents B w hB hE hs.nEnts hs.each (by omega)
 ·simpa [fieldsB] using qKx ver root next ka ia ea kc ic ec data keys kids ents B w hB (by omega)
theorem qLa {kind ver root next:Int} {keys:List ByteArray} {kids:List Int} {ents:List Ent} {data:ByteArray} (hs:Small keys kids ents data):(fieldsB kind ver root next keys kids ents data).length≤34359738400∧1≤(fieldsB kind ver root next keys kids ents data).length:=by
 have s1:=hs.lBranch
 have s2:=hs.lLeaf
 have s3:=hs.lData
 unfold fieldsB
 split
 ·simp [aM]
 split
 ·simp [aM];omega
 split
 ·simp [aM];omega
 ·simp [aM,dN];omega
theorem pH (kind ver root next:Int) (ka ia ea:Option Addr) (kc ic ec:Nat) (data:ByteArray) (keys:List ByteArray) (kids:List Int) (ents:List Ent) (w:World) (hK:cY w w.heap.size ka (keys.map .string)) (hI:cY w w.heap.size ia (kids.map (.int .i64))) (hE:cY w w.heap.size ea (ents.flatMap Ent.cells)) (hs:Small keys kids ents data) :
  Calls Tryz.prog 119 #[.agg #[.int .i64 kind,.int .i64 ver,.int .i64 root,.int .i64 next,.slice ka keys.length kc,.slice ia kids.length ic,.slice ea ents.length ec,.string data]] w fun e w'=>e=.returned (.tuple #[.string (encS kind ver root next keys kids ents data),.int .i64 (cH kind ver root next keys kids ents data)])∧Below w.heap.size w w':=by
 have hb:=(Below.refl w.heap.size w).alloc (Nat.le_refl _) (.cells #[.int .i64 kind,.int .i64 ver,.int .i64 root,.int .i64 next,.slice ka keys.length kc,.slice ia kids.length ic,.slice ea ents.length ec,.string data] 85)
 have hbox:=aB w (.cells #[.int .i64 kind,.int .i64 ver,.int .i64 root,.int .i64 next,.slice ka keys.length kc,.slice ia kids.length ic,.slice ea ents.length ec,.string data] 85)
 have hKb:=(hK.below hb).mono (show w.heap.size≤(w.alloc (.cells #[.int .i64 kind,.int .i64 ver,.int .i64 root,.int .i64 next,.slice ka keys.length kc,.slice ia kids.length ic,.slice ea ents.length ec,.string data] 85)).heap.size by simp)
 have hIb:=(hI.below hb).mono (show w.heap.size≤(w.alloc (.cells #[.int .i64 kind,.int .i64 ver,.int .i64 root,.int .i64 next,.slice ka keys.length kc,.slice ia kids.length ic,.slice ea ents.length ec,.string data] 85)).heap.size by simp)
 have hEb:=(hE.below hb).mono (show w.heap.size≤(w.alloc (.cells #[.int .i64 kind,.int .i64 ver,.int .i64 root,.int .i64 next,.slice ka keys.length kc,.slice ia kids.length ic,.slice ea ents.length ec,.string data] 85)).heap.size by simp)
 have hkn:=hs.nKeys
 have hin:=hs.nKids
 have hen:=hs.nEnts
 obtain⟨fl,fl1⟩:=qLa (kind:=kind) (ver:=ver) (root:=root) (next:=next) hs
 cases hr:dO kind ver root next keys kids ents data
 ·have HS:Hid (encS kind ver root next keys kids ents data=⟨#[]⟩):=by show _=_;simp [encS,hr]
  have HE:Hid (cH kind ver root next keys kids ents data=2):=by show _=_;simp [cH,hr]
  go_enter Tryz.func119,Tryz.ntmps119
  go_wp2_with (go_at_call 141;refine(vQ _ _ _ _ _ _ _ _ _ _ _ _ _ _ _ hKb hIb hEb hkn hin hen).mono ?_;rintro e w1 ⟨rfl,hb1⟩)
  go_ret2
  exact⟨qMy HS.out.symm HE.out.symm,hb.trans (hb1.mono (by simp))⟩
 ·have hk:=qIv hr
  obtain⟨fs,hfs⟩:∃ fs,fs=fieldsB kind ver root next keys kids ents data:=⟨_,rfl⟩
  rw [← hfs] at fl fl1
  have HF:Hid (fs=fieldsB kind ver root next keys kids ents data):=hfs
  clear hfs
  by_cases hlen:fs.length≤252
  ·have HS:Hid (encS kind ver root next keys kids ents data=⟨(qO fs).toArray⟩):=by show _=_;unfold encS;rw [← HF.out];simp [hr,hlen]
   have HE:Hid (cH kind ver root next keys kids ents data=0):=by show _=_;unfold cH;rw [← HF.out];simp [hr,hlen]
   have hz:252-(fs.length:Int)=((252-fs.length:Nat):Int):=by omega
   have hne:fs≠[]:=by intro h;rw [h] at fl1;simp at fl1
   have lz:fs.length+(252-fs.length)≤140737488355328:=by omega
   have pl:=qVm hlen
   have ln:(yI fs).length+8≤140737488355328:=by omega
   have lc:(⟨(yI fs).toArray⟩:ByteArray).size≤maxLen:=by show (yI fs).toArray.size≤_;rw [List.size_toArray,pl];decide
   have HZ:Hid (252-(fs.length:Int)=((252-fs.length:Nat):Int)):=hz
   clear hz pl
   go_enter Tryz.func119,Tryz.ntmps119
   go_wp2_with (first
    | (go_at_call 141;refine(vQ _ _ _ _ _ _ _ _ _ _ _ _ _ _ _ hKb hIb hEb hkn hin hen).mono ?_;rintro e w1 ⟨rfl,hb1⟩;have hx1:=(cD.of_below hb1 (Nat.le_refl _)).other _ _ hbox rfl;obtain⟨e0,e1,e2,e3,e4,e5,e6,e7⟩:=bH hx1;have HB1:Below w.heap.size w w1:=hb.trans (hb1.mono (by simp));have hBn:w.heap.size≤w1.heap.size:=HB1.size;clear hb1 hKb hIb hEb hbox)
    | (go_at_call 142;refine(qBz _ _ _ _ _ _ _ _ _ _ _ _ _ _ _ w.heap.size hBn (hK.below HB1) (hI.below HB1) (hE.below HB1) hs hk).mono ?_;rintro e w2 ⟨b2,rfl,hb2,g2⟩;rw [← HF.out] at hb2;obtain⟨a2,c2,rfl⟩:=hb2.shape;have hB2:w.heap.size≤w2.heap.size:=Nat.le_trans hBn g2.size;clear e0 e1 e2 e3 e4 e5 e6 e7 hx1)
    | (at_builtin;refine yC _ rfl (.tmp 16) (.tmp 17) rfl w.heap.size fs _ rfl hb2 hne hB2 (252-fs.length) _ HZ.out rfl lz ?_;intro b3 w3 hb3 g3;have hcv:=hb3.string;have hB3:w.heap.size≤w3.heap.size:=Nat.le_trans hB2 g3.size)
    | (go_at_call 144;refine(Crc.qVl _ _ lc).mono ?_;rintro e w' ⟨rfl,rfl⟩)
    | (go_at_call 143;refine(eE _ _ _ _ w.heap.size _ hb3 hB3 (by decide) (by decide) ln).mono ?_;rintro e w4 ⟨b4,rfl,hb4,g4⟩;have hcv4:=hb4.string))
   go_ret2
   exact⟨qMy (HS.out.trans (by simp [qO,yI])).symm HE.out.symm,HB1.trans (g2.below.trans (g3.below.trans g4.below))⟩
  ·have HS:Hid (encS kind ver root next keys kids ents data=⟨#[]⟩):=by show _=_;unfold encS;rw [← HF.out];simp [hr,hlen]
   have HE:Hid (cH kind ver root next keys kids ents data=2):=by show _=_;unfold cH;rw [← HF.out];simp [hr,hlen]
   go_enter Tryz.func119,Tryz.ntmps119
   go_wp2_with (first
    | (go_at_call 141;refine(vQ _ _ _ _ _ _ _ _ _ _ _ _ _ _ _ hKb hIb hEb hkn hin hen).mono ?_;rintro e w1 ⟨rfl,hb1⟩;have hx1:=(cD.of_below hb1 (Nat.le_refl _)).other _ _ hbox rfl;obtain⟨e0,e1,e2,e3,e4,e5,e6,e7⟩:=bH hx1;have HB1:Below w.heap.size w w1:=hb.trans (hb1.mono (by simp));have hBn:w.heap.size≤w1.heap.size:=HB1.size;clear hb1 hKb hIb hEb hbox)
    | (go_at_call 142;refine(qBz _ _ _ _ _ _ _ _ _ _ _ _ _ _ _ w.heap.size hBn (hK.below HB1) (hI.below HB1) (hE.below HB1) hs hk).mono ?_;rintro e w2 ⟨b2,rfl,hb2,g2⟩;rw [← HF.out] at hb2;obtain⟨a2,c2,rfl⟩:=hb2.shape;have hB2:w.heap.size≤w2.heap.size:=Nat.le_trans hBn g2.size;clear e0 e1 e2 e3 e4 e5 e6 e7 hx1))
   go_ret2
   exact⟨qMy HS.out.symm HE.out.symm,HB1.trans g2.below⟩
theorem vBe:(Tryz.prog.info? 9).map (fun i=>(i.zero,i.size,i.bytes))=some (some (.string ⟨#[]⟩),1,16):=by kernel_rfl
def Keys (w:World) (B:Nat) (v:Value) (ks:List ByteArray):Prop:=w.ownsRow B 9 1 v ks.length (ks.map .string)
theorem Keys.nil (w:World) (B:Nat):Keys w B (.slice none 0 0) []:=World.ownsRow_nil _ _ _ _
theorem Keys.alloc {ks:List ByteArray} (h:Keys w B v ks) (o:Obj):Keys (w.alloc o) B v ks:=World.ownsRow.alloc (w:=w) h o
theorem Keys.below {ks:List ByteArray} (h:Keys w B v ks) (hb:Below w.heap.size w w'):Keys w' B v ks :=
 World.ownsRow.kept (row:=none) h ⟨hb.os,hb.tape,hb.output,hb.size,fun k hk _=>hb.block k hk⟩ (by cases v.ownBlock<;>simp)
theorem qCt {ops:Array Oper} {rest:List Oper} {o:Oper} {a:Act} {Q:Exit→Act→World→Prop} (w:World) (hgd:o.guard=none) (sl x:Operand)
  (ho:o.op=.call { callee:=.builtin .append,args:=#[sl,x],argTypes:=#[70,70] }) (B:Nat) (ks:List ByteArray) (v:Value) (hs:a.eval sl=v) (hv:Keys w B v ks) (hB:B≤w.heap.size)
  (k:ByteArray) (hx:a.eval x=.slice (some ⟨w.heap.size,0,none⟩) 1 1) (hl:ks.length+1≤4294967296)
  (h:∀ v' w',Keys w' B v' (ks++[k])→Below B w w'→wpList Tryz.prog ops Q rest (a.put o.dst v') w') :
  wpList Tryz.prog ops Q (o :: rest) a (w.alloc (.cells #[.string k] 9)):=by
 obtain⟨i0,hi,hz0,hz1,hz2⟩:=info_parts vBe
 refine wpList_append_own _ hgd sl x 70 ho B 9 i0 (.string ⟨#[]⟩) 1 16 Tryz.underlying70 hi hz0 hz1 hz2 rfl (by decide) v ks.length (ks.map .string) hs (hv.alloc _) ⟨w.heap.size,0,none⟩ 1 1 [.string k] hx rfl (one_cell _ _) (by intro u hu;simp at hu;subst hu;rfl) (by unfold maxLen;omega) (by omega) (by simp;omega) ?_
 intro v1 w1 ho1 hg1 _
 refine h v1 w1 ?_ (((Below.refl B w).alloc hB _).grown hg1 (by simp;omega) (fun k' hk'=>(World.ownsRow.lt (w:=w) hv k' hk').1))
 unfold Keys
 rw [List.map_append,List.length_append]
 exact ho1
theorem vAo:(Tryz.prog.info? 3).map (fun i=>(i.zero,i.size,i.bytes))=some (some (.int .i64 0),1,8):=by kernel_rfl
def Ints (w:World) (B:Nat) (v:Value) (ks:List Int):Prop:=w.ownsRow B 3 1 v ks.length (ks.map (.int .i64))
theorem Ints.nil (w:World) (B:Nat):Ints w B (.slice none 0 0) []:=World.ownsRow_nil _ _ _ _
theorem Ints.alloc {ks:List Int} (h:Ints w B v ks) (o:Obj):Ints (w.alloc o) B v ks:=World.ownsRow.alloc (w:=w) h o
theorem qA {e:TypeId}  {n:Nat} {xs:List Value}  (h:w.ownsRow B e 1 v n xs) (ho:dQ ρ w w') (hρ:ρ<B):w'.ownsRow B e 1 v n xs :=
 World.ownsRow.kept (row:=some ρ) h ⟨ho.os,ho.tape,ho.output,ho.size,fun k hk hr=>ho.block k hk (fun e=>hr (by rw [e]))⟩ (by
  cases hv:v.ownBlock with
  | none=>exact .inl rfl
  | some k=>exact .inr (fun e=>by have:=(World.ownsRow.lt (w:=w) h k hv).1;simp at e;omega))
theorem qB {B B':Nat} {e:TypeId}  {n:Nat} {xs:List Value} (h:w.ownsRow B e 1 v n xs) (hb:B'≤B):w.ownsRow B' e 1 v n xs:=by
 obtain⟨hl,hn|⟨k,cap,row,hv,hk,hr⟩⟩:=h
 ·exact⟨hl,.inl hn⟩
 ·exact⟨hl,.inr ⟨k,cap,row,hv,by omega,hr⟩⟩
theorem dQ.below {a w w':World} (h:dQ ρ a w) (hb:Below B w w') (hB:a.heap.size≤B):dQ ρ a w' :=
 ⟨hb.os.trans h.os,hb.tape.trans h.tape,hb.output.trans h.output,Nat.le_trans h.size hb.size,fun k hk hr=>(hb.block k (by omega)).trans (h.block k hk hr)⟩
theorem Rd.below (h:Rd w ρ g c bs a) (hb:Below B w w') (hρ:ρ<B) (hg:g<B):Rd w' ρ g c bs a :=
 ⟨(hb.block ρ hρ).trans h.box,fun j hj=>by rw [hb.cell (p:=⟨g,j,none⟩) hg];exact h.bytes j hj,h.ne,Nat.lt_of_lt_of_le h.lt hb.size,h.le,h.len,h.cap⟩
theorem qCu {ops:Array Oper} {rest:List Oper} {o:Oper} {a:Act} {Q:Exit→Act→World→Prop} (w:World) (hgd:o.guard=none) (sl x:Operand)
  (ho:o.op=.call { callee:=.builtin .append,args:=#[sl,x],argTypes:=#[22,22] }) (B:Nat) (ks:List Int) (v:Value) (hs:a.eval sl=v) (hv:Ints w B v ks) (hB:B≤w.heap.size)
  (k:Int) (hx:a.eval x=.slice (some ⟨w.heap.size,0,none⟩) 1 1) (hl:ks.length+1≤4294967296)
  (h:∀ v' w',Ints w' B v' (ks++[k])→Below B w w'→wpList Tryz.prog ops Q rest (a.put o.dst v') w') :
  wpList Tryz.prog ops Q (o :: rest) a (w.alloc (.cells #[.int .i64 k] 3)):=by
 obtain⟨i0,hi,hz0,hz1,hz2⟩:=info_parts vAo
 refine wpList_append_own _ hgd sl x 22 ho B 3 i0 (.int .i64 0) 1 8 Tryz.underlying22 hi hz0 hz1 hz2 rfl (by decide) v ks.length (ks.map (.int .i64)) hs (hv.alloc _) ⟨w.heap.size,0,none⟩ 1 1 [.int .i64 k] hx rfl (one_cell _ _) (by intro u hu;simp at hu;subst hu;rfl) (by unfold maxLen;omega) (by omega) (by simp;omega) ?_
 intro v1 w1 ho1 hg1 _
 refine h v1 w1 ?_ (((Below.refl B w).alloc hB _).grown hg1 (by simp;omega) (fun k' hk'=>(World.ownsRow.lt (w:=w) hv k' hk').1))
 unfold Ints
 rw [List.map_append,List.length_append]
 exact ho1
def iF (bs:List UInt8) (a n:Nat):List Int:=(List.range n).map fun i=>(gX bs (aY bs a (2 * i)) 2:Int)
def jT (bs:List UInt8) (a:Nat):Nat→Nat
 | 0=>a
 | j+1=>gO bs (jT bs a j)
def gV (bs:List UInt8) (a n:Nat):List ByteArray:=(List.range n).map fun j=>(⟨(lE bs (jT bs a j)).toArray⟩:ByteArray)
theorem qEd (bs:List UInt8) (a i k:Nat):aY bs (aY bs a i) k=aY bs a (i+k):=by unfold aY;omega
theorem qNv (bs:List UInt8) (a n:Nat):iF bs a (n+1)=iF bs a n++[(gX bs (aY bs a (2 * n)) 2:Int)]:=by simp [iF,List.range_succ]
theorem qNy (bs:List UInt8) (a n:Nat):gV bs a (n+1)=gV bs a n++[(⟨(lE bs (jT bs a n)).toArray⟩:ByteArray)]:=by simp [gV,List.range_succ]
theorem qLw (ρ g c:Nat) (bs:List UInt8) (a:Nat) (w:World) (h:Rd w ρ g c bs a) :
  Calls Tryz.prog 151 #[.pointer (some ⟨ρ,0,none⟩)] w fun e w'=>∃ vk vi,e=.returned (.tuple #[vk,vi]) ∧
   Keys w' w.heap.size vk (gV bs (aY bs (aY bs a 1) (2 * ((bs.getD a 0).toNat+1))) (bs.getD a 0).toNat)∧Ints w' w.heap.size vi (iF bs (aY bs a 1) ((bs.getD a 0).toNat+1)) ∧
   Rd w' ρ g c bs (jT bs (aY bs (aY bs a 1) (2 * ((bs.getD a 0).toNat+1))) (bs.getD a 0).toNat)∧dQ ρ w w':=by
 have hρ:=h.lt'
 have hgl:=h.lt
 have hN:=jC ρ g c bs a w h
 have hmt:=(bs.getD a 0).toNat_lt
 obtain⟨m,hm⟩:∃ m,m=(bs.getD a 0).toNat:=⟨_,rfl⟩
 obtain⟨p,hp⟩:∃ p,p=aY bs a 1:=⟨_,rfl⟩
 rw [← hm] at hN hmt ⊢
 rw [← hp] at hN ⊢
 have hple:p≤bs.length:=by rw [hp];unfold aY;omega
 clear hm hp
 obtain⟨P,hP⟩:∃ P,P=aY bs p (2 * (m+1)):=⟨_,rfl⟩
 rw [← hP]
 have HP:Hid (P=aY bs p (2 * (m+1))):=hP
 clear hP
 go_enter Tryz.func151,Tryz.ntmps151
 go_wp2_with (go_at_call 150;refine hN.mono ?_;rintro e w1 ⟨rfl,hr1,ho1⟩)
 go_loopw [3,9] (fun u i wr=>∃ j:Nat,j≤m+1∧i=.int .i64 j∧Ints wr w.heap.size u (iF bs p j)∧Rd wr ρ g c bs (aY bs p (2 * j))∧dQ ρ w wr) (fun _ i _=>m+1-(intOf i).toNat)
 case atStart=>exact⟨0,Nat.zero_le _,rfl,Ints.nil _ _,by rw [qEc hple];exact hr1,ho1⟩
 case round =>
  clear hr1 ho1
  obtain⟨j,hj,rfl,hi,hr,ho⟩:=hrel
  have hsz:w.heap.size≤wr.heap.size:=ho.size
  by_cases hlt:j<m+1
  ·have hM:=qF ρ g c bs (aY bs p (2 * j)) wr hr
   have lk:(iF bs p j).length+1≤4294967296:=by simp [iF];omega
   have hks:=qNv bs p j
   rw [qEd] at hM
   obtain⟨n1,hn1⟩:∃ n1,n1=gX bs (aY bs p (2 * j)) 2:=⟨_,rfl⟩
   rw [← hn1] at hM hks
   have HK:Hid (iF bs p (j+1)=iF bs p j++[(n1:Int)]):=hks
   clear hn1 hks
   have hj2:2 * j+2=2 * (j+1):=by omega
   rw [hj2] at hM
   clear hj2
   go_wp2_with (first|(go_at_call 150;refine hM.mono ?_;rintro e w2 ⟨rfl,hr2,ho2⟩;have hi2:Ints w2 w.heap.size u3 (iF bs p j):=qA hi ho2 hρ;have hs2:w.heap.size≤w2.heap.size:=Nat.le_trans hsz ho2.size)|(at_builtin;refine qCu w2 rfl (.tmp 11) (.tmp 14) rfl w.heap.size _ u3 rfl hi2 hs2 (n1:Int) rfl lk ?_;intro v3 w3 hi3 hb3))
   go_roundw
   case rel=>first|exact⟨j+1,by omega,by go_num,by rw [HK.out];exact hi3,hr2.below hb3 hρ hgl,(ho.trans ho2).below hb3 (Nat.le_refl _)⟩|((repeat apply Exists.intro);exact⟨⟨j+1,by omega,by go_num,by rw [HK.out];exact hi3,hr2.below hb3 hρ hgl,(ho.trans ho2).below hb3 (Nat.le_refl _)⟩,rfl⟩)
   case measure=>simp [intOf];omega
  ·obtain rfl:j=m+1:=by omega
   obtain⟨w0,hw0⟩:∃ w0,w0=wr:=⟨_,rfl⟩
   subst hw0
   rw [← HP.out] at hr
   clear HP hlt hj
   have hρ0:ρ<w0.heap.size:=by omega
   have hg0:g<w0.heap.size:=by omega
   go_wp2
   go_loopw [2,18] (fun u i wr=>∃ j:Nat,j≤m∧i=.int .i64 j∧Keys wr w0.heap.size u (gV bs P j)∧Rd wr ρ g c bs (jT bs P j)∧dQ ρ w0 wr) (fun _ i _=>m-(intOf i).toNat)
   case atStart=>exact⟨0,Nat.zero_le _,rfl,Keys.nil _ _,hr,dQ.refl _ _⟩
   case round =>
    clear hr
    obtain⟨j,hj,rfl,hk,hr,ho0⟩:=hrel
    have hsz0:w0.heap.size≤wr.heap.size:=ho0.size
    by_cases hlt:j<m
    ·have hM:=rB ρ g c bs (jT bs P j) wr hr
     have lk:(gV bs P j).length+1≤4294967296:=by simp [gV];omega
     have hks:=qNy bs P j
     have hkp:gO bs (jT bs P j)=jT bs P (j+1):=rfl
     rw [hkp] at hM
     obtain⟨n1,hn1⟩:∃ n1,n1=(⟨(lE bs (jT bs P j)).toArray⟩:ByteArray):=⟨_,rfl⟩
     rw [← hn1] at hM hks
     have HK:Hid (gV bs P (j+1)=gV bs P j++[n1]):=hks
     clear hn1 hks hkp
     go_wp2_with (first|(go_at_call 153;refine hM.mono ?_;rintro e w2 ⟨rfl,hr2,ho2⟩;have hk2:Keys w2 w0.heap.size u2 (gV bs P j):=qA hk ho2 hρ0;have hs2:w0.heap.size≤w2.heap.size:=Nat.le_trans hsz0 ho2.size)|(at_builtin;refine qCt w2 rfl (.tmp 20) (.tmp 23) rfl w0.heap.size _ u2 rfl hk2 hs2 n1 rfl lk ?_;intro v3 w3 hk3 hb3))
     go_roundw
     case rel=>first|exact⟨j+1,by omega,by go_num,by rw [HK.out];exact hk3,hr2.below hb3 hρ0 hg0,(ho0.trans ho2).below hb3 (Nat.le_refl _)⟩|((repeat apply Exists.intro);exact⟨⟨j+1,by omega,by go_num,by rw [HK.out];exact hk3,hr2.below hb3 hρ0 hg0,(ho0.trans ho2).below hb3 (Nat.le_refl _)⟩,rfl⟩)
     case measure=>simp [intOf];omega
    ·obtain rfl:j=m:=by omega
     go_wp2
     go_ret2
     exact⟨u2,u3,rfl,qB hk hsz,qA hi ho0 hρ,hr,ho.trans ho0⟩
end Go.Proofs.YtfnhmpcpeahfkaaGreat.Pages
