import Derived.Test.YtpifffkkgnbfpaaGreatQ8
import Derived.Deep.DeepCutAuto
import Derived.Test.YtpifffkkgnbfpaaGreatQ6
set_option linter.unusedSimpArgs false
set_option linter.unusedVariables false
set_option maxRecDepth 100000
set_option maxHeartbeats 8000000
namespace Go.Proofs.YtpifffkkgnbfpaaGreat.Pages
open Go.RowKit
variable {B c g k n β ρ:Nat} {a w w':World} {bs:List UInt8} {e:TypeId} {es:List Ent} {o:Obj} {v:Value} {xs:List Value}
theorem dO.alloc (h:dO ρ a w) (o:Obj):dO ρ a (w.alloc o) :=
 h.trans ⟨rfl,rfl,rfl,by simp,fun k hk _=>Below.heap_alloc _ _ _ hk⟩
theorem dO.keep (h:dO ρ w w')   (hr:k≠ρ) (hk:w.heap[k]?=some o):w'.heap[k]?=some o:=by
 rw [h.block k (Array.getElem?_eq_some_iff.1 hk).1 hr];exact hk
theorem eK {o x:Obj} (hk:w.heap[k]?=some o):(w.alloc x).heap[k]?=some o:=by
 rw [Below.heap_alloc _ _ _ (Array.getElem?_eq_some_iff.1 hk).1];exact hk
theorem Rd.alloc {a:Nat} (h:Rd w ρ g c bs a) (o:Obj):Rd (w.alloc o) ρ g c bs a :=
 h.only ((dO.refl ρ w).alloc o) (eK h.box) h.le
theorem Rd.lt' {a:Nat} (h:Rd w ρ g c bs a):ρ<w.heap.size:=(Array.getElem?_eq_some_iff.1 h.box).1
theorem rB (ρ g c:Nat) (bs:List UInt8) (a:Nat) (w:World) (h:Rd w ρ g c bs a) :
  Calls Tryz.prog 150 #[.pointer (some ⟨ρ,0,none⟩),.int .i64 2] w fun e w'=>e=.returned (.int .i64 (iH bs a 2:Nat))∧Rd w' ρ g c bs (aV bs a 2)∧dO ρ w w':=by
 refine(tJ ρ g c bs a 2 w h (by omega)).mono fun e w' ⟨he,hr,ho⟩=>⟨?_,hr,ho⟩
 rw [he]
 refine xQ (congrArg (Value.int .i64) ?_)
 have:=Su bs a 2
 unfold wrap64
 omega
theorem Rd.set {a:Nat} (h:Rd w ρ g c bs a)  (hβ:β≠ρ) (hg:β≠g) (i:Nat) (v:Value):Rd (w.setCell ⟨β,i,none⟩ v) ρ g c bs a :=
 ⟨by rw [Below.heap_setCell _ _ _ _ (fun e=>hβ e.symm)];exact h.box,fun j hj=>by rw [World.cell?_of_block (w:=w) (Below.heap_setCell _ _ _ _ (fun e=>hg e.symm))];exact h.bytes j hj,h.ne,by have:=h.lt;simpa [World.setCell] using this,h.le,h.len,h.cap⟩
theorem dO.set (h:dO ρ a w)  (hβ:a.heap.size≤β) (i:Nat) (v:Value):dO ρ a (w.setCell ⟨β,i,none⟩ v) :=
 ⟨h.os,h.tape,h.output,by have:=h.size;simpa [World.setCell] using this,fun k hk hr=>by rw [Below.heap_setCell _ _ _ _ (by simp;omega)];exact h.block k hk hr⟩
theorem iP (hk:w.heap[k]?=some o)  (hb:k≠β) (i:Nat) (v:Value):(w.setCell ⟨β,i,none⟩ v).heap[k]?=some o:=by
 rw [Below.heap_setCell _ _ _ _ hb];exact hk
theorem qEv {u:World}  {a0 a1 a2 a3:Value} {t:TypeId} (h:u.heap[β]?=some (.cells #[a0,a1,a2,a3] t)) (v0 v1 v2 v3:Value):((((u.setCell ⟨β,0,none⟩ v0).setCell ⟨β,1,none⟩ v1).setCell ⟨β,2,none⟩ v2).setCell ⟨β,3,none⟩ v3).heap[β]?=some (.cells #[v0,v1,v2,v3] t):=by
 have:=aF (aF (aF (aF h 0 v0) 1 v1) 2 v2) 3 v3
 simpa using this
def qJ (bs:List UInt8) (a:Nat):Ent :=
 if bs.getD (gU bs a) 0=0 then ⟨⟨(lS bs a).toArray⟩,⟨(lS bs (aV bs (gU bs a) 1)).toArray⟩,(lS bs (aV bs (gU bs a) 1)).length,0⟩
 else ⟨⟨(lS bs a).toArray⟩,⟨#[]⟩,iH bs (aV bs (gU bs a) 1) 2,iH bs (aV bs (aV bs (gU bs a) 1) 2) 2⟩
def zJ (bs:List UInt8) (a:Nat):Nat :=
 if bs.getD (gU bs a) 0=0 then gU bs (aV bs (gU bs a) 1) else aV bs (aV bs (aV bs (gU bs a) 1) 2) 2
theorem Rh (ρ g c:Nat) (bs:List UInt8) (a:Nat) (w:World) (h:Rd w ρ g c bs a) :
  Calls Tryz.prog 152 #[.pointer (some ⟨ρ,0,none⟩)] w fun e w'=>e=.returned (.agg #[.string (qJ bs a).key,.string (qJ bs a).val,.int .i64 (qJ bs a).size,.int .i64 (qJ bs a).over])∧Rd w' ρ g c bs (zJ bs a)∧dO ρ w w':=by
 have hρ:=h.lt'
 have hβ:w.heap.size≠ρ:=by omega
 obtain⟨K,hK⟩:∃ K,K=(⟨(lS bs a).toArray⟩:ByteArray):=⟨_,rfl⟩
 have hT:=rX ρ g c bs a (w.alloc (.cells #[.string ⟨#[]⟩,.string ⟨#[]⟩,.int .i64 0,.int .i64 0] 108)) (h.alloc _)
 rw [← hK] at hT
 have hZ:=aA w (.cells #[.string ⟨#[]⟩,.string ⟨#[]⟩,.int .i64 0,.int .i64 0] 108)
 have ho0:=(dO.refl ρ w).alloc (.cells #[.string ⟨#[]⟩,.string ⟨#[]⟩,.int .i64 0,.int .i64 0] 108)
 have hN1:=fun w' (h':Rd w' ρ g c bs (gU bs a))=>jL ρ g c bs (gU bs a) w' h'
 obtain⟨m,hmd⟩:∃ m,m=bs.getD (gU bs a) 0:=⟨_,rfl⟩
 rw [← hmd] at hN1
 cases hm:(m.toNat==0)
 ·have hm0:¬ bs.getD (gU bs a) 0=0:=by rw [← hmd];intro e;rw [e] at hm;simp at hm
  have hmi:((m.toNat:Int)==0)=false:=by simpa using hm
  obtain⟨n1,hn1⟩:∃ n1,n1=iH bs (aV bs (gU bs a) 1) 2:=⟨_,rfl⟩
  obtain⟨n2,hn2⟩:∃ n2,n2=iH bs (aV bs (aV bs (gU bs a) 1) 2) 2:=⟨_,rfl⟩
  have HR:Hid (qJ bs a=⟨K,⟨#[]⟩,n1,n2⟩):=by show _=_;unfold qJ;rw [if_neg hm0,hK,hn1,hn2]
  have HA:Hid (zJ bs a=aV bs (aV bs (aV bs (gU bs a) 1) 2) 2):=by show _=_;unfold zJ;rw [if_neg hm0]
  have hM1:=fun w2 (h2:Rd w2 ρ g c bs (aV bs (gU bs a) 1))=>rB ρ g c bs (aV bs (gU bs a) 1) w2 h2
  have hM2:=fun w2 (h2:Rd w2 ρ g c bs (aV bs (aV bs (gU bs a) 1) 2))=>rB ρ g c bs (aV bs (aV bs (gU bs a) 1) 2) w2 h2
  rw [← hn1] at hM1
  rw [← hn2] at hM2
  have hgl:=h.lt
  clear hm hm0 hK hn1 hn2 hmd
  go_enter Tryz.func152,Tryz.ntmps152
  go_wp2_with (go_at_call 153;refine hT.mono ?_;rintro e w1 ⟨rfl,hr1,ho1⟩;have hZ1:=ho1.keep hβ hZ;have hγ:w1.heap.size≠ρ:=Nat.ne_of_gt hr1.lt';have hγβ:w.heap.size<w1.heap.size:=(Array.getElem?_eq_some_iff.1 hZ1).1;have hE1:=aA w1 (.cells #[.string K,.string ⟨#[]⟩,.int .i64 0,.int .i64 0] 108);have hZ1':=eK (x:=.cells #[.string K,.string ⟨#[]⟩,.int .i64 0,.int .i64 0] 108) hZ1)
  go_upto_region 6 with(go_at_call 150;refine(hN1 _ (hr1.alloc _)).mono ?_;rintro e w2 ⟨rfl,hr2,ho2⟩;have hE2:=ho2.keep hγ hE1;have hZ2:=ho2.keep hβ hZ1')
  go_upto_region 7 with(go_at_call 150;refine(hM1 _ hr2).mono ?_;rintro e w3 ⟨rfl,hr3,ho3⟩;have hE3:=ho3.keep hγ hE2;have hZ3:=ho3.keep hβ hZ2;obtain⟨c0,c1,c2,c3⟩:=iA hE3;have hf1:=aD hE3;have hγg:w1.heap.size≠g:=by omega)
  have hE4:(w3.setCell ⟨w1.heap.size,2,none⟩ (.int .i64 (n1:Int))).heap[w1.heap.size]?=some (.cells #[.string K,.string ⟨#[]⟩,.int .i64 (n1:Int),.int .i64 0] 108):=by have:=aF hE3 2 (.int .i64 (n1:Int));simpa using this
  have hZ4:=iP hZ3 (Nat.ne_of_lt hγβ) 2 (.int .i64 (n1:Int))
  go_wp2_with (go_at_call 150;refine(hM2 _ (hr3.set hγ hγg 2 _)).mono ?_;rintro e w5 ⟨rfl,hr5,ho5⟩;have hE5:=ho5.keep hγ hE4;have hZ5:=ho5.keep hβ hZ4;obtain⟨d0,d1,d2,d3⟩:=iA hE5;obtain⟨z0,z1,z2,z3⟩:=iA hZ5;have hf2:=aD hE5;have hf3:=aD hZ5)
  have hU:=qEv (iP hZ5 (Nat.ne_of_lt hγβ) 3 (.int .i64 (n2:Int))) (.string K) (.string ⟨#[]⟩) (.int .i64 (n1:Int)) (.int .i64 (n2:Int))
  obtain⟨y0,y1,y2,y3⟩:=iA hU
  have hR:=((((hr5.set hγ hγg 3 (.int .i64 (n2:Int))).set hβ (by omega) 0 (.string K)).set hβ (by omega) 1 (.string ⟨#[]⟩)).set hβ (by omega) 2 (.int .i64 (n1:Int))).set hβ (by omega) 3 (.int .i64 (n2:Int))
  have hO:=(((((ho0.trans ho1).alloc (.cells #[.string K,.string ⟨#[]⟩,.int .i64 0,.int .i64 0] 108)).trans ho2).trans ho3).set (β:=w1.heap.size) (by omega) 2 (.int .i64 (n1:Int)))
  have hO2:=(((((hO.trans ho5).set (β:=w1.heap.size) (by omega) 3 (.int .i64 (n2:Int))).set (β:=w.heap.size) (by omega) 0 (.string K)).set (β:=w.heap.size) (by omega) 1 (.string ⟨#[]⟩)).set (β:=w.heap.size) (by omega) 2 (.int .i64 (n1:Int))).set (β:=w.heap.size) (by omega) 3 (.int .i64 (n2:Int))
  refine bodyPost_ret (v:=.agg #[.string K,.string ⟨#[]⟩,.int .i64 (n1:Int),.int .i64 (n2:Int)]) ?_ rfl ⟨?_,?_,hO2⟩
  ·simp [results,Tryz.results152,go_sem,y0,y1,y2,y3]
  ·rw [HR.out]
  ·rw [HA.out];exact hR
 ·have hm0:bs.getD (gU bs a) 0=0:=by rw [← hmd];apply UInt8.toNat_inj.1;simpa using hm
  have hmi:((m.toNat:Int)==0)=true:=by simpa using hm
  obtain⟨V,hV⟩:∃ V,V=(⟨(lS bs (aV bs (gU bs a) 1)).toArray⟩:ByteArray):=⟨_,rfl⟩
  have hVs:V.size=(lS bs (aV bs (gU bs a) 1)).length:=by rw [hV];show (lS bs (aV bs (gU bs a) 1)).toArray.size=_;simp
  have HR:Hid (qJ bs a=⟨K,V,V.size,0⟩):=by show _=_;unfold qJ;rw [if_pos hm0,hK,hVs,hV]
  have HA:Hid (zJ bs a=gU bs (aV bs (gU bs a) 1)):=by show _=_;unfold zJ;rw [if_pos hm0]
  have hT2:=fun w2 (h2:Rd w2 ρ g c bs (aV bs (gU bs a) 1))=>rX ρ g c bs (aV bs (gU bs a) 1) w2 h2
  rw [← hV] at hT2
  clear hVs hm hm0 hK hV hmd
  go_enter Tryz.func152,Tryz.ntmps152
  go_wp2_with (go_at_call 153;refine hT.mono ?_;rintro e w1 ⟨rfl,hr1,ho1⟩;have hZ1:=ho1.keep hβ hZ;have hγ:w1.heap.size≠ρ:=Nat.ne_of_gt hr1.lt';have hγβ:w.heap.size<w1.heap.size:=(Array.getElem?_eq_some_iff.1 hZ1).1;have hE1:=aA w1 (.cells #[.string K,.string ⟨#[]⟩,.int .i64 0,.int .i64 0] 108);have hZ1':=eK (x:=.cells #[.string K,.string ⟨#[]⟩,.int .i64 0,.int .i64 0] 108) hZ1)
  go_wp2_with (first|(go_at_call 150;refine(hN1 _ (hr1.alloc _)).mono ?_;rintro e w2 ⟨rfl,hr2,ho2⟩;have hE2:=ho2.keep hγ hE1;have hZ2:=ho2.keep hβ hZ1')|(go_at_call 153;refine(hT2 _ hr2).mono ?_;rintro e w3 ⟨rfl,hr3,ho3⟩;have hE3:=ho3.keep hγ hE2;have hZ3:=ho3.keep hβ hZ2;obtain⟨c0,c1,c2,c3⟩:=iA hE3;obtain⟨z0,z1,z2,z3⟩:=iA hZ3;have hf1:=aD hE3;have hf2:=aD hZ3))
  have hgl:=h.lt
  have hU:=qEv (iP (iP hZ3 (Nat.ne_of_lt hγβ) 1 (.string V)) (Nat.ne_of_lt hγβ) 2 (.int .i64 (V.size:Int))) (.string K) (.string V) (.int .i64 (V.size:Int)) (.int .i64 0)
  obtain⟨y0,y1,y2,y3⟩:=iA hU
  have hR:=(((((hr3.set hγ (by omega) 1 (.string V)).set hγ (by omega) 2 (.int .i64 (V.size:Int))).set hβ (by omega) 0 (.string K)).set hβ (by omega) 1 (.string V)).set hβ (by omega) 2 (.int .i64 (V.size:Int))).set hβ (by omega) 3 (.int .i64 0)
  have hO:=((((((ho0.trans ho1).alloc (.cells #[.string K,.string ⟨#[]⟩,.int .i64 0,.int .i64 0] 108)).trans ho2).trans ho3).set (β:=w1.heap.size) (by omega) 1 (.string V)).set (β:=w1.heap.size) (by omega) 2 (.int .i64 (V.size:Int)))
  have hO2:=(((hO.set (β:=w.heap.size) (by omega) 0 (.string K)).set (β:=w.heap.size) (by omega) 1 (.string V)).set (β:=w.heap.size) (by omega) 2 (.int .i64 (V.size:Int))).set (β:=w.heap.size) (by omega) 3 (.int .i64 0)
  refine bodyPost_ret (v:=.agg #[.string K,.string V,.int .i64 (V.size:Int),.int .i64 0]) ?_ rfl ⟨?_,?_,hO2⟩
  ·simp [results,Tryz.results152,go_sem,y0,y1,y2,y3]
  ·rw [HR.out]
  ·rw [HA.out];exact hR
def jS (ver root:Int):Bool:=ver==0&&root==0
def fG (keys:List ByteArray) (kids:List Int):Bool:=(keys.length:Int)==0&&(kids.length:Int)==0
def kK (ents:List Ent):Bool:=(ents.length:Int)==0
def jM (next:Int) (data:ByteArray):Bool:=next==0&&data.toList.isEmpty
def dU (kind ver root next:Int) (keys:List ByteArray) (kids:List Int) (ents:List Ent) (data:ByteArray):Bool :=
 if kind=1 then fG keys kids&&kK ents&&jM next data&&Gl ver root
 else if kind=2 then jS ver root&&kK ents&&jM next data&&gM keys kids
 else if kind=3 then jS ver root&&fG keys kids&&jM next data&&(decide (ents.length≠0)&&fM ⟨#[]⟩ ents)
 else if kind=4 then jS ver root&&fG keys kids&&kK ents&&Br next data
 else false
theorem wD (kind:Int) (ver root next:Int) (ka ia ea:Option Addr) (kc ic ec:Nat) (data:ByteArray) (keys:List ByteArray) (kids:List Int) (ents:List Ent) (w:World) (hK:cR w w.heap.size ka (keys.map .string)) (hI:cR w w.heap.size ia (kids.map (.int .i64))) (hE:cR w w.heap.size ea (ents.flatMap Ent.cells)) (hkn:keys.length≤1073741824) (hin:kids.length≤1073741824) (hen:ents.length≤1073741824) :
  Calls Tryz.prog 141 #[.agg #[.int .i64 kind,.int .i64 ver,.int .i64 root,.int .i64 next,.slice ka keys.length kc,.slice ia kids.length ic,.slice ea ents.length ec,.string data]] w fun e w'=>e=.returned (.bool (dU kind ver root next keys kids ents data))∧Below w.heap.size w w':=by
 have hb:=(Below.refl w.heap.size w).alloc (Nat.le_refl _) (.cells #[.int .i64 kind,.int .i64 ver,.int .i64 root,.int .i64 next,.slice ka keys.length kc,.slice ia kids.length ic,.slice ea ents.length ec,.string data] 85)
 have hKb:=(hK.below hb).mono (show w.heap.size≤(w.alloc (.cells #[.int .i64 kind,.int .i64 ver,.int .i64 root,.int .i64 next,.slice ka keys.length kc,.slice ia kids.length ic,.slice ea ents.length ec,.string data] 85)).heap.size by simp)
 have hIb:=(hI.below hb).mono (show w.heap.size≤(w.alloc (.cells #[.int .i64 kind,.int .i64 ver,.int .i64 root,.int .i64 next,.slice ka keys.length kc,.slice ia kids.length ic,.slice ea ents.length ec,.string data] 85)).heap.size by simp)
 have hEb:=(hE.below hb).mono (show w.heap.size≤(w.alloc (.cells #[.int .i64 kind,.int .i64 ver,.int .i64 root,.int .i64 next,.slice ka keys.length kc,.slice ia kids.length ic,.slice ea ents.length ec,.string data] 85)).heap.size by simp)
 clear hK hI hE
 go_enter Tryz.func141,Tryz.ntmps141
 go_upto_region 1 with fail
 go_cut [3] (fun s3 wx=>s3=.bool (jS ver root)∧wx=(w.alloc (.cells #[.int .i64 kind,.int .i64 ver,.int .i64 root,.int .i64 next,.slice ka keys.length kc,.slice ia kids.length ic,.slice ea ents.length ec,.string data] 85)))
 case first =>
  cases hq:(ver==0)
  all_goals (go_wp2_with fail;go_meet;exact⟨congrArg Value.bool (by simp only [jS,hq,Bool.true_and,Bool.false_and]),rfl⟩)
 case rest =>
 obtain⟨rfl,rfl⟩:=hcut
 go_upto_region 2 with fail
 go_cut [4] (fun s4 wx=>s4=.bool (fG keys kids)∧wx=(w.alloc (.cells #[.int .i64 kind,.int .i64 ver,.int .i64 root,.int .i64 next,.slice ka keys.length kc,.slice ia kids.length ic,.slice ea ents.length ec,.string data] 85)))
 case first =>
  cases hq:((keys.length:Int)==0)
  all_goals (go_wp2_with fail;go_meet;exact⟨congrArg Value.bool (by simp only [fG,hq,Bool.true_and,Bool.false_and]),rfl⟩)
 case rest =>
 obtain⟨rfl,rfl⟩:=hcut
 go_upto_region 3 with fail
 go_cut [5] (fun s5 wx=>s5=.bool (kK ents)∧wx=(w.alloc (.cells #[.int .i64 kind,.int .i64 ver,.int .i64 root,.int .i64 next,.slice ka keys.length kc,.slice ia kids.length ic,.slice ea ents.length ec,.string data] 85)))
 case first =>
  go_wp2_with fail
  all_goals (go_meet;exact⟨rfl,rfl⟩)
 case rest =>
 obtain⟨rfl,rfl⟩:=hcut
 go_upto_region 4 with fail
 go_cut [6] (fun s6 wx=>s6=.bool (jM next data)∧wx=(w.alloc (.cells #[.int .i64 kind,.int .i64 ver,.int .i64 root,.int .i64 next,.slice ka keys.length kc,.slice ia kids.length ic,.slice ea ents.length ec,.string data] 85)))
 case first =>
  cases hq:(next==0)
  all_goals (go_wp2_with fail;go_meet;exact⟨congrArg Value.bool (by simp only [jM,hq,Bool.true_and,Bool.false_and]),rfl⟩)
 case rest =>
 obtain⟨rfl,rfl⟩:=hcut
 by_cases k1:kind=1
 ·have HR:Hid (dU kind ver root next keys kids ents data=(fG keys kids&&kK ents&&jM next data&&Gl ver root)):=by show _=_;unfold dU;rw [if_pos k1]
  have kb1:(kind==1)=true:=beq_iff_eq.2 k1
  clear k1
  go_wp2_with (go_at_call 154;refine(Eh _ _ _ _ _ _ _ _ _ _ _ _ _ _ _ ).mono ?_;rintro e w1 ⟨rfl,hb1⟩)
  all_goals go_ret
  all_goals first|refine⟨bQ ?_,hb⟩|refine⟨bQ ?_,hb.trans (hb1.mono (by simp))⟩
  all_goals (rw [HR.out];simp [*])
 have kb1:(kind==1)=false:=beq_eq_false_iff_ne.2 k1
 by_cases k2:kind=2
 ·have HR:Hid (dU kind ver root next keys kids ents data=(jS ver root&&kK ents&&jM next data&&gM keys kids)):=by show _=_;unfold dU;rw [if_neg k1,if_pos k2]
  have kb2:(kind==2)=true:=beq_iff_eq.2 k2
  clear k1 k2
  go_wp2_with (go_at_call 155;refine(zG _ _ _ _ _ _ _ _ _ _ _ _ _ _ _ hKb hIb hkn hin).mono ?_;rintro e w1 ⟨rfl,hb1⟩)
  all_goals go_ret
  all_goals first|refine⟨bQ ?_,hb⟩|refine⟨bQ ?_,hb.trans (hb1.mono (by simp))⟩
  all_goals (rw [HR.out];simp [*])
 have kb2:(kind==2)=false:=beq_eq_false_iff_ne.2 k2
 by_cases k3:kind=3
 ·have HR:Hid (dU kind ver root next keys kids ents data=(jS ver root&&fG keys kids&&jM next data&&(decide (ents.length≠0)&&fM ⟨#[]⟩ ents))):=by show _=_;unfold dU;rw [if_neg k1,if_neg k2,if_pos k3]
  have kb3:(kind==3)=true:=beq_iff_eq.2 k3
  clear k1 k2 k3
  go_wp2_with (go_at_call 156;refine(Ei _ _ _ _ _ _ _ _ _ _ _ _ _ _ _ hEb hen).mono ?_;rintro e w1 ⟨rfl,hb1⟩)
  all_goals go_ret
  all_goals first|refine⟨bQ ?_,hb⟩|refine⟨bQ ?_,hb.trans (hb1.mono (by simp))⟩
  all_goals (rw [HR.out];simp [*])
 have kb3:(kind==3)=false:=beq_eq_false_iff_ne.2 k3
 by_cases k4:kind=4
 ·have HR:Hid (dU kind ver root next keys kids ents data=(jS ver root&&fG keys kids&&kK ents&&Br next data)):=by show _=_;unfold dU;rw [if_neg k1,if_neg k2,if_neg k3,if_pos k4]
  have kb4:(kind==4)=true:=beq_iff_eq.2 k4
  clear k1 k2 k3 k4
  go_wp2_with (go_at_call 157;refine(Eg _ _ _ _ _ _ _ _ _ _ _ _ _ _ _ ).mono ?_;rintro e w1 ⟨rfl,hb1⟩)
  all_goals go_ret
  all_goals first|refine⟨bQ ?_,hb⟩|refine⟨bQ ?_,hb.trans (hb1.mono (by simp))⟩
  all_goals (rw [HR.out];simp [*])
 have kb4:(kind==4)=false:=beq_eq_false_iff_ne.2 k4
 have HR:Hid (dU kind ver root next keys kids ents data=false):=by show _=_;unfold dU;rw [if_neg k1,if_neg k2,if_neg k3,if_neg k4]
 clear k1 k2 k3 k4
 go_wp2
 go_ret
 exact⟨bQ (by rw [HR.out]),hb⟩
def fieldsB (kind ver root next:Int) (keys:List ByteArray) (kids:List Int) (ents:List Ent) (data:ByteArray):List UInt8 :=
 if kind=1 then beB 1 1++beB 8 ver++beB 2 root
 else if kind=2 then beB 1 2++eD keys kids
 else if kind=3 then beB 1 3++lC ents
 else beB 1 4++beB 2 next++dM data
def Ek (bs:List UInt8):List UInt8:=bs++List.replicate (252-bs.length) 0
def sY (bs:List UInt8):List UInt8:=Ek bs++beB 4 (Crc.crc (Ek bs):Nat)
def encS (kind ver root next:Int) (keys:List ByteArray) (kids:List Int) (ents:List Ent) (data:ByteArray):ByteArray :=
 if (dU kind ver root next keys kids ents data&&decide ((fieldsB kind ver root next keys kids ents data).length≤252))=true then ⟨(sY (fieldsB kind ver root next keys kids ents data)).toArray⟩ else ⟨#[]⟩
def cZ (kind ver root next:Int) (keys:List ByteArray) (kids:List Int) (ents:List Ent) (data:ByteArray):Int :=
 if (dU kind ver root next keys kids ents data&&decide ((fieldsB kind ver root next keys kids ents data).length≤252))=true then 0 else 2
structure Small (keys:List ByteArray) (kids:List Int) (ents:List Ent) (data:ByteArray):Prop where
 nKeys:keys.length≤1073741824
 nKids:kids.length≤1073741824
 nEnts:ents.length≤1073741824
 each:∀ e∈ents,e.key.size≤1073741824∧e.val.size≤1073741824
 lBranch:(eD keys kids).length≤34359738368
 lLeaf:(lC ents).length≤34359738368
 lData:data.size≤1073741824
theorem Buf.string (h:Buf w B v bs):(convert 115 9 v).run Tryz.prog w=.ok (.string ⟨bs.toArray⟩) w:=by
 obtain⟨hx1,hx2⟩:=id h
 rcases hx2 with⟨rfl,h0⟩|⟨g,cap,cur,rfl,hbg,hg,hnc,hcm,hcs,htake⟩
 ·obtain rfl:=List.eq_nil_of_length_eq_zero h0
  exact run_convert_bytes_nil w 115 5 Tryz.underlying115 Tryz.underlying5 0 0 9 Tryz.underlying9
 ·refine run_convert_bytes_back w 115 9 5 ⟨g,0,none⟩ cap bs Tryz.underlying115 Tryz.underlying5 Tryz.underlying9 fun j hj=>?_
  exact World.ownsRow.cells (w:=w) h (g:=g) rfl j _ (by simp [List.getElem?_eq_getElem hj,eA])
theorem Buf.shape (h:Buf w B v bs):∃ a cap,v=.slice a bs.length cap:=by
 obtain⟨_,hx2⟩:=id h
 rcases hx2 with⟨rfl,h0⟩|⟨g,cap,cur,rfl,_⟩
 ·exact⟨none,0,by rw [h0]⟩
 ·exact⟨_,_,rfl⟩
theorem Pl {a a':ByteArray} {b b':Int} (h1:a=a') (h2:b=b'):Ending.returned (.tuple #[.string a,.int .i64 b])=.returned (.tuple #[.string a',.int .i64 b']):=by rw [h1,h2]
theorem Yu (h:bs.length≤252):(Ek bs).length=252:=by simp [Ek];omega
theorem Kz {kind ver root next:Int} {keys:List ByteArray} {kids:List Int} {ents:List Ent} {data:ByteArray} (h:dU kind ver root next keys kids ents data=true):kind=1∨kind=2∨kind=3∨kind=4:=by
 unfold dU at h
 by_cases k1:kind=1
 ·exact .inl k1
 by_cases k2:kind=2
 ·exact .inr (.inl k2)
 by_cases k3:kind=3
 ·exact .inr (.inr (.inl k3))
 by_cases k4:kind=4
 ·exact .inr (.inr (.inr k4))
 rw [if_neg k1,if_neg k2,if_neg k3,if_neg k4] at h
 cases h
theorem Dg (kind ver root next:Int) (ka ia ea:Option Addr) (kc ic ec:Nat) (data:ByteArray) (keys:List ByteArray) (kids:List Int) (ents:List Ent) (w:World) (B:Nat) (hB:B≤w.heap.size) (hK:cR w B ka (keys.map .string)) (hI:cR w B ia (kids.map (.int .i64))) (hE:cR w B ea (ents.flatMap Ent.cells)) (hs:Small keys kids ents data) (hk:kind=1∨kind=2∨kind=3∨kind=4) :
  Calls Tryz.prog 142 #[.agg #[.int .i64 kind,.int .i64 ver,.int .i64 root,.int .i64 next,.slice ka keys.length kc,.slice ia kids.length ic,.slice ea ents.length ec,.string data]] w fun e w'=>∃ b',e=.returned b'∧Buf w' B b' (fieldsB kind ver root next keys kids ents data)∧cK B w w':=by
 have s1:=hs.lBranch
 have s2:=hs.lLeaf
 have s3:=hs.lData
 rcases hk with rfl|rfl|rfl|rfl
 ·simpa [fieldsB] using Nc ver root next ka ia ea kc ic ec data keys kids ents B w hB
 ·simpa [fieldsB] using Es ver root next ka ia ea kc ic ec data keys kids ents B w hB hK hI hs.nKeys hs.nKids (by omega)
 ·simpa [fieldsB] using Nf ver root next ka ia ea kc ic ec data keys kids ents B w hB hE hs.nEnts hs.each (by omega)
 ·simpa [fieldsB] using Nb ver root next ka ia ea kc ic ec data keys kids ents B w hB (by omega)
theorem Ng {kind ver root next:Int} {keys:List ByteArray} {kids:List Int} {ents:List Ent} {data:ByteArray} (hs:Small keys kids ents data):(fieldsB kind ver root next keys kids ents data).length≤34359738400∧1≤(fieldsB kind ver root next keys kids ents data).length:=by
 have s1:=hs.lBranch
 have s2:=hs.lLeaf
 have s3:=hs.lData
 unfold fieldsB
 split
 ·simp [aJ]
 split
 ·simp [aJ];omega
 split
 ·simp [aJ];omega
 ·simp [aJ,dM];omega
theorem pZ (kind ver root next:Int) (ka ia ea:Option Addr) (kc ic ec:Nat) (data:ByteArray) (keys:List ByteArray) (kids:List Int) (ents:List Ent) (w:World) (hK:cR w w.heap.size ka (keys.map .string)) (hI:cR w w.heap.size ia (kids.map (.int .i64))) (hE:cR w w.heap.size ea (ents.flatMap Ent.cells)) (hs:Small keys kids ents data) :
  Calls Tryz.prog 119 #[.agg #[.int .i64 kind,.int .i64 ver,.int .i64 root,.int .i64 next,.slice ka keys.length kc,.slice ia kids.length ic,.slice ea ents.length ec,.string data]] w fun e w'=>e=.returned (.tuple #[.string (encS kind ver root next keys kids ents data),.int .i64 (cZ kind ver root next keys kids ents data)])∧Below w.heap.size w w':=by
 have hb:=(Below.refl w.heap.size w).alloc (Nat.le_refl _) (.cells #[.int .i64 kind,.int .i64 ver,.int .i64 root,.int .i64 next,.slice ka keys.length kc,.slice ia kids.length ic,.slice ea ents.length ec,.string data] 85)
 have hbox:=aA w (.cells #[.int .i64 kind,.int .i64 ver,.int .i64 root,.int .i64 next,.slice ka keys.length kc,.slice ia kids.length ic,.slice ea ents.length ec,.string data] 85)
 have hKb:=(hK.below hb).mono (show w.heap.size≤(w.alloc (.cells #[.int .i64 kind,.int .i64 ver,.int .i64 root,.int .i64 next,.slice ka keys.length kc,.slice ia kids.length ic,.slice ea ents.length ec,.string data] 85)).heap.size by simp)
 have hIb:=(hI.below hb).mono (show w.heap.size≤(w.alloc (.cells #[.int .i64 kind,.int .i64 ver,.int .i64 root,.int .i64 next,.slice ka keys.length kc,.slice ia kids.length ic,.slice ea ents.length ec,.string data] 85)).heap.size by simp)
 have hEb:=(hE.below hb).mono (show w.heap.size≤(w.alloc (.cells #[.int .i64 kind,.int .i64 ver,.int .i64 root,.int .i64 next,.slice ka keys.length kc,.slice ia kids.length ic,.slice ea ents.length ec,.string data] 85)).heap.size by simp)
 have hkn:=hs.nKeys
 have hin:=hs.nKids
 have hen:=hs.nEnts
 obtain⟨fl,fl1⟩:=Ng (kind:=kind) (ver:=ver) (root:=root) (next:=next) hs
 cases hr:dU kind ver root next keys kids ents data
 ·have HS:Hid (encS kind ver root next keys kids ents data=⟨#[]⟩):=by show _=_;simp [encS,hr]
  have HE:Hid (cZ kind ver root next keys kids ents data=2):=by show _=_;simp [cZ,hr]
  go_enter Tryz.func119,Tryz.ntmps119
  go_wp2_with (go_at_call 141;refine(wD _ _ _ _ _ _ _ _ _ _ _ _ _ _ _ hKb hIb hEb hkn hin hen).mono ?_;rintro e w1 ⟨rfl,hb1⟩)
  go_ret2
  exact⟨Pl HS.out.symm HE.out.symm,hb.trans (hb1.mono (by simp))⟩
 ·have hk:=Kz hr
  obtain⟨fs,hfs⟩:∃ fs,fs=fieldsB kind ver root next keys kids ents data:=⟨_,rfl⟩
  rw [← hfs] at fl fl1
  have HF:Hid (fs=fieldsB kind ver root next keys kids ents data):=hfs
  clear hfs
  by_cases hlen:fs.length≤252
  ·have HS:Hid (encS kind ver root next keys kids ents data=⟨(sY fs).toArray⟩):=by show _=_;unfold encS;rw [← HF.out];simp [hr,hlen]
   have HE:Hid (cZ kind ver root next keys kids ents data=0):=by show _=_;unfold cZ;rw [← HF.out];simp [hr,hlen]
   have hz:252-(fs.length:Int)=((252-fs.length:Nat):Int):=by omega
   have hne:fs≠[]:=by intro h;rw [h] at fl1;simp at fl1
   have lz:fs.length+(252-fs.length)≤140737488355328:=by omega
   have pl:=Yu hlen
   have ln:(Ek fs).length+8≤140737488355328:=by omega
   have lc:(⟨(Ek fs).toArray⟩:ByteArray).size≤maxLen:=by show (Ek fs).toArray.size≤_;rw [List.size_toArray,pl];decide
   have HZ:Hid (252-(fs.length:Int)=((252-fs.length:Nat):Int)):=hz
   clear hz pl
   go_enter Tryz.func119,Tryz.ntmps119
   go_wp2_with (first
    | (go_at_call 141;refine(wD _ _ _ _ _ _ _ _ _ _ _ _ _ _ _ hKb hIb hEb hkn hin hen).mono ?_;rintro e w1 ⟨rfl,hb1⟩;have hx1:=(cK.of_below hb1 (Nat.le_refl _)).other _ _ hbox rfl;obtain⟨e0,e1,e2,e3,e4,e5,e6,e7⟩:=bM hx1;have HB1:Below w.heap.size w w1:=hb.trans (hb1.mono (by simp));have hBn:w.heap.size≤w1.heap.size:=HB1.size;clear hb1 hKb hIb hEb hbox)
    | (go_at_call 142;refine(Dg _ _ _ _ _ _ _ _ _ _ _ _ _ _ _ w.heap.size hBn (hK.below HB1) (hI.below HB1) (hE.below HB1) hs hk).mono ?_;rintro e w2 ⟨b2,rfl,hb2,g2⟩;rw [← HF.out] at hb2;obtain⟨a2,c2,rfl⟩:=hb2.shape;have hB2:w.heap.size≤w2.heap.size:=Nat.le_trans hBn g2.size;clear e0 e1 e2 e3 e4 e5 e6 e7 hx1)
    | (at_builtin;refine yZ _ rfl (.tmp 16) (.tmp 17) rfl w.heap.size fs _ rfl hb2 hne hB2 (252-fs.length) _ HZ.out rfl lz ?_;intro b3 w3 hb3 g3;have hcv:=hb3.string;have hB3:w.heap.size≤w3.heap.size:=Nat.le_trans hB2 g3.size)
    | (go_at_call 144;refine(Crc.Yt _ _ lc).mono ?_;rintro e w' ⟨rfl,rfl⟩)
    | (go_at_call 143;refine(eH _ _ _ _ w.heap.size _ hb3 hB3 (by decide) (by decide) ln).mono ?_;rintro e w4 ⟨b4,rfl,hb4,g4⟩;have hcv4:=hb4.string))
   go_ret2
   exact⟨Pl (HS.out.trans (by simp [sY,Ek])).symm HE.out.symm,HB1.trans (g2.below.trans (g3.below.trans g4.below))⟩
  ·have HS:Hid (encS kind ver root next keys kids ents data=⟨#[]⟩):=by show _=_;unfold encS;rw [← HF.out];simp [hr,hlen]
   have HE:Hid (cZ kind ver root next keys kids ents data=2):=by show _=_;unfold cZ;rw [← HF.out];simp [hr,hlen]
   go_enter Tryz.func119,Tryz.ntmps119
   go_wp2_with (first
    | (go_at_call 141;refine(wD _ _ _ _ _ _ _ _ _ _ _ _ _ _ _ hKb hIb hEb hkn hin hen).mono ?_;rintro e w1 ⟨rfl,hb1⟩;have hx1:=(cK.of_below hb1 (Nat.le_refl _)).other _ _ hbox rfl;obtain⟨e0,e1,e2,e3,e4,e5,e6,e7⟩:=bM hx1;have HB1:Below w.heap.size w w1:=hb.trans (hb1.mono (by simp));have hBn:w.heap.size≤w1.heap.size:=HB1.size;clear hb1 hKb hIb hEb hbox)
    | (go_at_call 142;refine(Dg _ _ _ _ _ _ _ _ _ _ _ _ _ _ _ w.heap.size hBn (hK.below HB1) (hI.below HB1) (hE.below HB1) hs hk).mono ?_;rintro e w2 ⟨b2,rfl,hb2,g2⟩;rw [← HF.out] at hb2;obtain⟨a2,c2,rfl⟩:=hb2.shape;have hB2:w.heap.size≤w2.heap.size:=Nat.le_trans hBn g2.size;clear e0 e1 e2 e3 e4 e5 e6 e7 hx1))
   go_ret2
   exact⟨Pl HS.out.symm HE.out.symm,HB1.trans g2.below⟩
theorem qEz:(Tryz.prog.info? 9).map (fun i=>(i.zero,i.size,i.bytes))=some (some (.string ⟨#[]⟩),1,16):=by kernel_rfl
def Keys (w:World) (B:Nat) (v:Value) (ks:List ByteArray):Prop:=w.ownsRow B 9 1 v ks.length (ks.map .string)
theorem Keys.nil (w:World) (B:Nat):Keys w B (.slice none 0 0) []:=World.ownsRow_nil _ _ _ _
theorem Keys.alloc {ks:List ByteArray} (h:Keys w B v ks) (o:Obj):Keys (w.alloc o) B v ks:=World.ownsRow.alloc (w:=w) h o
theorem Keys.below {ks:List ByteArray} (h:Keys w B v ks) (hb:Below w.heap.size w w'):Keys w' B v ks :=
 World.ownsRow.kept (row:=none) h ⟨hb.os,hb.tape,hb.output,hb.size,fun k hk _=>hb.block k hk⟩ (by cases v.ownBlock<;>simp)
theorem Ee {ops:Array Oper} {rest:List Oper} {o:Oper} {a:Act} {Q:Exit→Act→World→Prop} (w:World) (hgd:o.guard=none) (sl x:Operand)
  (ho:o.op=.call { callee:=.builtin .append,args:=#[sl,x],argTypes:=#[70,70] }) (B:Nat) (ks:List ByteArray) (v:Value) (hs:a.eval sl=v) (hv:Keys w B v ks) (hB:B≤w.heap.size)
  (k:ByteArray) (hx:a.eval x=.slice (some ⟨w.heap.size,0,none⟩) 1 1) (hl:ks.length+1≤4294967296)
  (h:∀ v' w',Keys w' B v' (ks++[k])→Below B w w'→wpList Tryz.prog ops Q rest (a.put o.dst v') w') :
  wpList Tryz.prog ops Q (o :: rest) a (w.alloc (.cells #[.string k] 9)):=by
 obtain⟨i0,hi,hz0,hz1,hz2⟩:=info_parts qEz
 refine wpList_append_own _ hgd sl x 70 ho B 9 i0 (.string ⟨#[]⟩) 1 16 Tryz.underlying70 hi hz0 hz1 hz2 rfl (by decide) v ks.length (ks.map .string) hs (hv.alloc _) ⟨w.heap.size,0,none⟩ 1 1 [.string k] hx rfl (one_cell _ _) (by intro u hu;simp at hu;subst hu;rfl) (by unfold maxLen;omega) (by omega) (by simp;omega) ?_
 intro v1 w1 ho1 hg1 _
 refine h v1 w1 ?_ (((Below.refl B w).alloc hB _).grown hg1 (by simp;omega) (fun k' hk'=>(World.ownsRow.lt (w:=w) hv k' hk').1))
 unfold Keys
 rw [List.map_append,List.length_append]
 exact ho1
theorem qEg:(Tryz.prog.info? 3).map (fun i=>(i.zero,i.size,i.bytes))=some (some (.int .i64 0),1,8):=by kernel_rfl
def Ints (w:World) (B:Nat) (v:Value) (ks:List Int):Prop:=w.ownsRow B 3 1 v ks.length (ks.map (.int .i64))
theorem Ints.nil (w:World) (B:Nat):Ints w B (.slice none 0 0) []:=World.ownsRow_nil _ _ _ _
theorem Ints.alloc {ks:List Int} (h:Ints w B v ks) (o:Obj):Ints (w.alloc o) B v ks:=World.ownsRow.alloc (w:=w) h o
theorem qV (h:w.ownsRow B e 1 v n xs) (ho:dO ρ w w') (hρ:ρ<B):w'.ownsRow B e 1 v n xs :=
 World.ownsRow.kept (row:=some ρ) h ⟨ho.os,ho.tape,ho.output,ho.size,fun k hk hr=>ho.block k hk (fun e=>hr (by rw [e]))⟩ (by
  cases hv:v.ownBlock with
  | none=>exact .inl rfl
  | some k=>exact .inr (fun e=>by have:=(World.ownsRow.lt (w:=w) h k hv).1;simp at e;omega))
theorem qY {B B':Nat}     (h:w.ownsRow B e 1 v n xs) (hb:B'≤B):w.ownsRow B' e 1 v n xs:=by
 obtain⟨hl,hn|⟨k,cap,row,hv,hk,hr⟩⟩:=h
 ·exact⟨hl,.inl hn⟩
 ·exact⟨hl,.inr ⟨k,cap,row,hv,by omega,hr⟩⟩
theorem dO.below (h:dO ρ a w) (hb:Below B w w') (hB:a.heap.size≤B):dO ρ a w' :=
 ⟨hb.os.trans h.os,hb.tape.trans h.tape,hb.output.trans h.output,Nat.le_trans h.size hb.size,fun k hk hr=>(hb.block k (by omega)).trans (h.block k hk hr)⟩
theorem Rd.below {a:Nat} (h:Rd w ρ g c bs a) (hb:Below B w w') (hρ:ρ<B) (hg:g<B):Rd w' ρ g c bs a :=
 ⟨(hb.block ρ hρ).trans h.box,fun j hj=>by rw [hb.cell (p:=⟨g,j,none⟩) hg];exact h.bytes j hj,h.ne,Nat.lt_of_lt_of_le h.lt hb.size,h.le,h.len,h.cap⟩
theorem Ef {ops:Array Oper} {rest:List Oper} {o:Oper} {a:Act} {Q:Exit→Act→World→Prop} (w:World) (hgd:o.guard=none) (sl x:Operand)
  (ho:o.op=.call { callee:=.builtin .append,args:=#[sl,x],argTypes:=#[22,22] }) (B:Nat) (ks:List Int) (v:Value) (hs:a.eval sl=v) (hv:Ints w B v ks) (hB:B≤w.heap.size)
  (k:Int) (hx:a.eval x=.slice (some ⟨w.heap.size,0,none⟩) 1 1) (hl:ks.length+1≤4294967296)
  (h:∀ v' w',Ints w' B v' (ks++[k])→Below B w w'→wpList Tryz.prog ops Q rest (a.put o.dst v') w') :
  wpList Tryz.prog ops Q (o :: rest) a (w.alloc (.cells #[.int .i64 k] 3)):=by
 obtain⟨i0,hi,hz0,hz1,hz2⟩:=info_parts qEg
 refine wpList_append_own _ hgd sl x 22 ho B 3 i0 (.int .i64 0) 1 8 Tryz.underlying22 hi hz0 hz1 hz2 rfl (by decide) v ks.length (ks.map (.int .i64)) hs (hv.alloc _) ⟨w.heap.size,0,none⟩ 1 1 [.int .i64 k] hx rfl (one_cell _ _) (by intro u hu;simp at hu;subst hu;rfl) (by unfold maxLen;omega) (by omega) (by simp;omega) ?_
 intro v1 w1 ho1 hg1 _
 refine h v1 w1 ?_ (((Below.refl B w).alloc hB _).grown hg1 (by simp;omega) (fun k' hk'=>(World.ownsRow.lt (w:=w) hv k' hk').1))
 unfold Ints
 rw [List.map_append,List.length_append]
 exact ho1
def iO (bs:List UInt8) (a n:Nat):List Int:=(List.range n).map fun i=>(iH bs (aV bs a (2 * i)) 2:Int)
def kL (bs:List UInt8) (a:Nat):Nat→Nat
 | 0=>a
 | j+1=>gU bs (kL bs a j)
def iF (bs:List UInt8) (a n:Nat):List ByteArray:=(List.range n).map fun j=>(⟨(lS bs (kL bs a j)).toArray⟩:ByteArray)
theorem Ga (bs:List UInt8) (a i k:Nat):aV bs (aV bs a i) k=aV bs a (i+k):=by unfold aV;omega
theorem Qh (bs:List UInt8) (a n:Nat):iO bs a (n+1)=iO bs a n++[(iH bs (aV bs a (2 * n)) 2:Int)]:=by simp [iO,List.range_succ]
theorem Qk (bs:List UInt8) (a n:Nat):iF bs a (n+1)=iF bs a n++[(⟨(lS bs (kL bs a n)).toArray⟩:ByteArray)]:=by simp [iF,List.range_succ]
theorem Of (ρ g c:Nat) (bs:List UInt8) (a:Nat) (w:World) (h:Rd w ρ g c bs a) :
  Calls Tryz.prog 151 #[.pointer (some ⟨ρ,0,none⟩)] w fun e w'=>∃ vk vi,e=.returned (.tuple #[vk,vi]) ∧
   Keys w' w.heap.size vk (iF bs (aV bs (aV bs a 1) (2 * ((bs.getD a 0).toNat+1))) (bs.getD a 0).toNat)∧Ints w' w.heap.size vi (iO bs (aV bs a 1) ((bs.getD a 0).toNat+1)) ∧
   Rd w' ρ g c bs (kL bs (aV bs (aV bs a 1) (2 * ((bs.getD a 0).toNat+1))) (bs.getD a 0).toNat)∧dO ρ w w':=by
 have hρ:=h.lt'
 have hgl:=h.lt
 have hN:=jL ρ g c bs a w h
 have hmt:=(bs.getD a 0).toNat_lt
 obtain⟨m,hm⟩:∃ m,m=(bs.getD a 0).toNat:=⟨_,rfl⟩
 obtain⟨p,hp⟩:∃ p,p=aV bs a 1:=⟨_,rfl⟩
 rw [← hm] at hN hmt ⊢
 rw [← hp] at hN ⊢
 have hple:p≤bs.length:=by rw [hp];unfold aV;omega
 clear hm hp
 obtain⟨P,hP⟩:∃ P,P=aV bs p (2 * (m+1)):=⟨_,rfl⟩
 rw [← hP]
 have HP:Hid (P=aV bs p (2 * (m+1))):=hP
 clear hP
 go_enter Tryz.func151,Tryz.ntmps151
 go_wp2_with (go_at_call 150;refine hN.mono ?_;rintro e w1 ⟨rfl,hr1,ho1⟩)
 go_loopw [3,9] (fun u i wr=>∃ j:Nat,j≤m+1∧i=.int .i64 j∧Ints wr w.heap.size u (iO bs p j)∧Rd wr ρ g c bs (aV bs p (2 * j))∧dO ρ w wr) (fun _ i _=>m+1-(intOf i).toNat)
 case atStart=>exact⟨0,Nat.zero_le _,rfl,Ints.nil _ _,by rw [Fz hple];exact hr1,ho1⟩
 case round =>
  clear hr1 ho1
  obtain⟨j,hj,rfl,hi,hr,ho⟩:=hrel
  have hsz:w.heap.size≤wr.heap.size:=ho.size
  by_cases hlt:j<m+1
  ·have hM:=rB ρ g c bs (aV bs p (2 * j)) wr hr
   have lk:(iO bs p j).length+1≤4294967296:=by simp [iO];omega
   have hks:=Qh bs p j
   rw [Ga] at hM
   obtain⟨n1,hn1⟩:∃ n1,n1=iH bs (aV bs p (2 * j)) 2:=⟨_,rfl⟩
   rw [← hn1] at hM hks
   have HK:Hid (iO bs p (j+1)=iO bs p j++[(n1:Int)]):=hks
   clear hn1 hks
   have hj2:2 * j+2=2 * (j+1):=by omega
   rw [hj2] at hM
   clear hj2
   go_wp2_with (first|(go_at_call 150;refine hM.mono ?_;rintro e w2 ⟨rfl,hr2,ho2⟩;have hi2:Ints w2 w.heap.size u3 (iO bs p j):=qV hi ho2 hρ;have hs2:w.heap.size≤w2.heap.size:=Nat.le_trans hsz ho2.size)|(at_builtin;refine Ef w2 rfl (.tmp 11) (.tmp 14) rfl w.heap.size _ u3 rfl hi2 hs2 (n1:Int) rfl lk ?_;intro v3 w3 hi3 hb3))
   go_roundw
   case rel=>first|exact⟨j+1,by omega,by go_num,by rw [HK.out];exact hi3,hr2.below hb3 hρ hgl,(ho.trans ho2).below hb3 (Nat.le_refl _)⟩|((repeat apply Exists.intro);exact⟨⟨j+1,by omega,by go_num,by rw [HK.out];exact hi3,hr2.below hb3 hρ hgl,(ho.trans ho2).below hb3 (Nat.le_refl _)⟩,rfl⟩)
   case measure=>simp [intOf];omega
  ·obtain rfl:j=m+1:=by omega
   obtain⟨w0,hw0⟩:∃ w0,w0=wr:=⟨_,rfl⟩
   subst hw0
   rw [← HP.out] at hr
   clear HP hlt hj
   have hρ0:ρ<w0.heap.size:=by omega
   have hg0:g<w0.heap.size:=by omega
   go_wp2
   go_loopw [2,18] (fun u i wr=>∃ j:Nat,j≤m∧i=.int .i64 j∧Keys wr w0.heap.size u (iF bs P j)∧Rd wr ρ g c bs (kL bs P j)∧dO ρ w0 wr) (fun _ i _=>m-(intOf i).toNat)
   case atStart=>exact⟨0,Nat.zero_le _,rfl,Keys.nil _ _,hr,dO.refl _ _⟩
   case round =>
    clear hr
    obtain⟨j,hj,rfl,hk,hr,ho0⟩:=hrel
    have hsz0:w0.heap.size≤wr.heap.size:=ho0.size
    by_cases hlt:j<m
    ·have hM:=rX ρ g c bs (kL bs P j) wr hr
     have lk:(iF bs P j).length+1≤4294967296:=by simp [iF];omega
     have hks:=Qk bs P j
     have hkp:gU bs (kL bs P j)=kL bs P (j+1):=rfl
     rw [hkp] at hM
     obtain⟨n1,hn1⟩:∃ n1,n1=(⟨(lS bs (kL bs P j)).toArray⟩:ByteArray):=⟨_,rfl⟩
     rw [← hn1] at hM hks
     have HK:Hid (iF bs P (j+1)=iF bs P j++[n1]):=hks
     clear hn1 hks hkp
     go_wp2_with (first|(go_at_call 153;refine hM.mono ?_;rintro e w2 ⟨rfl,hr2,ho2⟩;have hk2:Keys w2 w0.heap.size u2 (iF bs P j):=qV hk ho2 hρ0;have hs2:w0.heap.size≤w2.heap.size:=Nat.le_trans hsz0 ho2.size)|(at_builtin;refine Ee w2 rfl (.tmp 20) (.tmp 23) rfl w0.heap.size _ u2 rfl hk2 hs2 n1 rfl lk ?_;intro v3 w3 hk3 hb3))
     go_roundw
     case rel=>first|exact⟨j+1,by omega,by go_num,by rw [HK.out];exact hk3,hr2.below hb3 hρ0 hg0,(ho0.trans ho2).below hb3 (Nat.le_refl _)⟩|((repeat apply Exists.intro);exact⟨⟨j+1,by omega,by go_num,by rw [HK.out];exact hk3,hr2.below hb3 hρ0 hg0,(ho0.trans ho2).below hb3 (Nat.le_refl _)⟩,rfl⟩)
     case measure=>simp [intOf];omega
    ·obtain rfl:j=m:=by omega
     go_wp2
     go_ret2
     exact⟨u2,u3,rfl,qY hk hsz,qV hi ho0 hρ,hr,ho.trans ho0⟩
theorem Rn (s:ByteArray) (u:World):∃ c v,(convert 9 115 (.string s)).run Tryz.prog u=.ok (.slice (some ⟨u.heap.size,0,none⟩) s.size c) v∧v.heap.size=u.heap.size+1∧Below u.heap.size u v ∧
  (∀ (j:Nat) (hj:j<s.data.toList.length),v.cell? ⟨u.heap.size,j,none⟩=some (eA s.data.toList[j]))∧s.size≤c:=by
 refine⟨_,_,run_bytes_of_string u 9 115 5 s Tryz.underlying9 Tryz.underlying115 Tryz.underlying5,by simp,?_,?_,grownCap_ge _ _ _ _⟩
 ·exact((Below.refl u.heap.size u).drew).alloc (by simp) _
 ·intro j hj
  have hj':j<s.data.size:=by simpa using hj
  have e:(u.drew.alloc (.cells (bytesRow s (grownCap u s.size 0 5)) 5 ((bytesRow s (grownCap u s.size 0 5)).size,(bytesRow s (grownCap u s.size 0 5)).size+1))).heap[u.heap.size]?=some (.cells (bytesRow s (grownCap u s.size 0 5)) 5 ((bytesRow s (grownCap u s.size 0 5)).size,(bytesRow s (grownCap u s.size 0 5)).size+1)):=aA u.drew _
  simp only [World.cell?,e]
  have hj2:j<s.size:=hj'
  simp [bytesRow,eA,Array.getElem?_append,hj',hj2]
theorem Zd (ρ g c:Nat) (bs:List UInt8) (a:Nat) (w:World) (h:Rd w ρ g c bs a) :
  Calls Tryz.prog 150 #[.pointer (some ⟨ρ,0,none⟩),.int .i64 8] w fun e w'=>e=.returned (.int .i64 (wrap64 (iH bs a 8)))∧Rd w' ρ g c bs (aV bs a 8)∧dO ρ w w' :=
 tJ ρ g c bs a 8 w h (by omega)
theorem uI {u:World}  {a0 a1 a2 a3 a4 a5 a6 a7:Value} {t:TypeId} (h:u.heap[β]?=some (.cells #[a0,a1,a2,a3,a4,a5,a6,a7] t)) (v0 v1 v2 v3 v4 v5 v6 v7:Value) :
  ((((((((u.setCell ⟨β,0,none⟩ v0).setCell ⟨β,1,none⟩ v1).setCell ⟨β,2,none⟩ v2).setCell ⟨β,3,none⟩ v3).setCell ⟨β,4,none⟩ v4).setCell ⟨β,5,none⟩ v5).setCell ⟨β,6,none⟩ v6).setCell ⟨β,7,none⟩ v7).heap[β]?=some (.cells #[v0,v1,v2,v3,v4,v5,v6,v7] t):=by
 have:=aF (aF (aF (aF (aF (aF (aF (aF h 0 v0) 1 v1) 2 v2) 3 v3) 4 v4) 5 v5) 6 v6) 7 v7
 simpa using this
theorem mP (h:Below B w a) (ho:dO ρ a w') (hρ:B≤ρ) (hB:B≤a.heap.size):Below B w w' :=
 h.trans ⟨ho.os,ho.tape,ho.output,ho.size,fun k hk=>ho.block k (by omega) (by omega)⟩
theorem nP (h:Below B w a)  (hβ:B≤β) (v0 v1 v2 v3 v4 v5 v6 v7:Value) :
  Below B w ((((((((a.setCell ⟨β,0,none⟩ v0).setCell ⟨β,1,none⟩ v1).setCell ⟨β,2,none⟩ v2).setCell ⟨β,3,none⟩ v3).setCell ⟨β,4,none⟩ v4).setCell ⟨β,5,none⟩ v5).setCell ⟨β,6,none⟩ v6).setCell ⟨β,7,none⟩ v7) :=
 (((((((h.setCell hβ v0).setCell hβ v1).setCell hβ v2).setCell hβ v3).setCell hβ v4).setCell hβ v5).setCell hβ v6).setCell hβ v7
theorem eT (w:World) (o:Obj):(w.alloc o).heap.size=w.heap.size+1:=by simp
abbrev fV:Obj:=.cells #[.int .i64 0,.int .i64 0,.int .i64 0,.int .i64 0,.slice none 0 0,.slice none 0 0,.slice none 0 0,.string ⟨#[]⟩] 85
abbrev jI (k:Int):Obj:=.cells #[.int .i64 k,.int .i64 0,.int .i64 0,.int .i64 0,.slice none 0 0,.slice none 0 0,.slice none 0 0,.string ⟨#[]⟩] 85
theorem oD (s:ByteArray) (w:World) (hs:s.size=256):∃ c v,(convert 9 115 (.string s)).run Tryz.prog (w.alloc fV)=.ok (.slice (some ⟨w.heap.size+1,0,none⟩) s.size c) v∧v.heap.size=w.heap.size+1+1 ∧
  Rd (v.alloc (.cells #[.slice (some ⟨w.heap.size+1,0,none⟩) s.size c,.int .i64 0] 228)) (w.heap.size+1+1) (w.heap.size+1) c s.data.toList 0 ∧
  (v.alloc (.cells #[.slice (some ⟨w.heap.size+1,0,none⟩) s.size c,.int .i64 0] 228)).heap[w.heap.size]?=some fV ∧
  Below w.heap.size w (v.alloc (.cells #[.slice (some ⟨w.heap.size+1,0,none⟩) s.size c,.int .i64 0] 228)):=by
 obtain⟨c,v,hcv,hvs,hvb,hvc,hcc⟩:=Rn s (w.alloc fV)
 have ez:(w.alloc fV).heap.size=w.heap.size+1:=eT w fV
 rw [ez] at hcv hvs hvb hvc
 have hl:s.data.toList.length=s.size:=by rw [Array.length_toList];rfl
 have hb0:Below w.heap.size w (w.alloc fV):=(Below.refl _ w).alloc (Nat.le_refl _) _
 have hb1:Below w.heap.size w v:=hb0.trans (hvb.mono (by omega))
 have hz:v.heap[w.heap.size]?=some fV:=(hvb.block w.heap.size (by omega)).trans (aA w fV)
 have hn:=aA v (.cells #[.slice (some ⟨w.heap.size+1,0,none⟩) s.size c,.int .i64 0] 228)
 rw [hvs] at hn
 refine⟨c,v,hcv,hvs,⟨?_,?_,by omega,by rw [eT];omega,Nat.zero_le _,by omega,by omega⟩,eK hz,hb1.alloc (by omega) _⟩
 ·rw [hl];exact hn
 ·intro j hj
  rw [World.cell?_of_block (w:=v) (Below.heap_alloc _ _ _ (by show w.heap.size+1<v.heap.size;omega))]
  exact hvc j hj
theorem Un (s:ByteArray) (w:World) (hs:s.size=256) (hk:(s.data.toList.getD 0 0).toNat=1) :
  Calls Tryz.prog 139 #[.string s] w fun e w'=>e=.returned (.agg #[.int .i64 1,.int .i64 (wrap64 (iH s.data.toList (aV s.data.toList 0 1) 8)),.int .i64 (iH s.data.toList (aV s.data.toList (aV s.data.toList 0 1) 8) 2:Nat),.int .i64 0,.slice none 0 0,.slice none 0 0,.slice none 0 0,.string ⟨#[]⟩])∧Below w.heap.size w w':=by
 obtain⟨c,v,hcv,hvs,hrd,hzz,hbb⟩:=oD s w hs
 obtain⟨bs,hbs⟩:∃ bs,bs=s.data.toList:=⟨_,rfl⟩
 rw [← hbs] at hrd hk ⊢
 have hN:=jL _ _ _ _ _ _ hrd
 obtain⟨p,hp⟩:∃ p,p=aV bs 0 1:=⟨_,rfl⟩
 rw [hk,← hp] at hN
 rw [← hp]
 have hM:=fun w2 (h2:Rd w2 (w.heap.size+1+1) (w.heap.size+1) c bs p)=>Zd _ _ _ _ _ _ h2
 have hM2:=fun w2 (h2:Rd w2 (w.heap.size+1+1) (w.heap.size+1) c bs (aV bs p 8))=>rB _ _ _ _ _ _ h2
 obtain⟨n1,hn1⟩:∃ n1,n1=wrap64 (iH bs p 8):=⟨_,rfl⟩
 obtain⟨n2,hn2⟩:∃ n2,n2=iH bs (aV bs p 8) 2:=⟨_,rfl⟩
 rw [← hn1] at hM ⊢
 rw [← hn2] at hM2 ⊢
 clear hs hn1 hn2 hp hk hbs
 go_enter Tryz.func139,Tryz.ntmps139
 go_upto_region 4 with(go_at_call 150;refine hN.mono ?_;rintro e w1 ⟨rfl,hr1,ho1⟩)
 have hZ1:=eK (x:=jI 1) (ho1.keep (by omega) hzz)
 have hE1:=aA w1 (jI 1)
 have hγ:w1.heap.size≠w.heap.size+1+1:=Nat.ne_of_gt hr1.lt'
 have hγg:w1.heap.size≠w.heap.size+1:=Nat.ne_of_gt hr1.lt
 have hγz:w.heap.size<w1.heap.size:=by have:=hr1.lt;omega
 go_upto_region 6 with(go_at_call 150;refine(hM _ (hr1.alloc _)).mono ?_;rintro e w2 ⟨rfl,hr2,ho2⟩;have hE2:=ho2.keep hγ hE1;have hZ2:=ho2.keep (by omega) hZ1;obtain⟨c0,c1,c2,c3,c4,c5,c6,c7⟩:=bM hE2;have hf1:=aD hE2)
 have hE3:(w2.setCell ⟨w1.heap.size,1,none⟩ (.int .i64 n1)).heap[w1.heap.size]?=some (.cells #[.int .i64 1,.int .i64 n1,.int .i64 0,.int .i64 0,.slice none 0 0,.slice none 0 0,.slice none 0 0,.string ⟨#[]⟩] 85):=aF hE2 1 (.int .i64 n1)
 have hZ3:=iP hZ2 (Nat.ne_of_lt hγz) 1 (.int .i64 n1)
 go_upto_region 17 with(go_at_call 150;refine(hM2 _ (hr2.set hγ hγg 1 _)).mono ?_;rintro e w4 ⟨rfl,hr4,ho4⟩;have hE4:=ho4.keep hγ hE3;have hZ4:=ho4.keep (by omega) hZ3;obtain⟨d0,d1,d2,d3,d4,d5,d6,d7⟩:=bM hE4;have hf2:=aD hE4)
 have hE5:(w4.setCell ⟨w1.heap.size,2,none⟩ (.int .i64 (n2:Int))).heap[w1.heap.size]?=some (.cells #[.int .i64 1,.int .i64 n1,.int .i64 (n2:Int),.int .i64 0,.slice none 0 0,.slice none 0 0,.slice none 0 0,.string ⟨#[]⟩] 85):=aF hE4 2 (.int .i64 (n2:Int))
 have hZ5:=iP hZ4 (Nat.ne_of_lt hγz) 2 (.int .i64 (n2:Int))
 obtain⟨f0,f1,f2,f3,f4,f5,f6,f7⟩:=bM hE5
 have hf3:=aD hZ5
 obtain⟨z0,z1,z2,z3,z4,z5,z6,z7⟩:=bM hZ4
 have hU:=uI hZ5 (.int .i64 1) (.int .i64 n1) (.int .i64 (n2:Int)) (.int .i64 0) (.slice none 0 0) (.slice none 0 0) (.slice none 0 0) (.string ⟨#[]⟩)
 obtain⟨y0,y1,y2,y3,y4,y5,y6,y7⟩:=bM hU
 have hO:=(((ho1.alloc (jI 1)).trans ho2).set (β:=w1.heap.size) ho1.size 1 (.int .i64 n1)).trans ho4
 have hO2:=hO.set (β:=w1.heap.size) ho1.size 2 (.int .i64 (n2:Int))
 have hB:=nP (mP hbb hO2 (by omega) (by rw [eT];omega)) (β:=w.heap.size) (Nat.le_refl _) (.int .i64 1) (.int .i64 n1) (.int .i64 (n2:Int)) (.int .i64 0) (.slice none 0 0) (.slice none 0 0) (.slice none 0 0) (.string ⟨#[]⟩)
 go_wp2
 refine bodyPost_ret (v:=.agg #[.int .i64 1,.int .i64 n1,.int .i64 (n2:Int),.int .i64 0,.slice none 0 0,.slice none 0 0,.slice none 0 0,.string ⟨#[]⟩]) ?_ rfl ⟨rfl,hB⟩
 simp [results,Tryz.results139,go_sem,y0,y1,y2,y3,y4,y5,y6,y7]
theorem Ul (s:ByteArray) (w:World) (hs:s.size=256) (hk:(s.data.toList.getD 0 0).toNat=4) :
  Calls Tryz.prog 139 #[.string s] w fun e w'=>e=.returned (.agg #[.int .i64 4,.int .i64 0,.int .i64 0,.int .i64 (iH s.data.toList (aV s.data.toList 0 1) 2:Nat),.slice none 0 0,.slice none 0 0,.slice none 0 0,.string ⟨(lS s.data.toList (aV s.data.toList (aV s.data.toList 0 1) 2)).toArray⟩])∧Below w.heap.size w w':=by
 obtain⟨c,v,hcv,hvs,hrd,hzz,hbb⟩:=oD s w hs
 obtain⟨bs,hbs⟩:∃ bs,bs=s.data.toList:=⟨_,rfl⟩
 rw [← hbs] at hrd hk ⊢
 have hN:=jL _ _ _ _ _ _ hrd
 obtain⟨p,hp⟩:∃ p,p=aV bs 0 1:=⟨_,rfl⟩
 rw [hk,← hp] at hN
 rw [← hp]
 have hM:=fun w2 (h2:Rd w2 (w.heap.size+1+1) (w.heap.size+1) c bs p)=>rB _ _ _ _ _ _ h2
 have hM2:=fun w2 (h2:Rd w2 (w.heap.size+1+1) (w.heap.size+1) c bs (aV bs p 2))=>rX _ _ _ _ _ _ h2
 obtain⟨n1,hn1⟩:∃ n1,n1=iH bs p 2:=⟨_,rfl⟩
 obtain⟨n2,hn2⟩:∃ n2,n2=(⟨(lS bs (aV bs p 2)).toArray⟩:ByteArray):=⟨_,rfl⟩
 rw [← hn1] at hM ⊢
 rw [← hn2] at hM2 ⊢
 clear hs hn1 hn2 hp hk hbs
 go_enter Tryz.func139,Tryz.ntmps139
 go_upto_region 4 with(go_at_call 150;refine hN.mono ?_;rintro e w1 ⟨rfl,hr1,ho1⟩)
 have hZ1:=eK (x:=jI 4) (ho1.keep (by omega) hzz)
 have hE1:=aA w1 (jI 4)
 have hγ:w1.heap.size≠w.heap.size+1+1:=Nat.ne_of_gt hr1.lt'
 have hγg:w1.heap.size≠w.heap.size+1:=Nat.ne_of_gt hr1.lt
 have hγz:w.heap.size<w1.heap.size:=by have:=hr1.lt;omega
 go_upto_region 16 with(go_at_call 150;refine(hM _ (hr1.alloc _)).mono ?_;rintro e w2 ⟨rfl,hr2,ho2⟩;have hE2:=ho2.keep hγ hE1;have hZ2:=ho2.keep (by omega) hZ1;obtain⟨c0,c1,c2,c3,c4,c5,c6,c7⟩:=bM hE2;have hf1:=aD hE2)
 have hE3:(w2.setCell ⟨w1.heap.size,3,none⟩ (.int .i64 (n1:Int))).heap[w1.heap.size]?=some (.cells #[.int .i64 4,.int .i64 0,.int .i64 0,.int .i64 (n1:Int),.slice none 0 0,.slice none 0 0,.slice none 0 0,.string ⟨#[]⟩] 85):=aF hE2 3 (.int .i64 (n1:Int))
 have hZ3:=iP hZ2 (Nat.ne_of_lt hγz) 3 (.int .i64 (n1:Int))
 go_upto_region 17 with(go_at_call 153;refine(hM2 _ (hr2.set hγ hγg 3 _)).mono ?_;rintro e w4 ⟨rfl,hr4,ho4⟩;have hE4:=ho4.keep hγ hE3;have hZ4:=ho4.keep (by omega) hZ3;obtain⟨d0,d1,d2,d3,d4,d5,d6,d7⟩:=bM hE4;have hf2:=aD hE4)
 have hE5:(w4.setCell ⟨w1.heap.size,7,none⟩ (.string n2)).heap[w1.heap.size]?=some (.cells #[.int .i64 4,.int .i64 0,.int .i64 0,.int .i64 (n1:Int),.slice none 0 0,.slice none 0 0,.slice none 0 0,.string n2] 85):=aF hE4 7 (.string n2)
 have hZ5:=iP hZ4 (Nat.ne_of_lt hγz) 7 (.string n2)
 obtain⟨f0,f1,f2,f3,f4,f5,f6,f7⟩:=bM hE5
 have hf3:=aD hZ5
 obtain⟨z0,z1,z2,z3,z4,z5,z6,z7⟩:=bM hZ4
 have hU:=uI hZ5 (.int .i64 4) (.int .i64 0) (.int .i64 0) (.int .i64 (n1:Int)) (.slice none 0 0) (.slice none 0 0) (.slice none 0 0) (.string n2)
 obtain⟨y0,y1,y2,y3,y4,y5,y6,y7⟩:=bM hU
 have hO:=(((ho1.alloc (jI 4)).trans ho2).set (β:=w1.heap.size) ho1.size 3 (.int .i64 (n1:Int))).trans ho4
 have hO2:=hO.set (β:=w1.heap.size) ho1.size 7 (.string n2)
 have hB:=nP (mP hbb hO2 (by omega) (by rw [eT];omega)) (β:=w.heap.size) (Nat.le_refl _) (.int .i64 4) (.int .i64 0) (.int .i64 0) (.int .i64 (n1:Int)) (.slice none 0 0) (.slice none 0 0) (.slice none 0 0) (.string n2)
 go_wp2
 refine bodyPost_ret (v:=.agg #[.int .i64 4,.int .i64 0,.int .i64 0,.int .i64 (n1:Int),.slice none 0 0,.slice none 0 0,.slice none 0 0,.string n2]) ?_ rfl ⟨rfl,hB⟩
 simp [results,Tryz.results139,go_sem,y0,y1,y2,y3,y4,y5,y6,y7]
theorem Um (s:ByteArray) (w:World) (hs:s.size=256) (k:Nat) (hk:(s.data.toList.getD 0 0).toNat=k) (h1:k≠1) (h2:k≠2) (h3:k≠3) (h4:k≠4) :
  Calls Tryz.prog 139 #[.string s] w fun e w'=>e=.returned (.agg #[.int .i64 k,.int .i64 0,.int .i64 0,.int .i64 0,.slice none 0 0,.slice none 0 0,.slice none 0 0,.string ⟨#[]⟩])∧Below w.heap.size w w':=by
 obtain⟨c,v,hcv,hvs,hrd,hzz,hbb⟩:=oD s w hs
 obtain⟨bs,hbs⟩:∃ bs,bs=s.data.toList:=⟨_,rfl⟩
 rw [← hbs] at hrd hk
 have hN:=jL _ _ _ _ _ _ hrd
 rw [hk] at hN
 have e1:((k:Int)==1)=false:=by simp;omega
 have e2:((k:Int)==2)=false:=by simp;omega
 have e3:((k:Int)==3)=false:=by simp;omega
 have e4:((k:Int)==4)=false:=by simp;omega
 clear hs hk hbs h1 h2 h3 h4
 go_enter Tryz.func139,Tryz.ntmps139
 go_upto_region 4 with(go_at_call 150;refine hN.mono ?_;rintro e w1 ⟨rfl,hr1,ho1⟩)
 have hZ1:=eK (x:=jI k) (ho1.keep (by omega) hzz)
 have hE1:=aA w1 (jI k)
 generalize hw2:w1.alloc (jI k)=w2 at *
 have hγz:w.heap.size<w1.heap.size:=by have:=hr1.lt;omega
 obtain⟨f0,f1,f2,f3,f4,f5,f6,f7⟩:=bM hE1
 have hf3:=aD hZ1
 obtain⟨z0,z1,z2,z3,z4,z5,z6,z7⟩:=bM hZ1
 have hU:=uI hZ1 (.int .i64 k) (.int .i64 0) (.int .i64 0) (.int .i64 0) (.slice none 0 0) (.slice none 0 0) (.slice none 0 0) (.string ⟨#[]⟩)
 obtain⟨y0,y1,y2,y3,y4,y5,y6,y7⟩:=bM hU
 have hO2:=ho1.alloc (jI k)
 rw [hw2] at hO2
 clear hw2
 have hB:=nP (mP hbb hO2 (by omega) (by rw [eT];omega)) (β:=w.heap.size) (Nat.le_refl _) (.int .i64 k) (.int .i64 0) (.int .i64 0) (.int .i64 0) (.slice none 0 0) (.slice none 0 0) (.slice none 0 0) (.string ⟨#[]⟩)
 go_wp2
 refine bodyPost_ret (v:=.agg #[.int .i64 k,.int .i64 0,.int .i64 0,.int .i64 0,.slice none 0 0,.slice none 0 0,.slice none 0 0,.string ⟨#[]⟩]) ?_ rfl ⟨rfl,hB⟩
 simp [results,Tryz.results139,go_sem,y0,y1,y2,y3,y4,y5,y6,y7]
theorem eI (h:w.ownsRow B e 1 v n xs) (hβ:β<B) (i:Nat) (u:Value):(w.setCell ⟨β,i,none⟩ u).ownsRow B e 1 v n xs :=
 qV h ((dO.refl β w).setCell i u) hβ
theorem uO (h:w.ownsRow B e 1 v n xs) (hβ:β<B) (v0 v1 v2 v3 v4 v5 v6 v7:Value) :
  ((((((((w.setCell ⟨β,0,none⟩ v0).setCell ⟨β,1,none⟩ v1).setCell ⟨β,2,none⟩ v2).setCell ⟨β,3,none⟩ v3).setCell ⟨β,4,none⟩ v4).setCell ⟨β,5,none⟩ v5).setCell ⟨β,6,none⟩ v6).setCell ⟨β,7,none⟩ v7).ownsRow B e 1 v n xs :=
 eI (eI (eI (eI (eI (eI (eI (eI h hβ 0 v0) hβ 1 v1) hβ 2 v2) hβ 3 v3) hβ 4 v4) hβ 5 v5) hβ 6 v6) hβ 7 v7
theorem Ge (h:w.ownsRow B e 1 v n xs):∃ a c,v=.slice a n c:=by
 obtain⟨hl,⟨rfl,rfl⟩|⟨k,cap,row,hv,hk⟩⟩:=h
 ·exact⟨_,_,rfl⟩
 ·exact⟨_,_,hv⟩
theorem Lb (s:ByteArray) (w:World) (hs:s.size=256) (hk:(s.data.toList.getD 0 0).toNat=2) (p:Nat) (hp:p=aV s.data.toList 0 1) (m:Nat) (hm:m=(s.data.toList.getD p 0).toNat) (P:Nat) (hP:P=aV s.data.toList (aV s.data.toList p 1) (2 * (m+1))) :
  Calls Tryz.prog 139 #[.string s] w fun e w'=>∃ vk vi,e=.returned (.agg #[.int .i64 2,.int .i64 0,.int .i64 0,.int .i64 0,vk,vi,.slice none 0 0,.string ⟨#[]⟩]) ∧
   Keys w' w.heap.size vk (iF s.data.toList P m)∧Ints w' w.heap.size vi (iO s.data.toList (aV s.data.toList p 1) (m+1))∧Below w.heap.size w w':=by
 obtain⟨c,v,hcv,hvs,hrd,hzz,hbb⟩:=oD s w hs
 obtain⟨bs,hbs⟩:∃ bs,bs=s.data.toList:=⟨_,rfl⟩
 rw [← hbs] at hrd hk hm hp hP ⊢
 have hN:=jL _ _ _ _ _ _ hrd
 rw [hk,← hp] at hN
 have hM:=fun w2 (h2:Rd w2 (w.heap.size+1+1) (w.heap.size+1) c bs p)=>Of _ _ _ _ _ _ h2
 rw [← hm,← hP] at hM
 obtain⟨ks,hks⟩:∃ ks,ks=iF bs P m:=⟨_,rfl⟩
 obtain⟨is,his⟩:∃ is,is=iO bs (aV bs p 1) (m+1):=⟨_,rfl⟩
 rw [← hks,← his] at hM
 rw [← hks,← his]
 clear hs hp hk hbs hm hP hks his
 go_enter Tryz.func139,Tryz.ntmps139
 go_upto_region 4 with(go_at_call 150;refine hN.mono ?_;rintro e w1 ⟨rfl,hr1,ho1⟩)
 have hZ1:=eK (x:=jI 2) (ho1.keep (by omega) hzz)
 have hE1:=aA w1 (jI 2)
 have hz1:=eT w1 (jI 2)
 have hγ:w1.heap.size≠w.heap.size+1+1:=Nat.ne_of_gt hr1.lt'
 have hγg:w1.heap.size≠w.heap.size+1:=Nat.ne_of_gt hr1.lt
 have hγz:w.heap.size<w1.heap.size:=by have:=hr1.lt;omega
 have hM1:=hM _ (hr1.alloc (jI 2))
 rw [hz1] at hM1
 clear hM
 go_upto_region 17 with(go_at_call 151;refine hM1.mono ?_;rintro e w2 ⟨vk,vi,rfl,hK2,hI2,hr2,ho2⟩;obtain⟨ka,kc,rfl⟩:=Ge hK2;obtain⟨ia,ic,rfl⟩:=Ge hI2;have hE2:=ho2.keep hγ hE1;have hZ2:=ho2.keep (by omega) hZ1;obtain⟨c0,c1,c2,c3,c4,c5,c6,c7⟩:=bM hE2;have hf1:=aD hE2)
 have hE3:(w2.setCell ⟨w1.heap.size,4,none⟩ (.slice ka ks.length kc)).heap[w1.heap.size]?=some (.cells #[.int .i64 2,.int .i64 0,.int .i64 0,.int .i64 0,.slice ka ks.length kc,.slice none 0 0,.slice none 0 0,.string ⟨#[]⟩] 85):=aF hE2 4 (.slice ka ks.length kc)
 have hZ3:=iP hZ2 (Nat.ne_of_lt hγz) 4 (.slice ka ks.length kc)
 have hE5:((w2.setCell ⟨w1.heap.size,4,none⟩ (.slice ka ks.length kc)).setCell ⟨w1.heap.size,5,none⟩ (.slice ia is.length ic)).heap[w1.heap.size]?=some (.cells #[.int .i64 2,.int .i64 0,.int .i64 0,.int .i64 0,.slice ka ks.length kc,.slice ia is.length ic,.slice none 0 0,.string ⟨#[]⟩] 85):=aF hE3 5 (.slice ia is.length ic)
 have hZ5:=iP hZ3 (Nat.ne_of_lt hγz) 5 (.slice ia is.length ic)
 have hO2:=(((ho1.alloc (jI 2)).trans ho2).set (β:=w1.heap.size) ho1.size 4 (.slice ka ks.length kc)).set (β:=w1.heap.size) ho1.size 5 (.slice ia is.length ic)
 have hK5:Keys _ _ _ _:=eI (eI hK2 (Nat.lt_succ_self _) 4 (.slice ka ks.length kc)) (Nat.lt_succ_self _) 5 (.slice ia is.length ic)
 have hI5:Ints _ _ _ _:=eI (eI hI2 (Nat.lt_succ_self _) 4 (.slice ka ks.length kc)) (Nat.lt_succ_self _) 5 (.slice ia is.length ic)
 generalize hw5:(w2.setCell ⟨w1.heap.size,4,none⟩ (.slice ka ks.length kc)).setCell ⟨w1.heap.size,5,none⟩ (.slice ia is.length ic)=w5 at *
 clear hw5
 obtain⟨f0,f1,f2,f3,f4,f5,f6,f7⟩:=bM hE5
 have hf3:=aD hZ5
 obtain⟨z0,z1,z2,z3,z4,z5,z6,z7⟩:=bM hZ5
 have hU:=uI hZ5 (.int .i64 2) (.int .i64 0) (.int .i64 0) (.int .i64 0) (.slice ka ks.length kc) (.slice ia is.length ic) (.slice none 0 0) (.string ⟨#[]⟩)
 obtain⟨y0,y1,y2,y3,y4,y5,y6,y7⟩:=bM hU
 have hB:=nP (mP hbb hO2 (by omega) (by rw [eT];omega)) (β:=w.heap.size) (Nat.le_refl _) (.int .i64 2) (.int .i64 0) (.int .i64 0) (.int .i64 0) (.slice ka ks.length kc) (.slice ia is.length ic) (.slice none 0 0) (.string ⟨#[]⟩)
 have hK6:=qY (uO hK5 (Nat.lt_succ_of_lt hγz) (.int .i64 2) (.int .i64 0) (.int .i64 0) (.int .i64 0) (.slice ka ks.length kc) (.slice ia is.length ic) (.slice none 0 0) (.string ⟨#[]⟩)) (B':=w.heap.size) (by omega)
 have hI6:=qY (uO hI5 (Nat.lt_succ_of_lt hγz) (.int .i64 2) (.int .i64 0) (.int .i64 0) (.int .i64 0) (.slice ka ks.length kc) (.slice ia is.length ic) (.slice none 0 0) (.string ⟨#[]⟩)) (B':=w.heap.size) (by omega)
 go_wp2
 refine bodyPost_ret (v:=.agg #[.int .i64 2,.int .i64 0,.int .i64 0,.int .i64 0,.slice ka ks.length kc,.slice ia is.length ic,.slice none 0 0,.string ⟨#[]⟩]) ?_ rfl ⟨_,_,rfl,hK6,hI6,hB⟩
 simp [results,Tryz.results139,go_sem,y0,y1,y2,y3,y4,y5,y6,y7]
theorem Tf:(Tryz.prog.info? 108).map (fun i=>(i.zero,i.size,i.bytes))=some (some (.agg #[.string ⟨#[]⟩,.string ⟨#[]⟩,.int .i64 0,.int .i64 0]),4,48):=by kernel_rfl
def fI (w:World) (B:Nat) (v:Value) (es:List Ent):Prop:=w.ownsRow B 108 4 v es.length (es.flatMap Ent.cells)
theorem fI.nil (w:World) (B:Nat):fI w B (.slice none 0 0) []:=World.ownsRow_nil _ _ _ _
theorem fI.alloc (h:fI w B v es) (o:Obj):fI (w.alloc o) B v es:=World.ownsRow.alloc (w:=w) h o
theorem fI.only (h:fI w B v es) (ho:dO ρ w w') (hρ:ρ<B):fI w' B v es :=
 World.ownsRow.kept (row:=some ρ) h ⟨ho.os,ho.tape,ho.output,ho.size,fun k hk hr=>ho.block k hk (fun e=>hr (by rw [e]))⟩ (by
  cases hv:v.ownBlock with
  | none=>exact .inl rfl
  | some k=>exact .inr (fun e=>by have:=(World.ownsRow.lt (w:=w) h k hv).1;simp at e;omega))
theorem fI.set (h:fI w B v es) (hβ:β<B) (i:Nat) (u:Value):fI (w.setCell ⟨β,i,none⟩ u) B v es :=
 h.only ((dO.refl β w).setCell i u) hβ
theorem fI.mono {B B':Nat}   (h:fI w B v es) (hb:B'≤B):fI w B' v es:=by
 obtain⟨hl,hn|⟨k,cap,row,hv,hk,hr⟩⟩:=h
 ·exact⟨hl,.inl hn⟩
 ·exact⟨hl,.inr ⟨k,cap,row,hv,by omega,hr⟩⟩
theorem fI.slice (h:fI w B v es):∃ a c,v=.slice a es.length c:=by
 obtain⟨hl,⟨rfl,h0⟩|⟨k,cap,row,hv,hk⟩⟩:=h
 ·rw [h0];exact⟨_,_,rfl⟩
 ·exact⟨_,_,hv⟩
theorem Qx (w:World) (a0 a1 a2 a3:Value) (t:TypeId):∀ j u,[a0,a1,a2,a3][j]?=some u→(w.alloc (.cells #[a0,a1,a2,a3] t)).cell? ((⟨w.heap.size,0,none⟩:Addr).add j)=some u:=by
 intro j u hj
 have hlt:j<4:=by have:=(List.getElem?_eq_some_iff.1 hj).1;simpa using this
 have hn:=aA w (.cells #[a0,a1,a2,a3] t)
 have e:(⟨w.heap.size,0,none⟩:Addr).add j=⟨w.heap.size,j,none⟩:=by unfold Addr.add;split<;>simp_all
 rw [e]
 simp only [World.cell?,hn]
 have:j=0∨j=1∨j=2∨j=3:=by omega
 rcases this with rfl|rfl|rfl|rfl<;>simpa using hj
def kW (bs:List UInt8) (a:Nat):Nat→Nat
 | 0=>a
 | j+1=>zJ bs (kW bs a j)
def eO (bs:List UInt8) (a n:Nat):List Ent:=(List.range n).map fun j=>qJ bs (kW bs a j)
theorem Rb (bs:List UInt8) (a n:Nat):eO bs a (n+1)=eO bs a n++[qJ bs (kW bs a n)]:=by simp [eO,List.range_succ]
