/-
  Joined: Read2, Right2, Enc, Field, Rising, RefRightA, RefRightB, RefRightC, Read3.
-/
import Derived.Test.YtfnhmpcpeahfkaaGreatW8
import Derived.Deep.DeepCutAuto
import Derived.Test.YtfnhmpcpeahfkaaGreatW6
set_option linter.unusedSimpArgs false
set_option linter.unusedVariables false
set_option maxRecDepth 100000
set_option maxHeartbeats 8000000
namespace Go.Proofs.YtfnhmpcpeahfkaaGreat.Pages
open Go.RowKit
theorem Only.alloc {ρ:Nat} {a w:World} (h:Only ρ a w) (o:Obj):Only ρ a (w.alloc o) :=
 h.trans ⟨rfl,rfl,rfl,by simp,fun k hk _=>Below.heap_alloc _ _ _ hk⟩
theorem Only.keep {ρ:Nat} {w w':World} (h:Only ρ w w') {k:Nat} {o:Obj} (hr:k≠ρ) (hk:w.heap[k]?=some o):w'.heap[k]?=some o:=by
 rw [h.block k (Array.getElem?_eq_some_iff.1 hk).1 hr];exact hk
theorem keep_alloc {w:World} {k:Nat} {o x:Obj} (hk:w.heap[k]?=some o):(w.alloc x).heap[k]?=some o:=by
 rw [Below.heap_alloc _ _ _ (Array.getElem?_eq_some_iff.1 hk).1];exact hk
theorem Rd.alloc {w:World} {ρ g c:Nat} {bs:List UInt8} {a:Nat} (h:Rd w ρ g c bs a) (o:Obj):Rd (w.alloc o) ρ g c bs a :=
 h.only ((Only.refl ρ w).alloc o) (keep_alloc h.box) h.le
theorem Rd.lt' {w:World} {ρ g c:Nat} {bs:List UInt8} {a:Nat} (h:Rd w ρ g c bs a):ρ<w.heap.size:=(Array.getElem?_eq_some_iff.1 h.box).1
theorem number_2 (ρ g c:Nat) (bs:List UInt8) (a:Nat) (w:World) (h:Rd w ρ g c bs a) :
  Calls Tryz.prog 150 #[.pointer (some ⟨ρ,0,none⟩),.int .i64 2] w fun e w'=>e=.returned (.int .i64 (numV bs a 2:Nat))∧Rd w' ρ g c bs (posB bs a 2)∧Only ρ w w':=by
 refine(number_any ρ g c bs a 2 w h (by omega)).mono fun e w' ⟨he,hr,ho⟩=>⟨?_,hr,ho⟩
 rw [he]
 refine ret_v (congrArg (Value.int .i64) ?_)
 have:=numV_lt bs a 2
 unfold wrap64
 omega
theorem Rd.set {w:World} {ρ g c:Nat} {bs:List UInt8} {a:Nat} (h:Rd w ρ g c bs a) {β:Nat} (hβ:β≠ρ) (hg:β≠g) (i:Nat) (v:Value):Rd (w.setCell ⟨β,i,none⟩ v) ρ g c bs a :=
 ⟨by rw [Below.heap_setCell _ _ _ _ (fun e=>hβ e.symm)];exact h.box,fun j hj=>by rw [World.cell?_of_block (w:=w) (Below.heap_setCell _ _ _ _ (fun e=>hg e.symm))];exact h.bytes j hj,h.ne,by have:=h.lt;simpa [World.setCell] using this,h.le,h.len,h.cap⟩
theorem Only.set {ρ:Nat} {a w:World} (h:Only ρ a w) {β:Nat} (hβ:a.heap.size≤β) (i:Nat) (v:Value):Only ρ a (w.setCell ⟨β,i,none⟩ v) :=
 ⟨h.os,h.tape,h.output,by have:=h.size;simpa [World.setCell] using this,fun k hk hr=>by rw [Below.heap_setCell _ _ _ _ (by simp;omega)];exact h.block k hk hr⟩
theorem keep_set {w:World} {k:Nat} {o:Obj} (hk:w.heap[k]?=some o) {β:Nat} (hb:k≠β) (i:Nat) (v:Value):(w.setCell ⟨β,i,none⟩ v).heap[k]?=some o:=by
 rw [Below.heap_setCell _ _ _ _ hb];exact hk
theorem set4 {u:World} {β:Nat} {a0 a1 a2 a3:Value} {t:TypeId} (h:u.heap[β]?=some (.cells #[a0,a1,a2,a3] t)) (v0 v1 v2 v3:Value):((((u.setCell ⟨β,0,none⟩ v0).setCell ⟨β,1,none⟩ v1).setCell ⟨β,2,none⟩ v2).setCell ⟨β,3,none⟩ v3).heap[β]?=some (.cells #[v0,v1,v2,v3] t):=by
 have:=set_of (set_of (set_of (set_of h 0 v0) 1 v1) 2 v2) 3 v3
 simpa using this
def entR (bs:List UInt8) (a:Nat):Ent :=
 if bs.getD (txtA bs a) 0=0 then ⟨⟨(txtB bs a).toArray⟩,⟨(txtB bs (posB bs (txtA bs a) 1)).toArray⟩,(txtB bs (posB bs (txtA bs a) 1)).length,0⟩
 else ⟨⟨(txtB bs a).toArray⟩,⟨#[]⟩,numV bs (posB bs (txtA bs a) 1) 2,numV bs (posB bs (posB bs (txtA bs a) 1) 2) 2⟩
def entA (bs:List UInt8) (a:Nat):Nat :=
 if bs.getD (txtA bs a) 0=0 then txtA bs (posB bs (txtA bs a) 1) else posB bs (posB bs (posB bs (txtA bs a) 1) 2) 2
theorem entry_read (ρ g c:Nat) (bs:List UInt8) (a:Nat) (w:World) (h:Rd w ρ g c bs a) :
  Calls Tryz.prog 152 #[.pointer (some ⟨ρ,0,none⟩)] w fun e w'=>e=.returned (.agg #[.string (entR bs a).key,.string (entR bs a).val,.int .i64 (entR bs a).size,.int .i64 (entR bs a).over])∧Rd w' ρ g c bs (entA bs a)∧Only ρ w w':=by
 have hρ:=h.lt'
 have hβ:w.heap.size≠ρ:=by omega
 obtain⟨K,hK⟩:∃ K,K=(⟨(txtB bs a).toArray⟩:ByteArray):=⟨_,rfl⟩
 have hT:=text_read ρ g c bs a (w.alloc (.cells #[.string ⟨#[]⟩,.string ⟨#[]⟩,.int .i64 0,.int .i64 0] 108)) (h.alloc _)
 rw [← hK] at hT
 have hZ:=heap_new w (.cells #[.string ⟨#[]⟩,.string ⟨#[]⟩,.int .i64 0,.int .i64 0] 108)
 have ho0:=(Only.refl ρ w).alloc (.cells #[.string ⟨#[]⟩,.string ⟨#[]⟩,.int .i64 0,.int .i64 0] 108)
 have hN1:=fun w' (h':Rd w' ρ g c bs (txtA bs a))=>number_1 ρ g c bs (txtA bs a) w' h'
 obtain⟨m,hmd⟩:∃ m,m=bs.getD (txtA bs a) 0:=⟨_,rfl⟩
 rw [← hmd] at hN1
 cases hm:(m.toNat==0)
 ·have hm0:¬ bs.getD (txtA bs a) 0=0:=by rw [← hmd];intro e;rw [e] at hm;simp at hm
  have hmi:((m.toNat:Int)==0)=false:=by simpa using hm
  obtain⟨n1,hn1⟩:∃ n1,n1=numV bs (posB bs (txtA bs a) 1) 2:=⟨_,rfl⟩
  obtain⟨n2,hn2⟩:∃ n2,n2=numV bs (posB bs (posB bs (txtA bs a) 1) 2) 2:=⟨_,rfl⟩
  have HR:Hid (entR bs a=⟨K,⟨#[]⟩,n1,n2⟩):=by show _=_;unfold entR;rw [if_neg hm0,hK,hn1,hn2]
  have HA:Hid (entA bs a=posB bs (posB bs (posB bs (txtA bs a) 1) 2) 2):=by show _=_;unfold entA;rw [if_neg hm0]
  have hM1:=fun w2 (h2:Rd w2 ρ g c bs (posB bs (txtA bs a) 1))=>number_2 ρ g c bs (posB bs (txtA bs a) 1) w2 h2
  have hM2:=fun w2 (h2:Rd w2 ρ g c bs (posB bs (posB bs (txtA bs a) 1) 2))=>number_2 ρ g c bs (posB bs (posB bs (txtA bs a) 1) 2) w2 h2
  rw [← hn1] at hM1
  rw [← hn2] at hM2
  have hgl:=h.lt
  clear hm hm0 hK hn1 hn2 hmd
  go_enter Tryz.func152,Tryz.ntmps152
  go_wp2_with (go_at_call 153;refine hT.mono ?_;rintro e w1 ⟨rfl,hr1,ho1⟩;have hZ1:=ho1.keep hβ hZ;have hγ:w1.heap.size≠ρ:=Nat.ne_of_gt hr1.lt';have hγβ:w.heap.size<w1.heap.size:=(Array.getElem?_eq_some_iff.1 hZ1).1;have hE1:=heap_new w1 (.cells #[.string K,.string ⟨#[]⟩,.int .i64 0,.int .i64 0] 108);have hZ1':=keep_alloc (x:=.cells #[.string K,.string ⟨#[]⟩,.int .i64 0,.int .i64 0] 108) hZ1)
  go_upto_region 6 with(go_at_call 150;refine(hN1 _ (hr1.alloc _)).mono ?_;rintro e w2 ⟨rfl,hr2,ho2⟩;have hE2:=ho2.keep hγ hE1;have hZ2:=ho2.keep hβ hZ1')
  go_upto_region 7 with(go_at_call 150;refine(hM1 _ hr2).mono ?_;rintro e w3 ⟨rfl,hr3,ho3⟩;have hE3:=ho3.keep hγ hE2;have hZ3:=ho3.keep hβ hZ2;obtain⟨c0,c1,c2,c3⟩:=box4 hE3;have hf1:=free_of hE3;have hγg:w1.heap.size≠g:=by omega)
  have hE4:(w3.setCell ⟨w1.heap.size,2,none⟩ (.int .i64 (n1:Int))).heap[w1.heap.size]?=some (.cells #[.string K,.string ⟨#[]⟩,.int .i64 (n1:Int),.int .i64 0] 108):=by have:=set_of hE3 2 (.int .i64 (n1:Int));simpa using this
  have hZ4:=keep_set hZ3 (Nat.ne_of_lt hγβ) 2 (.int .i64 (n1:Int))
  go_wp2_with (go_at_call 150;refine(hM2 _ (hr3.set hγ hγg 2 _)).mono ?_;rintro e w5 ⟨rfl,hr5,ho5⟩;have hE5:=ho5.keep hγ hE4;have hZ5:=ho5.keep hβ hZ4;obtain⟨d0,d1,d2,d3⟩:=box4 hE5;obtain⟨z0,z1,z2,z3⟩:=box4 hZ5;have hf2:=free_of hE5;have hf3:=free_of hZ5)
  have hU:=set4 (keep_set hZ5 (Nat.ne_of_lt hγβ) 3 (.int .i64 (n2:Int))) (.string K) (.string ⟨#[]⟩) (.int .i64 (n1:Int)) (.int .i64 (n2:Int))
  obtain⟨y0,y1,y2,y3⟩:=box4 hU
  have hR:=((((hr5.set hγ hγg 3 (.int .i64 (n2:Int))).set hβ (by omega) 0 (.string K)).set hβ (by omega) 1 (.string ⟨#[]⟩)).set hβ (by omega) 2 (.int .i64 (n1:Int))).set hβ (by omega) 3 (.int .i64 (n2:Int))
  have hO:=(((((ho0.trans ho1).alloc (.cells #[.string K,.string ⟨#[]⟩,.int .i64 0,.int .i64 0] 108)).trans ho2).trans ho3).set (β:=w1.heap.size) (by omega) 2 (.int .i64 (n1:Int)))
  have hO2:=(((((hO.trans ho5).set (β:=w1.heap.size) (by omega) 3 (.int .i64 (n2:Int))).set (β:=w.heap.size) (by omega) 0 (.string K)).set (β:=w.heap.size) (by omega) 1 (.string ⟨#[]⟩)).set (β:=w.heap.size) (by omega) 2 (.int .i64 (n1:Int))).set (β:=w.heap.size) (by omega) 3 (.int .i64 (n2:Int))
  refine bodyPost_ret (v:=.agg #[.string K,.string ⟨#[]⟩,.int .i64 (n1:Int),.int .i64 (n2:Int)]) ?_ rfl ⟨?_,?_,hO2⟩
  ·simp [results,Tryz.results152,go_sem,y0,y1,y2,y3]
  ·rw [HR.out]
  ·rw [HA.out];exact hR
 ·have hm0:bs.getD (txtA bs a) 0=0:=by rw [← hmd];apply UInt8.toNat_inj.1;simpa using hm
  have hmi:((m.toNat:Int)==0)=true:=by simpa using hm
  obtain⟨V,hV⟩:∃ V,V=(⟨(txtB bs (posB bs (txtA bs a) 1)).toArray⟩:ByteArray):=⟨_,rfl⟩
  have hVs:V.size=(txtB bs (posB bs (txtA bs a) 1)).length:=by rw [hV];show (txtB bs (posB bs (txtA bs a) 1)).toArray.size=_;simp
  have HR:Hid (entR bs a=⟨K,V,V.size,0⟩):=by show _=_;unfold entR;rw [if_pos hm0,hK,hVs,hV]
  have HA:Hid (entA bs a=txtA bs (posB bs (txtA bs a) 1)):=by show _=_;unfold entA;rw [if_pos hm0]
  have hT2:=fun w2 (h2:Rd w2 ρ g c bs (posB bs (txtA bs a) 1))=>text_read ρ g c bs (posB bs (txtA bs a) 1) w2 h2
  rw [← hV] at hT2
  clear hVs hm hm0 hK hV hmd
  go_enter Tryz.func152,Tryz.ntmps152
  go_wp2_with (go_at_call 153;refine hT.mono ?_;rintro e w1 ⟨rfl,hr1,ho1⟩;have hZ1:=ho1.keep hβ hZ;have hγ:w1.heap.size≠ρ:=Nat.ne_of_gt hr1.lt';have hγβ:w.heap.size<w1.heap.size:=(Array.getElem?_eq_some_iff.1 hZ1).1;have hE1:=heap_new w1 (.cells #[.string K,.string ⟨#[]⟩,.int .i64 0,.int .i64 0] 108);have hZ1':=keep_alloc (x:=.cells #[.string K,.string ⟨#[]⟩,.int .i64 0,.int .i64 0] 108) hZ1)
  go_wp2_with (first|(go_at_call 150;refine(hN1 _ (hr1.alloc _)).mono ?_;rintro e w2 ⟨rfl,hr2,ho2⟩;have hE2:=ho2.keep hγ hE1;have hZ2:=ho2.keep hβ hZ1')|(go_at_call 153;refine(hT2 _ hr2).mono ?_;rintro e w3 ⟨rfl,hr3,ho3⟩;have hE3:=ho3.keep hγ hE2;have hZ3:=ho3.keep hβ hZ2;obtain⟨c0,c1,c2,c3⟩:=box4 hE3;obtain⟨z0,z1,z2,z3⟩:=box4 hZ3;have hf1:=free_of hE3;have hf2:=free_of hZ3))
  have hgl:=h.lt
  have hU:=set4 (keep_set (keep_set hZ3 (Nat.ne_of_lt hγβ) 1 (.string V)) (Nat.ne_of_lt hγβ) 2 (.int .i64 (V.size:Int))) (.string K) (.string V) (.int .i64 (V.size:Int)) (.int .i64 0)
  obtain⟨y0,y1,y2,y3⟩:=box4 hU
  have hR:=(((((hr3.set hγ (by omega) 1 (.string V)).set hγ (by omega) 2 (.int .i64 (V.size:Int))).set hβ (by omega) 0 (.string K)).set hβ (by omega) 1 (.string V)).set hβ (by omega) 2 (.int .i64 (V.size:Int))).set hβ (by omega) 3 (.int .i64 0)
  have hO:=((((((ho0.trans ho1).alloc (.cells #[.string K,.string ⟨#[]⟩,.int .i64 0,.int .i64 0] 108)).trans ho2).trans ho3).set (β:=w1.heap.size) (by omega) 1 (.string V)).set (β:=w1.heap.size) (by omega) 2 (.int .i64 (V.size:Int)))
  have hO2:=(((hO.set (β:=w.heap.size) (by omega) 0 (.string K)).set (β:=w.heap.size) (by omega) 1 (.string V)).set (β:=w.heap.size) (by omega) 2 (.int .i64 (V.size:Int))).set (β:=w.heap.size) (by omega) 3 (.int .i64 0)
  refine bodyPost_ret (v:=.agg #[.string K,.string V,.int .i64 (V.size:Int),.int .i64 0]) ?_ rfl ⟨?_,?_,hO2⟩
  ·simp [results,Tryz.results152,go_sem,y0,y1,y2,y3]
  ·rw [HR.out]
  ·rw [HA.out];exact hR
def noMeta (ver root:Int):Bool:=ver==0&&root==0
def noBranch (keys:List ByteArray) (kids:List Int):Bool:=(keys.length:Int)==0&&(kids.length:Int)==0
def noLeaf (ents:List Ent):Bool:=(ents.length:Int)==0
def noOver (next:Int) (data:ByteArray):Bool:=next==0&&data.toList.isEmpty
def rightB (kind ver root next:Int) (keys:List ByteArray) (kids:List Int) (ents:List Ent) (data:ByteArray):Bool :=
 if kind=1 then noBranch keys kids&&noLeaf ents&&noOver next data&&metaB ver root
 else if kind=2 then noMeta ver root&&noLeaf ents&&noOver next data&&branchOk keys kids
 else if kind=3 then noMeta ver root&&noBranch keys kids&&noOver next data&&(decide (ents.length≠0)&&leafOk ⟨#[]⟩ ents)
 else if kind=4 then noMeta ver root&&noBranch keys kids&&noLeaf ents&&overB next data
 else false
theorem right_any (kind:Int) (ver root next:Int) (ka ia ea:Option Addr) (kc ic ec:Nat) (data:ByteArray) (keys:List ByteArray) (kids:List Int) (ents:List Ent) (w:World) (hK:RowAt w w.heap.size ka (keys.map .string)) (hI:RowAt w w.heap.size ia (kids.map (.int .i64))) (hE:RowAt w w.heap.size ea (ents.flatMap Ent.cells)) (hkn:keys.length≤1073741824) (hin:kids.length≤1073741824) (hen:ents.length≤1073741824) :
  Calls Tryz.prog 141 #[.agg #[.int .i64 kind,.int .i64 ver,.int .i64 root,.int .i64 next,.slice ka keys.length kc,.slice ia kids.length ic,.slice ea ents.length ec,.string data]] w fun e w'=>e=.returned (.bool (rightB kind ver root next keys kids ents data))∧Below w.heap.size w w':=by
 have hb:=(Below.refl w.heap.size w).alloc (Nat.le_refl _) (.cells #[.int .i64 kind,.int .i64 ver,.int .i64 root,.int .i64 next,.slice ka keys.length kc,.slice ia kids.length ic,.slice ea ents.length ec,.string data] 85)
 have hKb:=(hK.below hb).mono (show w.heap.size≤(w.alloc (.cells #[.int .i64 kind,.int .i64 ver,.int .i64 root,.int .i64 next,.slice ka keys.length kc,.slice ia kids.length ic,.slice ea ents.length ec,.string data] 85)).heap.size by simp)
 have hIb:=(hI.below hb).mono (show w.heap.size≤(w.alloc (.cells #[.int .i64 kind,.int .i64 ver,.int .i64 root,.int .i64 next,.slice ka keys.length kc,.slice ia kids.length ic,.slice ea ents.length ec,.string data] 85)).heap.size by simp)
 have hEb:=(hE.below hb).mono (show w.heap.size≤(w.alloc (.cells #[.int .i64 kind,.int .i64 ver,.int .i64 root,.int .i64 next,.slice ka keys.length kc,.slice ia kids.length ic,.slice ea ents.length ec,.string data] 85)).heap.size by simp)
 clear hK hI hE
 go_enter Tryz.func141,Tryz.ntmps141
 go_upto_region 1 with fail
 go_cut [3] (fun s3 wx=>s3=.bool (noMeta ver root)∧wx=(w.alloc (.cells #[.int .i64 kind,.int .i64 ver,.int .i64 root,.int .i64 next,.slice ka keys.length kc,.slice ia kids.length ic,.slice ea ents.length ec,.string data] 85)))
 case first =>
  cases hq:(ver==0)
  all_goals (go_wp2_with fail;go_meet;exact⟨congrArg Value.bool (by simp only [noMeta,hq,Bool.true_and,Bool.false_and]),rfl⟩)
 case rest =>
 obtain⟨rfl,rfl⟩:=hcut
 go_upto_region 2 with fail
 go_cut [4] (fun s4 wx=>s4=.bool (noBranch keys kids)∧wx=(w.alloc (.cells #[.int .i64 kind,.int .i64 ver,.int .i64 root,.int .i64 next,.slice ka keys.length kc,.slice ia kids.length ic,.slice ea ents.length ec,.string data] 85)))
 case first =>
  cases hq:((keys.length:Int)==0)
  all_goals (go_wp2_with fail;go_meet;exact⟨congrArg Value.bool (by simp only [noBranch,hq,Bool.true_and,Bool.false_and]),rfl⟩)
 case rest =>
 obtain⟨rfl,rfl⟩:=hcut
 go_upto_region 3 with fail
 go_cut [5] (fun s5 wx=>s5=.bool (noLeaf ents)∧wx=(w.alloc (.cells #[.int .i64 kind,.int .i64 ver,.int .i64 root,.int .i64 next,.slice ka keys.length kc,.slice ia kids.length ic,.slice ea ents.length ec,.string data] 85)))
 case first =>
  go_wp2_with fail
  all_goals (go_meet;exact⟨rfl,rfl⟩)
 case rest =>
 obtain⟨rfl,rfl⟩:=hcut
 go_upto_region 4 with fail
 go_cut [6] (fun s6 wx=>s6=.bool (noOver next data)∧wx=(w.alloc (.cells #[.int .i64 kind,.int .i64 ver,.int .i64 root,.int .i64 next,.slice ka keys.length kc,.slice ia kids.length ic,.slice ea ents.length ec,.string data] 85)))
 case first =>
  cases hq:(next==0)
  all_goals (go_wp2_with fail;go_meet;exact⟨congrArg Value.bool (by simp only [noOver,hq,Bool.true_and,Bool.false_and]),rfl⟩)
 case rest =>
 obtain⟨rfl,rfl⟩:=hcut
 by_cases k1:kind=1
 ·have HR:Hid (rightB kind ver root next keys kids ents data=(noBranch keys kids&&noLeaf ents&&noOver next data&&metaB ver root)):=by show _=_;unfold rightB;rw [if_pos k1]
  have kb1:(kind==1)=true:=beq_iff_eq.2 k1
  clear k1
  go_wp2_with (go_at_call 154;refine(rightMeta_any _ _ _ _ _ _ _ _ _ _ _ _ _ _ _ ).mono ?_;rintro e w1 ⟨rfl,hb1⟩)
  all_goals go_ret
  all_goals first|refine⟨ret_bool ?_,hb⟩|refine⟨ret_bool ?_,hb.trans (hb1.mono (by simp))⟩
  all_goals (rw [HR.out];simp [*])
 have kb1:(kind==1)=false:=beq_eq_false_iff_ne.2 k1
 by_cases k2:kind=2
 ·have HR:Hid (rightB kind ver root next keys kids ents data=(noMeta ver root&&noLeaf ents&&noOver next data&&branchOk keys kids)):=by show _=_;unfold rightB;rw [if_neg k1,if_pos k2]
  have kb2:(kind==2)=true:=beq_iff_eq.2 k2
  clear k1 k2
  go_wp2_with (go_at_call 155;refine(rightBranch_any _ _ _ _ _ _ _ _ _ _ _ _ _ _ _ hKb hIb hkn hin).mono ?_;rintro e w1 ⟨rfl,hb1⟩)
  all_goals go_ret
  all_goals first|refine⟨ret_bool ?_,hb⟩|refine⟨ret_bool ?_,hb.trans (hb1.mono (by simp))⟩
  all_goals (rw [HR.out];simp [*])
 have kb2:(kind==2)=false:=beq_eq_false_iff_ne.2 k2
 by_cases k3:kind=3
 ·have HR:Hid (rightB kind ver root next keys kids ents data=(noMeta ver root&&noBranch keys kids&&noOver next data&&(decide (ents.length≠0)&&leafOk ⟨#[]⟩ ents))):=by show _=_;unfold rightB;rw [if_neg k1,if_neg k2,if_pos k3]
  have kb3:(kind==3)=true:=beq_iff_eq.2 k3
  clear k1 k2 k3
  go_wp2_with (go_at_call 156;refine(rightLeaf_any _ _ _ _ _ _ _ _ _ _ _ _ _ _ _ hEb hen).mono ?_;rintro e w1 ⟨rfl,hb1⟩)
  all_goals go_ret
  all_goals first|refine⟨ret_bool ?_,hb⟩|refine⟨ret_bool ?_,hb.trans (hb1.mono (by simp))⟩
  all_goals (rw [HR.out];simp [*])
 have kb3:(kind==3)=false:=beq_eq_false_iff_ne.2 k3
 by_cases k4:kind=4
 ·have HR:Hid (rightB kind ver root next keys kids ents data=(noMeta ver root&&noBranch keys kids&&noLeaf ents&&overB next data)):=by show _=_;unfold rightB;rw [if_neg k1,if_neg k2,if_neg k3,if_pos k4]
  have kb4:(kind==4)=true:=beq_iff_eq.2 k4
  clear k1 k2 k3 k4
  go_wp2_with (go_at_call 157;refine(rightOver_any _ _ _ _ _ _ _ _ _ _ _ _ _ _ _ ).mono ?_;rintro e w1 ⟨rfl,hb1⟩)
  all_goals go_ret
  all_goals first|refine⟨ret_bool ?_,hb⟩|refine⟨ret_bool ?_,hb.trans (hb1.mono (by simp))⟩
  all_goals (rw [HR.out];simp [*])
 have kb4:(kind==4)=false:=beq_eq_false_iff_ne.2 k4
 have HR:Hid (rightB kind ver root next keys kids ents data=false):=by show _=_;unfold rightB;rw [if_neg k1,if_neg k2,if_neg k3,if_neg k4]
 clear k1 k2 k3 k4
 go_wp2
 go_ret
 exact⟨ret_bool (by rw [HR.out]),hb⟩
def fieldsB (kind ver root next:Int) (keys:List ByteArray) (kids:List Int) (ents:List Ent) (data:ByteArray):List UInt8 :=
 if kind=1 then beB 1 1++beB 8 ver++beB 2 root
 else if kind=2 then beB 1 2++branchB keys kids
 else if kind=3 then beB 1 3++leafB ents
 else beB 1 4++beB 2 next++textB data
def padB (bs:List UInt8):List UInt8:=bs++List.replicate (252-bs.length) 0
def fullB (bs:List UInt8):List UInt8:=padB bs++beB 4 (Crc.crc (padB bs):Nat)
def encS (kind ver root next:Int) (keys:List ByteArray) (kids:List Int) (ents:List Ent) (data:ByteArray):ByteArray :=
 if (rightB kind ver root next keys kids ents data&&decide ((fieldsB kind ver root next keys kids ents data).length≤252))=true then ⟨(fullB (fieldsB kind ver root next keys kids ents data)).toArray⟩ else ⟨#[]⟩
def encE (kind ver root next:Int) (keys:List ByteArray) (kids:List Int) (ents:List Ent) (data:ByteArray):Int :=
 if (rightB kind ver root next keys kids ents data&&decide ((fieldsB kind ver root next keys kids ents data).length≤252))=true then 0 else 2
structure Small (keys:List ByteArray) (kids:List Int) (ents:List Ent) (data:ByteArray):Prop where
 nKeys:keys.length≤1073741824
 nKids:kids.length≤1073741824
 nEnts:ents.length≤1073741824
 each:∀ e∈ents,e.key.size≤1073741824∧e.val.size≤1073741824
 lBranch:(branchB keys kids).length≤34359738368
 lLeaf:(leafB ents).length≤34359738368
 lData:data.size≤1073741824
theorem Buf.string {w:World} {B:Nat} {v:Value} {bs:List UInt8} (h:Buf w B v bs):(convert 115 9 v).run Tryz.prog w=.ok (.string ⟨bs.toArray⟩) w:=by
 obtain⟨hx1,hx2⟩:=id h
 rcases hx2 with⟨rfl,h0⟩|⟨g,cap,cur,rfl,hbg,hg,hnc,hcm,hcs,htake⟩
 ·obtain rfl:=List.eq_nil_of_length_eq_zero h0
  exact run_convert_bytes_nil w 115 5 Tryz.underlying115 Tryz.underlying5 0 0 9 Tryz.underlying9
 ·refine run_convert_bytes_back w 115 9 5 ⟨g,0,none⟩ cap bs Tryz.underlying115 Tryz.underlying5 Tryz.underlying9 fun j hj=>?_
  exact World.ownsRow.cells (w:=w) h (g:=g) rfl j _ (by simp [List.getElem?_eq_getElem hj,byteV])
theorem Buf.shape {w:World} {B:Nat} {v:Value} {bs:List UInt8} (h:Buf w B v bs):∃ a cap,v=.slice a bs.length cap:=by
 obtain⟨_,hx2⟩:=id h
 rcases hx2 with⟨rfl,h0⟩|⟨g,cap,cur,rfl,_⟩
 ·exact⟨none,0,by rw [h0]⟩
 ·exact⟨_,_,rfl⟩
theorem ret_se {a a':ByteArray} {b b':Int} (h1:a=a') (h2:b=b'):Ending.returned (.tuple #[.string a,.int .i64 b])=.returned (.tuple #[.string a',.int .i64 b']):=by rw [h1,h2]
theorem padB_len {bs:List UInt8} (h:bs.length≤252):(padB bs).length=252:=by simp [padB];omega
theorem rightB_kind {kind ver root next:Int} {keys:List ByteArray} {kids:List Int} {ents:List Ent} {data:ByteArray} (h:rightB kind ver root next keys kids ents data=true):kind=1∨kind=2∨kind=3∨kind=4:=by
 unfold rightB at h
 by_cases k1:kind=1
 ·exact .inl k1
 by_cases k2:kind=2
 ·exact .inr (.inl k2)
 by_cases k3:kind=3
 ·exact .inr (.inr (.inl k3))
 by_cases k4:kind=4
 ·exact .inr (.inr (.inr k4))
 rw [if_neg k1,if_neg k2,if_neg k3,if_neg k4] at h
 cases h
theorem fields_any (kind ver root next:Int) (ka ia ea:Option Addr) (kc ic ec:Nat) (data:ByteArray) (keys:List ByteArray) (kids:List Int) (ents:List Ent) (w:World) (B:Nat) (hB:B≤w.heap.size) (hK:RowAt w B ka (keys.map .string)) (hI:RowAt w B ia (kids.map (.int .i64))) (hE:RowAt w B ea (ents.flatMap Ent.cells)) (hs:Small keys kids ents data) (hk:kind=1∨kind=2∨kind=3∨kind=4) :
  Calls Tryz.prog 142 #[.agg #[.int .i64 kind,.int .i64 ver,.int .i64 root,.int .i64 next,.slice ka keys.length kc,.slice ia kids.length ic,.slice ea ents.length ec,.string data]] w fun e w'=>∃ b',e=.returned b'∧Buf w' B b' (fieldsB kind ver root next keys kids ents data)∧Grew B w w':=by
 have s1:=hs.lBranch
 have s2:=hs.lLeaf
 have s3:=hs.lData
 rcases hk with rfl|rfl|rfl|rfl
 ·simpa [fieldsB] using fields_meta ver root next ka ia ea kc ic ec data keys kids ents B w hB
 ·simpa [fieldsB] using fields_branch ver root next ka ia ea kc ic ec data keys kids ents B w hB hK hI hs.nKeys hs.nKids (by omega)
 ·simpa [fieldsB] using fields_leaf ver root next ka ia ea kc ic ec data keys kids ents B w hB hE hs.nEnts hs.each (by omega)
 ·simpa [fieldsB] using fields_over ver root next ka ia ea kc ic ec data keys kids ents B w hB (by omega)
theorem fieldsB_len {kind ver root next:Int} {keys:List ByteArray} {kids:List Int} {ents:List Ent} {data:ByteArray} (hs:Small keys kids ents data):(fieldsB kind ver root next keys kids ents data).length≤34359738400∧1≤(fieldsB kind ver root next keys kids ents data).length:=by
 have s1:=hs.lBranch
 have s2:=hs.lLeaf
 have s3:=hs.lData
 unfold fieldsB
 split
 ·simp [beB_length]
 split
 ·simp [beB_length];omega
 split
 ·simp [beB_length];omega
 ·simp [beB_length,textB];omega
theorem encode_any (kind ver root next:Int) (ka ia ea:Option Addr) (kc ic ec:Nat) (data:ByteArray) (keys:List ByteArray) (kids:List Int) (ents:List Ent) (w:World) (hK:RowAt w w.heap.size ka (keys.map .string)) (hI:RowAt w w.heap.size ia (kids.map (.int .i64))) (hE:RowAt w w.heap.size ea (ents.flatMap Ent.cells)) (hs:Small keys kids ents data) :
  Calls Tryz.prog 119 #[.agg #[.int .i64 kind,.int .i64 ver,.int .i64 root,.int .i64 next,.slice ka keys.length kc,.slice ia kids.length ic,.slice ea ents.length ec,.string data]] w fun e w'=>e=.returned (.tuple #[.string (encS kind ver root next keys kids ents data),.int .i64 (encE kind ver root next keys kids ents data)])∧Below w.heap.size w w':=by
 have hb:=(Below.refl w.heap.size w).alloc (Nat.le_refl _) (.cells #[.int .i64 kind,.int .i64 ver,.int .i64 root,.int .i64 next,.slice ka keys.length kc,.slice ia kids.length ic,.slice ea ents.length ec,.string data] 85)
 have hbox:=heap_new w (.cells #[.int .i64 kind,.int .i64 ver,.int .i64 root,.int .i64 next,.slice ka keys.length kc,.slice ia kids.length ic,.slice ea ents.length ec,.string data] 85)
 have hKb:=(hK.below hb).mono (show w.heap.size≤(w.alloc (.cells #[.int .i64 kind,.int .i64 ver,.int .i64 root,.int .i64 next,.slice ka keys.length kc,.slice ia kids.length ic,.slice ea ents.length ec,.string data] 85)).heap.size by simp)
 have hIb:=(hI.below hb).mono (show w.heap.size≤(w.alloc (.cells #[.int .i64 kind,.int .i64 ver,.int .i64 root,.int .i64 next,.slice ka keys.length kc,.slice ia kids.length ic,.slice ea ents.length ec,.string data] 85)).heap.size by simp)
 have hEb:=(hE.below hb).mono (show w.heap.size≤(w.alloc (.cells #[.int .i64 kind,.int .i64 ver,.int .i64 root,.int .i64 next,.slice ka keys.length kc,.slice ia kids.length ic,.slice ea ents.length ec,.string data] 85)).heap.size by simp)
 have hkn:=hs.nKeys
 have hin:=hs.nKids
 have hen:=hs.nEnts
 obtain⟨fl,fl1⟩:=fieldsB_len (kind:=kind) (ver:=ver) (root:=root) (next:=next) hs
 cases hr:rightB kind ver root next keys kids ents data
 ·have HS:Hid (encS kind ver root next keys kids ents data=⟨#[]⟩):=by show _=_;simp [encS,hr]
  have HE:Hid (encE kind ver root next keys kids ents data=2):=by show _=_;simp [encE,hr]
  go_enter Tryz.func119,Tryz.ntmps119
  go_wp2_with (go_at_call 141;refine(right_any _ _ _ _ _ _ _ _ _ _ _ _ _ _ _ hKb hIb hEb hkn hin hen).mono ?_;rintro e w1 ⟨rfl,hb1⟩)
  go_ret2
  exact⟨ret_se HS.out.symm HE.out.symm,hb.trans (hb1.mono (by simp))⟩
 ·have hk:=rightB_kind hr
  obtain⟨fs,hfs⟩:∃ fs,fs=fieldsB kind ver root next keys kids ents data:=⟨_,rfl⟩
  rw [← hfs] at fl fl1
  have HF:Hid (fs=fieldsB kind ver root next keys kids ents data):=hfs
  clear hfs
  by_cases hlen:fs.length≤252
  ·have HS:Hid (encS kind ver root next keys kids ents data=⟨(fullB fs).toArray⟩):=by show _=_;unfold encS;rw [← HF.out];simp [hr,hlen]
   have HE:Hid (encE kind ver root next keys kids ents data=0):=by show _=_;unfold encE;rw [← HF.out];simp [hr,hlen]
   have hz:252-(fs.length:Int)=((252-fs.length:Nat):Int):=by omega
   have hne:fs≠[]:=by intro h;rw [h] at fl1;simp at fl1
   have lz:fs.length+(252-fs.length)≤140737488355328:=by omega
   have pl:=padB_len hlen
   have ln:(padB fs).length+8≤140737488355328:=by omega
   have lc:(⟨(padB fs).toArray⟩:ByteArray).size≤maxLen:=by show (padB fs).toArray.size≤_;rw [List.size_toArray,pl];decide
   have HZ:Hid (252-(fs.length:Int)=((252-fs.length:Nat):Int)):=hz
   clear hz pl
   go_enter Tryz.func119,Tryz.ntmps119
   go_wp2_with (first
    | (go_at_call 141;refine(right_any _ _ _ _ _ _ _ _ _ _ _ _ _ _ _ hKb hIb hEb hkn hin hen).mono ?_;rintro e w1 ⟨rfl,hb1⟩;have hx1:=(Grew.of_below hb1 (Nat.le_refl _)).other _ _ hbox rfl;obtain⟨e0,e1,e2,e3,e4,e5,e6,e7⟩:=box8 hx1;have HB1:Below w.heap.size w w1:=hb.trans (hb1.mono (by simp));have hBn:w.heap.size≤w1.heap.size:=HB1.size;clear hb1 hKb hIb hEb hbox)
    | (go_at_call 142;refine(fields_any _ _ _ _ _ _ _ _ _ _ _ _ _ _ _ w.heap.size hBn (hK.below HB1) (hI.below HB1) (hE.below HB1) hs hk).mono ?_;rintro e w2 ⟨b2,rfl,hb2,g2⟩;rw [← HF.out] at hb2;obtain⟨a2,c2,rfl⟩:=hb2.shape;have hB2:w.heap.size≤w2.heap.size:=Nat.le_trans hBn g2.size;clear e0 e1 e2 e3 e4 e5 e6 e7 hx1)
    | (at_builtin;refine wp_append_zeros _ rfl (.tmp 16) (.tmp 17) rfl w.heap.size fs _ rfl hb2 hne hB2 (252-fs.length) _ HZ.out rfl lz ?_;intro b3 w3 hb3 g3;have hcv:=hb3.string;have hB3:w.heap.size≤w3.heap.size:=Nat.le_trans hB2 g3.size)
    | (go_at_call 144;refine(Crc.page_crc _ _ lc).mono ?_;rintro e w' ⟨rfl,rfl⟩)
    | (go_at_call 143;refine(appendNumber_z _ _ _ _ w.heap.size _ hb3 hB3 (by decide) (by decide) ln).mono ?_;rintro e w4 ⟨b4,rfl,hb4,g4⟩;have hcv4:=hb4.string))
   go_ret2
   exact⟨ret_se (HS.out.trans (by simp [fullB,padB])).symm HE.out.symm,HB1.trans (g2.below.trans (g3.below.trans g4.below))⟩
  ·have HS:Hid (encS kind ver root next keys kids ents data=⟨#[]⟩):=by show _=_;unfold encS;rw [← HF.out];simp [hr,hlen]
   have HE:Hid (encE kind ver root next keys kids ents data=2):=by show _=_;unfold encE;rw [← HF.out];simp [hr,hlen]
   go_enter Tryz.func119,Tryz.ntmps119
   go_wp2_with (first
    | (go_at_call 141;refine(right_any _ _ _ _ _ _ _ _ _ _ _ _ _ _ _ hKb hIb hEb hkn hin hen).mono ?_;rintro e w1 ⟨rfl,hb1⟩;have hx1:=(Grew.of_below hb1 (Nat.le_refl _)).other _ _ hbox rfl;obtain⟨e0,e1,e2,e3,e4,e5,e6,e7⟩:=box8 hx1;have HB1:Below w.heap.size w w1:=hb.trans (hb1.mono (by simp));have hBn:w.heap.size≤w1.heap.size:=HB1.size;clear hb1 hKb hIb hEb hbox)
    | (go_at_call 142;refine(fields_any _ _ _ _ _ _ _ _ _ _ _ _ _ _ _ w.heap.size hBn (hK.below HB1) (hI.below HB1) (hE.below HB1) hs hk).mono ?_;rintro e w2 ⟨b2,rfl,hb2,g2⟩;rw [← HF.out] at hb2;obtain⟨a2,c2,rfl⟩:=hb2.shape;have hB2:w.heap.size≤w2.heap.size:=Nat.le_trans hBn g2.size;clear e0 e1 e2 e3 e4 e5 e6 e7 hx1))
   go_ret2
   exact⟨ret_se HS.out.symm HE.out.symm,HB1.trans g2.below⟩
theorem info9:(Tryz.prog.info? 9).map (fun i=>(i.zero,i.size,i.bytes))=some (some (.string ⟨#[]⟩),1,16):=by kernel_rfl
def Keys (w:World) (B:Nat) (v:Value) (ks:List ByteArray):Prop:=w.ownsRow B 9 1 v ks.length (ks.map .string)
theorem Keys.nil (w:World) (B:Nat):Keys w B (.slice none 0 0) []:=World.ownsRow_nil _ _ _ _
theorem Keys.alloc {w:World} {B:Nat} {v:Value} {ks:List ByteArray} (h:Keys w B v ks) (o:Obj):Keys (w.alloc o) B v ks:=World.ownsRow.alloc (w:=w) h o
theorem Keys.below {w w':World} {B:Nat} {v:Value} {ks:List ByteArray} (h:Keys w B v ks) (hb:Below w.heap.size w w'):Keys w' B v ks :=
 World.ownsRow.kept (row:=none) h ⟨hb.os,hb.tape,hb.output,hb.size,fun k hk _=>hb.block k hk⟩ (by cases v.ownBlock<;>simp)
theorem wp_append_key {ops:Array Oper} {rest:List Oper} {o:Oper} {a:Act} {Q:Exit→Act→World→Prop} (w:World) (hgd:o.guard=none) (sl x:Operand)
  (ho:o.op=.call { callee:=.builtin .append,args:=#[sl,x],argTypes:=#[70,70] }) (B:Nat) (ks:List ByteArray) (v:Value) (hs:a.eval sl=v) (hv:Keys w B v ks) (hB:B≤w.heap.size)
  (k:ByteArray) (hx:a.eval x=.slice (some ⟨w.heap.size,0,none⟩) 1 1) (hl:ks.length+1≤4294967296)
  (h:∀ v' w',Keys w' B v' (ks++[k])→Below B w w'→wpList Tryz.prog ops Q rest (a.put o.dst v') w') :
  wpList Tryz.prog ops Q (o :: rest) a (w.alloc (.cells #[.string k] 9)):=by
 obtain⟨i0,hi,hz0,hz1,hz2⟩:=info_parts info9
 refine wpList_append_own _ hgd sl x 70 ho B 9 i0 (.string ⟨#[]⟩) 1 16 Tryz.underlying70 hi hz0 hz1 hz2 rfl (by decide) v ks.length (ks.map .string) hs (hv.alloc _) ⟨w.heap.size,0,none⟩ 1 1 [.string k] hx rfl (one_cell _ _) (by intro u hu;simp at hu;subst hu;rfl) (by unfold maxLen;omega) (by omega) (by simp;omega) ?_
 intro v1 w1 ho1 hg1 _
 refine h v1 w1 ?_ (((Below.refl B w).alloc hB _).grown hg1 (by simp;omega) (fun k' hk'=>(World.ownsRow.lt (w:=w) hv k' hk').1))
 unfold Keys
 rw [List.map_append,List.length_append]
 exact ho1
theorem info3':(Tryz.prog.info? 3).map (fun i=>(i.zero,i.size,i.bytes))=some (some (.int .i64 0),1,8):=by kernel_rfl
def Ints (w:World) (B:Nat) (v:Value) (ks:List Int):Prop:=w.ownsRow B 3 1 v ks.length (ks.map (.int .i64))
theorem Ints.nil (w:World) (B:Nat):Ints w B (.slice none 0 0) []:=World.ownsRow_nil _ _ _ _
theorem Ints.alloc {w:World} {B:Nat} {v:Value} {ks:List Int} (h:Ints w B v ks) (o:Obj):Ints (w.alloc o) B v ks:=World.ownsRow.alloc (w:=w) h o
theorem own_only {w w':World} {B:Nat} {e:TypeId} {v:Value} {n:Nat} {xs:List Value} {ρ:Nat} (h:w.ownsRow B e 1 v n xs) (ho:Only ρ w w') (hρ:ρ<B):w'.ownsRow B e 1 v n xs :=
 World.ownsRow.kept (row:=some ρ) h ⟨ho.os,ho.tape,ho.output,ho.size,fun k hk hr=>ho.block k hk (fun e=>hr (by rw [e]))⟩ (by
  cases hv:v.ownBlock with
  | none=>exact .inl rfl
  | some k=>exact .inr (fun e=>by have:=(World.ownsRow.lt (w:=w) h k hv).1;simp at e;omega))
theorem own_mono {w:World} {B B':Nat} {e:TypeId} {v:Value} {n:Nat} {xs:List Value} (h:w.ownsRow B e 1 v n xs) (hb:B'≤B):w.ownsRow B' e 1 v n xs:=by
 obtain⟨hl,hn|⟨k,cap,row,hv,hk,hr⟩⟩:=h
 ·exact⟨hl,.inl hn⟩
 ·exact⟨hl,.inr ⟨k,cap,row,hv,by omega,hr⟩⟩
theorem Only.below {ρ B:Nat} {a w w':World} (h:Only ρ a w) (hb:Below B w w') (hB:a.heap.size≤B):Only ρ a w' :=
 ⟨hb.os.trans h.os,hb.tape.trans h.tape,hb.output.trans h.output,Nat.le_trans h.size hb.size,fun k hk hr=>(hb.block k (by omega)).trans (h.block k hk hr)⟩
theorem Rd.below {w w':World} {ρ g c B:Nat} {bs:List UInt8} {a:Nat} (h:Rd w ρ g c bs a) (hb:Below B w w') (hρ:ρ<B) (hg:g<B):Rd w' ρ g c bs a :=
 ⟨(hb.block ρ hρ).trans h.box,fun j hj=>by rw [hb.cell (p:=⟨g,j,none⟩) hg];exact h.bytes j hj,h.ne,Nat.lt_of_lt_of_le h.lt hb.size,h.le,h.len,h.cap⟩
theorem wp_append_int {ops:Array Oper} {rest:List Oper} {o:Oper} {a:Act} {Q:Exit→Act→World→Prop} (w:World) (hgd:o.guard=none) (sl x:Operand)
  (ho:o.op=.call { callee:=.builtin .append,args:=#[sl,x],argTypes:=#[22,22] }) (B:Nat) (ks:List Int) (v:Value) (hs:a.eval sl=v) (hv:Ints w B v ks) (hB:B≤w.heap.size)
  (k:Int) (hx:a.eval x=.slice (some ⟨w.heap.size,0,none⟩) 1 1) (hl:ks.length+1≤4294967296)
  (h:∀ v' w',Ints w' B v' (ks++[k])→Below B w w'→wpList Tryz.prog ops Q rest (a.put o.dst v') w') :
  wpList Tryz.prog ops Q (o :: rest) a (w.alloc (.cells #[.int .i64 k] 3)):=by
 obtain⟨i0,hi,hz0,hz1,hz2⟩:=info_parts info3'
 refine wpList_append_own _ hgd sl x 22 ho B 3 i0 (.int .i64 0) 1 8 Tryz.underlying22 hi hz0 hz1 hz2 rfl (by decide) v ks.length (ks.map (.int .i64)) hs (hv.alloc _) ⟨w.heap.size,0,none⟩ 1 1 [.int .i64 k] hx rfl (one_cell _ _) (by intro u hu;simp at hu;subst hu;rfl) (by unfold maxLen;omega) (by omega) (by simp;omega) ?_
 intro v1 w1 ho1 hg1 _
 refine h v1 w1 ?_ (((Below.refl B w).alloc hB _).grown hg1 (by simp;omega) (fun k' hk'=>(World.ownsRow.lt (w:=w) hv k' hk').1))
 unfold Ints
 rw [List.map_append,List.length_append]
 exact ho1
def kidsR (bs:List UInt8) (a n:Nat):List Int:=(List.range n).map fun i=>(numV bs (posB bs a (2 * i)) 2:Int)
def keyPos (bs:List UInt8) (a:Nat):Nat→Nat
 | 0=>a
 | j+1=>txtA bs (keyPos bs a j)
def keysR (bs:List UInt8) (a n:Nat):List ByteArray:=(List.range n).map fun j=>(⟨(txtB bs (keyPos bs a j)).toArray⟩:ByteArray)
theorem posB_posB (bs:List UInt8) (a i k:Nat):posB bs (posB bs a i) k=posB bs a (i+k):=by unfold posB;omega
theorem kidsR_succ (bs:List UInt8) (a n:Nat):kidsR bs a (n+1)=kidsR bs a n++[(numV bs (posB bs a (2 * n)) 2:Int)]:=by simp [kidsR,List.range_succ]
theorem keysR_succ (bs:List UInt8) (a n:Nat):keysR bs a (n+1)=keysR bs a n++[(⟨(txtB bs (keyPos bs a n)).toArray⟩:ByteArray)]:=by simp [keysR,List.range_succ]
theorem branch_read (ρ g c:Nat) (bs:List UInt8) (a:Nat) (w:World) (h:Rd w ρ g c bs a) :
  Calls Tryz.prog 151 #[.pointer (some ⟨ρ,0,none⟩)] w fun e w'=>∃ vk vi,e=.returned (.tuple #[vk,vi]) ∧
   Keys w' w.heap.size vk (keysR bs (posB bs (posB bs a 1) (2 * ((bs.getD a 0).toNat+1))) (bs.getD a 0).toNat)∧Ints w' w.heap.size vi (kidsR bs (posB bs a 1) ((bs.getD a 0).toNat+1)) ∧
   Rd w' ρ g c bs (keyPos bs (posB bs (posB bs a 1) (2 * ((bs.getD a 0).toNat+1))) (bs.getD a 0).toNat)∧Only ρ w w':=by
 have hρ:=h.lt'
 have hgl:=h.lt
 have hN:=number_1 ρ g c bs a w h
 have hmt:=(bs.getD a 0).toNat_lt
 obtain⟨m,hm⟩:∃ m,m=(bs.getD a 0).toNat:=⟨_,rfl⟩
 obtain⟨p,hp⟩:∃ p,p=posB bs a 1:=⟨_,rfl⟩
 rw [← hm] at hN hmt ⊢
 rw [← hp] at hN ⊢
 have hple:p≤bs.length:=by rw [hp];unfold posB;omega
 clear hm hp
 obtain⟨P,hP⟩:∃ P,P=posB bs p (2 * (m+1)):=⟨_,rfl⟩
 rw [← hP]
 have HP:Hid (P=posB bs p (2 * (m+1))):=hP
 clear hP
 go_enter Tryz.func151,Tryz.ntmps151
 go_wp2_with (go_at_call 150;refine hN.mono ?_;rintro e w1 ⟨rfl,hr1,ho1⟩)
 go_loopw [3,9] (fun u i wr=>∃ j:Nat,j≤m+1∧i=.int .i64 j∧Ints wr w.heap.size u (kidsR bs p j)∧Rd wr ρ g c bs (posB bs p (2 * j))∧Only ρ w wr) (fun _ i _=>m+1-(intOf i).toNat)
 case atStart=>exact⟨0,Nat.zero_le _,rfl,Ints.nil _ _,by rw [posB_zero hple];exact hr1,ho1⟩
 case round =>
  clear hr1 ho1
  obtain⟨j,hj,rfl,hi,hr,ho⟩:=hrel
  have hsz:w.heap.size≤wr.heap.size:=ho.size
  by_cases hlt:j<m+1
  ·have hM:=number_2 ρ g c bs (posB bs p (2 * j)) wr hr
   have lk:(kidsR bs p j).length+1≤4294967296:=by simp [kidsR];omega
   have hks:=kidsR_succ bs p j
   rw [posB_posB] at hM
   obtain⟨n1,hn1⟩:∃ n1,n1=numV bs (posB bs p (2 * j)) 2:=⟨_,rfl⟩
   rw [← hn1] at hM hks
   have HK:Hid (kidsR bs p (j+1)=kidsR bs p j++[(n1:Int)]):=hks
   clear hn1 hks
   have hj2:2 * j+2=2 * (j+1):=by omega
   rw [hj2] at hM
   clear hj2
   go_wp2_with (first|(go_at_call 150;refine hM.mono ?_;rintro e w2 ⟨rfl,hr2,ho2⟩;have hi2:Ints w2 w.heap.size u3 (kidsR bs p j):=own_only hi ho2 hρ;have hs2:w.heap.size≤w2.heap.size:=Nat.le_trans hsz ho2.size)|(at_builtin;refine wp_append_int w2 rfl (.tmp 11) (.tmp 14) rfl w.heap.size _ u3 rfl hi2 hs2 (n1:Int) rfl lk ?_;intro v3 w3 hi3 hb3))
   go_roundw
   case rel=>first|exact⟨j+1,by omega,by go_num,by rw [HK.out];exact hi3,hr2.below hb3 hρ hgl,(ho.trans ho2).below hb3 (Nat.le_refl _)⟩|((repeat apply Exists.intro);exact⟨⟨j+1,by omega,by go_num,by rw [HK.out];exact hi3,hr2.below hb3 hρ hgl,(ho.trans ho2).below hb3 (Nat.le_refl _)⟩,rfl⟩)
   case measure=>simp [intOf];omega
  ·obtain rfl:j=m+1:=by omega
   obtain⟨w0,hw0⟩:∃ w0,w0=wr:=⟨_,rfl⟩
   subst hw0
   rw [← HP.out] at hr
   clear HP hlt hj
   have hρ0:ρ<w0.heap.size:=by omega
   have hg0:g<w0.heap.size:=by omega
   go_wp2
   go_loopw [2,18] (fun u i wr=>∃ j:Nat,j≤m∧i=.int .i64 j∧Keys wr w0.heap.size u (keysR bs P j)∧Rd wr ρ g c bs (keyPos bs P j)∧Only ρ w0 wr) (fun _ i _=>m-(intOf i).toNat)
   case atStart=>exact⟨0,Nat.zero_le _,rfl,Keys.nil _ _,hr,Only.refl _ _⟩
   case round =>
    clear hr
    obtain⟨j,hj,rfl,hk,hr,ho0⟩:=hrel
    have hsz0:w0.heap.size≤wr.heap.size:=ho0.size
    by_cases hlt:j<m
    ·have hM:=text_read ρ g c bs (keyPos bs P j) wr hr
     have lk:(keysR bs P j).length+1≤4294967296:=by simp [keysR];omega
     have hks:=keysR_succ bs P j
     have hkp:txtA bs (keyPos bs P j)=keyPos bs P (j+1):=rfl
     rw [hkp] at hM
     obtain⟨n1,hn1⟩:∃ n1,n1=(⟨(txtB bs (keyPos bs P j)).toArray⟩:ByteArray):=⟨_,rfl⟩
     rw [← hn1] at hM hks
     have HK:Hid (keysR bs P (j+1)=keysR bs P j++[n1]):=hks
     clear hn1 hks hkp
     go_wp2_with (first|(go_at_call 153;refine hM.mono ?_;rintro e w2 ⟨rfl,hr2,ho2⟩;have hk2:Keys w2 w0.heap.size u2 (keysR bs P j):=own_only hk ho2 hρ0;have hs2:w0.heap.size≤w2.heap.size:=Nat.le_trans hsz0 ho2.size)|(at_builtin;refine wp_append_key w2 rfl (.tmp 20) (.tmp 23) rfl w0.heap.size _ u2 rfl hk2 hs2 n1 rfl lk ?_;intro v3 w3 hk3 hb3))
     go_roundw
     case rel=>first|exact⟨j+1,by omega,by go_num,by rw [HK.out];exact hk3,hr2.below hb3 hρ0 hg0,(ho0.trans ho2).below hb3 (Nat.le_refl _)⟩|((repeat apply Exists.intro);exact⟨⟨j+1,by omega,by go_num,by rw [HK.out];exact hk3,hr2.below hb3 hρ0 hg0,(ho0.trans ho2).below hb3 (Nat.le_refl _)⟩,rfl⟩)
     case measure=>simp [intOf];omega
    ·obtain rfl:j=m:=by omega
     go_wp2
     go_ret2
     exact⟨u2,u3,rfl,own_mono hk hsz,own_only hi ho0 hρ,hr,ho.trans ho0⟩
end Go.Proofs.YtfnhmpcpeahfkaaGreat.Pages
