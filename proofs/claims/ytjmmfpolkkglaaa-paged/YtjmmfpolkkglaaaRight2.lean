/-
  What right answers: is a page right, but for its size?
-/
import Derived.Test.YtjmmfpolkkglaaaRight
import Derived.Deep.DeepCutAuto
namespace Go.Proofs.Ytjmmfpolkkglaaa.Pages
open Go.RowKit
set_option linter.unusedSimpArgs false

def noMeta (ver root : Int) : Bool := ver == 0 && root == 0
def noBranch (keys : List ByteArray) (kids : List Int) : Bool := (keys.length : Int) == 0 && (kids.length : Int) == 0
def noLeaf (ents : List Ent) : Bool := (ents.length : Int) == 0
def noOver (next : Int) (data : ByteArray) : Bool := next == 0 && data.toList.isEmpty
def rightB (kind ver root next : Int) (keys : List ByteArray) (kids : List Int) (ents : List Ent) (data : ByteArray) : Bool :=
  if kind = 1 then noBranch keys kids && noLeaf ents && noOver next data && metaB ver root
  else if kind = 2 then noMeta ver root && noLeaf ents && noOver next data && branchOk keys kids
  else if kind = 3 then noMeta ver root && noBranch keys kids && noOver next data && (decide (ents.length ≠ 0) && leafOk ⟨#[]⟩ ents)
  else if kind = 4 then noMeta ver root && noBranch keys kids && noLeaf ents && overB next data
  else false

set_option maxRecDepth 100000 in
set_option maxHeartbeats 4000000 in
theorem right_any (kind : Int) (ver root next : Int) (ka ia ea : Option Addr) (kc ic ec : Nat) (data : ByteArray) (keys : List ByteArray) (kids : List Int) (ents : List Ent) (w : World) (hK : RowAt w w.heap.size ka (keys.map .string)) (hI : RowAt w w.heap.size ia (kids.map (.int .i64))) (hE : RowAt w w.heap.size ea (ents.flatMap Ent.cells)) (hkn : keys.length ≤ 1073741824) (hin : kids.length ≤ 1073741824) (hen : ents.length ≤ 1073741824) :
    Calls Try.prog 22 #[.agg #[.int .i64 kind, .int .i64 ver, .int .i64 root, .int .i64 next, .slice ka keys.length kc, .slice ia kids.length ic, .slice ea ents.length ec, .string data]] w fun e w' => e = .returned (.bool (rightB kind ver root next keys kids ents data)) ∧ Below w.heap.size w w' := by
  have hb := (Below.refl w.heap.size w).alloc (Nat.le_refl _) (.cells #[.int .i64 kind, .int .i64 ver, .int .i64 root, .int .i64 next, .slice ka keys.length kc, .slice ia kids.length ic, .slice ea ents.length ec, .string data] 28)
  have hKb := (hK.below hb).mono (show w.heap.size ≤ (w.alloc (.cells #[.int .i64 kind, .int .i64 ver, .int .i64 root, .int .i64 next, .slice ka keys.length kc, .slice ia kids.length ic, .slice ea ents.length ec, .string data] 28)).heap.size by simp)
  have hIb := (hI.below hb).mono (show w.heap.size ≤ (w.alloc (.cells #[.int .i64 kind, .int .i64 ver, .int .i64 root, .int .i64 next, .slice ka keys.length kc, .slice ia kids.length ic, .slice ea ents.length ec, .string data] 28)).heap.size by simp)
  have hEb := (hE.below hb).mono (show w.heap.size ≤ (w.alloc (.cells #[.int .i64 kind, .int .i64 ver, .int .i64 root, .int .i64 next, .slice ka keys.length kc, .slice ia kids.length ic, .slice ea ents.length ec, .string data] 28)).heap.size by simp)
  clear hK hI hE
  go_enter Try.func22, Try.ntmps22
  go_upto_region 1 with fail
  go_cut [3] (fun s3 wx => s3 = .bool (noMeta ver root) ∧ wx = (w.alloc (.cells #[.int .i64 kind, .int .i64 ver, .int .i64 root, .int .i64 next, .slice ka keys.length kc, .slice ia kids.length ic, .slice ea ents.length ec, .string data] 28)))
  case first =>
    cases hq : (ver == 0)
    all_goals (go_wp2_with fail; go_meet; exact ⟨congrArg Value.bool (by simp only [noMeta, hq, Bool.true_and, Bool.false_and]), rfl⟩)
  case rest =>
  obtain ⟨rfl, rfl⟩ := hcut
  go_upto_region 2 with fail
  go_cut [4] (fun s4 wx => s4 = .bool (noBranch keys kids) ∧ wx = (w.alloc (.cells #[.int .i64 kind, .int .i64 ver, .int .i64 root, .int .i64 next, .slice ka keys.length kc, .slice ia kids.length ic, .slice ea ents.length ec, .string data] 28)))
  case first =>
    cases hq : ((keys.length : Int) == 0)
    all_goals (go_wp2_with fail; go_meet; exact ⟨congrArg Value.bool (by simp only [noBranch, hq, Bool.true_and, Bool.false_and]), rfl⟩)
  case rest =>
  obtain ⟨rfl, rfl⟩ := hcut
  go_upto_region 3 with fail
  go_cut [5] (fun s5 wx => s5 = .bool (noLeaf ents) ∧ wx = (w.alloc (.cells #[.int .i64 kind, .int .i64 ver, .int .i64 root, .int .i64 next, .slice ka keys.length kc, .slice ia kids.length ic, .slice ea ents.length ec, .string data] 28)))
  case first =>
    go_wp2_with fail
    all_goals (go_meet; exact ⟨rfl, rfl⟩)
  case rest =>
  obtain ⟨rfl, rfl⟩ := hcut
  go_upto_region 4 with fail
  go_cut [6] (fun s6 wx => s6 = .bool (noOver next data) ∧ wx = (w.alloc (.cells #[.int .i64 kind, .int .i64 ver, .int .i64 root, .int .i64 next, .slice ka keys.length kc, .slice ia kids.length ic, .slice ea ents.length ec, .string data] 28)))
  case first =>
    cases hq : (next == 0)
    all_goals (go_wp2_with fail; go_meet; exact ⟨congrArg Value.bool (by simp only [noOver, hq, Bool.true_and, Bool.false_and]), rfl⟩)
  case rest =>
  obtain ⟨rfl, rfl⟩ := hcut
  by_cases k1 : kind = 1
  · have HR : Hid (rightB kind ver root next keys kids ents data = (noBranch keys kids && noLeaf ents && noOver next data && metaB ver root)) := by show _ = _; unfold rightB; rw [if_pos k1]
    have kb1 : (kind == 1) = true := beq_iff_eq.2 k1
    clear k1
    go_wp2_with (go_at_call 35; refine (rightMeta_any _ _ _ _ _ _ _ _ _ _ _ _ _ _ _ ).mono ?_; rintro e w1 ⟨rfl, hb1⟩)
    all_goals go_ret
    all_goals first | refine ⟨ret_bool ?_, hb⟩ | refine ⟨ret_bool ?_, hb.trans (hb1.mono (by simp))⟩
    all_goals (rw [HR.out]; simp [*])
  have kb1 : (kind == 1) = false := beq_eq_false_iff_ne.2 k1
  by_cases k2 : kind = 2
  · have HR : Hid (rightB kind ver root next keys kids ents data = (noMeta ver root && noLeaf ents && noOver next data && branchOk keys kids)) := by show _ = _; unfold rightB; rw [if_neg k1, if_pos k2]
    have kb2 : (kind == 2) = true := beq_iff_eq.2 k2
    clear k1 k2
    go_wp2_with (go_at_call 36; refine (rightBranch_any _ _ _ _ _ _ _ _ _ _ _ _ _ _ _ hKb hIb hkn hin).mono ?_; rintro e w1 ⟨rfl, hb1⟩)
    all_goals go_ret
    all_goals first | refine ⟨ret_bool ?_, hb⟩ | refine ⟨ret_bool ?_, hb.trans (hb1.mono (by simp))⟩
    all_goals (rw [HR.out]; simp [*])
  have kb2 : (kind == 2) = false := beq_eq_false_iff_ne.2 k2
  by_cases k3 : kind = 3
  · have HR : Hid (rightB kind ver root next keys kids ents data = (noMeta ver root && noBranch keys kids && noOver next data && (decide (ents.length ≠ 0) && leafOk ⟨#[]⟩ ents))) := by show _ = _; unfold rightB; rw [if_neg k1, if_neg k2, if_pos k3]
    have kb3 : (kind == 3) = true := beq_iff_eq.2 k3
    clear k1 k2 k3
    go_wp2_with (go_at_call 37; refine (rightLeaf_any _ _ _ _ _ _ _ _ _ _ _ _ _ _ _ hEb hen).mono ?_; rintro e w1 ⟨rfl, hb1⟩)
    all_goals go_ret
    all_goals first | refine ⟨ret_bool ?_, hb⟩ | refine ⟨ret_bool ?_, hb.trans (hb1.mono (by simp))⟩
    all_goals (rw [HR.out]; simp [*])
  have kb3 : (kind == 3) = false := beq_eq_false_iff_ne.2 k3
  by_cases k4 : kind = 4
  · have HR : Hid (rightB kind ver root next keys kids ents data = (noMeta ver root && noBranch keys kids && noLeaf ents && overB next data)) := by show _ = _; unfold rightB; rw [if_neg k1, if_neg k2, if_neg k3, if_pos k4]
    have kb4 : (kind == 4) = true := beq_iff_eq.2 k4
    clear k1 k2 k3 k4
    go_wp2_with (go_at_call 38; refine (rightOver_any _ _ _ _ _ _ _ _ _ _ _ _ _ _ _ ).mono ?_; rintro e w1 ⟨rfl, hb1⟩)
    all_goals go_ret
    all_goals first | refine ⟨ret_bool ?_, hb⟩ | refine ⟨ret_bool ?_, hb.trans (hb1.mono (by simp))⟩
    all_goals (rw [HR.out]; simp [*])
  have kb4 : (kind == 4) = false := beq_eq_false_iff_ne.2 k4
  have HR : Hid (rightB kind ver root next keys kids ents data = false) := by show _ = _; unfold rightB; rw [if_neg k1, if_neg k2, if_neg k3, if_neg k4]
  clear k1 k2 k3 k4
  go_wp2
  go_ret
  exact ⟨ret_bool (by rw [HR.out]), hb⟩
end Go.Proofs.Ytjmmfpolkkglaaa.Pages
