/-
  What the reference's right answers: the same as page.right.
-/
import Derived.Test.YtjmmfpolkkglaaaRising
namespace Go.Proofs.Ytjmmfpolkkglaaa.Pages
open Go.RowKit
set_option linter.unusedSimpArgs false
set_option linter.unusedVariables false

theorem noBranch_keys {keys : List ByteArray} {kids : List Int} (h : decide (0 < keys.length) = true) : (!noBranch keys kids) = true := by
  have h := of_decide_eq_true h
  have : ((keys.length : Int) == 0) = false := beq_eq_false_iff_ne.2 (by omega)
  simp only [noBranch, this, Bool.false_and, Bool.not_false]
theorem noBranch_kids {keys : List ByteArray} {kids : List Int} (h : decide (0 < keys.length) = false) : (!noBranch keys kids) = decide (0 < kids.length) := by
  have h := of_decide_eq_false h
  have : ((keys.length : Int) == 0) = true := beq_iff_eq.2 (by omega)
  simp only [noBranch, this, Bool.true_and]
  by_cases h2 : 0 < kids.length
  · rw [decide_eq_true h2, beq_eq_false_iff_ne.2 (by omega)]; rfl
  · rw [decide_eq_false h2, beq_iff_eq.2 (by omega)]; rfl
theorem noLeaf_eq (ents : List Ent) : (!noLeaf ents) = decide (0 < ents.length) := by
  unfold noLeaf
  by_cases h2 : 0 < ents.length
  · rw [decide_eq_true h2, beq_eq_false_iff_ne.2 (by omega)]; rfl
  · rw [decide_eq_false h2, beq_iff_eq.2 (by omega)]; rfl

set_option maxRecDepth 100000 in
set_option maxHeartbeats 4000000 in
theorem ref_right_1 (ver root next : Int) (ka ia ea : Option Addr) (kc ic ec : Nat) (data : ByteArray) (keys : List ByteArray) (kids : List Int) (ents : List Ent) (w : World) (hK : RowAt w w.heap.size ka (keys.map .string)) (hI : RowAt w w.heap.size ia (kids.map (.int .i64))) (hE : RowAt w w.heap.size ea (ents.flatMap Ent.cells)) (hkn : keys.length ≤ 1073741824) (hin : kids.length ≤ 1073741824) (hen : ents.length ≤ 1073741824) :
    Calls Try.prog 25 #[.agg #[.int .i64 1, .int .i64 ver, .int .i64 root, .int .i64 next, .slice ka keys.length kc, .slice ia kids.length ic, .slice ea ents.length ec, .string data]] w fun e w' => e = .returned (.bool (noBranch keys kids && noLeaf ents && noOver next data && metaB ver root)) ∧ Below w.heap.size w w' := by
  have hb := (Below.refl w.heap.size w).alloc (Nat.le_refl _) (.cells #[.int .i64 1, .int .i64 ver, .int .i64 root, .int .i64 next, .slice ka keys.length kc, .slice ia kids.length ic, .slice ea ents.length ec, .string data] 28)
  go_enter Try.func25, Try.ntmps25
  go_upto_region 3 with fail
  go_cut [39] (fun s39 wx => s39 = .bool (!noBranch keys kids) ∧ wx = (w.alloc (.cells #[.int .i64 1, .int .i64 ver, .int .i64 root, .int .i64 next, .slice ka keys.length kc, .slice ia kids.length ic, .slice ea ents.length ec, .string data] 28)))
  case first =>
    cases hq : decide (0 < keys.length)
    · go_wp2_with fail; go_meet; exact ⟨congrArg Value.bool (noBranch_kids hq).symm, rfl⟩
    · go_wp2_with fail; go_meet; exact ⟨congrArg Value.bool (noBranch_keys hq).symm, rfl⟩
  case rest =>
  obtain ⟨rfl, rfl⟩ := hcut
  cases hnb : noBranch keys kids
  · go_wp2_with fail
    go_ret
    exact ⟨ret_bool (by simp [Bool.and_assoc, hnb]), hb⟩
  go_upto_region 5 with fail
  go_cut [63] (fun s63 wx => s63 = .bool (!(noLeaf ents && noOver next data)) ∧ wx = (w.alloc (.cells #[.int .i64 1, .int .i64 ver, .int .i64 root, .int .i64 next, .slice ka keys.length kc, .slice ia kids.length ic, .slice ea ents.length ec, .string data] 28)))
  case first =>
    have hne := noLeaf_eq ents
    cases hq : decide (0 < ents.length)
    rotate_left
    · have hnl : noLeaf ents = false := by rw [hq] at hne; simpa using hne
      clear hne
      go_wp2_with fail; go_meet; exact ⟨congrArg Value.bool (by simp only [hnl, Bool.false_and, Bool.not_false]), rfl⟩
    · have hnl : noLeaf ents = true := by rw [hq] at hne; simpa using hne
      clear hne
      cases hq2 : (next == 0)
      · have hq' : (next != 0) = true := by simp [bne, hq2]
        go_wp2_with fail; go_meet; exact ⟨congrArg Value.bool (by simp only [hnl, noOver, hq2, Bool.false_and, Bool.and_false, Bool.not_false]), rfl⟩
      · have hq' : (next != 0) = false := by simp [bne, hq2]
        go_wp2_with fail; go_meet; exact ⟨congrArg Value.bool (by simp only [hnl, noOver, hq2, Bool.true_and]), rfl⟩
  case rest =>
  obtain ⟨rfl, rfl⟩ := hcut
  cases hlo : (noLeaf ents && noOver next data)
  · go_wp2_with fail
    go_ret
    exact ⟨ret_bool (by simp only [Bool.and_assoc] at hlo ⊢; simp [hlo, ← Bool.and_assoc (noLeaf ents)]), hb⟩
  · have hlo' : noLeaf ents = true ∧ noOver next data = true := by simpa using hlo
    obtain ⟨hl1, hl2⟩ := hlo'
    clear hlo
    cases hr0 : (root == 0)
    all_goals
      go_wp2_with (go_at_call 42; refine (place_any _ _).mono ?_; rintro e w' ⟨rfl, rfl⟩)
      all_goals go_ret
      all_goals refine ⟨ret_bool ?_, hb⟩
      all_goals (simp [metaB, hr0, hnb, hl1, hl2, *] <;> omega)

set_option maxRecDepth 100000 in
set_option maxHeartbeats 4000000 in
theorem ref_right_4 (ver root next : Int) (ka ia ea : Option Addr) (kc ic ec : Nat) (data : ByteArray) (keys : List ByteArray) (kids : List Int) (ents : List Ent) (w : World) (hK : RowAt w w.heap.size ka (keys.map .string)) (hI : RowAt w w.heap.size ia (kids.map (.int .i64))) (hE : RowAt w w.heap.size ea (ents.flatMap Ent.cells)) (hkn : keys.length ≤ 1073741824) (hin : kids.length ≤ 1073741824) (hen : ents.length ≤ 1073741824) :
    Calls Try.prog 25 #[.agg #[.int .i64 4, .int .i64 ver, .int .i64 root, .int .i64 next, .slice ka keys.length kc, .slice ia kids.length ic, .slice ea ents.length ec, .string data]] w fun e w' => e = .returned (.bool (noMeta ver root && noBranch keys kids && noLeaf ents && overB next data)) ∧ Below w.heap.size w w' := by
  have hb := (Below.refl w.heap.size w).alloc (Nat.le_refl _) (.cells #[.int .i64 4, .int .i64 ver, .int .i64 root, .int .i64 next, .slice ka keys.length kc, .slice ia kids.length ic, .slice ea ents.length ec, .string data] 28)
  go_enter Try.func25, Try.ntmps25
  go_upto_region 1 with fail
  go_cut [24] (fun s24 wx => s24 = .bool (!noMeta ver root) ∧ wx = (w.alloc (.cells #[.int .i64 4, .int .i64 ver, .int .i64 root, .int .i64 next, .slice ka keys.length kc, .slice ia kids.length ic, .slice ea ents.length ec, .string data] 28)))
  case first =>
    cases hq : (ver == 0)
    · have hq' : (ver != 0) = true := by simp [bne, hq]
      go_wp2_with fail; go_meet; exact ⟨congrArg Value.bool (by simp only [noMeta, hq, Bool.false_and, Bool.not_false]), rfl⟩
    · have hq' : (ver != 0) = false := by simp [bne, hq]
      go_wp2_with fail; go_meet; exact ⟨congrArg Value.bool (by simp only [noMeta, hq, Bool.true_and, bne]), rfl⟩
  case rest =>
  obtain ⟨rfl, rfl⟩ := hcut
  cases hnm : noMeta ver root
  · go_wp2_with fail
    go_ret
    exact ⟨ret_bool (by simp [Bool.and_assoc, hnm]), hb⟩
  go_upto_region 3 with fail
  go_cut [39] (fun s39 wx => s39 = .bool (!noBranch keys kids) ∧ wx = (w.alloc (.cells #[.int .i64 4, .int .i64 ver, .int .i64 root, .int .i64 next, .slice ka keys.length kc, .slice ia kids.length ic, .slice ea ents.length ec, .string data] 28)))
  case first =>
    cases hq : decide (0 < keys.length)
    · go_wp2_with fail; go_meet; exact ⟨congrArg Value.bool (noBranch_kids hq).symm, rfl⟩
    · go_wp2_with fail; go_meet; exact ⟨congrArg Value.bool (noBranch_keys hq).symm, rfl⟩
  case rest =>
  obtain ⟨rfl, rfl⟩ := hcut
  cases hnb : noBranch keys kids
  · go_wp2_with fail
    go_ret
    exact ⟨ret_bool (by simp [Bool.and_assoc, hnb]), hb⟩
  go_upto_region 5 with fail
  go_cut [63] (fun s63 wx => s63 = .bool (!noLeaf ents) ∧ wx = (w.alloc (.cells #[.int .i64 4, .int .i64 ver, .int .i64 root, .int .i64 next, .slice ka keys.length kc, .slice ia kids.length ic, .slice ea ents.length ec, .string data] 28)))
  case first =>
    have hne := noLeaf_eq ents
    cases hq : decide (0 < ents.length)
    all_goals (rw [hq] at hne; have HN : Hid _ := hne; clear hne; go_wp2_with fail; go_meet; exact ⟨congrArg Value.bool HN.out.symm, rfl⟩)
  case rest =>
  obtain ⟨rfl, rfl⟩ := hcut
  cases hlo : (noLeaf ents)
  · go_wp2_with fail
    go_ret
    exact ⟨ret_bool (by simp [hlo]), hb⟩
  · cases hr0 : (next == 0)
    all_goals
      go_wp2_with (go_at_call 42; refine (place_any _ _).mono ?_; rintro e w' ⟨rfl, rfl⟩)
      all_goals go_ret
      all_goals refine ⟨ret_bool ?_, hb⟩
      all_goals (simp [overB, hr0, hnb, hnm, hlo, *] <;> first | omega | (rw [Bool.eq_iff_iff]; simp; omega))

end Go.Proofs.Ytjmmfpolkkglaaa.Pages
