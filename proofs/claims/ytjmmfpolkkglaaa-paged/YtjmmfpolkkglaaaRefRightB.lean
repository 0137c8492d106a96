/-
  What the reference's right answers of a branch.
-/
import Derived.Test.YtjmmfpolkkglaaaRefRightA
namespace Go.Proofs.Ytjmmfpolkkglaaa.Pages
open Go.RowKit
set_option linter.unusedSimpArgs false
set_option linter.unusedVariables false

theorem branchOk_eq (keys : List ByteArray) (kids : List Int) : branchOk keys kids = ((risingB ⟨#[]⟩ keys && kids.all placeB) && decide (1 ≤ keys.length) && decide (kids.length = keys.length + 1)) := by
  have : decide (keys.length ≠ 0) = decide (1 ≤ keys.length) := by congr 1; apply propext; omega
  unfold branchOk
  rw [this]
  cases risingB ⟨#[]⟩ keys <;> cases kids.all placeB <;> simp
theorem all_last {p : Int → Bool} {l : List Int} {j : Nat} (h : j < l.length) : (l.take (j + 1)).all p = ((l.take j).all p && p l[j]) := by
  rw [List.take_succ_eq_append_getElem h, List.all_append]; simp

set_option maxRecDepth 100000 in
set_option maxHeartbeats 4000000 in
theorem ref_right_2 (ver root next : Int) (ka ia ea : Option Addr) (kc ic ec : Nat) (data : ByteArray) (keys : List ByteArray) (kids : List Int) (ents : List Ent) (w : World) (hK : RowAt w w.heap.size ka (keys.map .string)) (hI : RowAt w w.heap.size ia (kids.map (.int .i64))) (hE : RowAt w w.heap.size ea (ents.flatMap Ent.cells)) (hkn : keys.length ≤ 1073741824) (hin : kids.length ≤ 1073741824) (hen : ents.length ≤ 1073741824) :
    Calls Try.prog 25 #[.agg #[.int .i64 2, .int .i64 ver, .int .i64 root, .int .i64 next, .slice ka keys.length kc, .slice ia kids.length ic, .slice ea ents.length ec, .string data]] w fun e w' => e = .returned (.bool (noMeta ver root && noLeaf ents && noOver next data && branchOk keys kids)) ∧ Below w.heap.size w w' := by
  have hb := (Below.refl w.heap.size w).alloc (Nat.le_refl _) (.cells #[.int .i64 2, .int .i64 ver, .int .i64 root, .int .i64 next, .slice ka keys.length kc, .slice ia kids.length ic, .slice ea ents.length ec, .string data] 28)
  go_enter Try.func25, Try.ntmps25
  go_upto_region 1 with fail
  go_cut [24] (fun s24 wx => s24 = .bool (!noMeta ver root) ∧ wx = (w.alloc (.cells #[.int .i64 2, .int .i64 ver, .int .i64 root, .int .i64 next, .slice ka keys.length kc, .slice ia kids.length ic, .slice ea ents.length ec, .string data] 28)))
  case first =>
    cases hq : (ver == 0)
    · have hq' : (ver != 0) = true := by simp [bne, hq]
      go_wp2_with fail; go_meet; exact ⟨congrArg Value.bool (by simp only [noMeta, hq, Bool.false_and, Bool.not_false]), rfl⟩
    · have hq' : (ver != 0) = false := by simp [bne, hq]
      go_wp2_with fail; go_meet; exact ⟨congrArg Value.bool (by simp only [noMeta, hq, Bool.true_and, bne]), rfl⟩
  case rest =>
  obtain ⟨rfl, rfl⟩ := hcut
  cases hnm : noMeta ver root
  · go_wp2_with fail
    go_ret
    exact ⟨ret_bool (by simp [Bool.and_assoc, hnm]), hb⟩
  go_upto_region 5 with fail
  go_cut [63] (fun s63 wx => s63 = .bool (!(noLeaf ents && noOver next data)) ∧ wx = (w.alloc (.cells #[.int .i64 2, .int .i64 ver, .int .i64 root, .int .i64 next, .slice ka keys.length kc, .slice ia kids.length ic, .slice ea ents.length ec, .string data] 28)))
  case first =>
    have hne := noLeaf_eq ents
    cases hq : decide (0 < ents.length)
    rotate_left
    · have hnl : noLeaf ents = false := by rw [hq] at hne; simpa using hne
      clear hne
      go_wp2_with fail; go_meet; exact ⟨congrArg Value.bool (by simp only [hnl, Bool.false_and, Bool.not_false]), rfl⟩
    · have hnl : noLeaf ents = true := by rw [hq] at hne; simpa using hne
      clear hne
      cases hq2 : (next == 0)
      · have hq' : (next != 0) = true := by simp [bne, hq2]
        go_wp2_with fail; go_meet; exact ⟨congrArg Value.bool (by simp only [hnl, noOver, hq2, Bool.false_and, Bool.and_false, Bool.not_false]), rfl⟩
      · have hq' : (next != 0) = false := by simp [bne, hq2]
        go_wp2_with fail; go_meet; exact ⟨congrArg Value.bool (by simp only [hnl, noOver, hq2, Bool.true_and]), rfl⟩
  case rest =>
  obtain ⟨rfl, rfl⟩ := hcut
  cases hlo : (noLeaf ents && noOver next data)
  · go_wp2_with fail
    go_ret
    exact ⟨ret_bool (by simp only [Bool.and_assoc] at hlo ⊢; simp [hlo, ← Bool.and_assoc (noLeaf ents)]), hb⟩
  · have hlo' : noLeaf ents = true ∧ noOver next data = true := by simpa using hlo
    obtain ⟨hl1, hl2⟩ := hlo'
    clear hlo
    have hKb := (hK.below hb).mono (show w.heap.size ≤ (w.alloc (.cells #[.int .i64 2, .int .i64 ver, .int .i64 root, .int .i64 next, .slice ka keys.length kc, .slice ia kids.length ic, .slice ea ents.length ec, .string data] 28)).heap.size by simp)
    go_wp2_with (go_at_call 43; refine (rising_any _ _ _ _ hKb hkn).mono ?_; rintro e w1 ⟨rfl, hb1⟩; obtain ⟨hc, hf⟩ := bcell hb1; have HB1 : Below w.heap.size w w1 := hb.trans (hb1.mono (by simp)))
    have hx1 : w1.heap[w.heap.size]? = some (.cells #[.int .i64 2, .int .i64 ver, .int .i64 root, .int .i64 next, .slice ka keys.length kc, .slice ia kids.length ic, .slice ea ents.length ec, .string data] 28) := by rw [hb1.block _ (by simp)]; exact heap_new _ _
    obtain ⟨e0, e1, e2, e3, e4, e5, e6, e7⟩ := box8 hx1
    clear hc hf hb1 hx1
    go_loop [4, 5] (fun o i => ∃ j : Nat, j ≤ kids.length ∧ i = .int .i64 j ∧ o = .bool (risingB ⟨#[]⟩ keys && (kids.take j).all placeB)) (fun _ i => kids.length - (intOf i).toNat)
    case atStart => exact ⟨0, Nat.zero_le _, rfl, by simp⟩
    case round =>
      obtain ⟨j, hj, rfl, rfl⟩ := hrel
      by_cases hlt : j < kids.length
      · obtain ⟨ib, io, hia, hib, hic⟩ := (hI.below HB1).at hlt
        have hal := all_last (p := placeB) hlt
        subst hia
        obtain ⟨R, hR⟩ : ∃ R, R = (risingB ⟨#[]⟩ keys && (kids.take j).all placeB) := ⟨_, rfl⟩
        have HN : Hid ((risingB ⟨#[]⟩ keys && (kids.take (j + 1)).all placeB) = (R && placeB kids[j])) := by show _ = _; rw [hal, hR, Bool.and_assoc]
        rw [← hR]
        clear hal hR hI hK hKb
        cases R
        all_goals
          go_wp2_with (go_at_call 42; refine (place_any _ _).mono ?_; rintro e w' ⟨rfl, rfl⟩)
          go_round
          case rel => exact ⟨j + 1, by omega, by go_num, by rw [HN.out]; simp⟩
          case measure => simp [intOf]; omega
      · obtain rfl : j = kids.length := by omega
        rw [List.take_length]
        obtain ⟨R, hR⟩ : ∃ R, R = (risingB ⟨#[]⟩ keys && kids.all placeB) := ⟨_, rfl⟩
        rw [← hR]
        have HR : Hid ((risingB ⟨#[]⟩ keys && kids.all placeB) = R) := hR.symm
        clear hR hI hK hKb
        cases R
        · go_wp2
          go_ret
          exact ⟨ret_bool (by simp only [hnm, hl1, hl2, branchOk_eq, HR.out, Bool.true_and, Bool.false_and]), HB1⟩
        · go_wp2
          all_goals go_ret
          all_goals refine ⟨ret_bool ?_, HB1⟩
          all_goals simp only [hnm, hl1, hl2, branchOk_eq, HR.out, Bool.true_and]
          all_goals (rw [Bool.eq_iff_iff]; simp; omega)
end Go.Proofs.Ytjmmfpolkkglaaa.Pages
