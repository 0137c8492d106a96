/-
  What the reference's rising answers.
-/
import Derived.Test.YtjmmfpolkkglaaaField
import Derived.Deep.QuietTactic
import Derived.BigQuiet
namespace Go.Proofs.Ytjmmfpolkkglaaa.Pages
open Go.RowKit
set_option linter.unusedSimpArgs false

theorem less_nil (k : List UInt8) : Op.bytesLess [] k = !k.isEmpty := by cases k <;> simp [Op.bytesLess]
theorem less_some {a b : List UInt8} (h : Op.bytesLess a b = true) : b ≠ [] := by
  intro e; subst e; cases a <;> simp [Op.bytesLess] at h
theorem toList_eq (s : ByteArray) : s.toList = s.data.toList := by rw [ByteArray.toList_eq]
theorem toList_nil : (⟨#[]⟩ : ByteArray).toList = [] := by rw [toList_eq]
theorem toList_length (s : ByteArray) : s.toList.length = s.size := by rw [toList_eq]; exact data_length s
theorem follows_first (k : ByteArray) : followsB ⟨#[]⟩ k = keyB k := by
  have hl := toList_length k
  unfold followsB keyB
  rw [toList_nil, less_nil]
  congr 1
  rw [← hl]
  cases k.toList <;> simp
theorem follows_next (a k : ByteArray) : followsB a k = (keyB k && Op.bytesLess a.toList k.toList) := by
  have hl := toList_length k
  unfold followsB keyB
  cases h : Op.bytesLess a.toList k.toList
  · simp
  · have := less_some h
    have : k.toList.length ≠ 0 := by simpa using this
    simp
    omega

set_option maxHeartbeats 1000000 in
theorem rising_any (ka : Option Addr) (kc : Nat) (keys : List ByteArray) (w : World) (hK : RowAt w w.heap.size ka (keys.map .string)) (hkn : keys.length ≤ 1073741824) :
    Calls Try.prog 43 #[.slice ka keys.length kc] w fun e w' => e = .returned (.bool (risingB ⟨#[]⟩ keys)) ∧ Below w.heap.size w w' := by
  go_enter Try.func43, Try.ntmps43
  go_wp2
  go_loopw [3] (fun i wr => ∃ j : Nat, j ≤ keys.length ∧ i = .int .i64 j ∧ Hid (risingB ⟨#[]⟩ keys = risingB (if h : 0 < j ∧ j ≤ keys.length then keys[j - 1] else ⟨#[]⟩) (keys.drop j)) ∧ Below w.heap.size w wr) (fun i _ => keys.length - (intOf i).toNat)
  case atStart => exact ⟨0, Nat.zero_le _, rfl, by show _ = _; simp, Below.refl _ _⟩
  case round =>
    obtain ⟨j, hj, rfl, HR, hbr⟩ := hrel
    by_cases hlt : j < keys.length
    · have hd := List.drop_eq_getElem_cons hlt
      obtain ⟨kb, ko, hka, hkb, hkc⟩ := (hK.below hbr).at hlt
      cases j with
      | zero =>
        subst hka
        simp only [Nat.add_zero] at hkc
        cases hp : keyB keys[0]
        · have HN : Hid (risingB ⟨#[]⟩ keys = false) := by show _ = _; rw [HR.out, hd]; simp [risingB, follows_first, hp]
          clear HR hd hK
          go_wp2_with (go_at_call 53; refine (isKey_any _ _).mono ?_; rintro e w' ⟨rfl, rfl⟩)
          go_quiet (fail)
          go_wp2
          go_ret
          exact ⟨ret_bool HN.out.symm, below_drewN hbr _⟩
        · have HR2 : Hid (risingB ⟨#[]⟩ keys = risingB keys[0] (keys.drop 1)) := by show _ = _; rw [HR.out, hd]; simp [risingB, follows_first, hp]
          clear HR hd hK
          go_wp2_with (go_at_call 53; refine (isKey_any _ _).mono ?_; rintro e w' ⟨rfl, rfl⟩)
          go_quiet (fail)
          go_wp2
          go_roundw
          case rel => exact ⟨1, by omega, by go_num, by have h1 : 0 < 1 ∧ 1 ≤ keys.length := ⟨by omega, by omega⟩; simpa [h1] using HR2, below_drewN hbr _⟩
          case measure => simp [intOf]; omega
      | succ j =>
        obtain ⟨kb', ko', hka', hkb', hkp⟩ := (hK.below hbr).at (show j < keys.length by omega)
        rw [hka] at hka'
        simp only [Option.some.injEq, Addr.mk.injEq, and_true] at hka'
        obtain ⟨rfl, rfl⟩ := hka'
        subst hka
        have hpj : (0 < j + 1 ∧ j + 1 ≤ keys.length) := ⟨by omega, by omega⟩
        have HR1 : Hid (risingB ⟨#[]⟩ keys = (followsB keys[j] keys[j + 1] && risingB keys[j + 1] (keys.drop (j + 2)))) := by
          show _ = _; rw [HR.out, hd]; simp [risingB, hpj]
        clear HR hd hK
        have hj1 : (j : Int) + 1 < (keys.length : Int) := by omega
        have hj0 : (j : Int) < (keys.length : Int) := by omega
        cases hp : keyB keys[j + 1]
        · have HN : Hid (risingB ⟨#[]⟩ keys = false) := by show _ = _; rw [HR1.out]; simp [follows_next, hp]
          clear HR1
          go_wp2_with (go_at_call 53; refine (isKey_any _ _).mono ?_; rintro e w' ⟨rfl, rfl⟩)
          go_quiet (fail)
          go_wp2
          go_ret
          exact ⟨ret_bool HN.out.symm, below_drewN hbr _⟩
        · cases hq : Op.bytesLess keys[j].toList keys[j + 1].toList
          · have HN : Hid (risingB ⟨#[]⟩ keys = false) := by show _ = _; rw [HR1.out]; simp [follows_next, hq]
            clear HR1
            go_wp2_with (go_at_call 53; refine (isKey_any _ _).mono ?_; rintro e w' ⟨rfl, rfl⟩)
            go_quiet (fail)
            go_wp2
            go_ret
            exact ⟨ret_bool HN.out.symm, below_drewN hbr _⟩
          · have HR2 : Hid (risingB ⟨#[]⟩ keys = risingB keys[j + 1] (keys.drop (j + 2))) := by show _ = _; rw [HR1.out]; simp [follows_next, hp, hq]
            clear HR1
            go_wp2_with (go_at_call 53; refine (isKey_any _ _).mono ?_; rintro e w' ⟨rfl, rfl⟩)
            go_quiet (fail)
            go_wp2
            go_roundw
            case rel => exact ⟨j + 2, by omega, by go_num, by have h1 : 0 < j + 2 ∧ j + 2 ≤ keys.length := ⟨by omega, by omega⟩; simpa [h1] using HR2, below_drewN hbr _⟩
            case measure => simp [intOf]; omega
    · have HR2 : Hid (risingB ⟨#[]⟩ keys = true) := by show _ = _; rw [HR.out, List.drop_eq_nil_of_le (by omega)]; rfl
      clear HR
      go_wp2
      go_ret
      exact ⟨ret_bool HR2.out.symm, hbr⟩
end Go.Proofs.Ytjmmfpolkkglaaa.Pages
