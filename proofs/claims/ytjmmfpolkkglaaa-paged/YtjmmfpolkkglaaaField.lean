/-
  What the reference's field and text answer: a number's bytes; a text's length and its bytes.
-/
import Derived.Test.YtjmmfpolkkglaaaEnc
namespace Go.Proofs.Ytjmmfpolkkglaaa.Pages
open Go.RowKit
set_option linter.unusedSimpArgs false

theorem beB_get (k : Nat) (n : Int) (i : Nat) (h : i < k) : (beB k n)[i]? = some (UInt8.ofNat ((n / 2 ^ (8 * (k - 1 - i)) % 256).toNat)) := by
  induction k generalizing i with
  | zero => omega
  | succ k ih =>
    cases i with
    | zero => simp [beB]
    | succ i =>
      simp only [beB, List.getElem?_cons_succ]
      rw [ih i (by omega), show k + 1 - 1 - (i + 1) = k - 1 - i by omega]
/-- the row as it stands when the last bytes down to place j have been written -/
def fillB (k : Nat) (n : Int) (j : Nat) : Array Value := ((List.replicate j (0 : UInt8) ++ (beB k n).drop j).map byteV).toArray
theorem fillB_size (k : Nat) (n : Int) (j : Nat) (h : j ≤ k) : (fillB k n j).size = k := by simp [fillB, beB_length]; omega
theorem fillB_set (k : Nat) (n : Int) (j : Nat) (h : j < k) : (fillB k n (j + 1)).setIfInBounds j (.int .u8 (n / 2 ^ (8 * (k - 1 - j)) % 256)) = fillB k n j := by
  have hv : Value.int .u8 (n / 2 ^ (8 * (k - 1 - j)) % 256) = byteV (UInt8.ofNat ((n / 2 ^ (8 * (k - 1 - j)) % 256).toNat)) := by
    unfold byteV; rw [← byte_back]
  rw [hv]
  apply Array.ext
  · simp [fillB, beB_length]; omega
  · intro i h1 h2
    have hk : i < k := by simpa [fillB_size k n j (by omega)] using h2
    rw [Array.getElem_setIfInBounds (by simpa using h1)]
    have hb := beB_get k n i hk
    have hbl := beB_length k n
    simp only [fillB, List.getElem_toArray, List.getElem_map]
    by_cases hij : j = i
    · subst hij
      rw [if_pos rfl, List.getElem_append_right (by simp)]
      simp only [List.length_replicate, Nat.sub_self, List.getElem_drop, Nat.add_zero]
      congr 1
      have := List.getElem?_eq_getElem (l := beB k n) (i := j) (by omega)
      rw [hb] at this
      exact Option.some.inj this
    · rw [if_neg hij]
      congr 1
      by_cases hlt : i < j
      · rw [List.getElem_append_left (by simp; omega), List.getElem_append_left (by simpa using hlt)]
        simp
      · rw [List.getElem_append_right (by simp; omega), List.getElem_append_right (by simp; omega)]
        simp only [List.length_replicate, List.getElem_drop]
        congr 1
        omega
theorem shr_next (n : Int) (a : Nat) : n / 2 ^ (8 * a) / 256 = n / 2 ^ (8 * (a + 1)) := by
  rw [Int.ediv_ediv_of_nonneg (by exact Int.pow_nonneg (by omega))]
  congr 1
  rw [Nat.mul_add, Int.pow_add]; rfl

theorem made_fill (k : Nat) (n : Int) : madeCells #[Value.int .u8 0] k = fillB k n k := by
  have hd : (beB k n).drop k = [] := List.drop_eq_nil_of_le (by rw [beB_length]; omega)
  unfold fillB
  rw [hd, List.append_nil]
  apply Array.ext
  · simp [madeCells]
  · intro i h1 h2
    simp [madeCells, byteV, Nat.mod_one]

theorem fill_buf (w : World) (k : Nat) (n : Int) (hk : k ≤ 8) : Buf (w.alloc (.cells (fillB k n 0) 5)) w.heap.size (.slice (some ⟨w.heap.size, 0, none⟩) k k) (beB k n) := by
  refine ⟨by simp, .inr ⟨w.heap.size, k, fillB k n 0, by rw [beB_length], Nat.le_refl _, heap_new _ _, by rw [beB_length]; exact Nat.le_refl _, by unfold maxLen; omega, by rw [fillB_size k n 0 (by omega)]; omega, ?_⟩⟩
  simp only [fillB, List.replicate_zero, List.nil_append, List.drop_zero]
  rw [List.take_of_length_le (by simp)]

set_option maxHeartbeats 1000000 in
theorem field_any (n : Int) (k : Nat) (w : World) (hk : k ≤ 8) :
    Calls Try.prog 26 #[.int .i64 n, .int .i64 k] w fun e w' => e = .returned (.string ⟨(beB k n).toArray⟩) ∧ Below w.heap.size w w' := by
  obtain ⟨i0, hi, hz0, hz1, hz2⟩ := info_parts info8
  have hmk : ∀ u : World, (Instr.makeSlice 43 (.int .i64 (k : Int)) (.int .i64 (k : Int))).run Try.prog u =
      .ok (.slice (some ⟨u.heap.size, 0, none⟩) k k) (u.alloc (.cells (fillB k n k) 5)) := fun u => by
    have h := run_make (P := Try.prog) u 43 5 i0 (.int .u8 0) Try.underlying43 hi hz0 .i64 .i64 (k : Int) (k : Int) (by omega) (Int.le_refl _) (by rw [hz2]; omega) (by omega)
    rw [← made_fill]
    simpa [hz1, Value.cells] using h
  go_enter Try.func26, Try.ntmps26
  go_wp2
  go_loopw [0, 6] (fun m i wr => ∃ j : Nat, j ≤ k ∧ i = .int .i64 ((j : Int) - 1) ∧ m = .int .i64 (n / 2 ^ (8 * (k - j))) ∧ wr = w.alloc (.cells (fillB k n j) 5)) (fun _ i _ => (intOf i + 1).toNat)
  case atStart => exact ⟨k, Nat.le_refl _, rfl, by simp, rfl⟩
  case round =>
    obtain ⟨j, hj, rfl, rfl, rfl⟩ := hrel
    cases j with
    | succ j =>
      have hsz := fillB_size k n (j + 1) hj
      have hset := fillB_set k n j (by omega)
      have hsh := shr_next n (k - (j + 1))
      have e1 : k - 1 - j = k - (j + 1) := by omega
      have e2 : k - (j + 1) + 1 = k - j := by omega
      rw [e1] at hset
      rw [e2] at hsh
      clear e1 e2
      have hat : (fillB k n (j + 1))[j]? = some ((fillB k n (j + 1))[j]'(by omega)) := Array.getElem?_eq_getElem (by omega)
      go_wp2
      go_roundw
      case rel => exact ⟨j, by omega, by go_num, rfl, rfl⟩
      case measure => simp [intOf]
    | zero =>
      have hst := (fill_buf w k n hk).string
      go_wp2
      go_ret
      exact ⟨rfl, (Below.refl _ _).alloc (Nat.le_refl _) _⟩

def strB (l : List UInt8) : ByteArray := ⟨l.toArray⟩
theorem strB_append (a b : List UInt8) : strB a ++ strB b = strB (a ++ b) := by
  apply ByteArray.ext
  rw [ByteArray.data_append]
  simp [strB]
theorem strB_size (a : List UInt8) : (strB a).size = a.length := by show a.toArray.size = _; simp
theorem strB_data (s : ByteArray) : strB s.data.toList = s := by apply ByteArray.ext; simp [strB]

theorem field_z (n z : Int) (w : World) (h0 : 0 ≤ z) (h8 : z ≤ 8) :
    Calls Try.prog 26 #[.int .i64 n, .int .i64 z] w fun e w' => ∃ t : ByteArray, e = .returned (.string t) ∧ t.size ≤ 8 ∧ Hid (t = strB (beB z.toNat n)) ∧ Below w.heap.size w w' := by
  obtain ⟨k, rfl⟩ : ∃ k : Nat, z = k := ⟨z.toNat, by omega⟩
  exact (field_any n k w (by omega)).mono fun e w' ⟨he, hb⟩ => ⟨strB (beB k n), he, by rw [strB_size, beB_length]; omega, rfl, hb⟩

theorem beB_one (m : Nat) : beB 1 (m : Int) = [UInt8.ofNat m] := by
  simp only [beB]
  congr 1
  apply UInt8.toNat_inj.1
  simp
  omega
set_option maxHeartbeats 1000000 in
theorem text_any (s : ByteArray) (w : World) (hs : s.size ≤ 1073741824) :
    Calls Try.prog 27 #[.string s] w fun e w' => ∃ t : ByteArray, e = .returned (.string t) ∧ t.size ≤ 1073741825 ∧ Hid (t = strB (textB s)) ∧ Below w.heap.size w w' := by
  go_enter Try.func27, Try.ntmps27
  go_wp2_with (go_at_call 26; refine (field_z _ _ _ (by decide) (by decide)).mono ?_; rintro e w1 ⟨t, rfl, ht, HT, hb1⟩)
  go_ret
  have e : t ++ s = strB (textB s) := by
    rw [HT.out]
    show strB (beB 1 s.size) ++ s = _
    rw [beB_one]
    conv => lhs; rw [← strB_data s]
    rw [strB_append]; rfl
  refine ⟨_, rfl, ?_, e, hb1⟩
  rw [e, strB_size]
  simp [textB]; omega
end Go.Proofs.Ytjmmfpolkkglaaa.Pages
