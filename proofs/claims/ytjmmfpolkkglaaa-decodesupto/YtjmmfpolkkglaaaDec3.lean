/-
  What is read is small; page.Decode at any string.
-/
import Derived.Test.YtjmmfpolkkglaaaDec2
namespace Go.Proofs.Ytjmmfpolkkglaaa.Pages
open Go.RowKit
set_option linter.unusedSimpArgs false
set_option linter.unusedVariables false

theorem flat_mul_le {α : Type} (f : α → List UInt8) (c : Nat) : ∀ (l : List α), (∀ x ∈ l, (f x).length ≤ c) → (l.flatMap f).length ≤ l.length * c
  | [], _ => by simp
  | x :: l, h => by
    have h1 := h x (by simp)
    have h2 := flat_mul_le f c l (fun y hy => h y (by simp [hy]))
    rw [List.flatMap_cons, List.length_append, List.length_cons, Nat.succ_mul]
    omega
theorem keysR_len (bs : List UInt8) (a n : Nat) : (keysR bs a n).length = n := by simp [keysR]
theorem kidsR_len (bs : List UInt8) (a n : Nat) : (kidsR bs a n).length = n := by simp [kidsR]
theorem entsR_len (bs : List UInt8) (a n : Nat) : (entsR bs a n).length = n := by simp [entsR]
theorem txtB_le (bs : List UInt8) (a : Nat) : (txtB bs a).length ≤ 255 := by
  have := (bs.getD a 0).toNat_lt
  unfold txtB
  rw [List.length_take]
  omega
theorem beB_len (k : Nat) (n : Int) : (beB k n).length = k := beB_length k n
theorem mk_size (l : List UInt8) : (⟨l.toArray⟩ : ByteArray).size = l.length := by show l.toArray.size = _; simp
theorem textB_le {s : ByteArray} {c : Nat} (h : s.size ≤ c) : (textB s).length ≤ c + 1 := by
  unfold textB
  rw [List.length_append, data_length]
  simp
  omega
theorem entR_le (bs : List UInt8) (a : Nat) : (entR bs a).key.size ≤ 255 ∧ (entR bs a).val.size ≤ 255 := by
  unfold entR
  split
  · exact ⟨by rw [mk_size]; exact txtB_le _ _, by rw [mk_size]; exact txtB_le _ _⟩
  · exact ⟨by rw [mk_size]; exact txtB_le _ _, Nat.zero_le _⟩
theorem bytes_le {e : Ent} (h : e.key.size ≤ 255 ∧ e.val.size ≤ 255) : e.bytes.length ≤ 600 := by
  have h1 := textB_le h.1
  have h2 := textB_le h.2
  unfold Ent.bytes entBytes
  rw [List.length_append]
  split
  · rw [List.length_append]; simp; omega
  · rw [List.length_append, List.length_append, beB_len, beB_len]; simp; omega
theorem readP_small (bs : List UInt8) : (readP bs).small := by
  have hp := (bs.getD (posB bs 0 1) 0).toNat_lt
  have hnil : ∀ d : ByteArray, d.size ≤ 255 → Small [] [] [] d := fun d hd => ⟨by simp, by simp, by simp, by simp, by simp [branchB, beB_len], by simp [leafB, beB_len], by omega⟩
  unfold readP readK
  split
  · exact hnil _ (Nat.zero_le _)
  split
  · have l1 : (keysR bs (posB bs (posB bs (posB bs 0 1) 1) (2 * ((bs.getD (posB bs 0 1) 0).toNat + 1))) (bs.getD (posB bs 0 1) 0).toNat).length ≤ 255 := by rw [keysR_len]; omega
    have l2 : (kidsR bs (posB bs (posB bs 0 1) 1) ((bs.getD (posB bs 0 1) 0).toNat + 1)).length ≤ 256 := by rw [kidsR_len]; omega
    refine ⟨Nat.le_trans l1 (by omega), Nat.le_trans l2 (by omega), by simp, by simp, ?_, by simp [leafB, beB_len], Nat.zero_le _⟩
    unfold branchB
    have f1 := flat_mul_le (beB 2) 2 (kidsR bs (posB bs (posB bs 0 1) 1) ((bs.getD (posB bs 0 1) 0).toNat + 1)) (fun x _ => by rw [beB_len]; omega)
    have f2 := flat_mul_le textB 256 (keysR bs (posB bs (posB bs (posB bs 0 1) 1) (2 * ((bs.getD (posB bs 0 1) 0).toNat + 1))) (bs.getD (posB bs 0 1) 0).toNat) (fun x hx => by
      simp only [keysR, List.mem_map] at hx
      obtain ⟨j, _, rfl⟩ := hx
      exact textB_le (by rw [mk_size]; exact txtB_le _ _))
    rw [List.length_append, List.length_append, beB_len]
    dsimp only
    omega
  split
  · have l1 : (entsR bs (posB bs (posB bs 0 1) 1) (bs.getD (posB bs 0 1) 0).toNat).length ≤ 255 := by rw [entsR_len]; omega
    have hall : ∀ e ∈ entsR bs (posB bs (posB bs 0 1) 1) (bs.getD (posB bs 0 1) 0).toNat, e.key.size ≤ 255 ∧ e.val.size ≤ 255 := fun x hx => by
      simp only [entsR, List.mem_map] at hx
      obtain ⟨j, _, rfl⟩ := hx
      exact entR_le _ _
    refine ⟨by simp, by simp, Nat.le_trans l1 (by omega), fun e he => ⟨Nat.le_trans (hall e he).1 (by omega), Nat.le_trans (hall e he).2 (by omega)⟩, by simp [branchB, beB_len], ?_, Nat.zero_le _⟩
    unfold leafB
    have f1 := flat_mul_le Ent.bytes 600 _ (fun e he => bytes_le (hall e he))
    rw [List.length_append, beB_len]
    dsimp only
    omega
  split
  · exact hnil _ (by rw [mk_size]; exact txtB_le _ _)
  · exact hnil _ (Nat.zero_le _)
/-- page.Decode, at any string -/
theorem decode_any (s : ByteArray) (w : World) :
    Calls Try.prog 15 #[.string s] w fun e w' => Below w.heap.size w w' ∧
      ((s.size = 256 ∧ (readP s.data.toList).encE = 0 ∧ (readP s.data.toList).encS = s ∧ ∃ v, e = .returned (.tuple #[v, .int .i64 0]) ∧ PgAt w' w.heap.size (readP s.data.toList) v) ∨
       (¬ (s.size = 256 ∧ (readP s.data.toList).encE = 0 ∧ (readP s.data.toList).encS = s) ∧ e = .returned (.tuple #[.agg #[.int .i64 0, .int .i64 0, .int .i64 0, .int .i64 0, .slice none 0 0, .slice none 0 0, .slice none 0 0, .string ⟨#[]⟩], .int .i64 2]))) := by
  by_cases hs : s.size = 256
  · by_cases hE : (readP s.data.toList).encE = 0
    · by_cases hO : (readP s.data.toList).encS = s
      · exact (decode_good s w hs (readP_small _) hE hO).mono fun e w' ⟨v, he, hp, hb⟩ => ⟨hb, .inl ⟨hs, hE, hO, v, he, hp⟩⟩
      · exact (decode_other s w hs (readP_small _) hE hO).mono fun e w' ⟨he, hb⟩ => ⟨hb, .inr ⟨fun h => hO h.2.2, he⟩⟩
    · exact (decode_bad s w hs (readP_small _) hE).mono fun e w' ⟨he, hb⟩ => ⟨hb, .inr ⟨fun h => hE h.2.1, he⟩⟩
  · exact (decode_none s w hs).mono fun e w' ⟨he, hb⟩ => ⟨hb, .inr ⟨fun h => hs h.1, he⟩⟩
end Go.Proofs.Ytjmmfpolkkglaaa.Pages
