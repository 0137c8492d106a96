/-
  What the reference reads is small.
-/
import Derived.Test.YtjmmfpolkkglaaaRRound
namespace Go.Proofs.Ytjmmfpolkkglaaa.Pages
open Go.RowKit
set_option linter.unusedSimpArgs false
set_option linter.unusedVariables false

theorem RS.bytes_le (s : RS) (n : Nat) : (s.bytes n).length ≤ n := by unfold RS.bytes; split <;> simp <;> omega
theorem RS.key_le (s : RS) : s.key.size ≤ 255 := by
  have h1 := RS.bytes_le (s.past 1) s.one
  have h2 := (one_of s).2
  unfold RS.key
  rw [strB_size]
  omega
theorem RS.ent_le (s : RS) : s.ent.key.size ≤ 255 ∧ s.ent.val.size ≤ 255 := by
  unfold RS.ent
  split
  · refine ⟨RS.key_le s, ?_⟩
    have h1 := RS.bytes_le ((s.keyed.past 1).past 1) (s.keyed.past 1).one
    have h2 := (one_of (s.keyed.past 1)).2
    dsimp only
    rw [strB_size]
    omega
  · exact ⟨RS.key_le s, Nat.zero_le 255⟩
theorem RS.kids_len : ∀ (n : Nat) (s : RS), (s.kids n).length = n
  | 0, _ => rfl
  | n + 1, s => by rw [RS.kids, List.length_cons, RS.kids_len n]
theorem RS.keys_len : ∀ (n : Nat) (s : RS), (s.keys n).length = n
  | 0, _ => rfl
  | n + 1, s => by rw [RS.keys, List.length_cons, RS.keys_len n]
theorem RS.ents_len : ∀ (n : Nat) (s : RS), (s.ents n).length = n
  | 0, _ => rfl
  | n + 1, s => by rw [RS.ents, List.length_cons, RS.ents_len n]
theorem RS.keys_le : ∀ (n : Nat) (s : RS), ∀ k ∈ s.keys n, k.size ≤ 255
  | 0, _ => by simp [RS.keys]
  | n + 1, s => by
    intro k hk
    rw [RS.keys] at hk
    rcases List.mem_cons.1 hk with rfl | hk
    · exact RS.key_le s
    · exact RS.keys_le n _ k hk
theorem RS.ents_le : ∀ (n : Nat) (s : RS), ∀ e ∈ s.ents n, e.key.size ≤ 255 ∧ e.val.size ≤ 255
  | 0, _ => by simp [RS.ents]
  | n + 1, s => by
    intro k hk
    rw [RS.ents] at hk
    rcases List.mem_cons.1 hk with rfl | hk
    · exact RS.ent_le s
    · exact RS.ents_le n _ k hk
theorem small_of255 {keys : List ByteArray} {kids : List Int} {ents : List Ent} {data : ByteArray} (h1 : keys.length ≤ 256) (h2 : kids.length ≤ 256) (h3 : ents.length ≤ 256) (h4 : ∀ e ∈ ents, e.key.size ≤ 255 ∧ e.val.size ≤ 255) (h5 : ∀ k ∈ keys, k.size ≤ 255) (h6 : data.size ≤ 255) : Small keys kids ents data := by
  refine ⟨by omega, by omega, by omega, fun e he => ⟨Nat.le_trans (h4 e he).1 (by omega), Nat.le_trans (h4 e he).2 (by omega)⟩, ?_, ?_, by omega⟩
  · have f1 := flat_mul_le (beB 2) 2 kids (fun x _ => by rw [beB_len]; omega)
    have f2 := flat_mul_le textB 256 keys (fun x hx => textB_le (h5 x hx))
    unfold branchB
    rw [List.length_append, List.length_append, beB_len]
    have : keys.length * 256 ≤ 256 * 256 := Nat.mul_le_mul_right _ h1
    omega
  · have f1 := flat_mul_le Ent.bytes 600 ents (fun e he => bytes_le (h4 e he))
    unfold leafB
    rw [List.length_append, beB_len]
    have : ents.length * 600 ≤ 256 * 600 := Nat.mul_le_mul_right _ h3
    omega
theorem RS.page_small (s : RS) (k : Nat) : (s.page k).small ∧ ∀ (j : Nat) (hj : j < (s.page k).keys.length), (s.page k).keys[j].size ≤ 1073741824 := by
  have h1 := (one_of s).2
  have hnil : ∀ d : ByteArray, d.size ≤ 255 → Small [] [] [] d := fun d hd => small_of255 (by simp) (by simp) (by simp) (by simp) (by simp) hd
  unfold RS.page
  split
  · exact ⟨hnil _ (Nat.zero_le _), by simp⟩
  split
  · refine ⟨small_of255 ?_ ?_ (by simp) (by simp) (RS.keys_le _ _) (Nat.zero_le _), fun j hj => Nat.le_trans (RS.keys_le _ _ _ (List.getElem_mem hj)) (by omega)⟩
    · dsimp only; rw [RS.keys_len]; omega
    · dsimp only; rw [RS.kids_len]; omega
  split
  · refine ⟨small_of255 (by simp) (by simp) ?_ (RS.ents_le _ _) (by simp) (Nat.zero_le _), by simp⟩
    dsimp only; rw [RS.ents_len]; omega
  split
  · exact ⟨hnil _ (RS.key_le _), by simp⟩
  · exact ⟨hnil _ (Nat.zero_le _), by simp⟩
end Go.Proofs.Ytjmmfpolkkglaaa.Pages
