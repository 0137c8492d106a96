/-
  Both Decodes in one form.
-/
import Derived.Test.YtjmmfpolkkglaaaRDec2
namespace Go.Proofs.Ytjmmfpolkkglaaa.Pages
open Go.RowKit
set_option linter.unusedSimpArgs false
set_option linter.unusedVariables false

def goodD (s : ByteArray) : Bool := decide (s.size = 256) && (decide ((readP s.data.toList).encE = 0) && decide ((readP s.data.toList).encS = s))
theorem goodD_iff (s : ByteArray) : goodD s = true ↔ goodB s := by unfold goodD goodB; simp
def decP (s : ByteArray) : Pg := if goodD s = true then readP s.data.toList else ⟨0, 0, 0, 0, [], [], [], ⟨#[]⟩⟩
def decE (s : ByteArray) : Int := if goodD s = true then 0 else 2
theorem zero_at (w : World) (B : Nat) : PgAt w B ⟨0, 0, 0, 0, [], [], [], ⟨#[]⟩⟩ (.agg #[.int .i64 0, .int .i64 0, .int .i64 0, .int .i64 0, .slice none 0 0, .slice none 0 0, .slice none 0 0, .string ⟨#[]⟩]) := ⟨_, _, _, rfl, Keys.nil _ _, Ints.nil _ _, EntsR.nil _ _⟩
theorem decode_uni (s : ByteArray) (w : World) :
    Calls Try.prog 15 #[.string s] w fun e w' => ∃ v, e = .returned (.tuple #[v, .int .i64 (decE s)]) ∧ PgAt w' w.heap.size (decP s) v ∧ Below w.heap.size w w' := by
  refine (decode_any s w).mono fun e w' ⟨hb, h⟩ => ?_
  rcases h with ⟨h0, h1, h2, v, he, hp⟩ | ⟨hn, he⟩
  · have hg : goodD s = true := (goodD_iff s).2 ⟨h0, h1, h2⟩
    exact ⟨v, by rw [he, decE, if_pos hg], by rw [decP, if_pos hg]; exact hp, hb⟩
  · have hg : ¬ goodD s = true := fun h => hn ((goodD_iff s).1 h)
    exact ⟨_, by rw [he, decE, if_neg hg], by rw [decP, if_neg hg]; exact zero_at _ _, hb⟩
theorem ref_decode_uni (s : ByteArray) (w : World) :
    Calls Try.prog 16 #[.string s] w fun e w' => ∃ v, e = .returned (.tuple #[v, .int .i64 (decE s)]) ∧ PgAt w' w.heap.size (decP s) v ∧ Below w.heap.size w w' := by
  refine (ref_decode_any s w).mono fun e w' ⟨hb, h⟩ => ?_
  rcases h with ⟨hg0, v, he, hp⟩ | ⟨hg0, he⟩
  · have hg : goodD s = true := (goodD_iff s).2 hg0
    exact ⟨v, by rw [he, decE, if_pos hg], by rw [decP, if_pos hg]; exact hp, hb⟩
  · have hg : ¬ goodD s = true := fun h => hg0 ((goodD_iff s).1 h)
    exact ⟨_, by rw [he, decE, if_neg hg], by rw [decP, if_neg hg]; exact zero_at _ _, hb⟩
theorem read_lens (bs : List UInt8) : (readP bs).keys.length ≤ 300 ∧ (readP bs).kids.length ≤ 300 ∧ (readP bs).ents.length ≤ 300 := by
  have hp := (bs.getD (posB bs 0 1) 0).toNat_lt
  unfold readP readK
  split
  · simp
  split
  · refine ⟨?_, ?_, by simp⟩
    · dsimp only; rw [keysR_len]; omega
    · dsimp only; rw [kidsR_len]; omega
  split
  · refine ⟨by simp, by simp, ?_⟩
    dsimp only; rw [entsR_len]; omega
  split
  · simp
  · simp
theorem decP_lens (s : ByteArray) : (decP s).keys.length ≤ 300 ∧ (decP s).kids.length ≤ 300 ∧ (decP s).ents.length ≤ 300 := by
  unfold decP
  split
  · exact read_lens _
  · simp
end Go.Proofs.Ytjmmfpolkkglaaa.Pages
