/-
  A page's bytes one of which is turned are no page's.
-/
import Derived.Test.YtjmmfpolkkglaaaRound
namespace Go.Proofs.Ytjmmfpolkkglaaa.Pages
open Go.RowKit
set_option linter.unusedSimpArgs false
set_option linter.unusedVariables false

/-- a page's bytes: 252, and the sum of them -/
def Whole (s : List UInt8) : Prop := ∃ P : List UInt8, P.length = 252 ∧ s = P ++ beB 4 (Crc.crc P : Nat)
theorem be4_inj {a b : Nat} (ha : a < 4294967296) (hb : b < 4294967296) (h : beB 4 (a : Int) = beB 4 (b : Int)) : a = b := by
  simp only [beB, List.cons.injEq, and_true, Nat.mul_zero, Int.pow_zero, Nat.mul_one, Nat.reduceMul, Int.reducePow] at h
  obtain ⟨h0, h1, h2, h3⟩ := h
  have f : ∀ x y : Int, UInt8.ofNat ((x % 256).toNat) = UInt8.ofNat ((y % 256).toNat) → x % 256 = y % 256 := fun x y e => by
    have e1 := byte_of (x % 256) (by omega) (by omega)
    have e2 := byte_of (y % 256) (by omega) (by omega)
    rw [e] at e1
    omega
  have g0 := f _ _ h0
  have g1 := f _ _ h1
  have g2 := f _ _ h2
  have g3 := f _ _ h3
  omega
theorem whole_len {s : List UInt8} (h : Whole s) : s.length = 256 := by
  obtain ⟨P, hP, rfl⟩ := h; rw [List.length_append, beB_length, hP]
theorem whole_parts {s : List UInt8} (h : Whole s) : s.drop 252 = beB 4 (Crc.crc (s.take 252) : Nat) := by
  obtain ⟨P, hP, rfl⟩ := h
  rw [List.take_left' hP, List.drop_left' hP]
theorem turned_seen {s : List UInt8} (hs : Whole s) (k : Nat) (hk : k < s.length) (v : UInt8) (hv : v ≠ s[k]) : ¬ Whole (s.set k v) := by
  intro ht
  have h1 := whole_parts hs
  have h2 := whole_parts ht
  have hl := whole_len hs
  by_cases hlt : k < 252
  · have e1 : (s.set k v).drop 252 = s.drop 252 := by rw [List.drop_set_of_lt hlt]
    rw [e1, h1] at h2
    have e2 := be4_inj (Crc.crc_lt _) (Crc.crc_lt _) h2
    have hkt : k < (s.take 252).length := by rw [List.length_take]; omega
    have e3 : (s.set k v).take 252 = (s.take 252).set k v := List.take_set
    rw [e3, List.set_eq_take_append_cons_drop, if_pos hkt] at e2
    have e4 : s.take 252 = (s.take 252).take k ++ s[k] :: (s.take 252).drop (k + 1) := by
      have e5 : (s.take 252)[k] = s[k] := List.getElem_take
      rw [← e5, ← List.drop_eq_getElem_cons hkt, List.take_append_drop]
    rw [show Crc.crc (s.take 252) = Crc.crc ((s.take 252).take k ++ s[k] :: (s.take 252).drop (k + 1)) from congrArg _ e4] at e2
    exact hv (Crc.crc_turned _ _ _ _ e2).symm
  · have e1 : (s.set k v).take 252 = s.take 252 := List.take_set_of_le (by omega)
    rw [e1, ← h1] at h2
    have e2 : (s.set k v)[k]? = s[k]? := by
      have := congrArg (fun l => l[k - 252]?) h2
      simp only [List.getElem?_drop] at this
      rwa [show 252 + (k - 252) = k by omega] at this
    rw [List.getElem?_set_self hk, List.getElem?_eq_getElem hk] at e2
    exact hv (Option.some.inj e2)
theorem full_whole {fs : List UInt8} (h : fs.length ≤ 252) : Whole (fullB fs) := ⟨padB fs, by simp [padB]; omega, rfl⟩
theorem enc_whole (g : Pg) (hE : g.encE = 0) : Whole g.encS.data.toList := by
  simp only [Pg.encE, Pg.encS, Pages.encE, Pages.encS] at hE ⊢
  split at hE
  case isFalse => simp at hE
  case isTrue hT =>
  rw [if_pos hT]
  simp only [Bool.and_eq_true, decide_eq_true_eq] at hT
  exact full_whole hT.2
end Go.Proofs.Ytjmmfpolkkglaaa.Pages
