/-
  What the small tests of page and of the reference answer: isPlace, follows, isInline, rightValue; place, IsKey, isEntry.
-/
import Derived.Test.YtjmmfpolkkglaaaProg
import Derived.WalkKit
import Derived.WalkSpells
import Derived.WalkLawsBesides
import Derived.Outline
import Derived.Deep.QuietTactic
import Derived.BigQuiet
namespace Go.Proofs.Ytjmmfpolkkglaaa.Pages
open Go.RowKit

theorem ret_bool {a b : Bool} (h : a = b) : Ending.returned (.bool a) = .returned (.bool b) := by rw [h]

/- the tests that the walk leaves, as arithmetic -/
def placeB (n : Int) : Bool := decide (2 ≤ n) && decide (n < 4096)
theorem isPlace_any (n : Int) (w : World) :
    Calls Try.prog 49 #[.int .i64 n] w fun e w' => e = .returned (.bool (placeB n)) ∧ w' = w := by
  go_enter Try.func49, Try.ntmps49
  go_wp2
  all_goals go_ret
  all_goals refine ⟨ret_bool ?_, rfl⟩
  all_goals (rw [Bool.eq_iff_iff]; simp only [placeB, Bool.and_eq_true, decide_eq_true_eq, Bool.false_eq_true, false_iff]; omega)
theorem place_any (n : Int) (w : World) :
    Calls Try.prog 42 #[.int .i64 n] w fun e w' => e = .returned (.bool (placeB n)) ∧ w' = w := by
  go_enter Try.func42, Try.ntmps42
  go_wp2
  all_goals go_ret
  all_goals refine ⟨ret_bool ?_, rfl⟩
  all_goals (rw [Bool.eq_iff_iff]; simp only [placeB, Bool.and_eq_true, decide_eq_true_eq, Bool.false_eq_true, false_iff]; omega)

def followsB (last key : ByteArray) : Bool := Op.bytesLess last.toList key.toList && decide (key.size ≤ 24)
theorem follows_any (last key : ByteArray) (w : World) :
    Calls Try.prog 50 #[.string last, .string key] w fun e w' => e = .returned (.bool (followsB last key)) ∧ w' = w := by
  go_enter Try.func50, Try.ntmps50
  go_wp2
  all_goals go_ret
  all_goals refine ⟨ret_bool ?_, rfl⟩
  all_goals (rw [Bool.eq_iff_iff]; simp only [followsB, Bool.and_eq_true, decide_eq_true_eq, Bool.false_eq_true, false_iff, not_and, *, true_and, false_implies]; try omega)

def keyB (key : ByteArray) : Bool := decide (1 ≤ key.size) && decide (key.size ≤ 24)
theorem isKey_any (key : ByteArray) (w : World) :
    Calls Try.prog 53 #[.string key] w fun e w' => e = .returned (.bool (keyB key)) ∧ w' = w := by
  go_enter Try.func53, Try.ntmps53
  go_wp2
  all_goals go_ret
  all_goals refine ⟨ret_bool ?_, rfl⟩
  all_goals (rw [Bool.eq_iff_iff]; simp only [keyB, Bool.and_eq_true, decide_eq_true_eq, Bool.false_eq_true, false_iff]; omega)

theorem isInline_any (k v : ByteArray) (n o : Int) (w : World) :
    Calls Try.prog 52 #[.agg #[.string k, .string v, .int .i64 n, .int .i64 o]] w fun e w' => e = .returned (.bool (o == 0)) ∧ Below w.heap.size w w' := by
  go_enter Try.func52, Try.ntmps52
  go_wp2
  go_ret
  exact ⟨rfl, (Below.refl _ _).alloc (Nat.le_refl _) _⟩

theorem bcell {W w1 : World} (hb : Below W.heap.size W w1) : (∀ b o, b < W.heap.size → w1.cell? ⟨b, o, none⟩ = W.cell? ⟨b, o, none⟩) ∧ (∀ b o, b < W.heap.size → w1.frozen? ⟨b, o, none⟩ = W.frozen? ⟨b, o, none⟩) :=
  ⟨fun b o h => hb.cell (p := ⟨b, o, none⟩) h, fun b o h => hb.frozen (p := ⟨b, o, none⟩) h⟩

theorem placeB_zero : placeB 0 = false := rfl
def valB (v : ByteArray) (n o : Int) : Bool := (o == 0 && decide ((v.size : Int) ≤ 60) && n == (v.size : Int)) || (placeB o && v.toList.isEmpty && decide (60 < n) && decide (n ≤ 400))
set_option maxHeartbeats 1000000 in
theorem rightValue_any (k v : ByteArray) (n o : Int) (w : World) :
    Calls Try.prog 51 #[.agg #[.string k, .string v, .int .i64 n, .int .i64 o]] w fun e w' => e = .returned (.bool (valB v n o)) ∧ Below w.heap.size w w' := by
  go_enter Try.func51, Try.ntmps51
  go_wp2_with (first | (go_at_call 52; refine (isInline_any _ _ _ _ _).mono ?_; rintro e w1 ⟨rfl, hb⟩; obtain ⟨hc, hf⟩ := bcell hb) | (go_at_call 49; refine (isPlace_any _ _).mono ?_; rintro e w' ⟨rfl, rfl⟩))
  all_goals go_ret
  all_goals refine ⟨ret_bool ?_, ((Below.refl _ _).alloc (Nat.le_refl _) _).trans (hb.mono (by simp))⟩
  all_goals clear hb hc hf
  all_goals simp_all [valB, placeB_zero]
  all_goals omega

def entB (k v : ByteArray) (n o : Int) : Bool := keyB k && valB v n o
set_option maxHeartbeats 1000000 in
theorem isEntry_any (k v : ByteArray) (n o : Int) (w : World) :
    Calls Try.prog 44 #[.agg #[.string k, .string v, .int .i64 n, .int .i64 o]] w fun e w' => e = .returned (.bool (entB k v n o)) ∧ Below w.heap.size w w' := by
  go_enter Try.func44, Try.ntmps44
  go_wp2_with (first | (go_at_call 53; refine (isKey_any _ _).mono ?_; rintro e w' ⟨rfl, rfl⟩) | (go_at_call 42; refine (place_any _ _).mono ?_; rintro e w' ⟨rfl, rfl⟩))
  all_goals go_ret
  all_goals refine ⟨ret_bool ?_, (Below.refl _ _).alloc (Nat.le_refl _) _⟩
  all_goals simp_all [valB, entB, placeB_zero]
  all_goals first | omega | (rw [Bool.eq_iff_iff]; simp [*]; omega)
end Go.Proofs.Ytjmmfpolkkglaaa.Pages
