/-
  What mark answers.
-/
import Derived.Test.YtjmmfpolkkglaaaBook
namespace Go.Proofs.Ytjmmfpolkkglaaa.Pages
open Go.RowKit
set_option linter.unusedSimpArgs false
set_option linter.unusedVariables false

def markS (n : Nat) : ByteArray := ⟨#[126, UInt8.ofNat n, UInt8.ofNat (n / 256)]⟩
theorem conv_mark (u : World) (a b : UInt8) :
    (convert 43 9 (.slice (some ⟨u.heap.size, 0, none⟩) 3 3)).run Try.prog (u.alloc (.cells #[.int .u8 126, .int .u8 (a.toNat : Int), .int .u8 (b.toNat : Int)] 5)) = .ok (.string ⟨#[126, a, b]⟩) (u.alloc (.cells #[.int .u8 126, .int .u8 (a.toNat : Int), .int .u8 (b.toNat : Int)] 5)) := by
  have h := run_convert_bytes_back (P := Try.prog) (u.alloc (.cells #[.int .u8 126, .int .u8 (a.toNat : Int), .int .u8 (b.toNat : Int)] 5)) 43 9 5 ⟨u.heap.size, 0, none⟩ 3 [126, a, b] Try.underlying43 Try.underlying5 Try.underlying9 (fun j hj => by
    have hn := heap_new u (.cells #[.int .u8 126, .int .u8 (a.toNat : Int), .int .u8 (b.toNat : Int)] 5)
    have e : (⟨u.heap.size, 0, none⟩ : Addr).add j = ⟨u.heap.size, j, none⟩ := by unfold Addr.add; split <;> simp_all
    rw [e]
    simp only [World.cell?, hn]
    have : j = 0 ∨ j = 1 ∨ j = 2 := by simp at hj; omega
    rcases this with rfl | rfl | rfl <;> rfl)
  exact h
set_option maxHeartbeats 1000000 in
theorem mark_any (n : Nat) (w : World) (hn : n ≤ 10000) :
    Calls Try.prog 34 #[.int .i64 n] w fun e w' => e = .returned (.string (markS n)) ∧ Below w.heap.size w w' := by
  have hcv := conv_mark w (UInt8.ofNat n) (UInt8.ofNat (n / 256))
  have ea : ((UInt8.ofNat n).toNat : Int) = (n : Int) % 256 := by simp
  have eb : ((UInt8.ofNat (n / 256)).toNat : Int) = (n : Int) / 256 := by rw [UInt8.toNat_ofNat_of_lt' (by simp [UInt8.size]; omega)]; omega
  rw [ea, eb] at hcv
  have hm : (⟨#[126, UInt8.ofNat n, UInt8.ofNat (n / 256)]⟩ : ByteArray) = markS n := rfl
  rw [hm] at hcv
  clear ea eb hm
  go_enter Try.func34, Try.ntmps34
  go_wp2
  go_ret
  exact ⟨rfl, (Below.refl _ _).alloc (Nat.le_refl _) _⟩
end Go.Proofs.Ytjmmfpolkkglaaa.Pages
