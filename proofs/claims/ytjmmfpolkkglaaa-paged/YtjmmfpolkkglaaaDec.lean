/-
  What page.Decode answers and leaves.
-/
import Derived.Test.YtjmmfpolkkglaaaRead8
namespace Go.Proofs.Ytjmmfpolkkglaaa.Pages
open Go.RowKit
set_option linter.unusedSimpArgs false
set_option linter.unusedVariables false

set_option maxRecDepth 100000 in
set_option maxHeartbeats 2000000 in
theorem decode_none (s : ByteArray) (w : World) (hs : s.size ≠ 256) :
    Calls Try.prog 15 #[.string s] w fun e w' => e = .returned (.tuple #[.agg #[.int .i64 0, .int .i64 0, .int .i64 0, .int .i64 0, .slice none 0 0, .slice none 0 0, .slice none 0 0, .string ⟨#[]⟩], .int .i64 2]) ∧ Below w.heap.size w w' := by
  have h1 : ((s.size : Int) != 256) = true := by simp; omega
  have h2 : ((s.size : Int) == 256) = false := by simp; omega
  go_enter Try.func15, Try.ntmps15
  have hn := heap_new w page0
  obtain ⟨y0, y1, y2, y3, y4, y5, y6, y7⟩ := box8 hn
  go_wp2
  refine bodyPost_ret (v := .tuple #[.agg #[.int .i64 0, .int .i64 0, .int .i64 0, .int .i64 0, .slice none 0 0, .slice none 0 0, .slice none 0 0, .string ⟨#[]⟩], .int .i64 2]) ?_ rfl ⟨rfl, (Below.refl _ w).alloc (Nat.le_refl _) _⟩
  simp [results, Try.results15, go_sem, y0, y1, y2, y3, y4, y5, y6, y7]
end Go.Proofs.Ytjmmfpolkkglaaa.Pages
