/-
  The reference's Decode at any string answers what page.Decode answers.
-/
import Derived.Test.YtjmmfpolkkglaaaRDec
namespace Go.Proofs.Ytjmmfpolkkglaaa.Pages
open Go.RowKit
set_option linter.unusedSimpArgs false
set_option linter.unusedVariables false

theorem stepI_lt (n : Int) (b : UInt8) : stepI n b < 9223372036854775808 := by
  unfold stepI
  show IntKind.i64.wrap ((BitVec.ofInt 64 (wrap64 (n * 256)) ||| BitVec.ofInt 64 (wrap64 (b.toNat : Int))).toNat : Int) < _
  rw [IntKind.wrap_i64]
  omega
theorem foldI_lt : ∀ (l : List UInt8) (n : Int), n < 9223372036854775808 → l.foldl stepI n < 9223372036854775808
  | [], _, h => h
  | b :: l, n, _ => foldI_lt l (stepI n b) (stepI_lt n b)
theorem numI_lt (l : List UInt8) : numI l < 9223372036854775808 := foldI_lt l 0 (by decide)
theorem page_ver (s : RS) (k : Nat) : (s.page k).ver < 9223372036854775808 := by
  unfold RS.page
  split
  · exact numI_lt _
  all_goals (try split) <;> (try split) <;> (try split) <;> simp
theorem read_ver (bs : List UInt8) : (readP bs).ver < 9223372036854775808 := by
  unfold readP readK
  split
  · show wrap64 _ < _
    unfold wrap64
    omega
  all_goals (try split) <;> (try split) <;> (try split) <;> simp
set_option maxRecDepth 100000 in
set_option maxHeartbeats 2000000 in
theorem ref_decode_none (s : ByteArray) (w : World) (hs : s.size ≠ 256) :
    Calls Try.prog 16 #[.string s] w fun e w' => e = .returned (.tuple #[.agg #[.int .i64 0, .int .i64 0, .int .i64 0, .int .i64 0, .slice none 0 0, .slice none 0 0, .slice none 0 0, .string ⟨#[]⟩], .int .i64 2]) ∧ Below w.heap.size w w' := by
  have h1 : ((s.size : Int) != 256) = true := by simp; omega
  have h2 : ((s.size : Int) == 256) = false := by simp; omega
  have hn := heap_new w page0
  have hb0 := (Below.refl w.heap.size w).alloc (Nat.le_refl _) page0
  go_enter Try.func16, Try.ntmps16
  go_upto_region 2 with fail
  generalize w.alloc page0 = w0 at hn hb0 ⊢
  obtain ⟨f0, f1, f2, f3, f4, f5, f6, f7⟩ := box8 hn
  have hf := free_of hn
  have hU := set8r hn (.int .i64 0) (.int .i64 0) (.int .i64 0) (.int .i64 0) (.slice none 0 0) (.slice none 0 0) (.slice none 0 0) (.string ⟨#[]⟩)
  obtain ⟨y0, y1, y2, y3, y4, y5, y6, y7⟩ := box8 hU
  have hB := below8r hb0 (β := w.heap.size) (Nat.le_refl _) (.int .i64 0) (.int .i64 0) (.int .i64 0) (.int .i64 0) (.slice none 0 0) (.slice none 0 0) (.slice none 0 0) (.string ⟨#[]⟩)
  go_wp2
  refine bodyPost_ret (v := .tuple #[.agg #[.int .i64 0, .int .i64 0, .int .i64 0, .int .i64 0, .slice none 0 0, .slice none 0 0, .slice none 0 0, .string ⟨#[]⟩], .int .i64 2]) ?_ rfl ⟨rfl, hB⟩
  simp [results, Try.results16, go_sem, y0, y1, y2, y3, y4, y5, y6, y7]
/-- is a string a page's bytes? -/
def goodB (s : ByteArray) : Prop := s.size = 256 ∧ (readP s.data.toList).encE = 0 ∧ (readP s.data.toList).encS = s
/-- the reference's Decode, at any string -/
theorem ref_decode_any (s : ByteArray) (w : World) :
    Calls Try.prog 16 #[.string s] w fun e w' => Below w.heap.size w w' ∧
      ((goodB s ∧ ∃ v, e = .returned (.tuple #[v, .int .i64 0]) ∧ PgAt w' w.heap.size (readP s.data.toList) v) ∨
       (¬ goodB s ∧ e = .returned (.tuple #[.agg #[.int .i64 0, .int .i64 0, .int .i64 0, .int .i64 0, .slice none 0 0, .slice none 0 0, .slice none 0 0, .string ⟨#[]⟩], .int .i64 2]))) := by
  by_cases hs : s.size = 256
  · refine (ref_decode_256 s w hs _ rfl _ rfl).mono fun e w' ⟨hb, h⟩ => ⟨hb, ?_⟩
    rcases h with ⟨_, h1, h2, v, he, hp⟩ | ⟨hn, he⟩
    · have hr := round_trip _ (page_ver _ _) h1
      rw [h2] at hr
      refine .inl ⟨⟨hs, by rw [hr]; exact h1, by rw [hr]; exact h2⟩, v, he, ?_⟩
      rw [hr]
      exact hp
    · refine .inr ⟨fun ⟨_, g1, g2⟩ => hn ?_, he⟩
      have hr := ref_round (readP s.data.toList) (read_ver _) g1
      rw [g2] at hr
      exact ⟨hr.2, by rw [hr.1]; exact g1, by rw [hr.1]; exact g2⟩
  · exact (ref_decode_none s w hs).mono fun e w' ⟨he, hb⟩ => ⟨hb, .inr ⟨fun h => hs h.1, he⟩⟩
end Go.Proofs.Ytjmmfpolkkglaaa.Pages
