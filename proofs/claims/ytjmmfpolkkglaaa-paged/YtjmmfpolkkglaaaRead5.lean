/-
  What page.read answers and leaves: pages of no kind, branches.
-/
import Derived.Test.YtjmmfpolkkglaaaRead4
namespace Go.Proofs.Ytjmmfpolkkglaaa.Pages
open Go.RowKit
set_option linter.unusedSimpArgs false
set_option linter.unusedVariables false

set_option maxRecDepth 100000 in
set_option maxHeartbeats 400000 in
theorem read_none (s : ByteArray) (w : World) (hs : s.size = 256) (k : Nat) (hk : (s.data.toList.getD 0 0).toNat = k) (h1 : k ≠ 1) (h2 : k ≠ 2) (h3 : k ≠ 3) (h4 : k ≠ 4) :
    Calls Try.prog 28 #[.string s] w fun e w' => e = .returned (.agg #[.int .i64 k, .int .i64 0, .int .i64 0, .int .i64 0, .slice none 0 0, .slice none 0 0, .slice none 0 0, .string ⟨#[]⟩]) ∧ Below w.heap.size w w' := by
  obtain ⟨c, v, hcv, hvs, hrd, hzz, hbb⟩ := read_head s w hs
  obtain ⟨bs, hbs⟩ : ∃ bs, bs = s.data.toList := ⟨_, rfl⟩
  rw [← hbs] at hrd hk
  have hN := number_1 _ _ _ _ _ _ hrd
  rw [hk] at hN
  have e1 : ((k : Int) == 1) = false := by simp; omega
  have e2 : ((k : Int) == 2) = false := by simp; omega
  have e3 : ((k : Int) == 3) = false := by simp; omega
  have e4 : ((k : Int) == 4) = false := by simp; omega
  clear hs hk hbs h1 h2 h3 h4
  go_enter Try.func28, Try.ntmps28
  go_upto_region 4 with (go_at_call 45; refine hN.mono ?_; rintro e w1 ⟨rfl, hr1, ho1⟩)
  have hZ1 := keep_alloc (x := pageK k) (ho1.keep (by omega) hzz)
  have hE1 := heap_new w1 (pageK k)
  generalize hw2 : w1.alloc (pageK k) = w2 at *
  have hγz : w.heap.size < w1.heap.size := by have := hr1.lt; omega
  obtain ⟨f0, f1, f2, f3, f4, f5, f6, f7⟩ := box8 hE1
  have hf3 := free_of hZ1
  obtain ⟨z0, z1, z2, z3, z4, z5, z6, z7⟩ := box8 hZ1
  have hU := set8r hZ1 (.int .i64 k) (.int .i64 0) (.int .i64 0) (.int .i64 0) (.slice none 0 0) (.slice none 0 0) (.slice none 0 0) (.string ⟨#[]⟩)
  obtain ⟨y0, y1, y2, y3, y4, y5, y6, y7⟩ := box8 hU
  have hO2 := ho1.alloc (pageK k)
  rw [hw2] at hO2
  clear hw2
  have hB := below8r (below_only hbb hO2 (by omega) (by rw [size_one]; omega)) (β := w.heap.size) (Nat.le_refl _) (.int .i64 k) (.int .i64 0) (.int .i64 0) (.int .i64 0) (.slice none 0 0) (.slice none 0 0) (.slice none 0 0) (.string ⟨#[]⟩)
  go_wp2
  refine bodyPost_ret (v := .agg #[.int .i64 k, .int .i64 0, .int .i64 0, .int .i64 0, .slice none 0 0, .slice none 0 0, .slice none 0 0, .string ⟨#[]⟩]) ?_ rfl ⟨rfl, hB⟩
  simp [results, Try.results28, go_sem, y0, y1, y2, y3, y4, y5, y6, y7]

theorem own_set {w : World} {B : Nat} {e : TypeId} {v : Value} {n : Nat} {xs : List Value} {β : Nat} (h : w.ownsRow B e 1 v n xs) (hβ : β < B) (i : Nat) (u : Value) : (w.setCell ⟨β, i, none⟩ u).ownsRow B e 1 v n xs :=
  own_only h ((Only.refl β w).setCell i u) hβ
theorem own_set8 {w : World} {B : Nat} {e : TypeId} {v : Value} {n : Nat} {xs : List Value} {β : Nat} (h : w.ownsRow B e 1 v n xs) (hβ : β < B) (v0 v1 v2 v3 v4 v5 v6 v7 : Value) :
    ((((((((w.setCell ⟨β, 0, none⟩ v0).setCell ⟨β, 1, none⟩ v1).setCell ⟨β, 2, none⟩ v2).setCell ⟨β, 3, none⟩ v3).setCell ⟨β, 4, none⟩ v4).setCell ⟨β, 5, none⟩ v5).setCell ⟨β, 6, none⟩ v6).setCell ⟨β, 7, none⟩ v7).ownsRow B e 1 v n xs :=
  own_set (own_set (own_set (own_set (own_set (own_set (own_set (own_set h hβ 0 v0) hβ 1 v1) hβ 2 v2) hβ 3 v3) hβ 4 v4) hβ 5 v5) hβ 6 v6) hβ 7 v7
theorem own_slice {w : World} {B : Nat} {e : TypeId} {v : Value} {n : Nat} {xs : List Value} (h : w.ownsRow B e 1 v n xs) : ∃ a c, v = .slice a n c := by
  obtain ⟨hl, ⟨rfl, rfl⟩ | ⟨k, cap, row, hv, hk⟩⟩ := h
  · exact ⟨_, _, rfl⟩
  · exact ⟨_, _, hv⟩

set_option maxRecDepth 100000 in
set_option maxHeartbeats 1000000 in
theorem read_branch (s : ByteArray) (w : World) (hs : s.size = 256) (hk : (s.data.toList.getD 0 0).toNat = 2) (p : Nat) (hp : p = posB s.data.toList 0 1) (m : Nat) (hm : m = (s.data.toList.getD p 0).toNat) (P : Nat) (hP : P = posB s.data.toList (posB s.data.toList p 1) (2 * (m + 1))) :
    Calls Try.prog 28 #[.string s] w fun e w' => ∃ vk vi, e = .returned (.agg #[.int .i64 2, .int .i64 0, .int .i64 0, .int .i64 0, vk, vi, .slice none 0 0, .string ⟨#[]⟩]) ∧
      Keys w' w.heap.size vk (keysR s.data.toList P m) ∧ Ints w' w.heap.size vi (kidsR s.data.toList (posB s.data.toList p 1) (m + 1)) ∧ Below w.heap.size w w' := by
  obtain ⟨c, v, hcv, hvs, hrd, hzz, hbb⟩ := read_head s w hs
  obtain ⟨bs, hbs⟩ : ∃ bs, bs = s.data.toList := ⟨_, rfl⟩
  rw [← hbs] at hrd hk hm hp hP ⊢
  have hN := number_1 _ _ _ _ _ _ hrd
  rw [hk, ← hp] at hN
  have hM := fun w2 (h2 : Rd w2 (w.heap.size + 1 + 1) (w.heap.size + 1) c bs p) => branch_read _ _ _ _ _ _ h2
  rw [← hm, ← hP] at hM
  obtain ⟨ks, hks⟩ : ∃ ks, ks = keysR bs P m := ⟨_, rfl⟩
  obtain ⟨is, his⟩ : ∃ is, is = kidsR bs (posB bs p 1) (m + 1) := ⟨_, rfl⟩
  rw [← hks, ← his] at hM
  rw [← hks, ← his]
  clear hs hp hk hbs hm hP hks his
  go_enter Try.func28, Try.ntmps28
  go_upto_region 4 with (go_at_call 45; refine hN.mono ?_; rintro e w1 ⟨rfl, hr1, ho1⟩)
  have hZ1 := keep_alloc (x := pageK 2) (ho1.keep (by omega) hzz)
  have hE1 := heap_new w1 (pageK 2)
  have hz1 := size_one w1 (pageK 2)
  have hγ : w1.heap.size ≠ w.heap.size + 1 + 1 := Nat.ne_of_gt hr1.lt'
  have hγg : w1.heap.size ≠ w.heap.size + 1 := Nat.ne_of_gt hr1.lt
  have hγz : w.heap.size < w1.heap.size := by have := hr1.lt; omega
  have hM1 := hM _ (hr1.alloc (pageK 2))
  rw [hz1] at hM1
  clear hM
  go_upto_region 17 with (go_at_call 46; refine hM1.mono ?_; rintro e w2 ⟨vk, vi, rfl, hK2, hI2, hr2, ho2⟩; obtain ⟨ka, kc, rfl⟩ := own_slice hK2; obtain ⟨ia, ic, rfl⟩ := own_slice hI2; have hE2 := ho2.keep hγ hE1; have hZ2 := ho2.keep (by omega) hZ1; obtain ⟨c0, c1, c2, c3, c4, c5, c6, c7⟩ := box8 hE2; have hf1 := free_of hE2)
  have hE3 : (w2.setCell ⟨w1.heap.size, 4, none⟩ (.slice ka ks.length kc)).heap[w1.heap.size]? = some (.cells #[.int .i64 2, .int .i64 0, .int .i64 0, .int .i64 0, .slice ka ks.length kc, .slice none 0 0, .slice none 0 0, .string ⟨#[]⟩] 28) := set_of hE2 4 (.slice ka ks.length kc)
  have hZ3 := keep_set hZ2 (Nat.ne_of_lt hγz) 4 (.slice ka ks.length kc)
  have hE5 : ((w2.setCell ⟨w1.heap.size, 4, none⟩ (.slice ka ks.length kc)).setCell ⟨w1.heap.size, 5, none⟩ (.slice ia is.length ic)).heap[w1.heap.size]? = some (.cells #[.int .i64 2, .int .i64 0, .int .i64 0, .int .i64 0, .slice ka ks.length kc, .slice ia is.length ic, .slice none 0 0, .string ⟨#[]⟩] 28) := set_of hE3 5 (.slice ia is.length ic)
  have hZ5 := keep_set hZ3 (Nat.ne_of_lt hγz) 5 (.slice ia is.length ic)
  have hO2 := (((ho1.alloc (pageK 2)).trans ho2).set (β := w1.heap.size) ho1.size 4 (.slice ka ks.length kc)).set (β := w1.heap.size) ho1.size 5 (.slice ia is.length ic)
  have hK5 : Keys _ _ _ _ := own_set (own_set hK2 (Nat.lt_succ_self _) 4 (.slice ka ks.length kc)) (Nat.lt_succ_self _) 5 (.slice ia is.length ic)
  have hI5 : Ints _ _ _ _ := own_set (own_set hI2 (Nat.lt_succ_self _) 4 (.slice ka ks.length kc)) (Nat.lt_succ_self _) 5 (.slice ia is.length ic)
  generalize hw5 : (w2.setCell ⟨w1.heap.size, 4, none⟩ (.slice ka ks.length kc)).setCell ⟨w1.heap.size, 5, none⟩ (.slice ia is.length ic) = w5 at *
  clear hw5
  obtain ⟨f0, f1, f2, f3, f4, f5, f6, f7⟩ := box8 hE5
  have hf3 := free_of hZ5
  obtain ⟨z0, z1, z2, z3, z4, z5, z6, z7⟩ := box8 hZ5
  have hU := set8r hZ5 (.int .i64 2) (.int .i64 0) (.int .i64 0) (.int .i64 0) (.slice ka ks.length kc) (.slice ia is.length ic) (.slice none 0 0) (.string ⟨#[]⟩)
  obtain ⟨y0, y1, y2, y3, y4, y5, y6, y7⟩ := box8 hU
  have hB := below8r (below_only hbb hO2 (by omega) (by rw [size_one]; omega)) (β := w.heap.size) (Nat.le_refl _) (.int .i64 2) (.int .i64 0) (.int .i64 0) (.int .i64 0) (.slice ka ks.length kc) (.slice ia is.length ic) (.slice none 0 0) (.string ⟨#[]⟩)
  have hK6 := own_mono (own_set8 hK5 (Nat.lt_succ_of_lt hγz) (.int .i64 2) (.int .i64 0) (.int .i64 0) (.int .i64 0) (.slice ka ks.length kc) (.slice ia is.length ic) (.slice none 0 0) (.string ⟨#[]⟩)) (B' := w.heap.size) (by omega)
  have hI6 := own_mono (own_set8 hI5 (Nat.lt_succ_of_lt hγz) (.int .i64 2) (.int .i64 0) (.int .i64 0) (.int .i64 0) (.slice ka ks.length kc) (.slice ia is.length ic) (.slice none 0 0) (.string ⟨#[]⟩)) (B' := w.heap.size) (by omega)
  go_wp2
  refine bodyPost_ret (v := .agg #[.int .i64 2, .int .i64 0, .int .i64 0, .int .i64 0, .slice ka ks.length kc, .slice ia is.length ic, .slice none 0 0, .string ⟨#[]⟩]) ?_ rfl ⟨_, _, rfl, hK6, hI6, hB⟩
  simp [results, Try.results28, go_sem, y0, y1, y2, y3, y4, y5, y6, y7]
end Go.Proofs.Ytjmmfpolkkglaaa.Pages
