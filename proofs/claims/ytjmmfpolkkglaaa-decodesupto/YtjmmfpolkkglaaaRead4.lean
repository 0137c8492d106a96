/-
  What page.read answers and leaves.
-/
import Derived.Test.YtjmmfpolkkglaaaRead3
namespace Go.Proofs.Ytjmmfpolkkglaaa.Pages
open Go.RowKit
set_option linter.unusedSimpArgs false
set_option linter.unusedVariables false

theorem conv_bytes (s : ByteArray) (u : World) : ∃ c v, (convert 9 43 (.string s)).run Try.prog u = .ok (.slice (some ⟨u.heap.size, 0, none⟩) s.size c) v ∧ v.heap.size = u.heap.size + 1 ∧ Below u.heap.size u v ∧
    (∀ (j : Nat) (hj : j < s.data.toList.length), v.cell? ⟨u.heap.size, j, none⟩ = some (byteV s.data.toList[j])) ∧ s.size ≤ c := by
  refine ⟨_, _, run_bytes_of_string u 9 43 5 s Try.underlying9 Try.underlying43 Try.underlying5, by simp, ?_, ?_, grownCap_ge _ _ _ _⟩
  · exact ((Below.refl u.heap.size u).drew).alloc (by simp) _
  · intro j hj
    have hj' : j < s.data.size := by simpa using hj
    have e : (u.drew.alloc (.cells (bytesRow s (grownCap u s.size 0 5)) 5 ((bytesRow s (grownCap u s.size 0 5)).size, (bytesRow s (grownCap u s.size 0 5)).size + 1))).heap[u.heap.size]? = some (.cells (bytesRow s (grownCap u s.size 0 5)) 5 ((bytesRow s (grownCap u s.size 0 5)).size, (bytesRow s (grownCap u s.size 0 5)).size + 1)) := heap_new u.drew _
    simp only [World.cell?, e]
    have hj2 : j < s.size := hj'
    simp [bytesRow, byteV, Array.getElem?_append, hj', hj2]

theorem number_8 (ρ g c : Nat) (bs : List UInt8) (a : Nat) (w : World) (h : Rd w ρ g c bs a) :
    Calls Try.prog 45 #[.pointer (some ⟨ρ, 0, none⟩), .int .i64 8] w fun e w' => e = .returned (.int .i64 (wrap64 (numV bs a 8))) ∧ Rd w' ρ g c bs (posB bs a 8) ∧ Only ρ w w' :=
  number_any ρ g c bs a 8 w h (by omega)
theorem set8r {u : World} {β : Nat} {a0 a1 a2 a3 a4 a5 a6 a7 : Value} {t : TypeId} (h : u.heap[β]? = some (.cells #[a0, a1, a2, a3, a4, a5, a6, a7] t)) (v0 v1 v2 v3 v4 v5 v6 v7 : Value) :
    ((((((((u.setCell ⟨β, 0, none⟩ v0).setCell ⟨β, 1, none⟩ v1).setCell ⟨β, 2, none⟩ v2).setCell ⟨β, 3, none⟩ v3).setCell ⟨β, 4, none⟩ v4).setCell ⟨β, 5, none⟩ v5).setCell ⟨β, 6, none⟩ v6).setCell ⟨β, 7, none⟩ v7).heap[β]? = some (.cells #[v0, v1, v2, v3, v4, v5, v6, v7] t) := by
  have := set_of (set_of (set_of (set_of (set_of (set_of (set_of (set_of h 0 v0) 1 v1) 2 v2) 3 v3) 4 v4) 5 v5) 6 v6) 7 v7
  simpa using this
theorem below_only {B ρ : Nat} {w a w' : World} (h : Below B w a) (ho : Only ρ a w') (hρ : B ≤ ρ) (hB : B ≤ a.heap.size) : Below B w w' :=
  h.trans ⟨ho.os, ho.tape, ho.output, ho.size, fun k hk => ho.block k (by omega) (by omega)⟩
theorem below8r {B : Nat} {w a : World} (h : Below B w a) {β : Nat} (hβ : B ≤ β) (v0 v1 v2 v3 v4 v5 v6 v7 : Value) :
    Below B w ((((((((a.setCell ⟨β, 0, none⟩ v0).setCell ⟨β, 1, none⟩ v1).setCell ⟨β, 2, none⟩ v2).setCell ⟨β, 3, none⟩ v3).setCell ⟨β, 4, none⟩ v4).setCell ⟨β, 5, none⟩ v5).setCell ⟨β, 6, none⟩ v6).setCell ⟨β, 7, none⟩ v7) :=
  (((((((h.setCell hβ v0).setCell hβ v1).setCell hβ v2).setCell hβ v3).setCell hβ v4).setCell hβ v5).setCell hβ v6).setCell hβ v7
theorem size_one (w : World) (o : Obj) : (w.alloc o).heap.size = w.heap.size + 1 := by simp
/-- the page that is laid first, all zeros -/
abbrev page0 : Obj := .cells #[.int .i64 0, .int .i64 0, .int .i64 0, .int .i64 0, .slice none 0 0, .slice none 0 0, .slice none 0 0, .string ⟨#[]⟩] 28
/-- the page as the switch finds it -/
abbrev pageK (k : Int) : Obj := .cells #[.int .i64 k, .int .i64 0, .int .i64 0, .int .i64 0, .slice none 0 0, .slice none 0 0, .slice none 0 0, .string ⟨#[]⟩] 28
/-- the reader that read lays, and what stands beside it -/
theorem read_head (s : ByteArray) (w : World) (hs : s.size = 256) : ∃ c v, (convert 9 43 (.string s)).run Try.prog (w.alloc page0) = .ok (.slice (some ⟨w.heap.size + 1, 0, none⟩) s.size c) v ∧ v.heap.size = w.heap.size + 1 + 1 ∧
    Rd (v.alloc (.cells #[.slice (some ⟨w.heap.size + 1, 0, none⟩) s.size c, .int .i64 0] 79)) (w.heap.size + 1 + 1) (w.heap.size + 1) c s.data.toList 0 ∧
    (v.alloc (.cells #[.slice (some ⟨w.heap.size + 1, 0, none⟩) s.size c, .int .i64 0] 79)).heap[w.heap.size]? = some page0 ∧
    Below w.heap.size w (v.alloc (.cells #[.slice (some ⟨w.heap.size + 1, 0, none⟩) s.size c, .int .i64 0] 79)) := by
  obtain ⟨c, v, hcv, hvs, hvb, hvc, hcc⟩ := conv_bytes s (w.alloc page0)
  have ez : (w.alloc page0).heap.size = w.heap.size + 1 := size_one w page0
  rw [ez] at hcv hvs hvb hvc
  have hl : s.data.toList.length = s.size := by rw [Array.length_toList]; rfl
  have hb0 : Below w.heap.size w (w.alloc page0) := (Below.refl _ w).alloc (Nat.le_refl _) _
  have hb1 : Below w.heap.size w v := hb0.trans (hvb.mono (by omega))
  have hz : v.heap[w.heap.size]? = some page0 := (hvb.block w.heap.size (by omega)).trans (heap_new w page0)
  have hn := heap_new v (.cells #[.slice (some ⟨w.heap.size + 1, 0, none⟩) s.size c, .int .i64 0] 79)
  rw [hvs] at hn
  refine ⟨c, v, hcv, hvs, ⟨?_, ?_, by omega, by rw [size_one]; omega, Nat.zero_le _, by omega, by omega⟩, keep_alloc hz, hb1.alloc (by omega) _⟩
  · rw [hl]; exact hn
  · intro j hj
    rw [World.cell?_of_block (w := v) (Below.heap_alloc _ _ _ (by show w.heap.size + 1 < v.heap.size; omega))]
    exact hvc j hj

set_option maxRecDepth 100000 in
set_option maxHeartbeats 2000000 in
theorem read_meta (s : ByteArray) (w : World) (hs : s.size = 256) (hk : (s.data.toList.getD 0 0).toNat = 1) :
    Calls Try.prog 28 #[.string s] w fun e w' => e = .returned (.agg #[.int .i64 1, .int .i64 (wrap64 (numV s.data.toList (posB s.data.toList 0 1) 8)), .int .i64 (numV s.data.toList (posB s.data.toList (posB s.data.toList 0 1) 8) 2 : Nat), .int .i64 0, .slice none 0 0, .slice none 0 0, .slice none 0 0, .string ⟨#[]⟩]) ∧ Below w.heap.size w w' := by
  obtain ⟨c, v, hcv, hvs, hrd, hzz, hbb⟩ := read_head s w hs
  obtain ⟨bs, hbs⟩ : ∃ bs, bs = s.data.toList := ⟨_, rfl⟩
  rw [← hbs] at hrd hk ⊢
  have hN := number_1 _ _ _ _ _ _ hrd
  obtain ⟨p, hp⟩ : ∃ p, p = posB bs 0 1 := ⟨_, rfl⟩
  rw [hk, ← hp] at hN
  rw [← hp]
  have hM := fun w2 (h2 : Rd w2 (w.heap.size + 1 + 1) (w.heap.size + 1) c bs p) => number_8 _ _ _ _ _ _ h2
  have hM2 := fun w2 (h2 : Rd w2 (w.heap.size + 1 + 1) (w.heap.size + 1) c bs (posB bs p 8)) => number_2 _ _ _ _ _ _ h2
  obtain ⟨n1, hn1⟩ : ∃ n1, n1 = wrap64 (numV bs p 8) := ⟨_, rfl⟩
  obtain ⟨n2, hn2⟩ : ∃ n2, n2 = numV bs (posB bs p 8) 2 := ⟨_, rfl⟩
  rw [← hn1] at hM ⊢
  rw [← hn2] at hM2 ⊢
  clear hs hn1 hn2 hp hk hbs
  go_enter Try.func28, Try.ntmps28
  go_upto_region 4 with (go_at_call 45; refine hN.mono ?_; rintro e w1 ⟨rfl, hr1, ho1⟩)
  have hZ1 := keep_alloc (x := pageK 1) (ho1.keep (by omega) hzz)
  have hE1 := heap_new w1 (pageK 1)
  have hγ : w1.heap.size ≠ w.heap.size + 1 + 1 := Nat.ne_of_gt hr1.lt'
  have hγg : w1.heap.size ≠ w.heap.size + 1 := Nat.ne_of_gt hr1.lt
  have hγz : w.heap.size < w1.heap.size := by have := hr1.lt; omega
  go_upto_region 6 with (go_at_call 45; refine (hM _ (hr1.alloc _)).mono ?_; rintro e w2 ⟨rfl, hr2, ho2⟩; have hE2 := ho2.keep hγ hE1; have hZ2 := ho2.keep (by omega) hZ1; obtain ⟨c0, c1, c2, c3, c4, c5, c6, c7⟩ := box8 hE2; have hf1 := free_of hE2)
  have hE3 : (w2.setCell ⟨w1.heap.size, 1, none⟩ (.int .i64 n1)).heap[w1.heap.size]? = some (.cells #[.int .i64 1, .int .i64 n1, .int .i64 0, .int .i64 0, .slice none 0 0, .slice none 0 0, .slice none 0 0, .string ⟨#[]⟩] 28) := set_of hE2 1 (.int .i64 n1)
  have hZ3 := keep_set hZ2 (Nat.ne_of_lt hγz) 1 (.int .i64 n1)
  go_upto_region 17 with (go_at_call 45; refine (hM2 _ (hr2.set hγ hγg 1 _)).mono ?_; rintro e w4 ⟨rfl, hr4, ho4⟩; have hE4 := ho4.keep hγ hE3; have hZ4 := ho4.keep (by omega) hZ3; obtain ⟨d0, d1, d2, d3, d4, d5, d6, d7⟩ := box8 hE4; have hf2 := free_of hE4)
  have hE5 : (w4.setCell ⟨w1.heap.size, 2, none⟩ (.int .i64 (n2 : Int))).heap[w1.heap.size]? = some (.cells #[.int .i64 1, .int .i64 n1, .int .i64 (n2 : Int), .int .i64 0, .slice none 0 0, .slice none 0 0, .slice none 0 0, .string ⟨#[]⟩] 28) := set_of hE4 2 (.int .i64 (n2 : Int))
  have hZ5 := keep_set hZ4 (Nat.ne_of_lt hγz) 2 (.int .i64 (n2 : Int))
  obtain ⟨f0, f1, f2, f3, f4, f5, f6, f7⟩ := box8 hE5
  have hf3 := free_of hZ5
  obtain ⟨z0, z1, z2, z3, z4, z5, z6, z7⟩ := box8 hZ4
  have hU := set8r hZ5 (.int .i64 1) (.int .i64 n1) (.int .i64 (n2 : Int)) (.int .i64 0) (.slice none 0 0) (.slice none 0 0) (.slice none 0 0) (.string ⟨#[]⟩)
  obtain ⟨y0, y1, y2, y3, y4, y5, y6, y7⟩ := box8 hU
  have hO := (((ho1.alloc (pageK 1)).trans ho2).set (β := w1.heap.size) ho1.size 1 (.int .i64 n1)).trans ho4
  have hO2 := hO.set (β := w1.heap.size) ho1.size 2 (.int .i64 (n2 : Int))
  have hB := below8r (below_only hbb hO2 (by omega) (by rw [size_one]; omega)) (β := w.heap.size) (Nat.le_refl _) (.int .i64 1) (.int .i64 n1) (.int .i64 (n2 : Int)) (.int .i64 0) (.slice none 0 0) (.slice none 0 0) (.slice none 0 0) (.string ⟨#[]⟩)
  go_wp2
  refine bodyPost_ret (v := .agg #[.int .i64 1, .int .i64 n1, .int .i64 (n2 : Int), .int .i64 0, .slice none 0 0, .slice none 0 0, .slice none 0 0, .string ⟨#[]⟩]) ?_ rfl ⟨rfl, hB⟩
  simp [results, Try.results28, go_sem, y0, y1, y2, y3, y4, y5, y6, y7]
set_option maxRecDepth 100000 in
set_option maxHeartbeats 2000000 in
theorem read_over (s : ByteArray) (w : World) (hs : s.size = 256) (hk : (s.data.toList.getD 0 0).toNat = 4) :
    Calls Try.prog 28 #[.string s] w fun e w' => e = .returned (.agg #[.int .i64 4, .int .i64 0, .int .i64 0, .int .i64 (numV s.data.toList (posB s.data.toList 0 1) 2 : Nat), .slice none 0 0, .slice none 0 0, .slice none 0 0, .string ⟨(txtB s.data.toList (posB s.data.toList (posB s.data.toList 0 1) 2)).toArray⟩]) ∧ Below w.heap.size w w' := by
  obtain ⟨c, v, hcv, hvs, hrd, hzz, hbb⟩ := read_head s w hs
  obtain ⟨bs, hbs⟩ : ∃ bs, bs = s.data.toList := ⟨_, rfl⟩
  rw [← hbs] at hrd hk ⊢
  have hN := number_1 _ _ _ _ _ _ hrd
  obtain ⟨p, hp⟩ : ∃ p, p = posB bs 0 1 := ⟨_, rfl⟩
  rw [hk, ← hp] at hN
  rw [← hp]
  have hM := fun w2 (h2 : Rd w2 (w.heap.size + 1 + 1) (w.heap.size + 1) c bs p) => number_2 _ _ _ _ _ _ h2
  have hM2 := fun w2 (h2 : Rd w2 (w.heap.size + 1 + 1) (w.heap.size + 1) c bs (posB bs p 2)) => text_read _ _ _ _ _ _ h2
  obtain ⟨n1, hn1⟩ : ∃ n1, n1 = numV bs p 2 := ⟨_, rfl⟩
  obtain ⟨n2, hn2⟩ : ∃ n2, n2 = (⟨(txtB bs (posB bs p 2)).toArray⟩ : ByteArray) := ⟨_, rfl⟩
  rw [← hn1] at hM ⊢
  rw [← hn2] at hM2 ⊢
  clear hs hn1 hn2 hp hk hbs
  go_enter Try.func28, Try.ntmps28
  go_upto_region 4 with (go_at_call 45; refine hN.mono ?_; rintro e w1 ⟨rfl, hr1, ho1⟩)
  have hZ1 := keep_alloc (x := pageK 4) (ho1.keep (by omega) hzz)
  have hE1 := heap_new w1 (pageK 4)
  have hγ : w1.heap.size ≠ w.heap.size + 1 + 1 := Nat.ne_of_gt hr1.lt'
  have hγg : w1.heap.size ≠ w.heap.size + 1 := Nat.ne_of_gt hr1.lt
  have hγz : w.heap.size < w1.heap.size := by have := hr1.lt; omega
  go_upto_region 16 with (go_at_call 45; refine (hM _ (hr1.alloc _)).mono ?_; rintro e w2 ⟨rfl, hr2, ho2⟩; have hE2 := ho2.keep hγ hE1; have hZ2 := ho2.keep (by omega) hZ1; obtain ⟨c0, c1, c2, c3, c4, c5, c6, c7⟩ := box8 hE2; have hf1 := free_of hE2)
  have hE3 : (w2.setCell ⟨w1.heap.size, 3, none⟩ (.int .i64 (n1 : Int))).heap[w1.heap.size]? = some (.cells #[.int .i64 4, .int .i64 0, .int .i64 0, .int .i64 (n1 : Int), .slice none 0 0, .slice none 0 0, .slice none 0 0, .string ⟨#[]⟩] 28) := set_of hE2 3 (.int .i64 (n1 : Int))
  have hZ3 := keep_set hZ2 (Nat.ne_of_lt hγz) 3 (.int .i64 (n1 : Int))
  go_upto_region 17 with (go_at_call 48; refine (hM2 _ (hr2.set hγ hγg 3 _)).mono ?_; rintro e w4 ⟨rfl, hr4, ho4⟩; have hE4 := ho4.keep hγ hE3; have hZ4 := ho4.keep (by omega) hZ3; obtain ⟨d0, d1, d2, d3, d4, d5, d6, d7⟩ := box8 hE4; have hf2 := free_of hE4)
  have hE5 : (w4.setCell ⟨w1.heap.size, 7, none⟩ (.string n2)).heap[w1.heap.size]? = some (.cells #[.int .i64 4, .int .i64 0, .int .i64 0, .int .i64 (n1 : Int), .slice none 0 0, .slice none 0 0, .slice none 0 0, .string n2] 28) := set_of hE4 7 (.string n2)
  have hZ5 := keep_set hZ4 (Nat.ne_of_lt hγz) 7 (.string n2)
  obtain ⟨f0, f1, f2, f3, f4, f5, f6, f7⟩ := box8 hE5
  have hf3 := free_of hZ5
  obtain ⟨z0, z1, z2, z3, z4, z5, z6, z7⟩ := box8 hZ4
  have hU := set8r hZ5 (.int .i64 4) (.int .i64 0) (.int .i64 0) (.int .i64 (n1 : Int)) (.slice none 0 0) (.slice none 0 0) (.slice none 0 0) (.string n2)
  obtain ⟨y0, y1, y2, y3, y4, y5, y6, y7⟩ := box8 hU
  have hO := (((ho1.alloc (pageK 4)).trans ho2).set (β := w1.heap.size) ho1.size 3 (.int .i64 (n1 : Int))).trans ho4
  have hO2 := hO.set (β := w1.heap.size) ho1.size 7 (.string n2)
  have hB := below8r (below_only hbb hO2 (by omega) (by rw [size_one]; omega)) (β := w.heap.size) (Nat.le_refl _) (.int .i64 4) (.int .i64 0) (.int .i64 0) (.int .i64 (n1 : Int)) (.slice none 0 0) (.slice none 0 0) (.slice none 0 0) (.string n2)
  go_wp2
  refine bodyPost_ret (v := .agg #[.int .i64 4, .int .i64 0, .int .i64 0, .int .i64 (n1 : Int), .slice none 0 0, .slice none 0 0, .slice none 0 0, .string n2]) ?_ rfl ⟨rfl, hB⟩
  simp [results, Try.results28, go_sem, y0, y1, y2, y3, y4, y5, y6, y7]
end Go.Proofs.Ytjmmfpolkkglaaa.Pages
