/-
  Joined: Read4, Read5, Read6, Read7, Read8, File2, File3, File4.
-/
import Derived.Test.YtngpplmndpmgiaaGreatJ3
import Derived.Test.YtngpplmndpmgiaaGreatJ1
import Derived.Deep.RegionWith
import Derived.Deep.CutBlock
import Derived.Deep.RegionLaw
namespace Go.Proofs.YtngpplmndpmgiaaGreat.Pages
open Go.RowKit
set_option linter.unusedSimpArgs false
set_option linter.unusedVariables false
theorem conv_bytes (s : ByteArray) (u : World) : ∃ c v, (convert 9 115 (.string s)).run Tryz.prog u = .ok (.slice (some ⟨u.heap.size, 0, none⟩) s.size c) v ∧ v.heap.size = u.heap.size + 1 ∧ Below u.heap.size u v ∧
    (∀ (j : Nat) (hj : j < s.data.toList.length), v.cell? ⟨u.heap.size, j, none⟩ = some (byteV s.data.toList[j])) ∧ s.size ≤ c := by
  refine ⟨_, _, run_bytes_of_string u 9 115 5 s Tryz.underlying9 Tryz.underlying115 Tryz.underlying5, by simp, ?_, ?_, grownCap_ge _ _ _ _⟩
  · exact ((Below.refl u.heap.size u).drew).alloc (by simp) _
  · intro j hj
    have hj' : j < s.data.size := by simpa using hj
    have e : (u.drew.alloc (.cells (bytesRow s (grownCap u s.size 0 5)) 5 ((bytesRow s (grownCap u s.size 0 5)).size, (bytesRow s (grownCap u s.size 0 5)).size + 1))).heap[u.heap.size]? = some (.cells (bytesRow s (grownCap u s.size 0 5)) 5 ((bytesRow s (grownCap u s.size 0 5)).size, (bytesRow s (grownCap u s.size 0 5)).size + 1)) := heap_new u.drew _
    simp only [World.cell?, e]
    have hj2 : j < s.size := hj'
    simp [bytesRow, byteV, Array.getElem?_append, hj', hj2]
theorem number_8 (ρ g c : Nat) (bs : List UInt8) (a : Nat) (w : World) (h : Rd w ρ g c bs a) :
    Calls Tryz.prog 142 #[.pointer (some ⟨ρ, 0, none⟩), .int .i64 8] w fun e w' => e = .returned (.int .i64 (wrap64 (numV bs a 8))) ∧ Rd w' ρ g c bs (posB bs a 8) ∧ Only ρ w w' :=
  number_any ρ g c bs a 8 w h (by omega)
theorem set8r {u : World} {β : Nat} {a0 a1 a2 a3 a4 a5 a6 a7 : Value} {t : TypeId} (h : u.heap[β]? = some (.cells #[a0, a1, a2, a3, a4, a5, a6, a7] t)) (v0 v1 v2 v3 v4 v5 v6 v7 : Value) :
    ((((((((u.setCell ⟨β, 0, none⟩ v0).setCell ⟨β, 1, none⟩ v1).setCell ⟨β, 2, none⟩ v2).setCell ⟨β, 3, none⟩ v3).setCell ⟨β, 4, none⟩ v4).setCell ⟨β, 5, none⟩ v5).setCell ⟨β, 6, none⟩ v6).setCell ⟨β, 7, none⟩ v7).heap[β]? = some (.cells #[v0, v1, v2, v3, v4, v5, v6, v7] t) := by
  have := set_of (set_of (set_of (set_of (set_of (set_of (set_of (set_of h 0 v0) 1 v1) 2 v2) 3 v3) 4 v4) 5 v5) 6 v6) 7 v7
  simpa using this
theorem below_only {B ρ : Nat} {w a w' : World} (h : Below B w a) (ho : Only ρ a w') (hρ : B ≤ ρ) (hB : B ≤ a.heap.size) : Below B w w' :=
  h.trans ⟨ho.os, ho.tape, ho.output, ho.size, fun k hk => ho.block k (by omega) (by omega)⟩
theorem below8r {B : Nat} {w a : World} (h : Below B w a) {β : Nat} (hβ : B ≤ β) (v0 v1 v2 v3 v4 v5 v6 v7 : Value) :
    Below B w ((((((((a.setCell ⟨β, 0, none⟩ v0).setCell ⟨β, 1, none⟩ v1).setCell ⟨β, 2, none⟩ v2).setCell ⟨β, 3, none⟩ v3).setCell ⟨β, 4, none⟩ v4).setCell ⟨β, 5, none⟩ v5).setCell ⟨β, 6, none⟩ v6).setCell ⟨β, 7, none⟩ v7) :=
  (((((((h.setCell hβ v0).setCell hβ v1).setCell hβ v2).setCell hβ v3).setCell hβ v4).setCell hβ v5).setCell hβ v6).setCell hβ v7
theorem size_one (w : World) (o : Obj) : (w.alloc o).heap.size = w.heap.size + 1 := by simp
abbrev page0 : Obj := .cells #[.int .i64 0, .int .i64 0, .int .i64 0, .int .i64 0, .slice none 0 0, .slice none 0 0, .slice none 0 0, .string ⟨#[]⟩] 72
abbrev pageK (k : Int) : Obj := .cells #[.int .i64 k, .int .i64 0, .int .i64 0, .int .i64 0, .slice none 0 0, .slice none 0 0, .slice none 0 0, .string ⟨#[]⟩] 72
theorem read_head (s : ByteArray) (w : World) (hs : s.size = 256) : ∃ c v, (convert 9 115 (.string s)).run Tryz.prog (w.alloc page0) = .ok (.slice (some ⟨w.heap.size + 1, 0, none⟩) s.size c) v ∧ v.heap.size = w.heap.size + 1 + 1 ∧
    Rd (v.alloc (.cells #[.slice (some ⟨w.heap.size + 1, 0, none⟩) s.size c, .int .i64 0] 223)) (w.heap.size + 1 + 1) (w.heap.size + 1) c s.data.toList 0 ∧
    (v.alloc (.cells #[.slice (some ⟨w.heap.size + 1, 0, none⟩) s.size c, .int .i64 0] 223)).heap[w.heap.size]? = some page0 ∧
    Below w.heap.size w (v.alloc (.cells #[.slice (some ⟨w.heap.size + 1, 0, none⟩) s.size c, .int .i64 0] 223)) := by
  obtain ⟨c, v, hcv, hvs, hvb, hvc, hcc⟩ := conv_bytes s (w.alloc page0)
  have ez : (w.alloc page0).heap.size = w.heap.size + 1 := size_one w page0
  rw [ez] at hcv hvs hvb hvc
  have hl : s.data.toList.length = s.size := by rw [Array.length_toList]; rfl
  have hb0 : Below w.heap.size w (w.alloc page0) := (Below.refl _ w).alloc (Nat.le_refl _) _
  have hb1 : Below w.heap.size w v := hb0.trans (hvb.mono (by omega))
  have hz : v.heap[w.heap.size]? = some page0 := (hvb.block w.heap.size (by omega)).trans (heap_new w page0)
  have hn := heap_new v (.cells #[.slice (some ⟨w.heap.size + 1, 0, none⟩) s.size c, .int .i64 0] 223)
  rw [hvs] at hn
  refine ⟨c, v, hcv, hvs, ⟨?_, ?_, by omega, by rw [size_one]; omega, Nat.zero_le _, by omega, by omega⟩, keep_alloc hz, hb1.alloc (by omega) _⟩
  · rw [hl]; exact hn
  · intro j hj
    rw [World.cell?_of_block (w := v) (Below.heap_alloc _ _ _ (by show w.heap.size + 1 < v.heap.size; omega))]
    exact hvc j hj
set_option maxRecDepth 100000 in
set_option maxHeartbeats 2000000 in
theorem read_meta (s : ByteArray) (w : World) (hs : s.size = 256) (hk : (s.data.toList.getD 0 0).toNat = 1) :
    Calls Tryz.prog 130 #[.string s] w fun e w' => e = .returned (.agg #[.int .i64 1, .int .i64 (wrap64 (numV s.data.toList (posB s.data.toList 0 1) 8)), .int .i64 (numV s.data.toList (posB s.data.toList (posB s.data.toList 0 1) 8) 2 : Nat), .int .i64 0, .slice none 0 0, .slice none 0 0, .slice none 0 0, .string ⟨#[]⟩]) ∧ Below w.heap.size w w' := by
  obtain ⟨c, v, hcv, hvs, hrd, hzz, hbb⟩ := read_head s w hs
  obtain ⟨bs, hbs⟩ : ∃ bs, bs = s.data.toList := ⟨_, rfl⟩
  rw [← hbs] at hrd hk ⊢
  have hN := number_1 _ _ _ _ _ _ hrd
  obtain ⟨p, hp⟩ : ∃ p, p = posB bs 0 1 := ⟨_, rfl⟩
  rw [hk, ← hp] at hN
  rw [← hp]
  have hM := fun w2 (h2 : Rd w2 (w.heap.size + 1 + 1) (w.heap.size + 1) c bs p) => number_8 _ _ _ _ _ _ h2
  have hM2 := fun w2 (h2 : Rd w2 (w.heap.size + 1 + 1) (w.heap.size + 1) c bs (posB bs p 8)) => number_2 _ _ _ _ _ _ h2
  obtain ⟨n1, hn1⟩ : ∃ n1, n1 = wrap64 (numV bs p 8) := ⟨_, rfl⟩
  obtain ⟨n2, hn2⟩ : ∃ n2, n2 = numV bs (posB bs p 8) 2 := ⟨_, rfl⟩
  rw [← hn1] at hM ⊢
  rw [← hn2] at hM2 ⊢
  clear hs hn1 hn2 hp hk hbs
  go_enter Tryz.func130, Tryz.ntmps130
  go_upto_region 4 with (go_at_call 142; refine hN.mono ?_; rintro e w1 ⟨rfl, hr1, ho1⟩)
  have hZ1 := keep_alloc (x := pageK 1) (ho1.keep (by omega) hzz)
  have hE1 := heap_new w1 (pageK 1)
  have hγ : w1.heap.size ≠ w.heap.size + 1 + 1 := Nat.ne_of_gt hr1.lt'
  have hγg : w1.heap.size ≠ w.heap.size + 1 := Nat.ne_of_gt hr1.lt
  have hγz : w.heap.size < w1.heap.size := by have := hr1.lt; omega
  go_upto_region 6 with (go_at_call 142; refine (hM _ (hr1.alloc _)).mono ?_; rintro e w2 ⟨rfl, hr2, ho2⟩; have hE2 := ho2.keep hγ hE1; have hZ2 := ho2.keep (by omega) hZ1; obtain ⟨c0, c1, c2, c3, c4, c5, c6, c7⟩ := box8 hE2; have hf1 := free_of hE2)
  have hE3 : (w2.setCell ⟨w1.heap.size, 1, none⟩ (.int .i64 n1)).heap[w1.heap.size]? = some (.cells #[.int .i64 1, .int .i64 n1, .int .i64 0, .int .i64 0, .slice none 0 0, .slice none 0 0, .slice none 0 0, .string ⟨#[]⟩] 72) := set_of hE2 1 (.int .i64 n1)
  have hZ3 := keep_set hZ2 (Nat.ne_of_lt hγz) 1 (.int .i64 n1)
  go_upto_region 17 with (go_at_call 142; refine (hM2 _ (hr2.set hγ hγg 1 _)).mono ?_; rintro e w4 ⟨rfl, hr4, ho4⟩; have hE4 := ho4.keep hγ hE3; have hZ4 := ho4.keep (by omega) hZ3; obtain ⟨d0, d1, d2, d3, d4, d5, d6, d7⟩ := box8 hE4; have hf2 := free_of hE4)
  have hE5 : (w4.setCell ⟨w1.heap.size, 2, none⟩ (.int .i64 (n2 : Int))).heap[w1.heap.size]? = some (.cells #[.int .i64 1, .int .i64 n1, .int .i64 (n2 : Int), .int .i64 0, .slice none 0 0, .slice none 0 0, .slice none 0 0, .string ⟨#[]⟩] 72) := set_of hE4 2 (.int .i64 (n2 : Int))
  have hZ5 := keep_set hZ4 (Nat.ne_of_lt hγz) 2 (.int .i64 (n2 : Int))
  obtain ⟨f0, f1, f2, f3, f4, f5, f6, f7⟩ := box8 hE5
  have hf3 := free_of hZ5
  obtain ⟨z0, z1, z2, z3, z4, z5, z6, z7⟩ := box8 hZ4
  have hU := set8r hZ5 (.int .i64 1) (.int .i64 n1) (.int .i64 (n2 : Int)) (.int .i64 0) (.slice none 0 0) (.slice none 0 0) (.slice none 0 0) (.string ⟨#[]⟩)
  obtain ⟨y0, y1, y2, y3, y4, y5, y6, y7⟩ := box8 hU
  have hO := (((ho1.alloc (pageK 1)).trans ho2).set (β := w1.heap.size) ho1.size 1 (.int .i64 n1)).trans ho4
  have hO2 := hO.set (β := w1.heap.size) ho1.size 2 (.int .i64 (n2 : Int))
  have hB := below8r (below_only hbb hO2 (by omega) (by rw [size_one]; omega)) (β := w.heap.size) (Nat.le_refl _) (.int .i64 1) (.int .i64 n1) (.int .i64 (n2 : Int)) (.int .i64 0) (.slice none 0 0) (.slice none 0 0) (.slice none 0 0) (.string ⟨#[]⟩)
  go_wp2
  refine bodyPost_ret (v := .agg #[.int .i64 1, .int .i64 n1, .int .i64 (n2 : Int), .int .i64 0, .slice none 0 0, .slice none 0 0, .slice none 0 0, .string ⟨#[]⟩]) ?_ rfl ⟨rfl, hB⟩
  simp [results, Tryz.results130, go_sem, y0, y1, y2, y3, y4, y5, y6, y7]
set_option maxRecDepth 100000 in
set_option maxHeartbeats 2000000 in
theorem read_over (s : ByteArray) (w : World) (hs : s.size = 256) (hk : (s.data.toList.getD 0 0).toNat = 4) :
    Calls Tryz.prog 130 #[.string s] w fun e w' => e = .returned (.agg #[.int .i64 4, .int .i64 0, .int .i64 0, .int .i64 (numV s.data.toList (posB s.data.toList 0 1) 2 : Nat), .slice none 0 0, .slice none 0 0, .slice none 0 0, .string ⟨(txtB s.data.toList (posB s.data.toList (posB s.data.toList 0 1) 2)).toArray⟩]) ∧ Below w.heap.size w w' := by
  obtain ⟨c, v, hcv, hvs, hrd, hzz, hbb⟩ := read_head s w hs
  obtain ⟨bs, hbs⟩ : ∃ bs, bs = s.data.toList := ⟨_, rfl⟩
  rw [← hbs] at hrd hk ⊢
  have hN := number_1 _ _ _ _ _ _ hrd
  obtain ⟨p, hp⟩ : ∃ p, p = posB bs 0 1 := ⟨_, rfl⟩
  rw [hk, ← hp] at hN
  rw [← hp]
  have hM := fun w2 (h2 : Rd w2 (w.heap.size + 1 + 1) (w.heap.size + 1) c bs p) => number_2 _ _ _ _ _ _ h2
  have hM2 := fun w2 (h2 : Rd w2 (w.heap.size + 1 + 1) (w.heap.size + 1) c bs (posB bs p 2)) => text_read _ _ _ _ _ _ h2
  obtain ⟨n1, hn1⟩ : ∃ n1, n1 = numV bs p 2 := ⟨_, rfl⟩
  obtain ⟨n2, hn2⟩ : ∃ n2, n2 = (⟨(txtB bs (posB bs p 2)).toArray⟩ : ByteArray) := ⟨_, rfl⟩
  rw [← hn1] at hM ⊢
  rw [← hn2] at hM2 ⊢
  clear hs hn1 hn2 hp hk hbs
  go_enter Tryz.func130, Tryz.ntmps130
  go_upto_region 4 with (go_at_call 142; refine hN.mono ?_; rintro e w1 ⟨rfl, hr1, ho1⟩)
  have hZ1 := keep_alloc (x := pageK 4) (ho1.keep (by omega) hzz)
  have hE1 := heap_new w1 (pageK 4)
  have hγ : w1.heap.size ≠ w.heap.size + 1 + 1 := Nat.ne_of_gt hr1.lt'
  have hγg : w1.heap.size ≠ w.heap.size + 1 := Nat.ne_of_gt hr1.lt
  have hγz : w.heap.size < w1.heap.size := by have := hr1.lt; omega
  go_upto_region 16 with (go_at_call 142; refine (hM _ (hr1.alloc _)).mono ?_; rintro e w2 ⟨rfl, hr2, ho2⟩; have hE2 := ho2.keep hγ hE1; have hZ2 := ho2.keep (by omega) hZ1; obtain ⟨c0, c1, c2, c3, c4, c5, c6, c7⟩ := box8 hE2; have hf1 := free_of hE2)
  have hE3 : (w2.setCell ⟨w1.heap.size, 3, none⟩ (.int .i64 (n1 : Int))).heap[w1.heap.size]? = some (.cells #[.int .i64 4, .int .i64 0, .int .i64 0, .int .i64 (n1 : Int), .slice none 0 0, .slice none 0 0, .slice none 0 0, .string ⟨#[]⟩] 72) := set_of hE2 3 (.int .i64 (n1 : Int))
  have hZ3 := keep_set hZ2 (Nat.ne_of_lt hγz) 3 (.int .i64 (n1 : Int))
  go_upto_region 17 with (go_at_call 145; refine (hM2 _ (hr2.set hγ hγg 3 _)).mono ?_; rintro e w4 ⟨rfl, hr4, ho4⟩; have hE4 := ho4.keep hγ hE3; have hZ4 := ho4.keep (by omega) hZ3; obtain ⟨d0, d1, d2, d3, d4, d5, d6, d7⟩ := box8 hE4; have hf2 := free_of hE4)
  have hE5 : (w4.setCell ⟨w1.heap.size, 7, none⟩ (.string n2)).heap[w1.heap.size]? = some (.cells #[.int .i64 4, .int .i64 0, .int .i64 0, .int .i64 (n1 : Int), .slice none 0 0, .slice none 0 0, .slice none 0 0, .string n2] 72) := set_of hE4 7 (.string n2)
  have hZ5 := keep_set hZ4 (Nat.ne_of_lt hγz) 7 (.string n2)
  obtain ⟨f0, f1, f2, f3, f4, f5, f6, f7⟩ := box8 hE5
  have hf3 := free_of hZ5
  obtain ⟨z0, z1, z2, z3, z4, z5, z6, z7⟩ := box8 hZ4
  have hU := set8r hZ5 (.int .i64 4) (.int .i64 0) (.int .i64 0) (.int .i64 (n1 : Int)) (.slice none 0 0) (.slice none 0 0) (.slice none 0 0) (.string n2)
  obtain ⟨y0, y1, y2, y3, y4, y5, y6, y7⟩ := box8 hU
  have hO := (((ho1.alloc (pageK 4)).trans ho2).set (β := w1.heap.size) ho1.size 3 (.int .i64 (n1 : Int))).trans ho4
  have hO2 := hO.set (β := w1.heap.size) ho1.size 7 (.string n2)
  have hB := below8r (below_only hbb hO2 (by omega) (by rw [size_one]; omega)) (β := w.heap.size) (Nat.le_refl _) (.int .i64 4) (.int .i64 0) (.int .i64 0) (.int .i64 (n1 : Int)) (.slice none 0 0) (.slice none 0 0) (.slice none 0 0) (.string n2)
  go_wp2
  refine bodyPost_ret (v := .agg #[.int .i64 4, .int .i64 0, .int .i64 0, .int .i64 (n1 : Int), .slice none 0 0, .slice none 0 0, .slice none 0 0, .string n2]) ?_ rfl ⟨rfl, hB⟩
  simp [results, Tryz.results130, go_sem, y0, y1, y2, y3, y4, y5, y6, y7]
end Go.Proofs.YtngpplmndpmgiaaGreat.Pages
namespace Go.Proofs.YtngpplmndpmgiaaGreat.Pages
open Go.RowKit
set_option linter.unusedSimpArgs false
set_option linter.unusedVariables false
set_option maxRecDepth 100000 in
set_option maxHeartbeats 400000 in
theorem read_none (s : ByteArray) (w : World) (hs : s.size = 256) (k : Nat) (hk : (s.data.toList.getD 0 0).toNat = k) (h1 : k ≠ 1) (h2 : k ≠ 2) (h3 : k ≠ 3) (h4 : k ≠ 4) :
    Calls Tryz.prog 130 #[.string s] w fun e w' => e = .returned (.agg #[.int .i64 k, .int .i64 0, .int .i64 0, .int .i64 0, .slice none 0 0, .slice none 0 0, .slice none 0 0, .string ⟨#[]⟩]) ∧ Below w.heap.size w w' := by
  obtain ⟨c, v, hcv, hvs, hrd, hzz, hbb⟩ := read_head s w hs
  obtain ⟨bs, hbs⟩ : ∃ bs, bs = s.data.toList := ⟨_, rfl⟩
  rw [← hbs] at hrd hk
  have hN := number_1 _ _ _ _ _ _ hrd
  rw [hk] at hN
  have e1 : ((k : Int) == 1) = false := by simp; omega
  have e2 : ((k : Int) == 2) = false := by simp; omega
  have e3 : ((k : Int) == 3) = false := by simp; omega
  have e4 : ((k : Int) == 4) = false := by simp; omega
  clear hs hk hbs h1 h2 h3 h4
  go_enter Tryz.func130, Tryz.ntmps130
  go_upto_region 4 with (go_at_call 142; refine hN.mono ?_; rintro e w1 ⟨rfl, hr1, ho1⟩)
  have hZ1 := keep_alloc (x := pageK k) (ho1.keep (by omega) hzz)
  have hE1 := heap_new w1 (pageK k)
  generalize hw2 : w1.alloc (pageK k) = w2 at *
  have hγz : w.heap.size < w1.heap.size := by have := hr1.lt; omega
  obtain ⟨f0, f1, f2, f3, f4, f5, f6, f7⟩ := box8 hE1
  have hf3 := free_of hZ1
  obtain ⟨z0, z1, z2, z3, z4, z5, z6, z7⟩ := box8 hZ1
  have hU := set8r hZ1 (.int .i64 k) (.int .i64 0) (.int .i64 0) (.int .i64 0) (.slice none 0 0) (.slice none 0 0) (.slice none 0 0) (.string ⟨#[]⟩)
  obtain ⟨y0, y1, y2, y3, y4, y5, y6, y7⟩ := box8 hU
  have hO2 := ho1.alloc (pageK k)
  rw [hw2] at hO2
  clear hw2
  have hB := below8r (below_only hbb hO2 (by omega) (by rw [size_one]; omega)) (β := w.heap.size) (Nat.le_refl _) (.int .i64 k) (.int .i64 0) (.int .i64 0) (.int .i64 0) (.slice none 0 0) (.slice none 0 0) (.slice none 0 0) (.string ⟨#[]⟩)
  go_wp2
  refine bodyPost_ret (v := .agg #[.int .i64 k, .int .i64 0, .int .i64 0, .int .i64 0, .slice none 0 0, .slice none 0 0, .slice none 0 0, .string ⟨#[]⟩]) ?_ rfl ⟨rfl, hB⟩
  simp [results, Tryz.results130, go_sem, y0, y1, y2, y3, y4, y5, y6, y7]
theorem own_set {w : World} {B : Nat} {e : TypeId} {v : Value} {n : Nat} {xs : List Value} {β : Nat} (h : w.ownsRow B e 1 v n xs) (hβ : β < B) (i : Nat) (u : Value) : (w.setCell ⟨β, i, none⟩ u).ownsRow B e 1 v n xs :=
  own_only h ((Only.refl β w).setCell i u) hβ
theorem own_set8 {w : World} {B : Nat} {e : TypeId} {v : Value} {n : Nat} {xs : List Value} {β : Nat} (h : w.ownsRow B e 1 v n xs) (hβ : β < B) (v0 v1 v2 v3 v4 v5 v6 v7 : Value) :
    ((((((((w.setCell ⟨β, 0, none⟩ v0).setCell ⟨β, 1, none⟩ v1).setCell ⟨β, 2, none⟩ v2).setCell ⟨β, 3, none⟩ v3).setCell ⟨β, 4, none⟩ v4).setCell ⟨β, 5, none⟩ v5).setCell ⟨β, 6, none⟩ v6).setCell ⟨β, 7, none⟩ v7).ownsRow B e 1 v n xs :=
  own_set (own_set (own_set (own_set (own_set (own_set (own_set (own_set h hβ 0 v0) hβ 1 v1) hβ 2 v2) hβ 3 v3) hβ 4 v4) hβ 5 v5) hβ 6 v6) hβ 7 v7
theorem own_slice {w : World} {B : Nat} {e : TypeId} {v : Value} {n : Nat} {xs : List Value} (h : w.ownsRow B e 1 v n xs) : ∃ a c, v = .slice a n c := by
  obtain ⟨hl, ⟨rfl, rfl⟩ | ⟨k, cap, row, hv, hk⟩⟩ := h
  · exact ⟨_, _, rfl⟩
  · exact ⟨_, _, hv⟩
set_option maxRecDepth 100000 in
set_option maxHeartbeats 1000000 in
theorem read_branch (s : ByteArray) (w : World) (hs : s.size = 256) (hk : (s.data.toList.getD 0 0).toNat = 2) (p : Nat) (hp : p = posB s.data.toList 0 1) (m : Nat) (hm : m = (s.data.toList.getD p 0).toNat) (P : Nat) (hP : P = posB s.data.toList (posB s.data.toList p 1) (2 * (m + 1))) :
    Calls Tryz.prog 130 #[.string s] w fun e w' => ∃ vk vi, e = .returned (.agg #[.int .i64 2, .int .i64 0, .int .i64 0, .int .i64 0, vk, vi, .slice none 0 0, .string ⟨#[]⟩]) ∧
      Keys w' w.heap.size vk (keysR s.data.toList P m) ∧ Ints w' w.heap.size vi (kidsR s.data.toList (posB s.data.toList p 1) (m + 1)) ∧ Below w.heap.size w w' := by
  obtain ⟨c, v, hcv, hvs, hrd, hzz, hbb⟩ := read_head s w hs
  obtain ⟨bs, hbs⟩ : ∃ bs, bs = s.data.toList := ⟨_, rfl⟩
  rw [← hbs] at hrd hk hm hp hP ⊢
  have hN := number_1 _ _ _ _ _ _ hrd
  rw [hk, ← hp] at hN
  have hM := fun w2 (h2 : Rd w2 (w.heap.size + 1 + 1) (w.heap.size + 1) c bs p) => branch_read _ _ _ _ _ _ h2
  rw [← hm, ← hP] at hM
  obtain ⟨ks, hks⟩ : ∃ ks, ks = keysR bs P m := ⟨_, rfl⟩
  obtain ⟨is, his⟩ : ∃ is, is = kidsR bs (posB bs p 1) (m + 1) := ⟨_, rfl⟩
  rw [← hks, ← his] at hM
  rw [← hks, ← his]
  clear hs hp hk hbs hm hP hks his
  go_enter Tryz.func130, Tryz.ntmps130
  go_upto_region 4 with (go_at_call 142; refine hN.mono ?_; rintro e w1 ⟨rfl, hr1, ho1⟩)
  have hZ1 := keep_alloc (x := pageK 2) (ho1.keep (by omega) hzz)
  have hE1 := heap_new w1 (pageK 2)
  have hz1 := size_one w1 (pageK 2)
  have hγ : w1.heap.size ≠ w.heap.size + 1 + 1 := Nat.ne_of_gt hr1.lt'
  have hγg : w1.heap.size ≠ w.heap.size + 1 := Nat.ne_of_gt hr1.lt
  have hγz : w.heap.size < w1.heap.size := by have := hr1.lt; omega
  have hM1 := hM _ (hr1.alloc (pageK 2))
  rw [hz1] at hM1
  clear hM
  go_upto_region 17 with (go_at_call 143; refine hM1.mono ?_; rintro e w2 ⟨vk, vi, rfl, hK2, hI2, hr2, ho2⟩; obtain ⟨ka, kc, rfl⟩ := own_slice hK2; obtain ⟨ia, ic, rfl⟩ := own_slice hI2; have hE2 := ho2.keep hγ hE1; have hZ2 := ho2.keep (by omega) hZ1; obtain ⟨c0, c1, c2, c3, c4, c5, c6, c7⟩ := box8 hE2; have hf1 := free_of hE2)
  have hE3 : (w2.setCell ⟨w1.heap.size, 4, none⟩ (.slice ka ks.length kc)).heap[w1.heap.size]? = some (.cells #[.int .i64 2, .int .i64 0, .int .i64 0, .int .i64 0, .slice ka ks.length kc, .slice none 0 0, .slice none 0 0, .string ⟨#[]⟩] 72) := set_of hE2 4 (.slice ka ks.length kc)
  have hZ3 := keep_set hZ2 (Nat.ne_of_lt hγz) 4 (.slice ka ks.length kc)
  have hE5 : ((w2.setCell ⟨w1.heap.size, 4, none⟩ (.slice ka ks.length kc)).setCell ⟨w1.heap.size, 5, none⟩ (.slice ia is.length ic)).heap[w1.heap.size]? = some (.cells #[.int .i64 2, .int .i64 0, .int .i64 0, .int .i64 0, .slice ka ks.length kc, .slice ia is.length ic, .slice none 0 0, .string ⟨#[]⟩] 72) := set_of hE3 5 (.slice ia is.length ic)
  have hZ5 := keep_set hZ3 (Nat.ne_of_lt hγz) 5 (.slice ia is.length ic)
  have hO2 := (((ho1.alloc (pageK 2)).trans ho2).set (β := w1.heap.size) ho1.size 4 (.slice ka ks.length kc)).set (β := w1.heap.size) ho1.size 5 (.slice ia is.length ic)
  have hK5 : Keys _ _ _ _ := own_set (own_set hK2 (Nat.lt_succ_self _) 4 (.slice ka ks.length kc)) (Nat.lt_succ_self _) 5 (.slice ia is.length ic)
  have hI5 : Ints _ _ _ _ := own_set (own_set hI2 (Nat.lt_succ_self _) 4 (.slice ka ks.length kc)) (Nat.lt_succ_self _) 5 (.slice ia is.length ic)
  generalize hw5 : (w2.setCell ⟨w1.heap.size, 4, none⟩ (.slice ka ks.length kc)).setCell ⟨w1.heap.size, 5, none⟩ (.slice ia is.length ic) = w5 at *
  clear hw5
  obtain ⟨f0, f1, f2, f3, f4, f5, f6, f7⟩ := box8 hE5
  have hf3 := free_of hZ5
  obtain ⟨z0, z1, z2, z3, z4, z5, z6, z7⟩ := box8 hZ5
  have hU := set8r hZ5 (.int .i64 2) (.int .i64 0) (.int .i64 0) (.int .i64 0) (.slice ka ks.length kc) (.slice ia is.length ic) (.slice none 0 0) (.string ⟨#[]⟩)
  obtain ⟨y0, y1, y2, y3, y4, y5, y6, y7⟩ := box8 hU
  have hB := below8r (below_only hbb hO2 (by omega) (by rw [size_one]; omega)) (β := w.heap.size) (Nat.le_refl _) (.int .i64 2) (.int .i64 0) (.int .i64 0) (.int .i64 0) (.slice ka ks.length kc) (.slice ia is.length ic) (.slice none 0 0) (.string ⟨#[]⟩)
  have hK6 := own_mono (own_set8 hK5 (Nat.lt_succ_of_lt hγz) (.int .i64 2) (.int .i64 0) (.int .i64 0) (.int .i64 0) (.slice ka ks.length kc) (.slice ia is.length ic) (.slice none 0 0) (.string ⟨#[]⟩)) (B' := w.heap.size) (by omega)
  have hI6 := own_mono (own_set8 hI5 (Nat.lt_succ_of_lt hγz) (.int .i64 2) (.int .i64 0) (.int .i64 0) (.int .i64 0) (.slice ka ks.length kc) (.slice ia is.length ic) (.slice none 0 0) (.string ⟨#[]⟩)) (B' := w.heap.size) (by omega)
  go_wp2
  refine bodyPost_ret (v := .agg #[.int .i64 2, .int .i64 0, .int .i64 0, .int .i64 0, .slice ka ks.length kc, .slice ia is.length ic, .slice none 0 0, .string ⟨#[]⟩]) ?_ rfl ⟨_, _, rfl, hK6, hI6, hB⟩
  simp [results, Tryz.results130, go_sem, y0, y1, y2, y3, y4, y5, y6, y7]
end Go.Proofs.YtngpplmndpmgiaaGreat.Pages
namespace Go.Proofs.YtngpplmndpmgiaaGreat.Pages
open Go.RowKit
set_option linter.unusedSimpArgs false
set_option linter.unusedVariables false
theorem infoEnt : (Tryz.prog.info? 102).map (fun i => (i.zero, i.size, i.bytes)) = some (some (.agg #[.string ⟨#[]⟩, .string ⟨#[]⟩, .int .i64 0, .int .i64 0]), 4, 48) := by kernel_rfl
def EntsR (w : World) (B : Nat) (v : Value) (es : List Ent) : Prop := w.ownsRow B 102 4 v es.length (es.flatMap Ent.cells)
theorem EntsR.nil (w : World) (B : Nat) : EntsR w B (.slice none 0 0) [] := World.ownsRow_nil _ _ _ _
theorem EntsR.alloc {w : World} {B : Nat} {v : Value} {es : List Ent} (h : EntsR w B v es) (o : Obj) : EntsR (w.alloc o) B v es := World.ownsRow.alloc (w := w) h o
theorem EntsR.only {w w' : World} {B : Nat} {v : Value} {es : List Ent} {ρ : Nat} (h : EntsR w B v es) (ho : Only ρ w w') (hρ : ρ < B) : EntsR w' B v es :=
  World.ownsRow.kept (row := some ρ) h ⟨ho.os, ho.tape, ho.output, ho.size, fun k hk hr => ho.block k hk (fun e => hr (by rw [e]))⟩ (by
    cases hv : v.ownBlock with
    | none => exact .inl rfl
    | some k => exact .inr (fun e => by have := (World.ownsRow.lt (w := w) h k hv).1; simp at e; omega))
theorem EntsR.set {w : World} {B : Nat} {v : Value} {es : List Ent} {β : Nat} (h : EntsR w B v es) (hβ : β < B) (i : Nat) (u : Value) : EntsR (w.setCell ⟨β, i, none⟩ u) B v es :=
  h.only ((Only.refl β w).setCell i u) hβ
theorem EntsR.mono {w : World} {B B' : Nat} {v : Value} {es : List Ent} (h : EntsR w B v es) (hb : B' ≤ B) : EntsR w B' v es := by
  obtain ⟨hl, hn | ⟨k, cap, row, hv, hk, hr⟩⟩ := h
  · exact ⟨hl, .inl hn⟩
  · exact ⟨hl, .inr ⟨k, cap, row, hv, by omega, hr⟩⟩
theorem EntsR.slice {w : World} {B : Nat} {v : Value} {es : List Ent} (h : EntsR w B v es) : ∃ a c, v = .slice a es.length c := by
  obtain ⟨hl, ⟨rfl, h0⟩ | ⟨k, cap, row, hv, hk⟩⟩ := h
  · rw [h0]; exact ⟨_, _, rfl⟩
  · exact ⟨_, _, hv⟩
theorem four_cells (w : World) (a0 a1 a2 a3 : Value) (t : TypeId) : ∀ j u, [a0, a1, a2, a3][j]? = some u → (w.alloc (.cells #[a0, a1, a2, a3] t)).cell? ((⟨w.heap.size, 0, none⟩ : Addr).add j) = some u := by
  intro j u hj
  have hlt : j < 4 := by have := (List.getElem?_eq_some_iff.1 hj).1; simpa using this
  have hn := heap_new w (.cells #[a0, a1, a2, a3] t)
  have e : (⟨w.heap.size, 0, none⟩ : Addr).add j = ⟨w.heap.size, j, none⟩ := by unfold Addr.add; split <;> simp_all
  rw [e]
  simp only [World.cell?, hn]
  have : j = 0 ∨ j = 1 ∨ j = 2 ∨ j = 3 := by omega
  rcases this with rfl | rfl | rfl | rfl <;> simpa using hj
theorem wp_append_ent {ops : Array Oper} {rest : List Oper} {o : Oper} {a : Act} {Q : Exit → Act → World → Prop} (w : World) (hgd : o.guard = none) (sl x : Operand)
    (ho : o.op = .call { callee := .builtin .append, args := #[sl, x], argTypes := #[70, 70] }) (B : Nat) (es : List Ent) (v : Value) (hs : a.eval sl = v) (hv : EntsR w B v es) (hB : B ≤ w.heap.size)
    (k : Ent) (hx : a.eval x = .slice (some ⟨w.heap.size, 0, none⟩) 1 1) (hl : es.length + 1 ≤ 4294967296)
    (h : ∀ v' w', EntsR w' B v' (es ++ [k]) → Below B w w' → wpList Tryz.prog ops Q rest (a.put o.dst v') w') :
    wpList Tryz.prog ops Q (o :: rest) a (w.alloc (.cells #[.string k.key, .string k.val, .int .i64 k.size, .int .i64 k.over] 102)) := by
  obtain ⟨i0, hi, hz0, hz1, hz2⟩ := info_parts infoEnt
  refine wpList_append_own _ hgd sl x 70 ho B 102 i0 (.agg #[.string ⟨#[]⟩, .string ⟨#[]⟩, .int .i64 0, .int .i64 0]) 4 48 Tryz.underlying70 hi hz0 hz1 hz2 rfl (by decide) v es.length (es.flatMap Ent.cells) hs (hv.alloc _) ⟨w.heap.size, 0, none⟩ 1 1 k.cells hx rfl (four_cells _ _ _ _ _ _) (by intro u hu; simp [Ent.cells] at hu; rcases hu with rfl | rfl | rfl | rfl <;> rfl) (by unfold maxLen; omega) (by omega) (by simp; omega) ?_
  intro v1 w1 ho1 hg1 _
  refine h v1 w1 ?_ (((Below.refl B w).alloc hB _).grown hg1 (by simp; omega) (fun k' hk' => (World.ownsRow.lt (w := w) hv k' hk').1))
  unfold EntsR
  rw [List.flatMap_append, List.length_append]
  have e : [k].flatMap Ent.cells = k.cells := by simp
  rw [e]
  exact ho1
def entPos (bs : List UInt8) (a : Nat) : Nat → Nat
  | 0 => a
  | j + 1 => entA bs (entPos bs a j)
def entsR (bs : List UInt8) (a n : Nat) : List Ent := (List.range n).map fun j => entR bs (entPos bs a j)
theorem entsR_succ (bs : List UInt8) (a n : Nat) : entsR bs a (n + 1) = entsR bs a n ++ [entR bs (entPos bs a n)] := by simp [entsR, List.range_succ]
end Go.Proofs.YtngpplmndpmgiaaGreat.Pages
namespace Go.Proofs.YtngpplmndpmgiaaGreat.Pages
open Go.RowKit
set_option linter.unusedSimpArgs false
set_option linter.unusedVariables false
abbrev pageE (ve : Value) : Obj := .cells #[.int .i64 3, .int .i64 0, .int .i64 0, .int .i64 0, .slice none 0 0, .slice none 0 0, ve, .string ⟨#[]⟩] 72
theorem Rd.drew {w : World} {ρ g c : Nat} {bs : List UInt8} {a : Nat} (h : Rd w ρ g c bs a) : Rd w.drew ρ g c bs a := ⟨h.box, h.bytes, h.ne, h.lt, h.le, h.len, h.cap⟩
theorem step_append_ent {ops : Array Oper} {o : Oper} {a : Act} {K : Act → World → Prop} {Q : Exit → Act → World → Prop} {F : Prop} (w : World) (hgd : o.guard = none) (sl x : Operand)
    (ho : o.op = .call { callee := .builtin .append, args := #[sl, x], argTypes := #[70, 70] }) (B : Nat) (es : List Ent) (v : Value) (hs : a.eval sl = v) (hv : EntsR w B v es) (hB : B ≤ w.heap.size)
    (k : Ent) (hx : a.eval x = .slice (some ⟨w.heap.size, 0, none⟩) 1 1) (hl : es.length + 1 ≤ 4294967296)
    (h : ∀ v' w', EntsR w' B v' (es ++ [k]) → Below B w w' → K (a.put o.dst v') w') :
    if Region.wanted o (yielded ops a.tmps) = true then Oper.wp Tryz.prog o a (w.alloc (.cells #[.string k.key, .string k.val, .int .i64 k.size, .int .i64 k.over] 102)) K Q else F := by
  have hw : Region.wanted o (yielded ops a.tmps) = true := by simp [Region.wanted, hgd]
  rw [if_pos hw]
  obtain ⟨i0, hi, hz0, hz1, hz2⟩ := info_parts infoEnt
  refine wp_append_own _ sl x 70 ho B 102 i0 (.agg #[.string ⟨#[]⟩, .string ⟨#[]⟩, .int .i64 0, .int .i64 0]) 4 48 Tryz.underlying70 hi hz0 hz1 hz2 rfl (by decide) v es.length (es.flatMap Ent.cells) hs (hv.alloc _) ⟨w.heap.size, 0, none⟩ 1 1 k.cells hx rfl (four_cells _ _ _ _ _ _) (by intro u hu; simp [Ent.cells] at hu; rcases hu with rfl | rfl | rfl | rfl <;> rfl) (by unfold maxLen; omega) (by omega) (by simp; omega) ?_
  intro v1 w1 ho1 hg1 _
  refine h v1 w1 ?_ (((Below.refl B w).alloc hB _).grown hg1 (by simp; omega) (fun k' hk' => (World.ownsRow.lt (w := w) hv k' hk').1))
  unfold EntsR
  rw [List.flatMap_append, List.length_append]
  have e : [k].flatMap Ent.cells = k.cells := by simp
  rw [e]
  exact ho1
set_option maxRecDepth 100000 in
set_option maxHeartbeats 1000000 in
theorem read_leaf (s : ByteArray) (w : World) (hs : s.size = 256) (hk : (s.data.toList.getD 0 0).toNat = 3) (p : Nat) (hp : p = posB s.data.toList 0 1) (m : Nat) (hm : m = (s.data.toList.getD p 0).toNat) (P : Nat) (hP : P = posB s.data.toList p 1) :
    Calls Tryz.prog 130 #[.string s] w fun e w' => ∃ ve, e = .returned (.agg #[.int .i64 3, .int .i64 0, .int .i64 0, .int .i64 0, .slice none 0 0, .slice none 0 0, ve, .string ⟨#[]⟩]) ∧
      EntsR w' w.heap.size ve (entsR s.data.toList P m) ∧ Below w.heap.size w w' := by
  obtain ⟨c, v, hcv, hvs, hrd, hzz, hbb⟩ := read_head s w hs
  obtain ⟨bs, hbs⟩ : ∃ bs, bs = s.data.toList := ⟨_, rfl⟩
  rw [← hbs] at hrd hk hm hp hP ⊢
  have hN := number_1 _ _ _ _ _ _ hrd
  rw [hk, ← hp] at hN
  have hM := fun w2 (h2 : Rd w2 (w.heap.size + 1 + 1) (w.heap.size + 1) c bs p) => number_1 _ _ _ _ _ _ h2
  rw [← hm, ← hP] at hM
  have hmt : m < 256 := by rw [hm]; exact (bs.getD p 0).toNat_lt
  clear hs hp hk hbs hm hP
  go_enter Tryz.func130, Tryz.ntmps130
  go_upto_region 4 with (go_at_call 142; refine hN.mono ?_; rintro e w1 ⟨rfl, hr1, ho1⟩)
  have hZ1 := ho1.keep (by omega) hzz
  have hE1 := heap_new w1 (pageK 3)
  have hz1 := size_one w1 (pageK 3)
  have hγ : w1.heap.size ≠ w.heap.size + 1 + 1 := Nat.ne_of_gt hr1.lt'
  have hγg : w1.heap.size ≠ w.heap.size + 1 := Nat.ne_of_gt hr1.lt
  have hγz : w.heap.size < w1.heap.size := by have := hr1.lt; omega
  have hγ' : w.heap.size + 1 + 1 < w1.heap.size := hr1.lt'
  have hM1 := hM _ (hr1.alloc (pageK 3))
  have ho0 := (Only.refl (w.heap.size + 1 + 1) w1).alloc (pageK 3)
  clear hM hN hcv
  go_wp2_with (go_at_call 142; refine hM1.mono ?_; rintro e w2 ⟨rfl, hr2, ho2⟩; have hE2 := ho2.keep hγ hE1; have hO2 := ho0.trans ho2)
  go_loopw [29] (fun i wr => ∃ (j : Nat) (ve : Value), j ≤ m ∧ i = .int .i64 j ∧ wr.heap[w1.heap.size]? = some (pageE ve) ∧ EntsR wr (w1.heap.size + 1) ve (entsR bs P j) ∧ Rd wr (w.heap.size + 1 + 1) (w.heap.size + 1) c bs (entPos bs P j) ∧ Only (w.heap.size + 1 + 1) w1 wr) (fun i _ => m - (intOf i).toNat)
  case atStart => exact ⟨0, .slice none 0 0, Nat.zero_le _, rfl, hE2, EntsR.nil _ _, hr2, hO2⟩
  case round =>
    clear hr2 hE2 hO2 ho2 hM1 ho0 hE1
    obtain ⟨j, ve, hj, rfl, hE, hes, hr, ho⟩ := hrel
    obtain ⟨ea, ec, rfl⟩ := hes.slice
    obtain ⟨c0, c1, c2, c3, c4, c5, c6, c7⟩ := box8 hE
    have hf1 := free_of hE
    by_cases hlt : j < m
    · have hX := fun u (hu : Rd u (w.heap.size + 1 + 1) (w.heap.size + 1) c bs (entPos bs P j)) => entry_read _ _ _ _ _ _ hu
      have hen := entsR_succ bs P j
      have hlen : (entsR bs P j).length = j := by simp [entsR]
      have hpos : entA bs (entPos bs P j) = entPos bs P (j + 1) := rfl
      rw [hpos] at hX
      obtain ⟨E, hEE⟩ : ∃ E, E = entR bs (entPos bs P j) := ⟨_, rfl⟩
      rw [← hEE] at hX hen
      have HK : Hid (entsR bs P (j + 1) = entsR bs P j ++ [E]) := hen
      clear hen hEE hpos
      have lk : (entsR bs P j).length + 1 ≤ 4294967296 := by omega
      have hsz : w1.heap.size + 1 ≤ wr.heap.size := (Array.getElem?_eq_some_iff.1 hE).1
      clear hlen
      go_wp2_with (fail)
      go_region_law (first | (go_simp; go_at_call 144; refine (hX _ (by first | exact hr | exact hr.drew | exact hr.drew.drew | exact hr.drew.drew.drew)).mono ?_; rintro e w3 ⟨rfl, hr3, ho3⟩; have ho3' : Only (w.heap.size + 1 + 1) wr w3 := ⟨ho3.os, ho3.tape, ho3.output, ho3.size, ho3.block⟩; have hE3 : w3.heap[w1.heap.size]? = some (pageE (.slice ea (entsR bs P j).length ec)) := ho3'.keep hγ hE; obtain ⟨d0, d1, d2, d3, d4, d5, d6, d7⟩ := box8 hE3; have hf3 := free_of hE3; have hq6 := (box8 (keep_alloc (x := .cells #[.string E.key, .string E.val, .int .i64 E.size, .int .i64 E.over] 102) hE3)).2.2.2.2.2.2.1; have hes3 : EntsR w3 (w1.heap.size + 1) (.slice ea (entsR bs P j).length ec) (entsR bs P j) := hes.only ho3' (by omega); have hs3 : w1.heap.size + 1 ≤ w3.heap.size := Nat.le_trans hsz ho3'.size) | (refine step_append_ent w3 rfl (.tmp 32) (.tmp 34) rfl (w1.heap.size + 1) (entsR bs P j) (.slice ea (entsR bs P j).length ec) (by simp [Act.eval, Act.put]) hes3 hs3 E (by simp [Act.eval, Act.put]) lk ?_; intro v4 w4 hes4 hb4; obtain ⟨ea4, ec4, rfl⟩ := hes4.slice; have hE4 := (hb4.block w1.heap.size (Nat.lt_succ_self _)).trans hE3; obtain ⟨g0, g1, g2, g3, g4, g5, g6, g7⟩ := box8 hE4; have hf4 := free_of hE4))
      all_goals go_wp2
      all_goals go_roundw
      all_goals first
        | (exact (by simp [intOf]; omega))
        | (refine ⟨j + 1, .slice ea4 (entsR bs P j ++ [E]).length ec4, by omega, by go_num, ?_, by rw [HK.out]; exact hes4.set (Nat.lt_succ_self _) 6 _, (hr3.below hb4 (by omega) (by omega)).set hγ hγg 6 _, ((ho.trans ho3').below hb4 (Nat.le_succ _)).set (Nat.le_refl _) 6 _⟩; have h5 := set_of hE4 6 (.slice ea4 (entsR bs P j ++ [E]).length ec4); simpa using h5)
        | (repeat apply Exists.intro
           exact ⟨⟨j + 1, .slice ea4 (entsR bs P j ++ [E]).length ec4, by omega, by go_num, set_of hE4 6 (.slice ea4 (entsR bs P j ++ [E]).length ec4), by rw [HK.out]; exact hes4.set (Nat.lt_succ_self _) 6 _, (hr3.below hb4 (by omega) (by omega)).set hγ hγg 6 _, ((ho.trans ho3').below hb4 (Nat.le_succ _)).set (Nat.le_refl _) 6 _⟩, rfl⟩)
    · obtain rfl : j = m := by omega
      have hZ := ho.keep (by omega) hZ1
      obtain ⟨z0, z1, z2, z3, z4, z5, z6, z7⟩ := box8 hZ
      have hf3 := free_of hZ
      have hU := set8r hZ (.int .i64 3) (.int .i64 0) (.int .i64 0) (.int .i64 0) (.slice none 0 0) (.slice none 0 0) (.slice ea (entsR bs P j).length ec) (.string ⟨#[]⟩)
      obtain ⟨y0, y1, y2, y3, y4, y5, y6, y7⟩ := box8 hU
      have hB := below8r (below_only hbb (ho1.trans ho) (by omega) (by rw [size_one]; omega)) (β := w.heap.size) (Nat.le_refl _) (.int .i64 3) (.int .i64 0) (.int .i64 0) (.int .i64 0) (.slice none 0 0) (.slice none 0 0) (.slice ea (entsR bs P j).length ec) (.string ⟨#[]⟩)
      have hlz : w.heap.size < w1.heap.size + 1 := by omega
      have hes6 := (((((((((hes.set hlz 0 (.int .i64 3)).set hlz 1 (.int .i64 0)).set hlz 2 (.int .i64 0)).set hlz 3 (.int .i64 0)).set hlz 4 (.slice none 0 0)).set hlz 5 (.slice none 0 0)).set hlz 6 (.slice ea (entsR bs P j).length ec)).set hlz 7 (.string ⟨#[]⟩)).mono (B' := w.heap.size) (by omega))
      clear hrd hbb ho1
      go_wp2
      refine bodyPost_ret (v := .agg #[.int .i64 3, .int .i64 0, .int .i64 0, .int .i64 0, .slice none 0 0, .slice none 0 0, .slice ea (entsR bs P j).length ec, .string ⟨#[]⟩]) ?_ rfl ⟨_, rfl, hes6, hB⟩
      simp [results, Tryz.results130, go_sem, y0, y1, y2, y3, y4, y5, y6, y7]
end Go.Proofs.YtngpplmndpmgiaaGreat.Pages
namespace Go.Proofs.YtngpplmndpmgiaaGreat.Pages
open Go.RowKit
set_option linter.unusedSimpArgs false
set_option linter.unusedVariables false
structure Pg where
  kind : Int
  ver : Int
  root : Int
  next : Int
  keys : List ByteArray
  kids : List Int
  ents : List Ent
  data : ByteArray
def readK (bs : List UInt8) (k : Nat) : Pg :=
  if k = 1 then ⟨1, wrap64 (numV bs (posB bs 0 1) 8), (numV bs (posB bs (posB bs 0 1) 8) 2 : Nat), 0, [], [], [], ⟨#[]⟩⟩
  else if k = 2 then ⟨2, 0, 0, 0, keysR bs (posB bs (posB bs (posB bs 0 1) 1) (2 * ((bs.getD (posB bs 0 1) 0).toNat + 1))) (bs.getD (posB bs 0 1) 0).toNat, kidsR bs (posB bs (posB bs 0 1) 1) ((bs.getD (posB bs 0 1) 0).toNat + 1), [], ⟨#[]⟩⟩
  else if k = 3 then ⟨3, 0, 0, 0, [], [], entsR bs (posB bs (posB bs 0 1) 1) (bs.getD (posB bs 0 1) 0).toNat, ⟨#[]⟩⟩
  else if k = 4 then ⟨4, 0, 0, (numV bs (posB bs 0 1) 2 : Nat), [], [], [], ⟨(txtB bs (posB bs (posB bs 0 1) 2)).toArray⟩⟩
  else ⟨(k : Nat), 0, 0, 0, [], [], [], ⟨#[]⟩⟩
def readP (bs : List UInt8) : Pg := readK bs (bs.getD 0 0).toNat
def PgAt (w : World) (B : Nat) (g : Pg) (v : Value) : Prop :=
  ∃ vk vi ve, v = .agg #[.int .i64 g.kind, .int .i64 g.ver, .int .i64 g.root, .int .i64 g.next, vk, vi, ve, .string g.data] ∧ Keys w B vk g.keys ∧ Ints w B vi g.kids ∧ EntsR w B ve g.ents
theorem read_any (s : ByteArray) (w : World) (hs : s.size = 256) :
    Calls Tryz.prog 130 #[.string s] w fun e w' => ∃ v, e = .returned v ∧ PgAt w' w.heap.size (readP s.data.toList) v ∧ Below w.heap.size w w' := by
  obtain ⟨k, hk⟩ : ∃ k, (s.data.toList.getD 0 0).toNat = k := ⟨_, rfl⟩
  unfold readP
  rw [hk]
  by_cases h1 : k = 1
  · subst h1
    rw [show readK s.data.toList 1 = _ from if_pos rfl]
    exact (read_meta s w hs hk).mono fun x w' ⟨he, hb⟩ => ⟨_, he, ⟨_, _, _, rfl, Keys.nil _ _, Ints.nil _ _, EntsR.nil _ _⟩, hb⟩
  by_cases h2 : k = 2
  · subst h2
    rw [show readK s.data.toList 2 = _ from (if_neg (by omega)).trans (if_pos rfl)]
    exact (read_branch s w hs hk _ rfl _ rfl _ rfl).mono fun x w' ⟨vk, vi, he, hK, hI, hb⟩ => ⟨_, he, ⟨_, _, _, rfl, hK, hI, EntsR.nil _ _⟩, hb⟩
  by_cases h3 : k = 3
  · subst h3
    rw [show readK s.data.toList 3 = _ from (if_neg (by omega)).trans ((if_neg (by omega)).trans (if_pos rfl))]
    exact (read_leaf s w hs hk _ rfl _ rfl _ rfl).mono fun x w' ⟨ve, he, hE, hb⟩ => ⟨_, he, ⟨_, _, _, rfl, Keys.nil _ _, Ints.nil _ _, hE⟩, hb⟩
  by_cases h4 : k = 4
  · subst h4
    rw [show readK s.data.toList 4 = _ from (if_neg (by omega)).trans ((if_neg (by omega)).trans ((if_neg (by omega)).trans (if_pos rfl)))]
    exact (read_over s w hs hk).mono fun x w' ⟨he, hb⟩ => ⟨_, he, ⟨_, _, _, rfl, Keys.nil _ _, Ints.nil _ _, EntsR.nil _ _⟩, hb⟩
  rw [show readK s.data.toList k = _ from (if_neg h1).trans ((if_neg h2).trans ((if_neg h3).trans (if_neg h4)))]
  exact (read_none s w hs k hk h1 h2 h3 h4).mono fun x w' ⟨he, hb⟩ => ⟨_, he, ⟨_, _, _, rfl, Keys.nil _ _, Ints.nil _ _, EntsR.nil _ _⟩, hb⟩
theorem own_row {w : World} {B : Nat} {e : TypeId} {z : Nat} {v : Value} {n : Nat} {xs : List Value} (h : w.ownsRow B e z v n xs) : ∃ a c, v = .slice a n c ∧ RowAt w w.heap.size a xs := by
  have hc := fun g hg => World.ownsRow.cells (w := w) h (g := g) hg
  have hlt := World.ownsRow.lt (w := w) h
  obtain ⟨hl, h2⟩ := id h
  rcases h2 with ⟨rfl, rfl⟩ | ⟨g, cap, cur, rfl, _⟩
  · exact ⟨none, 0, rfl, .inl (List.eq_nil_of_length_eq_zero (by simpa using hl))⟩
  · refine ⟨_, _, rfl, .inr ⟨g, 0, rfl, (hlt g rfl).2, fun i u hu => ?_⟩⟩
    have := hc g rfl i u hu
    have e : (⟨g, 0, none⟩ : Addr).add i = ⟨g, 0 + i, none⟩ := by unfold Addr.add; split <;> simp_all
    rw [e] at this
    exact this
end Go.Proofs.YtngpplmndpmgiaaGreat.Pages
namespace Go.Proofs.YtngpplmndpmgiaaGreat.Tree
open Go.RowKit Go.Proofs.YtngpplmndpmgiaaGreat.Pages
set_option linter.unusedSimpArgs false
set_option linter.unusedVariables false
def zerosB (n : Nat) : ByteArray := ⟨(List.replicate n (0 : UInt8)).toArray⟩
theorem zerosB_size (n : Nat) : (zerosB n).size = n := by show (List.replicate n (0 : UInt8)).toArray.size = n; simp
theorem made_zeros (n : Nat) : (madeCells (Value.int .u8 0).cells (n * 1)).toList = (List.replicate n (0 : UInt8)).map byteV := by
  apply List.ext_getElem
  · simp [madeCells]
  · intro i h1 h2
    simp [madeCells, Value.cells, byteV, Nat.mod_one]
theorem zeros_any (n : Nat) (w : World) (hn : n ≤ 100000) :
    Calls Tryz.prog 47 #[.int .i64 n] w fun e w' => e = .returned (.string (zerosB n)) ∧ Below w.heap.size w w' := by
  obtain ⟨i0, hi, hz0, hz1, hz2⟩ := info_parts info8
  obtain ⟨w1, hm, hown, hg⟩ := run_makeSlice_full (P := Tryz.prog) w 0 115 5 i0 (.int .u8 0) 1 Tryz.underlying115 hi hz0 hz1 .i64 .i64 n (by omega) (by rw [hz2]; omega) (by unfold maxLen; omega) (Nat.zero_le _)
  rw [made_zeros] at hown
  have hb : Buf w1 0 (.slice (some ⟨w.heap.size, 0, none⟩) n n) (List.replicate n 0) := by
    unfold Buf; simpa using hown
  have hcv := Buf.string hb
  have HB : Hid (Below w.heap.size w w1) := ⟨hg.os, hg.tape, hg.output, hg.size, fun k hk => hg.block k hk (by simp)⟩
  clear hb hown hg
  go_enter Tryz.func47, Tryz.ntmps47
  go_wp2
  go_ret
  exact ⟨rfl, HB.out⟩
def Fs.chOk (fs : Fs) : Bool := !(fs.life == 0) && !(fs.wait == 0)
def Fs.ch (fs : Fs) : Fs :=
  if fs.chOk then { fs with wait := if 0 < fs.wait then fs.wait - 1 else fs.wait, life := if 0 < fs.life then fs.life - 1 else fs.life }
  else { fs with failed := wrap64 (fs.failed + 1), wait := if fs.life == 0 then fs.wait else -1 }
theorem Fs.ch_safe (fs : Fs) : fs.ch.safe = fs.safe := by unfold Fs.ch; split <;> rfl
theorem Fs.ch_late (fs : Fs) : fs.ch.late = fs.late := by unfold Fs.ch; split <;> rfl
theorem FileAt.rebox {w w' : World} {β : Nat} {sv lv : Value} {fs fs' : Fs} (h : FileAt w β sv lv fs) (f : Fr (Bl.one β) w w') (e1 : fs'.safe = fs.safe) (e2 : fs'.late = fs.late)
    (hb : w'.heap[β]? = some (.cells #[sv, lv, .int .i64 fs'.wait, .int .i64 fs'.life, .int .i64 fs'.failed] 60)) : FileAt w' β sv lv fs' := by
  refine ⟨hb, ?_, ?_, by rw [e1]; exact h.small, by rw [e2]; exact h.few⟩
  · rw [e1]
    exact own_on h.safe (f.on (Z := fun k => sv.ownBlock = some k) (fun k hk => ⟨own_lt h.safe hk, fun e => by simp only [Bl.one] at e; subst e; exact own_ne h.safe h.box (by decide) hk⟩)) (fun k hk => hk)
  · rw [e2]
    exact own_on h.late (f.on (Z := fun k => lv.ownBlock = some k) (fun k hk => ⟨own_lt h.late hk, fun e => by simp only [Bl.one] at e; subst e; exact own_ne h.late h.box (by decide) hk⟩)) (fun k hk => hk)
set_option maxHeartbeats 1000000 in
theorem changes_any (β : Nat) (sv lv : Value) (fs : Fs) (w : World) (h : FileAt w β sv lv fs) (hw0 : -1 ≤ fs.wait) (hw1 : fs.wait ≤ 9223372036854775807) (hl0 : -1 ≤ fs.life) (hl1 : fs.life ≤ 9223372036854775807) :
    Calls Tryz.prog 73 #[.pointer (some ⟨β, 0, none⟩)] w fun e w' => e = .returned (.bool fs.chOk) ∧ FileAt w' β sv lv fs.ch ∧ Fr (Bl.one β) w w' := by
  obtain ⟨c0, c1, c2, c3, c4⟩ := box5 h.box
  have hfr := free_of h.box
  have fin : ∀ w', Fr (Bl.one β) w w' → w'.heap[β]? = some (.cells #[sv, lv, .int .i64 fs.ch.wait, .int .i64 fs.ch.life, .int .i64 fs.ch.failed] 60) → FileAt w' β sv lv fs.ch ∧ Fr (Bl.one β) w w' :=
    fun w' f hb => ⟨h.rebox f fs.ch_safe fs.ch_late hb, f⟩
  have r0 := Fr.refl (Bl.one β) w
  have s1 : ∀ (u : World) (i : Nat) (x : Value), Fr (Bl.one β) w u → Fr (Bl.one β) w (u.setCell ⟨β, i, none⟩ x) := fun u i x f => f.setCell (p := ⟨β, i, none⟩) (.inl rfl) x
  by_cases hl : fs.life = 0
  · have HO : Hid (fs.chOk = false) := by show _ = _; simp [Fs.chOk, hl]
    have HC : Hid (fs.ch = { fs with failed := wrap64 (fs.failed + 1) }) := by show _ = _; simp [Fs.ch, HO.out, hl]
    have b1 := set_of h.box 4 (.int .i64 (wrap64 (fs.failed + 1)))
    obtain ⟨d0, d1, d2, d3, d4⟩ := box5 (w := w.setCell ⟨β, 4, none⟩ (.int .i64 (wrap64 (fs.failed + 1)))) (by simpa using b1)
    rw [hl] at c3 d3
    go_enter Tryz.func73, Tryz.ntmps73
    go_wp2
    go_ret
    refine ⟨ret_bool HO.out.symm, fin _ (s1 _ _ _ r0) ?_⟩
    rw [HC.out]; simpa [hl] using b1
  · by_cases hw : fs.wait = 0
    · have HO : Hid (fs.chOk = false) := by show _ = _; simp [Fs.chOk, hw]
      have hlb : (fs.life == 0) = false := by simpa using hl
      have hwb : (fs.wait == 0) = true := by simpa using hw
      have HC : Hid (fs.ch = { fs with failed := wrap64 (fs.failed + 1), wait := -1 }) := by show _ = _; simp [Fs.ch, HO.out, hl]
      have b1 := set_of h.box 4 (.int .i64 (wrap64 (fs.failed + 1)))
      obtain ⟨d0, d1, d2, d3, d4⟩ := box5 (w := w.setCell ⟨β, 4, none⟩ (.int .i64 (wrap64 (fs.failed + 1)))) (by simpa using b1)
      have dfr := free_of b1
      have b2 := set_of b1 2 (.int .i64 (-1))
      go_enter Tryz.func73, Tryz.ntmps73
      go_wp2
      go_ret
      refine ⟨ret_bool HO.out.symm, fin _ (s1 _ _ _ (s1 _ _ _ r0)) ?_⟩
      rw [HC.out]; simpa using b2
    · have HO : Hid (fs.chOk = true) := by show _ = _; simp [Fs.chOk, hl, hw]
      have hlb : (fs.life == 0) = false := by simpa using hl
      have hwb : (fs.wait == 0) = false := by simpa using hw
      by_cases hw2 : 0 < fs.wait
      · have b1 := set_of h.box 2 (.int .i64 (fs.wait - 1))
        obtain ⟨d0, d1, d2, d3, d4⟩ := box5 (w := w.setCell ⟨β, 2, none⟩ (.int .i64 (fs.wait - 1))) (by simpa using b1)
        have dfr := free_of b1
        by_cases hl2 : 0 < fs.life
        · have HC : Hid (fs.ch = { fs with wait := fs.wait - 1, life := fs.life - 1 }) := by show _ = _; simp [Fs.ch, HO.out, hw2, hl2]
          have b2 := set_of b1 3 (.int .i64 (fs.life - 1))
          go_enter Tryz.func73, Tryz.ntmps73
          go_wp2
          go_ret
          refine ⟨ret_bool HO.out.symm, fin _ (s1 _ _ _ (s1 _ _ _ r0)) ?_⟩
          rw [HC.out]; simpa using b2
        · have HC : Hid (fs.ch = { fs with wait := fs.wait - 1 }) := by show _ = _; simp [Fs.ch, HO.out, hw2, hl2]
          go_enter Tryz.func73, Tryz.ntmps73
          go_wp2
          go_ret
          refine ⟨ret_bool HO.out.symm, fin _ (s1 _ _ _ r0) ?_⟩
          rw [HC.out]; simpa using b1
      · by_cases hl2 : 0 < fs.life
        · have HC : Hid (fs.ch = { fs with life := fs.life - 1 }) := by show _ = _; simp [Fs.ch, HO.out, hw2, hl2]
          have b2 := set_of h.box 3 (.int .i64 (fs.life - 1))
          go_enter Tryz.func73, Tryz.ntmps73
          go_wp2
          go_ret
          refine ⟨ret_bool HO.out.symm, fin _ (s1 _ _ _ r0) ?_⟩
          rw [HC.out]; simpa using b2
        · have HC : Hid (fs.ch = fs) := by show _ = _; simp [Fs.ch, HO.out, hw2, hl2]
          go_enter Tryz.func73, Tryz.ntmps73
          go_wp2
          go_ret
          refine ⟨ret_bool HO.out.symm, fin _ r0 ?_⟩
          rw [HC.out]; exact h.box
end Go.Proofs.YtngpplmndpmgiaaGreat.Tree
namespace Go.Proofs.YtngpplmndpmgiaaGreat.Tree
open Go.RowKit Go.Proofs.YtngpplmndpmgiaaGreat.Pages
set_option linter.unusedSimpArgs false
set_option linter.unusedVariables false
theorem infoWrite : (Tryz.prog.info? 62).map (fun i => (i.zero, i.size, i.bytes)) = some (some (.agg #[.int .i64 0, .string ⟨#[]⟩]), 2, 24) := by kernel_rfl
theorem extract_all {s : ByteArray} {n : Nat} (h : s.size ≤ n) : s.extract 0 n = s := by
  apply ByteArray.ext
  rw [ByteArray.data_extract]
  exact Array.extract_eq_self_of_le h
theorem append_nilB (s : ByteArray) : s ++ zerosB 0 = s := by
  apply ByteArray.ext
  simp [zerosB, ByteArray.data_append]
def Fs.put (fs : Fs) (p : Nat) (data : ByteArray) : Fs := { fs with late := fs.late ++ [(p, data)] }
theorem heap_keep {w : World} {k : Nat} {o : Obj} (x : Obj) (h : w.heap[k]? = some o) : (w.alloc x).heap[k]? = some o := (Below.heap_alloc w x k (Array.getElem?_eq_some_iff.1 h).1).trans h
theorem FileAt.wrote {w2 w3 : World} {β p : Nat} {sv lv lv' : Value} {fs : Fs} {data : ByteArray} (h2 : FileAt w2 β sv lv fs) (A : AppR 62 2 lv fs.late.length (fs.late.flatMap wcells) [.int .i64 p, .string data] 1 w2 lv' w3) (hroom : fs.late.length < 1000000) :
    FileAt (w3.setCell ⟨β, 1, none⟩ lv') β sv lv' (fs.put p data) ∧ Fr (fpF β sv lv) w2 (w3.setCell ⟨β, 1, none⟩ lv') ∧ Grows w2 (fpF β sv lv) (fpF β sv lv') := by
  have b3 := A.fr.heap h2.box (own_ne h2.late h2.box (by decide))
  have b4 := set_of b3 1 lv'
  have f3 : Fr (fpF β sv lv) w2 w3 := A.fr.mono (fun k hk => .inl (.inr (.inr hk)))
  have hs3 := A.keeps h2.safe (own_ne2 h2.safe h2.late (by decide))
  have nb : ∀ {e : TypeId} {z n : Nat} {v : Value} {xs : List Value}, w3.ownsRow 0 e z v n xs → 60 ≠ e → (w3.setCell ⟨β, 1, none⟩ lv').ownsRow 0 e z v n xs := fun ho hne =>
    own_on ho ((On.refl (fun k => _ = some k) w3).setCell (p := ⟨β, 1, none⟩) (fun hk => own_ne ho b3 hne hk) lv') (fun k hk => hk)
  refine ⟨⟨by simpa [Fs.put] using b4, nb hs3 (by decide), ?_, h2.small, by simp [Fs.put]; omega⟩, f3.setCell (p := ⟨β, 1, none⟩) (.inl (.inl rfl)) _, ?_⟩
  · have e : (fs.put p data).late.flatMap wcells = fs.late.flatMap wcells ++ [.int .i64 p, .string data] := by simp [Fs.put, wcells]
    have e2 : (fs.put p data).late.length = fs.late.length + 1 := by simp [Fs.put]
    rw [e, e2]
    exact nb A.row (by decide)
  · rintro k (hk | hk | hk)
    · exact .inl (.inl hk)
    · exact .inl (.inr (.inl hk))
    · exact (A.lies k hk).imp (fun h => .inr (.inr h)) id
set_option maxHeartbeats 1000000 in
theorem write_any (β : Nat) (sv lv : Value) (fs : Fs) (p : Nat) (data : ByteArray) (w : World) (h : FileAt w β sv lv fs) (hw0 : -1 ≤ fs.wait) (hw1 : fs.wait ≤ 9223372036854775807) (hl0 : -1 ≤ fs.life) (hl1 : fs.life ≤ 9223372036854775807)
    (hd : data.size = 256) (hp : p < fs.safe.length) (hroom : fs.late.length < 1000000) :
    Calls Tryz.prog 78 #[.pointer (some ⟨β, 0, none⟩), .int .i64 p, .string data] w fun e w' => e = .returned (.bool fs.chOk) ∧
      ∃ lv', FileAt w' β sv lv' (if fs.chOk then fs.ch.put p data else fs.ch) ∧ Fr (fpF β sv lv) w w' ∧ Grows w (fpF β sv lv) (fpF β sv lv') := by
  have hC := changes_any β sv lv fs w h hw0 hw1 hl0 hl1
  have hpi : (p : Int) < (fs.safe.length : Int) := by omega
  obtain ⟨a, c, rfl⟩ := own_shape h.safe
  cases hok : fs.chOk
  · rw [hok] at hC
    go_enter Tryz.func78, Tryz.ntmps78
    go_wp2_with (go_at_call 73; refine hC.mono ?_; rintro e w1 ⟨rfl, h1, f1⟩)
    go_ret
    exact ⟨rfl, lv, h1, f1.mono (fun k hk => .inl (.inl hk)), Grows.refl _ _⟩
  · rw [hok] at hC
    have hx := extract_all (s := data) (n := 256) (by omega)
    go_enter Tryz.func78, Tryz.ntmps78
    go_wp2_with (go_at_call 73; refine hC.mono ?_; rintro e w1 ⟨rfl, h1, f1⟩; obtain ⟨c0, c1, c2, c3, c4⟩ := box5 h1.box; have hs1 : fs.ch.safe.length = fs.safe.length := by rw [Fs.ch_safe])
    have hz0 : (zerosB 0).size = 0 := zerosB_size 0
    have hza : data ++ zerosB 0 = data := append_nilB data
    go_region_law (first
      | (go_simp; go_at_call 47; refine (zeros_any 0 _ (by omega)).mono ?_; rintro e w2 ⟨rfl, hb2⟩; have f2 : Fr Bl.none w1 w2 := (Fr.refl _ _).drew.trans (Fr.of_below hb2); have h2 := h1.on (f2.on (fun k hk => ⟨h1.lies k hk, fun h => h⟩)); obtain ⟨e0, e1, e2, e3, e4⟩ := box5 h2.box; have q1 := (box5 (heap_keep (.cells #[.int .i64 p, .string data] 62) h2.box)).2.1)
      | (refine step_app1 w2 rfl (.tmp 35) (.tmp 44) 58 62 _ 2 24 rfl Tryz.underlying58 infoWrite rfl (by decide) lv fs.ch.late.length (fs.ch.late.flatMap wcells) (by simp [Act.eval, Act.put]) h2.late [.int .i64 p, .string data] (by simp [Act.eval, Act.put]) rfl (by simp [Value.oneCell']) (by rw [Fs.ch_late]; omega) (by rw [Fs.ch_late]; omega) ?_; intro v3 w3 A3; obtain ⟨g3, k3, rfl⟩ := A3.shape (by decide); have b3 := A3.fr.heap h2.box (own_ne h2.late h2.box (by decide)); obtain ⟨m0, m1, m2, m3, m4⟩ := box5 b3; have mfr := free_of b3))
    all_goals go_wp2
    all_goals go_ret
    all_goals
      obtain ⟨r1, r2, r3⟩ := h2.wrote A3 (by rw [Fs.ch_late]; exact hroom)
      have F12 : Fr (fpF β (.slice a fs.safe.length c) lv) w w2 := (f1.mono (fun k hk => .inl (.inl hk))).trans (f2.mono (fun k hk => hk.elim))
      exact ⟨rfl, _, by simpa using r1, F12.trans r2, Grows.trans (Grows.refl w _) F12.size r3⟩
end Go.Proofs.YtngpplmndpmgiaaGreat.Tree
namespace Go.Proofs.YtngpplmndpmgiaaGreat.Tree
open Go.RowKit Go.Proofs.YtngpplmndpmgiaaGreat.Pages
set_option linter.unusedSimpArgs false
set_option linter.unusedVariables false
def laid (safe : List ByteArray) (late : List (Nat × ByteArray)) : List ByteArray := late.foldl (fun s x => s.set x.1 x.2) safe
theorem laid_length : ∀ (late : List (Nat × ByteArray)) (safe : List ByteArray), (laid safe late).length = safe.length
  | [], _ => rfl
  | x :: late, safe => by
    show (laid (safe.set x.1 x.2) late).length = _
    rw [laid_length late]; simp
theorem laid_snoc (safe : List ByteArray) (late : List (Nat × ByteArray)) (x : Nat × ByteArray) : laid safe (late ++ [x]) = (laid safe late).set x.1 x.2 := by simp [laid]
def Fs.synced (fs : Fs) : Fs := { fs with safe := laid fs.safe fs.late, late := [] }
def Fs.fits (fs : Fs) : Prop := ∀ x ∈ fs.late, x.1 < fs.safe.length
theorem On.drew {Y : Bl} {a w : World} (h : On Y a w) : On Y a w.drew := h.trans ⟨rfl, rfl, rfl, Nat.le_refl _, fun _ _ => rfl⟩
theorem FileAt.stored {w : World} {β s n sc p : Nat} {lv : Value} {fs : Fs} {data : ByteArray} (h : FileAt w β (.slice (some ⟨s, 0, none⟩) n sc) lv fs) (hn : n = fs.safe.length) :
    FileAt (w.setCell ⟨s, p, none⟩ (.string data)) β (.slice (some ⟨s, 0, none⟩) n sc) lv { fs with safe := fs.safe.set p data } := by
  subst hn
  have hs := (World.ownsRow.stored (w := w) h.safe p (.string data)).1
  have nb : s ≠ β := fun e => own_ne h.safe h.box (by decide) (by rw [e]; rfl)
  refine ⟨(Below.heap_setCell w ⟨s, p, none⟩ _ β (fun e => nb e.symm)).trans h.box, ?_, ?_, by simpa using h.small, h.few⟩
  · have e : (fs.safe.set p data).map Value.string = (fs.safe.map Value.string).set p (.string data) := by rw [List.map_set]
    simp only [e, List.length_set]
    exact hs
  · refine own_on h.late ((On.refl (fun k => lv.ownBlock = some k) w).setCell (p := ⟨s, p, none⟩) (fun hk => ?_) _) (fun k hk => hk)
    rcases own_ne2 h.safe h.late (by decide) with h' | h'
    · simp [Value.ownBlock] at h'
    · exact h' (by rw [hk]; rfl)
set_option maxHeartbeats 1000000 in
theorem sync_any (β : Nat) (sv lv : Value) (fs : Fs) (w : World) (h : FileAt w β sv lv fs) (hw0 : -1 ≤ fs.wait) (hw1 : fs.wait ≤ 9223372036854775807) (hl0 : -1 ≤ fs.life) (hl1 : fs.life ≤ 9223372036854775807) (hfit : fs.fits) :
    Calls Tryz.prog 49 #[.pointer (some ⟨β, 0, none⟩)] w fun e w' => e = .returned (.bool fs.chOk) ∧
      ∃ lv', FileAt w' β sv lv' (if fs.chOk then fs.ch.synced else fs.ch) ∧ Fr (fpF β sv lv) w w' ∧ Grows w (fpF β sv lv) (fpF β sv lv') := by
  have hC := changes_any β sv lv fs w h hw0 hw1 hl0 hl1
  obtain ⟨sa, sc, rfl⟩ := own_shape h.safe
  obtain ⟨la, lc, rfl⟩ := own_shape h.late
  cases hok : fs.chOk
  · rw [hok] at hC
    go_enter Tryz.func49, Tryz.ntmps49
    go_wp2_with (go_at_call 73; refine hC.mono ?_; rintro e w1 ⟨rfl, h1, f1⟩)
    go_ret
    exact ⟨rfl, _, h1, f1.mono (fun k hk => .inl (.inl hk)), Grows.refl _ _⟩
  · rw [hok] at hC
    have hsm := h.small
    have hfw := h.few
    go_enter Tryz.func49, Tryz.ntmps49
    go_wp2_with (go_at_call 73; refine hC.mono ?_; rintro e w1 ⟨rfl, h1, f1⟩)
    obtain ⟨F, hF⟩ : ∃ F : Fs, F = fs.ch := ⟨_, rfl⟩
    rw [← hF] at h1
    have e1 : F.safe = fs.safe := by rw [hF]; exact Fs.ch_safe fs
    have e2 : F.late = fs.late := by rw [hF]; exact Fs.ch_late fs
    go_loopw [4] (fun i wr => ∃ j : Nat, j ≤ fs.late.length ∧ i = .int .i64 j ∧ FileAt wr β (.slice sa fs.safe.length sc) (.slice la fs.late.length lc) { F with safe := laid fs.safe (fs.late.take j) } ∧ Fr (fpF β (.slice sa fs.safe.length sc) (.slice la fs.late.length lc)) w wr) (fun i _ => fs.late.length - (intOf i).toNat)
    case atStart => exact ⟨0, Nat.zero_le _, rfl, by simpa [laid, ← e1] using h1, f1.mono (fun k hk => .inl (.inl hk))⟩
    case round =>
      obtain ⟨j, hj, rfl, hr, fr⟩ := hrel
      obtain ⟨c0, c1, c2, c3, c4⟩ := box5 hr.box
      have hfr := free_of hr.box
      by_cases hlt : j < fs.late.length
      · obtain ⟨q1, q2⟩ := wcells_at (l := fs.late) (j := j) hlt
        have hL : wr.ownsRow 0 62 2 (.slice la fs.late.length lc) fs.late.length (fs.late.flatMap wcells) := by have := hr.late; simp only [e2] at this; exact this
        have hS : wr.ownsRow 0 9 1 (.slice sa fs.safe.length sc) fs.safe.length ((laid fs.safe (fs.late.take j)).map .string) := by have := hr.safe; simp only [laid_length] at this; exact this
        obtain ⟨g, hg, hglt, hgc, hgv⟩ := own_at hL q1
        obtain ⟨g', hg', _, _, hgv'⟩ := own_at hL q2
        subst hg
        cases hg'
        have hp := hfit _ (List.getElem_mem hlt)
        obtain ⟨s, hs, hslt, hsc, hsv⟩ := own_at hS (j := (fs.late[j]).1) (u := .string ((laid fs.safe (fs.late.take j))[(fs.late[j]).1]'(by rw [laid_length]; exact hp))) (by simp [laid_length, hp])
        subst hs
        have sfr := World.ownsRow.frozenAt (w := wr) hS
        have hpi : ((fs.late[j]).1 : Int) < (fs.safe.length : Int) := by omega
        go_wp2
        go_region_with (fail)
        all_goals go_wp2
        all_goals
          have hst := hr.stored (p := (fs.late[j]).1) (data := (fs.late[j]).2) (by simp [laid_length])
          have tk : fs.late.take (j + 1) = fs.late.take j ++ [fs.late[j]] := List.take_succ_eq_append_getElem hlt
          refine ⟨⟨j + 1, by omega, by go_num, ?_, (fr.setCell (p := ⟨s, (fs.late[j]).1, none⟩) (.inl (.inr (.inl rfl))) _).drew⟩, by simp [intOf]; omega⟩
          rw [tk, laid_snoc]
          exact hst.on (On.refl _ _).drew
      · obtain rfl : j = fs.late.length := by omega
        have hb5 := set_of hr.box 1 (.slice none 0 0)
        go_wp2
        go_ret
        refine ⟨rfl, .slice none 0 0, ?_, fr.setCell (p := ⟨β, 1, none⟩) (.inl (.inl rfl)) _, ?_⟩
        · have hfe : fs.ch.synced = { F with safe := laid fs.safe fs.late, late := [] } := by rw [hF]; simp [Fs.synced, Fs.ch_safe, Fs.ch_late]
          rw [hfe]
          rw [List.take_length] at hr
          refine ⟨by simpa using hb5, ?_, World.ownsRow_nil _ _ _ _, hr.small, by simp⟩
          exact own_on hr.safe ((On.refl (fun k => Value.ownBlock _ = some k) wr).setCell (p := ⟨β, 1, none⟩) (fun hk => own_ne hr.safe hr.box (by decide) hk) _) (fun k hk => hk)
        · rintro k (hk | hk | hk)
          · exact .inl (.inl hk)
          · exact .inl (.inr (.inl hk))
          · simp [Value.ownBlock] at hk
end Go.Proofs.YtngpplmndpmgiaaGreat.Tree
