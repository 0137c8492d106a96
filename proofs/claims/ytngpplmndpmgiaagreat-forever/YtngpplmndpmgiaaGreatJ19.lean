/-
  Joined: Txs, Confl, Putl, Del, End, Stands, Used, PWith, PUsed.
-/
import Derived.Test.YtngpplmndpmgiaaGreatJ18
import Derived.Test.YtngpplmndpmgiaaGreatJ1
import Derived.Test.YtngpplmndpmgiaaGreatJ2
import Derived.Test.YtngpplmndpmgiaaGreatJ15
import Derived.Test.YtngpplmndpmgiaaGreatJ8
import Derived.Lib.SliceRun
import Derived.Deep.RegionLaw
namespace Go.Proofs.YtngpplmndpmgiaaGreat.Tree
open Go.RowKit Go.Proofs.YtngpplmndpmgiaaGreat.Pages
set_option linter.unusedSimpArgs false
set_option linter.unusedVariables false
set_option maxRecDepth 100000 in
set_option maxHeartbeats 1000000 in
theorem isKey_any (k : ByteArray) (w : World) :
    Calls Tryz.prog 40 #[.string k] w fun e w' => e = .returned (.bool (decide (1 ≤ k.size ∧ k.size ≤ 24))) ∧ w' = w := by
  by_cases h1 : 1 ≤ k.size
  · by_cases h2 : k.size ≤ 24
    · have g1 : (1 : Int) ≤ (k.size : Int) := by omega
      have g2 : (k.size : Int) ≤ 24 := by omega
      go_enter Tryz.func40, Tryz.ntmps40
      go_wp2
      refine bodyPost_ret (v := .bool true) ?_ rfl ⟨by rw [decide_eq_true ⟨h1, h2⟩], rfl⟩
      simp [results, Tryz.results40, go_sem, h1, h2]
    · have g1 : (1 : Int) ≤ (k.size : Int) := by omega
      have g2 : ¬ (k.size : Int) ≤ 24 := by omega
      go_enter Tryz.func40, Tryz.ntmps40
      go_wp2
      refine bodyPost_ret (v := .bool false) ?_ rfl ⟨rfl, rfl⟩
      simp [results, Tryz.results40, go_sem, h1, h2]
  · have g1 : ¬ (1 : Int) ≤ (k.size : Int) := by omega
    go_enter Tryz.func40, Tryz.ntmps40
    go_wp2
    refine bodyPost_ret (v := .bool false) ?_ rfl ⟨rfl, rfl⟩
    simp [results, Tryz.results40, go_sem, h1]
set_option maxRecDepth 100000 in
set_option maxHeartbeats 1000000 in
theorem index1_any (β c : Nat) (t : Tx) (x : Int) (w : World) (hb : w.heap[t.b]? = some (txO β t)) (hc : w.heap[c]? = some (.cells #[.int .i64 x] 3)) :
    Calls Tryz.prog 93 #[.pointer (some ⟨t.b, 0, none⟩), .pointer (some ⟨c, 0, none⟩)] w fun e w' => e = .returned (.bool (t.num == x)) ∧ Below w.heap.size w w' := by
  have c0 : w.cell? ⟨t.b, 0, none⟩ = some (.int .i64 t.num) := by simp [World.cell?, hb]
  have d0 : w.cell? ⟨c, 0, none⟩ = some (.int .i64 x) := by simp [World.cell?, hc]
  go_enter Tryz.func93, Tryz.ntmps93
  go_wp2
  go_region_held3 (fun X => X.cell? ⟨t.b, 0, none⟩ = some (.int .i64 t.num) ∧ X.cell? ⟨c, 0, none⟩ = some (.int .i64 x))
    ((first | (with_reducible exact ⟨c0, d0⟩) | (simp [c0, d0])))
    (fail)
  all_goals go_wp2
  all_goals go_ret
  all_goals exact ⟨rfl, (Below.refl _ w).drew⟩
def idxT (ts : List Tx) (x : Int) : Int := match ts.findIdx? (fun t => t.num == x) with
  | some i => i
  | none => -1
theorem idxT_hit {ts : List Tx} {x : Int} {j : Nat} (h : j < ts.length) (hx : (ts[j].num == x) = true) (hb : ∀ m (hm : m < ts.length), m < j → (ts[m].num == x) = false) : idxT ts x = j := by
  have : ts.findIdx? (fun t => t.num == x) = some j := by
    rw [List.findIdx?_eq_some_iff_getElem]
    exact ⟨h, hx, fun m hm => by simpa using hb m (by omega) hm⟩
  unfold idxT
  rw [this]
theorem idxT_none {ts : List Tx} {x : Int} (hb : ∀ m (hm : m < ts.length), (ts[m].num == x) = false) : idxT ts x = -1 := by
  have : ts.findIdx? (fun t => t.num == x) = none := by
    rw [List.findIdx?_eq_none_iff]
    intro t ht
    obtain ⟨m, hm, rfl⟩ := List.getElem_of_mem ht
    exact hb m hm
  unfold idxT
  rw [this]
set_option maxRecDepth 100000 in
set_option maxHeartbeats 2000000 in
theorem indexFunc_any (β c : Nat) (oa : Option Addr) (oc : Nat) (ts : List Tx) (x : Int) (S : Bl) (w : World) (hR : RowOn w S oa (ptrs ts)) (hS : ∀ b, S b → b < w.heap.size) (hT : ∀ t ∈ ts, w.heap[t.b]? = some (txO β t)) (hc : w.heap[c]? = some (.cells #[.int .i64 x] 3)) (hn : ts.length ≤ 1000000) (hcc : ts.length ≤ oc) :
    Calls Tryz.prog 92 #[.slice oa ts.length oc, .func (.func 93) #[] #[.pointer (some ⟨c, 0, none⟩)]] w fun e w' => e = .returned (.int .i64 (idxT ts x)) ∧ Below w.heap.size w w' := by
  go_enter Tryz.func92, Tryz.ntmps92
  go_wp2
  go_loopw [8] (fun a wr => ∃ j : Nat, a = .int .i64 j ∧ j ≤ ts.length ∧ Below w.heap.size w wr ∧ Hid (∀ m (hm : m < ts.length), m < j → (ts[m].num == x) = false)) (fun a _ => ts.length - (intOf a).toNat)
  case atStart => exact ⟨0, rfl, Nat.zero_le _, Below.refl _ _, fun m hm h => by omega⟩
  case round =>
    obtain ⟨j, rfl, hj, hb, HI⟩ := hrel
    by_cases hlt : j < ts.length
    · have hlti : (j : Int) < (ts.length : Int) := by omega
      have hR1 := hR.on (On.of_below hb hS)
      have hne : ptrs ts ≠ [] := by
        intro e
        have := congrArg List.length e
        simp [ptrs] at this
        subst this
        simp at hlt
      rcases hR1 with h0 | ⟨g, o, rfl, hg, hcell⟩
      · exact absurd h0 hne
      obtain ⟨t, ht⟩ : ∃ t, ts[j] = t := ⟨_, rfl⟩
      have k0 : wr.cell? ⟨g, o + j, none⟩ = some (.pointer (some ⟨t.b, 0, none⟩)) := hcell j _ (by simp [ptrs, hlt, ht])
      have hC := index1_any β c t x wr ((hb.block _ (Array.getElem?_eq_some_iff.1 (hT t (ht ▸ List.getElem_mem hlt))).1).trans (hT t (ht ▸ List.getElem_mem hlt))) ((hb.block _ (Array.getElem?_eq_some_iff.1 hc).1).trans hc)
      have HT : Hid (ts[j] = t) := ht
      clear ht hcell hR hne
      cases he : (t.num == x)
      · rw [he] at hC
        go_wp2_with (go_at_call 93; (with_reducible refine Calls.mono hC ?_); rintro e w2 ⟨rfl, hb2⟩)
        refine ⟨⟨j + 1, by simp, by omega, hb.trans (hb2.mono hb.size), fun m hm hmj => ?_⟩, by simp [intOf]; omega⟩
        by_cases hmj' : m = j
        · subst hmj'; rw [HT.out]; exact he
        · exact HI.out m hm (by omega)
      · rw [he] at hC
        go_wp2_with (go_at_call 93; (with_reducible refine Calls.mono hC ?_); rintro e w2 ⟨rfl, hb2⟩)
        refine bodyPost_ret (v := .int .i64 j) ?_ rfl ⟨?_, hb.trans (hb2.mono hb.size)⟩
        · simp [results, Tryz.results92, go_sem]
        · rw [idxT_hit hlt (by rw [HT.out]; exact he) HI.out]
    · obtain rfl : j = ts.length := by omega
      have hlti : ¬ (ts.length : Int) < (ts.length : Int) := by omega
      go_wp2
      refine bodyPost_ret (v := .int .i64 (-1)) ?_ rfl ⟨?_, hb⟩
      · simp [results, Tryz.results92, go_sem]
      · rw [idxT_none (fun m hm => HI.out m hm hm)]
set_option maxRecDepth 100000 in
set_option maxHeartbeats 1000000 in
theorem index_any (D : Db) (st : Int) (x : Int) (w : World) (h : DbAt w st D) (hn : D.ts.length ≤ 1000000) :
    Calls Tryz.prog 62 #[.pointer (some ⟨D.d, 0, none⟩), .int .i64 x] w fun e w' => e = .returned (.int .i64 (idxT D.ts x)) ∧ Below w.heap.size w w' := by
  obtain ⟨oa, oc, hov, hoc, hrow⟩ := own_row0 h.row
  obtain ⟨W1, hW1⟩ : ∃ W1, w.alloc (.cells #[.int .i64 x] 3) = W1 := ⟨_, rfl⟩
  have B1 : Below w.heap.size w W1 := hW1 ▸ (Below.refl _ _).alloc (Nat.le_refl _) _
  have x1 : W1.heap[w.heap.size]? = some (.cells #[.int .i64 x] 3) := hW1 ▸ heap_new w _
  have h1 := h.on (On.of_below B1 h.lies)
  obtain ⟨c0, c1, c2, c3, c4, c5, c6, c7, c8, c9, c10, c11, c12, c13, c14⟩ := box15 h1.box
  rw [hov] at c14
  have hC := indexFunc_any D.β w.heap.size oa oc D.ts x (fun k => D.ov.ownBlock = some k) W1 (hrow.on (On.of_below B1 (fun k hk => own_lt h.row hk))) (fun k hk => Nat.lt_of_lt_of_le (own_lt h.row hk) B1.size) (fun t ht => (h1.each t ht).box) x1 hn hoc
  clear c0 c1 c2 c3 c4 c5 c6 c7 c8 c9 c10 c11 c12 c13 hov
  go_enter Tryz.func62, Tryz.ntmps62
  go_wp2_with (go_at_call 92; (with_reducible refine Calls.mono hC ?_); rintro e w2 ⟨rfl, hb2⟩)
  go_ret
  exact ⟨rfl, B1.trans (hb2.mono B1.size)⟩
set_option maxRecDepth 100000 in
set_option maxHeartbeats 1000000 in
theorem reader_hit (D : Db) (st : Int) (x : Int) (i : Nat) (t : Tx) (w : World) (h : DbAt w st D) (hn : D.ts.length ≤ 1000000) (hi : i < D.ts.length) (ht : D.ts[i] = t) (hx : idxT D.ts x = i) :
    Calls Tryz.prog 58 #[.pointer (some ⟨D.d, 0, none⟩), .int .i64 x] w fun e w' => e = .returned (.tuple #[.pointer (some ⟨t.b, 0, none⟩), .int .i64 0]) ∧ Below w.heap.size w w' := by
  obtain ⟨oa, oc, hov, hoc, hrow⟩ := own_row0 h.row
  have hC := index_any D st x w h hn
  rw [hx] at hC
  have HK : Hid (∀ X, Below w.heap.size w X → X.cell? ⟨D.d, 14, none⟩ = some (.slice oa D.ts.length oc) ∧ ∃ g o, oa = some ⟨g, o, none⟩ ∧ X.cell? ⟨g, o + i, none⟩ = some (.pointer (some ⟨t.b, 0, none⟩))) := by
    intro X hX
    have h1 := h.on (On.of_below hX h.lies)
    obtain ⟨c0, c1, c2, c3, c4, c5, c6, c7, c8, c9, c10, c11, c12, c13, c14⟩ := box15 h1.box
    rw [hov] at c14
    refine ⟨c14, ?_⟩
    rcases hrow.on (On.of_below hX (fun k hk => own_lt h.row hk)) with h0 | ⟨g, o, rfl, hg, hcell⟩
    · have := congrArg List.length h0
      simp [ptrs] at this
      rw [this] at hi
      simp at hi
    · exact ⟨g, o, rfl, hcell i _ (by simp [ptrs, hi, ht])⟩
  have hii : ¬ (i : Int) < 0 := by omega
  have hil : (i : Int) < (D.ts.length : Int) := by omega
  have hi0 : (0 : Int) ≤ (i : Int) := by omega
  clear hov hrow hx ht h
  go_enter Tryz.func58, Tryz.ntmps58
  go_wp2_with (go_at_call 62; (with_reducible refine Calls.mono hC ?_); rintro e w2 ⟨rfl, hb2⟩; obtain ⟨c14, g, o, rfl, k0⟩ := HK.out w2 hb2)
  go_ret2
  exact ⟨rfl, hb2⟩
set_option maxRecDepth 100000 in
set_option maxHeartbeats 1000000 in
theorem reader_none (D : Db) (st : Int) (x : Int) (w : World) (h : DbAt w st D) (hn : D.ts.length ≤ 1000000) (hx : idxT D.ts x = -1) :
    Calls Tryz.prog 58 #[.pointer (some ⟨D.d, 0, none⟩), .int .i64 x] w fun e w' => e = .returned (.tuple #[.pointer none, .int .i64 3]) ∧ Below w.heap.size w w' := by
  have hC := index_any D st x w h hn
  rw [hx] at hC
  clear hx h
  go_enter Tryz.func58, Tryz.ntmps58
  go_wp2_with (go_at_call 62; (with_reducible refine Calls.mono hC ?_); rintro e w2 ⟨rfl, hb2⟩)
  go_ret2
  exact ⟨rfl, hb2⟩
set_option maxRecDepth 100000 in
set_option maxHeartbeats 1000000 in
theorem writer_hit (D : Db) (st : Int) (x : Int) (i : Nat) (t : Tx) (w : World) (h : DbAt w st D) (hn : D.ts.length ≤ 1000000) (hi : i < D.ts.length) (ht : D.ts[i] = t) (hx : idxT D.ts x = i) (hw : t.wr = true) :
    Calls Tryz.prog 39 #[.pointer (some ⟨D.d, 0, none⟩), .int .i64 x] w fun e w' => e = .returned (.tuple #[.pointer (some ⟨t.b, 0, none⟩), .int .i64 0]) ∧ Below w.heap.size w w' := by
  have hC := reader_hit D st x i t w h hn hi ht hx
  have HK : Hid (∀ X, Below w.heap.size w X → X.cell? ⟨t.b, 1, none⟩ = some (.bool true)) := by
    intro X hX
    have h1 := ((h.on (On.of_below hX h.lies)).each t (ht ▸ List.getElem_mem hi)).box
    rw [txO, hw] at h1
    simp [World.cell?, h1]
  clear h ht hx hw hn
  go_enter Tryz.func39, Tryz.ntmps39
  go_wp2_with (go_at_call 58; (with_reducible refine Calls.mono hC ?_); rintro e w2 ⟨rfl, hb2⟩; have k0 := HK.out w2 hb2)
  go_ret2
  exact ⟨rfl, hb2⟩
set_option maxRecDepth 100000 in
set_option maxHeartbeats 1000000 in
theorem writer_none (D : Db) (st : Int) (x : Int) (w : World) (h : DbAt w st D) (hn : D.ts.length ≤ 1000000) (hx : idxT D.ts x = -1) :
    Calls Tryz.prog 39 #[.pointer (some ⟨D.d, 0, none⟩), .int .i64 x] w fun e w' => e = .returned (.tuple #[.pointer none, .int .i64 3]) ∧ Below w.heap.size w w' := by
  have hC := reader_none D st x w h hn hx
  clear h hx hn
  go_enter Tryz.func39, Tryz.ntmps39
  go_wp2_with (go_at_call 58; (with_reducible refine Calls.mono hC ?_); rintro e w2 ⟨rfl, hb2⟩)
  go_ret2
  exact ⟨rfl, hb2⟩
end Go.Proofs.YtngpplmndpmgiaaGreat.Tree
namespace Go.Proofs.YtngpplmndpmgiaaGreat.Tree
open Go.RowKit Go.Proofs.YtngpplmndpmgiaaGreat.Pages
set_option linter.unusedSimpArgs false
set_option linter.unusedVariables false
set_option maxRecDepth 100000 in
set_option maxHeartbeats 2000000 in
theorem conflicts_any (β : Nat) (t : Tx) (w : World) (h : TxAt w β t) (hn : t.cs.length ≤ 1000000) :
    Calls Tryz.prog 69 #[.pointer (some ⟨t.b, 0, none⟩)] w fun e w' => e = .returned (.bool false) ∧ Below w.heap.size w w' := by
  obtain ⟨oa, oc, hov, hoc, hrow⟩ := own_row0 h.row
  have hoc' : t.cs.length ≤ t.cc := by simp only [Tx.cv, Value.slice.injEq] at hov; omega
  have hoa : t.ca = oa := by simp only [Tx.cv, Value.slice.injEq] at hov; exact hov.1
  subst hoa
  have HB : Hid (∀ X, Below w.heap.size w X → X.cell? ⟨t.b, 4, none⟩ = some (.slice t.ca t.cs.length t.cc) ∧ X.cell? ⟨t.b, 5, none⟩ = some (.map none)) := by
    intro X hX
    have h1 := (hX.block _ (Array.getElem?_eq_some_iff.1 h.box).1).trans h.box
    rw [txO, h.tk.1] at h1
    simp [World.cell?, h1]
  have hS : ∀ k, t.cv.ownBlock = some k → k < w.heap.size := fun k hk => own_lt h.row hk
  have htl := (Array.getElem?_eq_some_iff.1 h.box).1
  obtain ⟨c4, c5⟩ := HB.out w (Below.refl _ _)
  clear hov h
  go_enter Tryz.func69, Tryz.ntmps69
  go_wp2
  go_loopw [13] (fun a wr => ∃ j : Nat, a = .int .i64 j ∧ j ≤ t.cs.length ∧ Below w.heap.size w wr) (fun a _ => t.cs.length - (intOf a).toNat)
  case atStart => exact ⟨0, rfl, Nat.zero_le _, Below.refl _ _⟩
  case round =>
    obtain ⟨j, rfl, hj, hb⟩ := hrel
    by_cases hlt : j < t.cs.length
    · have hlti : (j : Int) < (t.cs.length : Int) := by omega
      obtain ⟨rb, ro, hca, hrb, k0, k1, k2⟩ := (hrow.on (On.of_below hb hS)).ch hlt
      obtain ⟨c, hcc⟩ : ∃ c, t.cs[j] = c := ⟨_, rfl⟩
      rw [hcc] at k0 k1 k2
      obtain ⟨W1, hW1⟩ : ∃ W1, wr.alloc (.cells #[.string c.key, .string c.val, .bool c.gone] 100) = W1 := ⟨_, rfl⟩
      have x1 : W1.heap[wr.heap.size]? = some (.cells #[.string c.key, .string c.val, .bool c.gone] 100) := hW1 ▸ heap_new wr _
      have B1 : Below w.heap.size w W1 := hW1 ▸ hb.alloc hb.size _
      obtain ⟨d4, d5⟩ := HB.out W1 B1
      have d0 : W1.cell? ⟨wr.heap.size, 0, none⟩ = some (.string c.key) := by simp [World.cell?, x1]
      rw [hca]
      clear hrow hcc c4 c5
      go_wp2
      have lw := (Array.getElem?_eq_some_iff.1 x1).1
      have dA : (W1.alloc (.cells #[] 63)).cell? ⟨wr.heap.size, 0, none⟩ = some (.string c.key) ∧ (W1.alloc (.cells #[] 63)).cell? ⟨t.b, 5, none⟩ = some (.map none) := by
        have := heap_keep (.cells #[] 63) x1
        refine ⟨by simp [World.cell?, this], (HB.out _ (B1.alloc B1.size _)).2⟩
      obtain ⟨dA0, dA5⟩ := dA
      have hlk : ∀ (k : ByteArray) (W : World), (Instr.lookup 84 (.map none) (.string k) true).run Tryz.prog W = .ok (.tuple #[.agg #[], .bool false]) W := fun k W => by kernel_rfl
      go_region_held3 (fun X => X.cell? ⟨t.b, 5, none⟩ = some (.map none) ∧ X.cell? ⟨wr.heap.size, 0, none⟩ = some (.string c.key))
        ((first | (with_reducible exact ⟨d5, d0⟩) | (with_reducible exact ⟨dA5, dA0⟩) | (simp [d5, d0, dA5, dA0])))
        (fail)
      all_goals go_wp2
      all_goals exact ⟨⟨j + 1, by simp, by omega, (B1.alloc B1.size _).drew⟩, by simp [intOf]; omega⟩
    · obtain rfl : j = t.cs.length := by omega
      have hlti : ¬ (t.cs.length : Int) < (t.cs.length : Int) := by omega
      go_wp2
      go_ret
      exact ⟨rfl, hb⟩
end Go.Proofs.YtngpplmndpmgiaaGreat.Tree
namespace Go.Proofs.YtngpplmndpmgiaaGreat.Tree
open Go.RowKit Go.Proofs.YtngpplmndpmgiaaGreat.Pages
set_option linter.unusedSimpArgs false
set_option linter.unusedVariables false
def putL : List Value → Nat → List Value → List Value
  | xs, _, [] => xs
  | xs, k, v :: r => putL (xs.set k v) (k + 1) r
theorem putL_len : ∀ (r : List Value) (xs : List Value) (k : Nat), (putL xs k r).length = xs.length
  | [], _, _ => rfl
  | v :: r, xs, k => by rw [putL, putL_len r]; simp
theorem putL_get : ∀ (r : List Value) (xs : List Value) (k : Nat), k + r.length ≤ xs.length → ∀ t, (putL xs k r)[t]? = if k ≤ t ∧ t < k + r.length then r[t - k]? else xs[t]?
  | [], xs, k, _, t => by
    rw [putL, if_neg]; simp
  | v :: r, xs, k, h, t => by
    simp only [List.length_cons] at h
    rw [putL, putL_get r (xs.set k v) (k + 1) (by simp; omega) t]
    by_cases h1 : k + 1 ≤ t ∧ t < k + 1 + r.length
    · rw [if_pos h1, if_pos ⟨by omega, by simp; omega⟩]
      obtain ⟨d, rfl⟩ : ∃ d, t = k + 1 + d := ⟨t - (k + 1), by omega⟩
      rw [show k + 1 + d - (k + 1) = d by omega, show k + 1 + d - k = d + 1 by omega]
      simp
    · rw [if_neg h1]
      by_cases h2 : t = k
      · subst h2
        rw [if_pos ⟨Nat.le_refl _, by simp⟩, List.getElem?_set_self (by omega)]
        simp
      · rw [if_neg (by simp; omega), List.getElem?_set_ne (by omega)]
theorem own_setP {w : World} {B : Nat} {e : TypeId} {z g n c : Nat} {xs : List Value} (h : w.ownsRow B e z (.slice (some ⟨g, 0, none⟩) n c) n xs) (k : Nat) (hk : k < xs.length) (u : Value) : (w.setCell ⟨g, k, none⟩ u).ownsRow B e z (.slice (some ⟨g, 0, none⟩) n c) n (xs.set k u) := by
  obtain ⟨h1, h2⟩ := h
  refine ⟨by rw [List.length_set]; exact h1, ?_⟩
  rcases h2 with ⟨h3, _⟩ | ⟨g', c', cur, h3, hb, hg, hnc, hcm, hcs, htake⟩
  · simp at h3
  · simp only [Value.slice.injEq, Option.some.injEq, Addr.mk.injEq, and_true, true_and] at h3
    obtain ⟨rfl, rfl⟩ := h3
    refine .inr ⟨g, c, _, rfl, hb, set_of hg k u, hnc, hcm, by simpa using hcs, ?_⟩
    rw [Array.toList_setIfInBounds, List.take_set, htake]
theorem own_setCells {B : Nat} {e : TypeId} {z g n c : Nat} : ∀ (r : List Value) {w : World} {xs : List Value} (k : Nat), w.ownsRow B e z (.slice (some ⟨g, 0, none⟩) n c) n xs → k + r.length ≤ xs.length → (w.setCells g k r).ownsRow B e z (.slice (some ⟨g, 0, none⟩) n c) n (putL xs k r)
  | [], w, xs, k, h, _ => h
  | v :: r, w, xs, k, h, hk => by
    simp only [List.length_cons] at hk
    exact own_setCells r (k + 1) (own_setP h k (by omega) v) (by simp; omega)
theorem fr_setCells {g : Nat} : ∀ (r : List Value) {w w0 : World} (k : Nat), Fr (Bl.one g) w0 w → Fr (Bl.one g) w0 (w.setCells g k r)
  | [], w, w0, k, h => h
  | v :: r, w, w0, k, h => fr_setCells r (k + 1) (h.setCell (p := ⟨g, k, none⟩) (.inl rfl) v)
end Go.Proofs.YtngpplmndpmgiaaGreat.Tree
namespace Go.Proofs.YtngpplmndpmgiaaGreat.Tree
open Go.RowKit Go.Proofs.YtngpplmndpmgiaaGreat.Pages
set_option linter.unusedSimpArgs false
set_option linter.unusedVariables false
theorem del_list {xs : List Value} {i : Nat} (z : Value) (hi : i < xs.length) : (putL (putL xs i (xs.drop (i + 1))) (xs.length - 1) [z]).take (xs.length - 1) = xs.eraseIdx i := by
  apply List.ext_getElem?
  intro t
  rw [List.getElem?_take, List.getElem?_eraseIdx]
  by_cases ht : t < xs.length - 1
  · rw [if_pos ht, putL_get _ _ _ (by rw [putL_len]; simp; omega), if_neg (by simp; omega), putL_get _ _ _ (by simp; omega)]
    by_cases h2 : t < i
    · rw [if_neg (by omega), if_pos h2]
    · rw [if_pos ⟨by omega, by simp; omega⟩, if_neg h2, List.getElem?_drop]
      congr 1
      omega
  · rw [if_neg ht]
    split
    · omega
    · rw [List.getElem?_eq_none]; omega
theorem own_free {w : World} {B : Nat} {e : TypeId} {g n c : Nat} {xs : List Value} (h : w.ownsRow B e 1 (.slice (some ⟨g, 0, none⟩) n c) n xs) (t : Nat) (ht : t < n) : (∃ u, xs[t]? = some u ∧ w.cell? ⟨g, t, none⟩ = some u) ∧ w.frozen? ⟨g, t, none⟩ = false := by
  obtain ⟨h1, h2⟩ := id h
  have hc := World.ownsRow.cells (w := w) h (g := g) rfl
  rcases h2 with ⟨h3, _⟩ | ⟨g', c', cur, h3, hb, hg, hnc, hcm, hcs, htake⟩
  · simp at h3
  · simp only [Value.slice.injEq, Option.some.injEq, Addr.mk.injEq, and_true, true_and] at h3
    obtain ⟨rfl, rfl⟩ := h3
    refine ⟨?_, free_of hg t⟩
    have hl : t < xs.length := by omega
    refine ⟨xs[t], List.getElem?_eq_getElem hl, ?_⟩
    have := hc t _ (List.getElem?_eq_getElem hl)
    rw [show (⟨g, 0, none⟩ : Addr).add t = ⟨g, t, none⟩ by unfold Addr.add; split <;> simp_all] at this
    exact this
set_option maxRecDepth 100000 in
set_option maxHeartbeats 2000000 in
theorem delete1_any (g n c i j : Nat) (B : Nat) (xs : List Value) (w : World) (h : w.ownsRow B 78 1 (.slice (some ⟨g, 0, none⟩) n c) n xs) (hx : ∀ u ∈ xs, u.oneCell' = true) (hij : j = i + 1) (hi : i < n) (hn : n ≤ 1000000) (hnc : n ≤ c) (hcm : c ≤ 9223372036854775807) :
    Calls Tryz.prog 63 #[.slice (some ⟨g, 0, none⟩) n c, .int .i64 i, .int .i64 j] w fun e w' => e = .returned (.slice (some ⟨g, 0, none⟩) (n - 1) c) ∧ w'.ownsRow B 78 1 (.slice (some ⟨g, 0, none⟩) (n - 1) c) (n - 1) (xs.eraseIdx i) ∧ Fr (Bl.one g) w w' := by
  have hlen : xs.length = n := by have := h.1; omega
  obtain ⟨news, hnews⟩ : ∃ news, news = xs.drop (i + 1) := ⟨_, rfl⟩
  have hnl : news.length = n - j := by rw [hnews]; simp; omega
  have hd : w.drew.ownsRow B 78 1 (.slice (some ⟨g, 0, none⟩) n c) n xs := h
  obtain ⟨A, hA, hsrc⟩ : ∃ A : Addr, (if c = j then some (⟨g, 0, none⟩ : Addr) else some ⟨g, j, none⟩) = some A ∧ Hid (∀ t u, news[t]? = some u → w.drew.cell? (A.add t) = some u) := by
    by_cases hc : c = j
    · refine ⟨⟨g, 0, none⟩, by simp [hc], fun t u hu => ?_⟩
      have h0 : news.length = 0 := by rw [hnl]; omega
      rw [List.length_eq_zero_iff.1 h0] at hu
      simp at hu
    · refine ⟨⟨g, j, none⟩, by simp [hc], fun t u hu => ?_⟩
      rw [hnews, List.getElem?_drop] at hu
      have ht : i + 1 + t < n := by have := (List.getElem?_eq_some_iff.1 hu).1; omega
      obtain ⟨⟨u', e1, e2⟩, _⟩ := own_free hd (i + 1 + t) ht
      rw [hu] at e1
      cases e1
      rw [show (⟨g, j, none⟩ : Addr).add t = ⟨g, i + 1 + t, none⟩ by unfold Addr.add; split <;> simp_all]
      exact e2
  have s1 : Hid (news.length = (n - j) * 1) := by rw [Nat.mul_one]; exact hnl
  have s2 : Hid (∀ u ∈ news, u.oneCell' = true) := fun u hu => hx u (List.mem_of_mem_drop (hnews ▸ hu))
  have s3 : Hid (∀ t, t < news.length → (w.drew.cell? ⟨g, 0 + i * 1 + t, none⟩).isSome = true ∧ w.drew.frozen? ⟨g, 0 + i * 1 + t, none⟩ = false) := by
    intro t ht
    rw [hnl] at ht
    obtain ⟨⟨u', e1, e2⟩, e3⟩ := own_free hd (i + t) (by omega)
    rw [show 0 + i * 1 + t = i + t by omega, e2]
    exact ⟨rfl, e3⟩
  obtain ⟨W1, hW1⟩ : ∃ W1, W1 = w.drew.setCells g (0 + i * 1) news := ⟨_, rfl⟩
  have hW1' : W1 = w.drew.setCells g i news := by rw [hW1]; congr 1; omega
  have ho1 : W1.ownsRow B 78 1 (.slice (some ⟨g, 0, none⟩) n c) n (putL xs i news) := by
    rw [hW1']; exact own_setCells news i hd (by omega)
  have F1 : Fr (Bl.one g) w W1 := by rw [hW1']; exact fr_setCells news i (Fr.refl _ w).drew
  have hcl : ∀ ty, (Builtin.clear_ #[73] ty #[.slice (some ⟨g, i + (n - j), none⟩) (n - (i + (n - j))) (c - (i + (n - j)))]).run Tryz.prog W1 = .ok (.tuple #[]) (W1.setCells g (i + (n - j)) (List.replicate (n - (i + (n - j))) (.pointer none))) :=
    fun ty => Lib.run_clear_slice W1 _ _ ty _ Tryz.underlying73 Tryz.zeroValue78 rfl rfl g (i + (n - j)) _ _ (by omega) (fun t ht => by obtain ⟨⟨u', e1, e2⟩, e3⟩ := own_free ho1 (i + (n - j) + t) (by omega); rw [e2]; rfl) (fun t ht => (own_free ho1 (i + (n - j) + t) (by omega)).2)
  have HO : Hid _ := ho1
  have HF : Hid _ := F1
  have hW : Hid (W1 = w.drew.setCells g (0 + i * 1) news) := hW1
  have HNE : Hid (news = xs.drop (i + 1)) := hnews
  have HIJ : Hid (j = i + 1) := hij
  have HL : Hid (xs.length = n) := hlen
  obtain ⟨i0, hi0, hz0, hz1, hz2⟩ := info_parts infoTx
  have hlt : i < j := by omega
  have hj : j ≤ n := by omega
  have hic : i ≤ c := by omega
  have hjc : j ≤ c := by omega
  have hne : ¬ (i : Int) = (j : Int) := by omega
  clear hW1 hW1' ho1 F1 hnews hnl hij hd hlen h
  go_enter Tryz.func63, Tryz.ntmps63
  go_wp2_with fail
  go_region_held3 (fun _ => True) (trivial)
    (first | (refine step_append_room rfl (.tmp 22) (.tmp 25) 73 rfl 78 i0 1 Tryz.underlying73 hi0 hz1 g 0 i c (by simp [Act.eval, Act.put]) A (n - j) (c - j) news (by simp [Act.eval, Act.put]) s1.out hsrc.out s2.out (by omega) s3.out ?_; rw [← hW.out]))
  all_goals go_wp2
  have e1 : i + (n - j) = n - 1 := by have := HIJ.out; omega
  refine bodyPost_ret (v := .slice (some ⟨g, 0, none⟩) (i + (n - j)) c) ?_ rfl ⟨by rw [e1], ?_, fr_setCells _ _ HF.out⟩
  · simp [results, Tryz.results63, go_sem]
  · rw [e1, show n - (n - 1) = 1 by omega]
    have hl := HL.out
    have h1 := own_setCells [.pointer none] (n - 1) HO.out (by rw [putL_len]; simp; omega)
    have h2 := own_cut h1 (m := n - 1) (by omega)
    have h3 := del_list (xs := xs) (i := i) (.pointer none) (by omega)
    rw [hl, ← HNE.out] at h3
    rw [Nat.mul_one, h3] at h2
    exact h2
end Go.Proofs.YtngpplmndpmgiaaGreat.Tree
namespace Go.Proofs.YtngpplmndpmgiaaGreat.Tree
open Go.RowKit Go.Proofs.YtngpplmndpmgiaaGreat.Pages
set_option linter.unusedSimpArgs false
set_option linter.unusedVariables false
theorem ptrs_erase (ts : List Tx) (i : Nat) : ptrs (ts.eraseIdx i) = (ptrs ts).eraseIdx i := by
  unfold ptrs
  apply List.ext_getElem?
  intro k
  rw [List.getElem?_map, List.getElem?_eraseIdx, List.getElem?_eraseIdx]
  split <;> rw [List.getElem?_map]
theorem DbAt.dropped {wX w3 : World} {st : Int} {D : Db} {g c i : Nat} {t : Tx} (h : DbAt wX st D) (hov : D.ov = .slice (some ⟨g, 0, none⟩) D.ts.length c) (hi : i < D.ts.length) (ht : D.ts[i] = t)
    (hr : w3.ownsRow 0 78 1 (.slice (some ⟨g, 0, none⟩) (D.ts.length - 1) c) (D.ts.length - 1) ((ptrs D.ts).eraseIdx i)) (f : Fr (Bl.one g) wX w3) :
    DbAt (w3.setCell ⟨D.d, 14, none⟩ (.slice (some ⟨g, 0, none⟩) (D.ts.length - 1) c)) st { D with ov := .slice (some ⟨g, 0, none⟩) (D.ts.length - 1) c, ts := D.ts.eraseIdx i } ∧ TxAt (w3.setCell ⟨D.d, 14, none⟩ (.slice (some ⟨g, 0, none⟩) (D.ts.length - 1) c)) D.β t := by
  have hob : D.ov.ownBlock = some g := by rw [hov]; rfl
  have on3 : ∀ {Z : Bl}, (∀ k, Z k → k < wX.heap.size ∧ D.ov.ownBlock ≠ some k ∧ k ≠ D.d) → On Z wX (w3.setCell ⟨D.d, 14, none⟩ (.slice (some ⟨g, 0, none⟩) (D.ts.length - 1) c)) := fun hz => (f.on (fun k hk => ⟨(hz k hk).1, fun e => by simp only [Bl.one] at e; exact (hz k hk).2.1 (by rw [e]; exact hob)⟩)).setCell (p := ⟨D.d, 14, none⟩) (fun hk => (hz _ hk).2.2 rfl) _
  have b3 := f.heap h.box (fun e => by simp only [Bl.one] at e; exact h.noRow (by rw [e]; exact hob))
  have each3 : ∀ x ∈ D.ts, TxAt (w3.setCell ⟨D.d, 14, none⟩ (.slice (some ⟨g, 0, none⟩) (D.ts.length - 1) c)) D.β x := fun x hx => (h.each x hx).on (on3 (fun k hk => ⟨(h.each x hx).lies k hk, h.txRow (h.each x hx) k hk, fun e => h.noTx hx (e ▸ hk)⟩))
  refine ⟨⟨by have := set_of b3 14 (.slice (some ⟨g, 0, none⟩) (D.ts.length - 1) c); simpa using this, ?_, ?_, ?_, ?_⟩, each3 t (ht ▸ List.getElem_mem hi)⟩
  · exact h.file.on (on3 (fun k hk => ⟨h.file.lies k hk, h.fileRow k hk, fun e => h.noFile (e ▸ hk)⟩))
  · have hne := own_ne hr b3 (by decide)
    have hr' : w3.ownsRow 0 78 1 (.slice (some ⟨g, 0, none⟩) (D.ts.length - 1) c) (D.ts.eraseIdx i).length (ptrs (D.ts.eraseIdx i)) := by
      rw [List.length_eraseIdx, if_pos hi, ptrs_erase]; exact hr
    exact own_on hr' ((On.refl (fun k => (Value.slice (some ⟨g, 0, none⟩) (D.ts.length - 1) c).ownBlock = some k) w3).setCell (p := ⟨D.d, 14, none⟩) (fun hk => hne hk) _) (fun k hk => hk)
  · intro x hx
    exact each3 x (List.mem_of_mem_eraseIdx hx)
  · exact h.apart.sublist (List.eraseIdx_sublist _ _)
set_option maxRecDepth 100000 in
set_option maxHeartbeats 2000000 in
theorem end_hit (D : Db) (st : Int) (x : Int) (i : Nat) (t : Tx) (w : World) (h : DbAt w st D) (hn : D.ts.length ≤ 1000000) (hi : i < D.ts.length) (ht : D.ts[i] = t) (hx : idxT D.ts x = i) :
    Calls Tryz.prog 37 #[.pointer (some ⟨D.d, 0, none⟩), .int .i64 x] w fun e w' => e = .returned (.tuple #[.pointer (some ⟨t.b, 0, none⟩), .int .i64 0]) ∧ ∃ g c, D.ov = .slice (some ⟨g, 0, none⟩) D.ts.length c ∧ DbAt w' st { D with ov := .slice (some ⟨g, 0, none⟩) (D.ts.length - 1) c, ts := D.ts.eraseIdx i } ∧ TxAt w' D.β t ∧ Fr (fun k => k = D.d ∨ k = g) w w' := by
  obtain ⟨g, c, hov, hg, _⟩ := own_some h.row (by omega)
  have hcc : D.ts.length ≤ c ∧ c ≤ 9223372036854775807 := by
    obtain ⟨_, h2⟩ := h.row
    rw [hov] at h2
    rcases h2 with ⟨h3, _⟩ | ⟨g', c', cur, h3, hb, hg, hnc, hcm, hcs, htake⟩
    · simp at h3
    · simp only [Value.slice.injEq, Option.some.injEq, Addr.mk.injEq, and_true, true_and] at h3
      obtain ⟨rfl, rfl⟩ := h3
      exact ⟨hnc, hcm⟩
  have hR := reader_hit D st x i t w h hn hi ht hx
  have HI : Hid (∀ X, Below w.heap.size w X → Calls Tryz.prog 62 #[.pointer (some ⟨D.d, 0, none⟩), .int .i64 x] X fun e w' => e = .returned (.int .i64 (i : Int)) ∧ Below X.heap.size X w') := by
    intro X hX
    have := index_any D st x X (h.on (On.of_below hX h.lies)) hn
    rw [hx] at this
    exact this
  have HD : Hid (∀ X, Below w.heap.size w X → Calls Tryz.prog 63 #[.slice (some ⟨g, 0, none⟩) D.ts.length c, .int .i64 (i : Int), .int .i64 ((i : Int) + 1)] X fun e w' => e = .returned (.slice (some ⟨g, 0, none⟩) (D.ts.length - 1) c) ∧ w'.ownsRow 0 78 1 (.slice (some ⟨g, 0, none⟩) (D.ts.length - 1) c) (D.ts.length - 1) ((ptrs D.ts).eraseIdx i) ∧ Fr (Bl.one g) X w') := by
    intro X hX
    have h1 := (h.on (On.of_below hX h.lies)).row
    rw [hov] at h1
    have := delete1_any g D.ts.length c i (i + 1) 0 (ptrs D.ts) X h1 (fun u hu => by unfold ptrs at hu; obtain ⟨y, _, rfl⟩ := List.mem_map.1 hu; rfl) rfl hi hn hcc.1 hcc.2
    simpa using this
  have HK : Hid (∀ X, Below w.heap.size w X → DbAt X st D) := fun X hX => h.on (On.of_below hX h.lies)
  have HC : Hid (∀ X, DbAt X st D → X.cell? ⟨D.d, 14, none⟩ = some (.slice (some ⟨g, 0, none⟩) D.ts.length c)) := by
    intro X hX
    obtain ⟨c0, c1, c2, c3, c4, c5, c6, c7, c8, c9, c10, c11, c12, c13, c14⟩ := box15 hX.box
    rw [hov] at c14
    exact c14
  have HB : Hid (∀ X w3, DbAt X st D → Fr (Bl.one g) X w3 → (∃ v, w3.cell? ⟨D.d, 14, none⟩ = some v) ∧ ∀ k, w3.frozen? ⟨D.d, k, none⟩ = false) := by
    intro X w3 hX hf
    have b3 := hf.heap hX.box (fun e => by simp only [Bl.one] at e; exact hX.noRow (by rw [e, hov]; rfl))
    obtain ⟨c0, c1, c2, c3, c4, c5, c6, c7, c8, c9, c10, c11, c12, c13, c14⟩ := box15 b3
    exact ⟨⟨_, c14⟩, free_of b3⟩
  have hii : (i : Int) + 1 ≤ 9223372036854775807 := by omega
  have HOV : Hid (D.ov = .slice (some ⟨g, 0, none⟩) D.ts.length c) := hov
  have HTI : Hid (D.ts[i] = t) := ht
  have lD := (Array.getElem?_eq_some_iff.1 h.box).1
  clear hov ht hx h hcc
  go_enter Tryz.func37, Tryz.ntmps37
  go_wp2_with (first
    | (go_at_call 58; (with_reducible refine Calls.mono hR ?_); rintro e w2 ⟨rfl, hb2⟩; have hI := HI.out w2 hb2)
    | (go_at_call 62; (with_reducible refine Calls.mono hI ?_); rintro e w3 ⟨rfl, hb3⟩; have hb23 := hb2.trans (hb3.mono hb2.size); have hD3 := HK.out w3 hb23; have c14 := HC.out w3 hD3; have hDl := HD.out w3 hb23)
    | (go_at_call 63; (with_reducible refine Calls.mono hDl ?_); rintro e w4 ⟨rfl, ho4, hf4⟩; obtain ⟨⟨v14, d14⟩, dfr⟩ := HB.out w3 w4 hD3 hf4))
  obtain ⟨hA, hB⟩ := DbAt.dropped hD3 HOV.out hi HTI.out ho4 hf4
  have F3 : Fr (fun k => k = D.d ∨ k = g) w w3 := ⟨hb23.os, hb23.tape, hb23.output, hb23.size, fun k hk _ => hb23.block k hk⟩
  have F4 : Fr (fun k => k = D.d ∨ k = g) w3 w4 := ⟨hf4.os, hf4.tape, hf4.output, hf4.size, fun k hk hn => hf4.block k hk (fun e => hn (.inr e))⟩
  have F5 := (F3.trans F4).setCell (p := ⟨D.d, 14, none⟩) (.inl (.inl rfl)) (.slice (some ⟨g, 0, none⟩) (D.ts.length - 1) c)
  go_ret2
  exact ⟨rfl, g, c, HOV.out, hA, hB, F5⟩
end Go.Proofs.YtngpplmndpmgiaaGreat.Tree
namespace Go.Proofs.YtngpplmndpmgiaaGreat.Tree
open Go.RowKit Go.Proofs.YtngpplmndpmgiaaGreat.Pages
set_option linter.unusedSimpArgs false
set_option linter.unusedVariables false
set_option maxRecDepth 100000 in
set_option maxHeartbeats 1000000 in
theorem stands1_any (β : Nat) (sv lv : Value) (fs : Fs) (hl : (fs.life == 0) = false) (root : Nat) (ca : Option Addr) (cn cc : Nat) (ub : Nat) (o : Option (Nat × T)) (u : List Bool) (w : World) (ho : Rooted fs root o) (hs : OShut u o) (hu : u.length = 4096) (hf : FileAt w β sv lv fs) (hU : UsedAt w ub u)
    (b1 b2 : Nat) (x1 : w.heap[b1]? = some (.cells #[.pointer (some ⟨β, 0, none⟩), .int .i64 root, .slice ca cn cc] 82)) (x2 : w.heap[b2]? = some (.cells #[.slice (some ⟨ub, 0, none⟩) 4096 4096] 111)) :
    Calls Tryz.prog 77 #[.pointer (some ⟨b1, 0, none⟩), .pointer (some ⟨b2, 0, none⟩)] w fun e w' => e = .returned (.int .i64 0) ∧ UsedAt w' ub (marks u (opages o)) ∧ Fr (Bl.one ub) w w' := by
  have hC := Mark_any β sv lv fs hl root ca cn cc ub o u w ho hs hu hf hU
  obtain ⟨c0, c1, c2⟩ := box3 x1
  have d0 : w.cell? ⟨b2, 0, none⟩ = some (.slice (some ⟨ub, 0, none⟩) 4096 4096) := by simp [World.cell?, x2]
  clear hf hU ho hs x1 x2
  go_enter Tryz.func77, Tryz.ntmps77
  go_wp2_with (go_at_call 52; (with_reducible refine Calls.mono hC ?_); rintro e w2 ⟨⟨v, rfl⟩, hU2, hF2⟩)
  go_ret
  exact ⟨rfl, hU2, hF2⟩
set_option maxRecDepth 100000 in
set_option maxHeartbeats 1000000 in
theorem stands_any (β : Nat) (sv lv : Value) (fs : Fs) (hl : (fs.life == 0) = false) (root : Nat) (ca : Option Addr) (cn cc : Nat) (ub : Nat) (o : Option (Nat × T)) (u : List Bool) (w : World) (ho : Rooted fs root o) (hs : OShut u o) (hu : u.length = 4096) (hf : FileAt w β sv lv fs) (hU : UsedAt w ub u) (hub : ub < w.heap.size) :
    Calls Tryz.prog 53 #[.agg #[.pointer (some ⟨β, 0, none⟩), .int .i64 root, .slice ca cn cc], .slice (some ⟨ub, 0, none⟩) 4096 4096] w fun e w' => e = .returned (.bool true) ∧ UsedAt w' ub (marks u (opages o)) ∧ Fr (Bl.one ub) w w' := by
  obtain ⟨W1, hW1⟩ : ∃ W1, (w.alloc (.cells #[.pointer (some ⟨β, 0, none⟩), .int .i64 root, .slice ca cn cc] 82)).alloc (.cells #[.slice (some ⟨ub, 0, none⟩) 4096 4096] 111) = W1 := ⟨_, rfl⟩
  have B1 : Below w.heap.size w W1 := hW1 ▸ ((Below.refl _ _).alloc (Nat.le_refl _) _).alloc (by simp) _
  have x1 : W1.heap[w.heap.size]? = some (.cells #[.pointer (some ⟨β, 0, none⟩), .int .i64 root, .slice ca cn cc] 82) := hW1 ▸ heap_keep _ (heap_new w _)
  have x2 : W1.heap[w.heap.size + 1]? = some (.cells #[.slice (some ⟨ub, 0, none⟩) 4096 4096] 111) := by
    rw [← hW1]; have := heap_new (w.alloc (.cells #[.pointer (some ⟨β, 0, none⟩), .int .i64 root, .slice ca cn cc] 82)) (.cells #[.slice (some ⟨ub, 0, none⟩) 4096 4096] 111); simpa using this
  have hs1 : w.heap.size + 1 < W1.heap.size := (Array.getElem?_eq_some_iff.1 x2).1
  obtain ⟨W2, hW2⟩ : ∃ W2, W1.alloc (.cells #[.int .i64 0] 37) = W2 := ⟨_, rfl⟩
  have B2 : Below w.heap.size w W2 := hW2 ▸ B1.alloc B1.size _
  have e2 : W2.heap[W1.heap.size]? = some (.cells #[.int .i64 0] 37) := hW2 ▸ heap_new W1 _
  have h1 := stands1_any β sv lv fs hl root ca cn cc ub o u W2 ho hs hu (hf.on (On.of_below B2 hf.lies)) (hU.on (Y := Bl.one ub) (On.of_below B2 (fun k hk => by simp only [Bl.one] at hk; omega)) rfl) w.heap.size (w.heap.size + 1) (hW2 ▸ heap_keep _ x1) (hW2 ▸ heap_keep _ x2)
  have hC := caught_any 77 #[] #[.pointer (some ⟨w.heap.size, 0, none⟩), .pointer (some ⟨w.heap.size + 1, 0, none⟩)] (fun _ _ => rfl) W1 (fun z w' => z = 0 ∧ UsedAt w' ub (marks u (opages o)) ∧ Fr (Bl.one ub) W2 w') (by
    rw [hW2]
    exact h1.mono fun e w' ⟨he, hu', hf'⟩ => ⟨0, he, hf'.heap e2 (fun e => by simp only [Bl.one] at e; have := B1.size; omega), rfl, hu', hf'⟩)
  have HE : Hid (W1.heap.size < W2.heap.size) := (Array.getElem?_eq_some_iff.1 e2).1
  clear h1 hf hU ho hs e2 hW2
  go_enter Tryz.func53, Tryz.ntmps53
  go_wp2_with (go_at_call 48; (with_reducible refine Calls.mono hC ?_); rintro e w3 ⟨z, W3, rfl, ⟨rfl, hU3, hF3⟩, hw3⟩)
  go_ret
  have hsz := B1.size
  exact ⟨rfl, hU3.on (Y := Bl.one ub) ((On.refl (Bl.one ub) W3).setCell (p := ⟨W1.heap.size, 0, none⟩) (fun hk => by simp only [Bl.one] at hk; omega) _) rfl, ((Fr.of_below B2).trans hF3).setCell (p := ⟨W1.heap.size, 0, none⟩) (.inr hsz) _⟩
end Go.Proofs.YtngpplmndpmgiaaGreat.Tree
namespace Go.Proofs.YtngpplmndpmgiaaGreat.Tree
open Go.RowKit Go.Proofs.YtngpplmndpmgiaaGreat.Pages
set_option linter.unusedSimpArgs false
set_option linter.unusedVariables false
theorem infoBool : (Tryz.prog.info? 4).map (fun i => (i.zero, i.size, i.bytes)) = some (some (.bool false), 1, 1) := by kernel_rfl
theorem made_false (n : Nat) : (madeCells (Value.bool false).cells (n * 1)).toList = (List.replicate n false).map Value.bool := by
  apply List.ext_getElem
  · simp [madeCells]
  · intro i h1 h2
    simp [madeCells, Value.cells, Nat.mod_one]
theorem made_used (W : World) : ∃ w1, (Instr.makeSlice 111 (.int .i64 4096) (.int .i64 4096)).run Tryz.prog W = .ok (.slice (some ⟨W.heap.size, 0, none⟩) 4096 4096) w1 ∧ UsedAt w1 W.heap.size (List.replicate 4096 false) ∧ Below W.heap.size W w1 := by
  obtain ⟨i0, hi, hz0, hz1, hz2⟩ := info_parts infoBool
  obtain ⟨w1, hmk, hown, hg⟩ := run_makeSlice_full (P := Tryz.prog) W 0 111 4 i0 (.bool false) 1 Tryz.underlying111 hi hz0 hz1 .i64 .i64 4096 (by omega) (by rw [hz2]; omega) (by unfold maxLen; omega) (Nat.zero_le _)
  rw [made_false] at hown
  exact ⟨w1, hmk, hown, hg.os, hg.tape, hg.output, hg.size, fun k hk => hg.block k hk (by simp)⟩
end Go.Proofs.YtngpplmndpmgiaaGreat.Tree
namespace Go.Proofs.YtngpplmndpmgiaaGreat.Tree
open Go.RowKit Go.Proofs.YtngpplmndpmgiaaGreat.Pages
set_option linter.unusedSimpArgs false
set_option linter.unusedVariables false
def withC (cs : List Ch) (c : Ch) : List Ch := if fnd cs c.key = true then cs.set (srch cs c.key) c else cs.take (srch cs c.key) ++ c :: cs.drop (srch cs c.key)
theorem fnd_at {cs : List Ch} {k : ByteArray} (h : fnd cs k = true) (hr : Rise cs) : ∃ h0 : srch cs k < cs.length, (cs[srch cs k]).key = k := by
  unfold fnd at h
  split at h
  · rename_i c hc
    obtain ⟨h0, e⟩ := List.getElem?_eq_some_iff.1 hc
    refine ⟨h0, ?_⟩
    have h1 : lt k c.key = false := by simpa using h
    have h2 : lt (cs[srch cs k]).key k = false := srch_ge hr (Nat.le_refl _) h0
    rw [e] at h2 ⊢
    exact lt_total h2 h1
  · simp at h
theorem with_split {cs : List Ch} (hr : Rise cs) (c : Ch) : withC cs c = cs.take (srch cs c.key) ++ c :: cs.drop (srch cs c.key + if fnd cs c.key = true then 1 else 0) := by
  unfold withC
  by_cases h : fnd cs c.key = true
  · rw [if_pos h, if_pos h]
    obtain ⟨h0, _⟩ := fnd_at h hr
    rw [List.set_eq_take_append_cons_drop, if_pos h0]
  · rw [if_neg h, if_neg h]; rfl
theorem drop_gt {cs : List Ch} (hr : Rise cs) (k : ByteArray) : ∀ c ∈ cs.drop (srch cs k + if fnd cs k = true then 1 else 0), lt k c.key = true := by
  intro c hc
  by_cases h : fnd cs k = true
  · rw [if_pos h] at hc
    obtain ⟨h0, e0⟩ := fnd_at h hr
    obtain ⟨i, hi, e⟩ := List.getElem_of_mem hc
    rw [List.getElem_drop] at e
    rw [List.length_drop] at hi
    have := (List.pairwise_iff_getElem.1 hr) (srch cs k) (srch cs k + 1 + i) h0 (by omega) (by omega)
    rw [e0] at this
    rw [← e]; exact this
  · rw [if_neg h] at hc
    obtain ⟨i, hi, e⟩ := List.getElem_of_mem hc
    rw [List.getElem_drop] at e
    rw [List.length_drop] at hi
    have h2 : lt (cs[srch cs k + 0 + i]'(by omega)).key k = false := srch_ge hr (by omega) (by omega)
    rw [e] at h2
    rcases le_or_lt c.key k with h3 | h3
    · exfalso
      have h4 : c.key = k := le_antisymm h3 (not_lt.1 h2)
      exact h ((fnd_iff hr k).2 ⟨c, List.mem_of_mem_drop hc, h4⟩)
    · exact h3
theorem with_rise {cs : List Ch} (hr : Rise cs) (c : Ch) : Rise (withC cs c) := by
  rw [with_split hr]
  refine List.pairwise_append.2 ⟨hr.sublist (List.take_sublist _ _), List.pairwise_cons.2 ⟨drop_gt hr c.key, hr.sublist (List.drop_sublist _ _)⟩, ?_⟩
  intro a ha b hb
  have h1 := take_lt ha
  rcases List.mem_cons.1 hb with rfl | hb
  · exact h1
  · exact lt_trans h1 (drop_gt hr c.key b hb)
theorem with_mem {cs : List Ch} (hr : Rise cs) (c x : Ch) : x ∈ withC cs c ↔ x = c ∨ (x ∈ cs ∧ x.key ≠ c.key) := by
  rw [with_split hr]
  simp only [List.mem_append, List.mem_cons]
  constructor
  · rintro (h | h | h)
    · exact .inr ⟨List.mem_of_mem_take h, lt_ne (take_lt h)⟩
    · exact .inl h
    · exact .inr ⟨List.mem_of_mem_drop h, (lt_ne (drop_gt hr c.key x h)).symm⟩
  · rintro (h | ⟨h1, h2⟩)
    · exact .inr (.inl h)
    · rcases (mem_split (srch cs c.key)).1 h1 with h | h
      · exact .inl h
      · refine .inr (.inr ?_)
        by_cases hf : fnd cs c.key = true
        · rw [if_pos hf]
          obtain ⟨h0, e0⟩ := fnd_at hf hr
          rw [List.drop_eq_getElem_cons h0] at h
          rcases List.mem_cons.1 h with h | h
          · exact absurd (by rw [h]; exact e0) h2
          · exact h
        · rw [if_neg hf]; exact h
theorem with_len {cs : List Ch} (hr : Rise cs) (c : Ch) : (withC cs c).length ≤ cs.length + 1 ∧ 0 < (withC cs c).length := by
  unfold withC
  split
  · rename_i h
    obtain ⟨h0, _⟩ := fnd_at h hr
    rw [List.length_set]; omega
  · rw [List.length_append, List.length_cons, List.length_take, List.length_drop]
    have := srch_le cs c.key
    omega
theorem with_all {P : Ch → Prop} {cs : List Ch} (hr : Rise cs) {c : Ch} (h : ∀ x ∈ cs, P x) (hc : P c) : ∀ x ∈ withC cs c, P x := fun x hx => by
  rcases (with_mem hr c x).1 hx with rfl | ⟨h1, _⟩
  · exact hc
  · exact h x h1
theorem keys_len_le {cs : List Ch} {K : List ByteArray} (hr : Rise cs) (h : ∀ c ∈ cs, c.key ∈ K) : cs.length ≤ K.length := by
  have := len_sub (l := cs.map (·.key)) (m := K) (rise_nodup (by rw [List.pairwise_map]; exact hr)) (fun x hx => by
    obtain ⟨y, hy, rfl⟩ := List.mem_map.1 hx
    exact h y hy)
  simpa using this
def valOf (es : List En) (k : ByteArray) : Option (List UInt8) := (es.find? (fun x => decide (x.e.key = k))).map En.value
theorem valOf_some {es : List En} (hr : RiseE es) {k : ByteArray} {v : List UInt8} : valOf es k = some v ↔ ∃ x ∈ es, x.e.key = k ∧ x.value = v := by
  unfold valOf
  constructor
  · intro h
    rw [Option.map_eq_some_iff] at h
    obtain ⟨x, h1, h2⟩ := h
    have h3 := List.find?_some h1
    exact ⟨x, List.mem_of_find?_eq_some h1, by simpa using h3, h2⟩
  · rintro ⟨x, hx, hk, hv⟩
    cases hf : es.find? (fun x => decide (x.e.key = k)) with
    | none =>
      have := List.find?_eq_none.1 hf x hx
      simp [hk] at this
    | some y =>
      have h3 := List.find?_some hf
      have h4 := List.mem_of_find?_eq_some hf
      have h5 : y.e.key = k := by simpa using h3
      have : y = x := by
        obtain ⟨i, hi, rfl⟩ := List.getElem_of_mem hx
        obtain ⟨j, hj, rfl⟩ := List.getElem_of_mem h4
        rcases Nat.lt_trichotomy i j with h | h | h
        · have := List.pairwise_iff_getElem.1 hr i j hi hj h
          rw [hk, h5, lt_irrefl] at this; cases this
        · subst h; rfl
        · have := List.pairwise_iff_getElem.1 hr j i hj hi h
          rw [hk, h5, lt_irrefl] at this; cases this
      rw [this, Option.map_some, hv]
theorem over_val {es : List En} {cs : List Ch} (he : RiseE es) (hr : Rise cs) (k : ByteArray) : valOf (overE es cs) k = match cs.find? (fun c => decide (c.key = k)) with
    | some c => if c.gone = true then none else some c.val.data.toList
    | none => valOf es k := by
  have ho := over_rise he hr
  cases hf : cs.find? (fun c => decide (c.key = k)) with
  | some c =>
    have h1 := List.mem_of_find?_eq_some hf
    have h2 : c.key = k := by simpa using List.find?_some hf
    have uniq : ∀ c' ∈ cs, c'.key = k → c' = c := by
      intro c' hc' e
      obtain ⟨i, hi, rfl⟩ := List.getElem_of_mem hc'
      obtain ⟨j, hj, rfl⟩ := List.getElem_of_mem h1
      rcases Nat.lt_trichotomy i j with h | h | h
      · have := List.pairwise_iff_getElem.1 hr i j hi hj h
        rw [e, h2, lt_irrefl] at this; cases this
      · subst h; rfl
      · have := List.pairwise_iff_getElem.1 hr j i hj hi h
        rw [e, h2, lt_irrefl] at this; cases this
    simp only
    split
    · rename_i hg
      cases hv : valOf (overE es cs) k with
      | none => rfl
      | some v =>
        obtain ⟨x, hx, hk, _⟩ := (valOf_some ho).1 hv
        rcases (over_mem he hr x).1 hx with ⟨c', a1, a2, rfl⟩ | ⟨a1, a2⟩
        · have := uniq c' a1 hk
          rw [this, hg] at a2; cases a2
        · exact absurd (h2.trans hk.symm) (a2 c h1)
    · rename_i hg
      refine (valOf_some ho).2 ⟨chE c, (over_mem he hr _).2 (.inl ⟨c, h1, by simpa using hg, rfl⟩), h2, ?_⟩
      simp [En.value, chE]
  | none =>
    have h0 : ∀ c ∈ cs, c.key ≠ k := fun c hc e => by
      have := List.find?_eq_none.1 hf c hc
      simp [e] at this
    simp only
    cases hv : valOf es k with
    | none =>
      cases hv2 : valOf (overE es cs) k with
      | none => rfl
      | some v =>
        obtain ⟨x, hx, hk, hxv⟩ := (valOf_some ho).1 hv2
        rcases (over_mem he hr x).1 hx with ⟨c', a1, a2, rfl⟩ | ⟨a1, a2⟩
        · exact absurd hk (h0 c' a1)
        · rw [(valOf_some he).2 ⟨x, a1, hk, hxv⟩] at hv; cases hv
    | some v =>
      obtain ⟨x, hx, hk, hxv⟩ := (valOf_some he).1 hv
      exact (valOf_some ho).2 ⟨x, (over_mem he hr x).2 (.inr ⟨hx, fun c hc => by rw [hk]; exact h0 c hc⟩), hk, hxv⟩
end Go.Proofs.YtngpplmndpmgiaaGreat.Tree
namespace Go.Proofs.YtngpplmndpmgiaaGreat.Tree
open Go.RowKit Go.Proofs.YtngpplmndpmgiaaGreat.Pages
set_option linter.unusedSimpArgs false
set_option linter.unusedVariables false
theorem off_false {n p : Nat} : ¬ on (List.replicate n false) p := by
  unfold on
  rw [List.getElem?_replicate]
  split <;> simp
theorem oshut_base (n : Nat) (o : Option (Nat × T)) : OShut (List.replicate n false) o := by
  cases o with
  | none => trivial
  | some x => exact fun y hy h => absurd h off_false
theorem oshut_after {fs : Fs} {r r' : Nat} {o o' : Option (Nat × T)} {u : List Bool} (h : Rooted fs r o) (h' : Rooted fs r' o') (hu : fs.safe.length ≤ u.length) (hs : OShut u o) : OShut (marks u (opages o')) o := by
  cases o' with
  | none => exact hs
  | some x' =>
    cases o with
    | none => trivial
    | some x => exact Shut.after h.2.2 h'.2.2 hu hs
def usedP (os : List (Option (Nat × T))) : List Bool := marks (List.replicate 4096 false) (os.flatMap opages)
theorem usedP_len (os : List (Option (Nat × T))) : (usedP os).length = 4096 := by unfold usedP; rw [marks_length, List.length_replicate]
theorem usedP_snoc (os : List (Option (Nat × T))) (o : Option (Nat × T)) : usedP (os ++ [o]) = marks (usedP os) (opages o) := by
  unfold usedP; rw [List.flatMap_append, marks_append, List.flatMap_cons, List.flatMap_nil, List.append_nil]
theorem usedP_shut {fs : Fs} (hn : fs.safe.length ≤ 4096) : ∀ (os : List (Option (Nat × T))), (∀ o ∈ os, Rooted fs (rootOf o) o) → ∀ o, Rooted fs (rootOf o) o → OShut (usedP os) o := by
  intro os
  induction os using snoc_ind with
  | h0 => intro _ o _; exact oshut_base 4096 o
  | h1 os x ih =>
    intro h o ho
    rw [usedP_snoc]
    exact oshut_after ho (h x (by simp)) (by rw [usedP_len]; exact hn) (ih (fun o' h' => h o' (by simp [h'])) o ho)
theorem usedP_on {os : List (Option (Nat × T))} {p : Nat} : on (usedP os) p ↔ p ∈ os.flatMap opages ∧ p < 4096 := by
  unfold usedP
  rw [on_marks]
  constructor
  · rintro (h | ⟨h1, h2⟩)
    · exact absurd h off_false
    · exact ⟨h1, by rwa [List.length_replicate] at h2⟩
  · rintro ⟨h1, h2⟩
    exact .inr ⟨h1, by rwa [List.length_replicate]⟩
theorem tr_pages_lt {K : List ByteArray} {fs : Fs} {o : Option (Nat × T)} (h : Tr K fs o) : ∀ p ∈ opages o, p < fs.safe.length := by
  cases o with
  | none => simp [opages]
  | some x => exact pages_lt h.rooted.2.2
theorem plan_of {K : List ByteArray} {n : Nat} {fs : Fs} {o : Option (Nat × T)} {cs : List Ch} {os : List (Option (Nat × T))} (hlen : fs.safe.length = n) (hn : n ≤ 4096) (hos : ∀ o' ∈ os, Tr K fs o') (ho : o ∈ os)
    (rise : Rise cs) (good : ∀ c ∈ cs, c.good) (keys : ∀ c ∈ cs, c.key ∈ K) (k24 : ∀ k ∈ K, k.size ≤ 24) (ksum : 3 + tot (fun k : ByteArray => k.size + 3) K ≤ 250) (hroom : (os.length + 1) * (1 + 3 * K.length) + 2 ≤ n) :
    Plan K n fs o cs (freeP n (usedP os)) ∧ ∀ o' ∈ os, ∀ p ∈ opages o', p ∉ freeP n (usedP os) := by
  have haway : ∀ o' ∈ os, ∀ p ∈ opages o', p ∉ freeP n (usedP os) := fun o' h' p hp hf => by
    have hlt := tr_pages_lt (hos o' h') p hp
    exact (freeP_mem hf).2.2 (usedP_on.2 ⟨List.mem_flatMap.2 ⟨o', h', hp⟩, by omega⟩)
  refine ⟨⟨hos o ho, rise, good, keys, k24, ksum, fun p hp => ⟨(freeP_mem hp).1, (freeP_mem hp).2.1⟩, hn, hlen, freeP_nodup _ _, haway o ho, ?_⟩, haway⟩
  have h1 := freeP_many (n := n) (u := usedP os) (ps := os.flatMap opages) (by rw [usedP_len]; exact hn) (fun p h => (usedP_on.1 h).1)
  have h2 := flat_len2 opages (1 + 3 * K.length) os (fun o' h' => opages_len (hos o' h').rooted (hos o' h').flat (hos o' h').keys)
  have h3 : (os.length + 1) * (1 + 3 * K.length) = (1 + 3 * K.length) * os.length + (1 + 3 * K.length) := by rw [Nat.add_mul, Nat.one_mul, Nat.mul_comm]
  omega
theorem tr_none (K : List ByteArray) (fs : Fs) : Tr K fs none := ⟨rfl, trivial, trivial, .inl rfl⟩
theorem store_new (K : List ByteArray) (n : Nat) (hn : 2 ≤ n) : Store K n ⟨List.replicate n (zerosB 256), [], -1, -1, 0⟩ 0 none none := by
  have h0 : ∀ p, p < n → (⟨List.replicate n (zerosB 256), [], -1, -1, 0⟩ : Fs).at p = zerosB 256 := fun p hp => by
    simp [Fs.at, lastW, List.getElem?_replicate, hp]
  exact ⟨rfl, by simp, .inl ⟨h0 _ (by omega), rfl, rfl⟩, ⟨0, .inl ⟨h0 _ (by omega), rfl, rfl⟩, .inr ⟨rfl, rfl⟩⟩, tr_none _ _, tr_none _ _⟩
end Go.Proofs.YtngpplmndpmgiaaGreat.Tree
