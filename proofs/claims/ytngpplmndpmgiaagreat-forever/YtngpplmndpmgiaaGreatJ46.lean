/-
  Joined: End, Stands, Used, Free, Well, Wr.
-/
import Derived.Test.YtngpplmndpmgiaaGreatJ45
import Derived.Test.YtngpplmndpmgiaaGreatJ41
import Derived.Test.YtngpplmndpmgiaaGreatJ28
import Derived.Test.YtngpplmndpmgiaaGreatJ37
import Derived.Test.YtngpplmndpmgiaaGreatJ44
import Derived.Test.YtngpplmndpmgiaaGreatJ21
import Derived.Test.YtngpplmndpmgiaaGreatJ42
import Derived.Test.YtngpplmndpmgiaaGreatJ34
namespace Go.Proofs.YtngpplmndpmgiaaGreat.Tree
open Go.RowKit Go.Proofs.YtngpplmndpmgiaaGreat.Pages
set_option linter.unusedSimpArgs false
set_option linter.unusedVariables false
theorem ptrs_erase (ts : List Tx) (i : Nat) : ptrs (ts.eraseIdx i) = (ptrs ts).eraseIdx i := by
  unfold ptrs
  apply List.ext_getElem?
  intro k
  rw [List.getElem?_map, List.getElem?_eraseIdx, List.getElem?_eraseIdx]
  split <;> rw [List.getElem?_map]
theorem DbAt.dropped {wX w3 : World} {st : Int} {D : Db} {g c i : Nat} {t : Tx} (h : DbAt wX st D) (hov : D.ov = .slice (some ⟨g, 0, none⟩) D.ts.length c) (hi : i < D.ts.length) (ht : D.ts[i] = t)
    (hr : w3.ownsRow 0 78 1 (.slice (some ⟨g, 0, none⟩) (D.ts.length - 1) c) (D.ts.length - 1) ((ptrs D.ts).eraseIdx i)) (f : Fr (Bl.one g) wX w3) :
    DbAt (w3.setCell ⟨D.d, 14, none⟩ (.slice (some ⟨g, 0, none⟩) (D.ts.length - 1) c)) st { D with ov := .slice (some ⟨g, 0, none⟩) (D.ts.length - 1) c, ts := D.ts.eraseIdx i } ∧ TxAt (w3.setCell ⟨D.d, 14, none⟩ (.slice (some ⟨g, 0, none⟩) (D.ts.length - 1) c)) D.β t := by
  have hob : D.ov.ownBlock = some g := by rw [hov]; rfl
  have on3 : ∀ {Z : Bl}, (∀ k, Z k → k < wX.heap.size ∧ D.ov.ownBlock ≠ some k ∧ k ≠ D.d) → On Z wX (w3.setCell ⟨D.d, 14, none⟩ (.slice (some ⟨g, 0, none⟩) (D.ts.length - 1) c)) := fun hz => (f.on (fun k hk => ⟨(hz k hk).1, fun e => by simp only [Bl.one] at e; exact (hz k hk).2.1 (by rw [e]; exact hob)⟩)).setCell (p := ⟨D.d, 14, none⟩) (fun hk => (hz _ hk).2.2 rfl) _
  have b3 := f.heap h.box (fun e => by simp only [Bl.one] at e; exact h.noRow (by rw [e]; exact hob))
  have each3 : ∀ x ∈ D.ts, TxAt (w3.setCell ⟨D.d, 14, none⟩ (.slice (some ⟨g, 0, none⟩) (D.ts.length - 1) c)) D.β x := fun x hx => (h.each x hx).on (on3 (fun k hk => ⟨(h.each x hx).lies k hk, h.txRow (h.each x hx) k hk, fun e => h.noTx hx (e ▸ hk)⟩))
  refine ⟨⟨by have := set_of b3 14 (.slice (some ⟨g, 0, none⟩) (D.ts.length - 1) c); simpa using this, ?_, ?_, ?_, ?_⟩, each3 t (ht ▸ List.getElem_mem hi)⟩
  · exact h.file.on (on3 (fun k hk => ⟨h.file.lies k hk, h.fileRow k hk, fun e => h.noFile (e ▸ hk)⟩))
  · have hne := own_ne hr b3 (by decide)
    have hr' : w3.ownsRow 0 78 1 (.slice (some ⟨g, 0, none⟩) (D.ts.length - 1) c) (D.ts.eraseIdx i).length (ptrs (D.ts.eraseIdx i)) := by
      rw [List.length_eraseIdx, if_pos hi, ptrs_erase]; exact hr
    exact own_on hr' ((On.refl (fun k => (Value.slice (some ⟨g, 0, none⟩) (D.ts.length - 1) c).ownBlock = some k) w3).setCell (p := ⟨D.d, 14, none⟩) (fun hk => hne hk) _) (fun k hk => hk)
  · intro x hx
    exact each3 x (List.mem_of_mem_eraseIdx hx)
  · exact h.apart.sublist (List.eraseIdx_sublist _ _)
set_option maxRecDepth 100000 in
set_option maxHeartbeats 2000000 in
theorem end_hit (D : Db) (st : Int) (x : Int) (i : Nat) (t : Tx) (w : World) (h : DbAt w st D) (hn : D.ts.length ≤ 1000000) (hi : i < D.ts.length) (ht : D.ts[i] = t) (hx : idxT D.ts x = i) :
    Calls Tryz.prog 37 #[.pointer (some ⟨D.d, 0, none⟩), .int .i64 x] w fun e w' => e = .returned (.tuple #[.pointer (some ⟨t.b, 0, none⟩), .int .i64 0]) ∧ ∃ g c, D.ov = .slice (some ⟨g, 0, none⟩) D.ts.length c ∧ DbAt w' st { D with ov := .slice (some ⟨g, 0, none⟩) (D.ts.length - 1) c, ts := D.ts.eraseIdx i } ∧ TxAt w' D.β t ∧ Fr (fun k => k = D.d ∨ k = g) w w' := by
  obtain ⟨g, c, hov, hg, _⟩ := own_some h.row (by omega)
  have hcc : D.ts.length ≤ c ∧ c ≤ 9223372036854775807 := by
    obtain ⟨_, h2⟩ := h.row
    rw [hov] at h2
    rcases h2 with ⟨h3, _⟩ | ⟨g', c', cur, h3, hb, hg, hnc, hcm, hcs, htake⟩
    · simp at h3
    · simp only [Value.slice.injEq, Option.some.injEq, Addr.mk.injEq, and_true, true_and] at h3
      obtain ⟨rfl, rfl⟩ := h3
      exact ⟨hnc, hcm⟩
  have hR := reader_hit D st x i t w h hn hi ht hx
  have HI : Hid (∀ X, Below w.heap.size w X → Calls Tryz.prog 62 #[.pointer (some ⟨D.d, 0, none⟩), .int .i64 x] X fun e w' => e = .returned (.int .i64 (i : Int)) ∧ Below X.heap.size X w') := by
    intro X hX
    have := index_any D st x X (h.on (On.of_below hX h.lies)) hn
    rw [hx] at this
    exact this
  have HD : Hid (∀ X, Below w.heap.size w X → Calls Tryz.prog 63 #[.slice (some ⟨g, 0, none⟩) D.ts.length c, .int .i64 (i : Int), .int .i64 ((i : Int) + 1)] X fun e w' => e = .returned (.slice (some ⟨g, 0, none⟩) (D.ts.length - 1) c) ∧ w'.ownsRow 0 78 1 (.slice (some ⟨g, 0, none⟩) (D.ts.length - 1) c) (D.ts.length - 1) ((ptrs D.ts).eraseIdx i) ∧ Fr (Bl.one g) X w') := by
    intro X hX
    have h1 := (h.on (On.of_below hX h.lies)).row
    rw [hov] at h1
    have := delete1_any g D.ts.length c i (i + 1) 0 (ptrs D.ts) X h1 (fun u hu => by unfold ptrs at hu; obtain ⟨y, _, rfl⟩ := List.mem_map.1 hu; rfl) rfl hi hn hcc.1 hcc.2
    simpa using this
  have HK : Hid (∀ X, Below w.heap.size w X → DbAt X st D) := fun X hX => h.on (On.of_below hX h.lies)
  have HC : Hid (∀ X, DbAt X st D → X.cell? ⟨D.d, 14, none⟩ = some (.slice (some ⟨g, 0, none⟩) D.ts.length c)) := by
    intro X hX
    obtain ⟨c0, c1, c2, c3, c4, c5, c6, c7, c8, c9, c10, c11, c12, c13, c14⟩ := box15 hX.box
    rw [hov] at c14
    exact c14
  have HB : Hid (∀ X w3, DbAt X st D → Fr (Bl.one g) X w3 → (∃ v, w3.cell? ⟨D.d, 14, none⟩ = some v) ∧ ∀ k, w3.frozen? ⟨D.d, k, none⟩ = false) := by
    intro X w3 hX hf
    have b3 := hf.heap hX.box (fun e => by simp only [Bl.one] at e; exact hX.noRow (by rw [e, hov]; rfl))
    obtain ⟨c0, c1, c2, c3, c4, c5, c6, c7, c8, c9, c10, c11, c12, c13, c14⟩ := box15 b3
    exact ⟨⟨_, c14⟩, free_of b3⟩
  have hii : (i : Int) + 1 ≤ 9223372036854775807 := by omega
  have HOV : Hid (D.ov = .slice (some ⟨g, 0, none⟩) D.ts.length c) := hov
  have HTI : Hid (D.ts[i] = t) := ht
  have lD := (Array.getElem?_eq_some_iff.1 h.box).1
  clear hov ht hx h hcc
  go_enter Tryz.func37, Tryz.ntmps37
  go_wp2_with (first
    | (go_at_call 58; (with_reducible refine Calls.mono hR ?_); rintro e w2 ⟨rfl, hb2⟩; have hI := HI.out w2 hb2)
    | (go_at_call 62; (with_reducible refine Calls.mono hI ?_); rintro e w3 ⟨rfl, hb3⟩; have hb23 := hb2.trans (hb3.mono hb2.size); have hD3 := HK.out w3 hb23; have c14 := HC.out w3 hD3; have hDl := HD.out w3 hb23)
    | (go_at_call 63; (with_reducible refine Calls.mono hDl ?_); rintro e w4 ⟨rfl, ho4, hf4⟩; obtain ⟨⟨v14, d14⟩, dfr⟩ := HB.out w3 w4 hD3 hf4))
  obtain ⟨hA, hB⟩ := DbAt.dropped hD3 HOV.out hi HTI.out ho4 hf4
  have F3 : Fr (fun k => k = D.d ∨ k = g) w w3 := ⟨hb23.os, hb23.tape, hb23.output, hb23.size, fun k hk _ => hb23.block k hk⟩
  have F4 : Fr (fun k => k = D.d ∨ k = g) w3 w4 := ⟨hf4.os, hf4.tape, hf4.output, hf4.size, fun k hk hn => hf4.block k hk (fun e => hn (.inr e))⟩
  have F5 := (F3.trans F4).setCell (p := ⟨D.d, 14, none⟩) (.inl (.inl rfl)) (.slice (some ⟨g, 0, none⟩) (D.ts.length - 1) c)
  go_ret2
  exact ⟨rfl, g, c, HOV.out, hA, hB, F5⟩
end Go.Proofs.YtngpplmndpmgiaaGreat.Tree
namespace Go.Proofs.YtngpplmndpmgiaaGreat.Tree
open Go.RowKit Go.Proofs.YtngpplmndpmgiaaGreat.Pages
set_option linter.unusedSimpArgs false
set_option linter.unusedVariables false
set_option maxRecDepth 100000 in
set_option maxHeartbeats 1000000 in
theorem stands1_any (β : Nat) (sv lv : Value) (fs : Fs) (hl : (fs.life == 0) = false) (root : Nat) (ca : Option Addr) (cn cc : Nat) (ub : Nat) (o : Option (Nat × T)) (u : List Bool) (w : World) (ho : Rooted fs root o) (hs : OShut u o) (hu : u.length = 4096) (hf : FileAt w β sv lv fs) (hU : UsedAt w ub u)
    (b1 b2 : Nat) (x1 : w.heap[b1]? = some (.cells #[.pointer (some ⟨β, 0, none⟩), .int .i64 root, .slice ca cn cc] 82)) (x2 : w.heap[b2]? = some (.cells #[.slice (some ⟨ub, 0, none⟩) 4096 4096] 111)) :
    Calls Tryz.prog 77 #[.pointer (some ⟨b1, 0, none⟩), .pointer (some ⟨b2, 0, none⟩)] w fun e w' => e = .returned (.int .i64 0) ∧ UsedAt w' ub (marks u (opages o)) ∧ Fr (Bl.one ub) w w' := by
  have hC := Mark_any β sv lv fs hl root ca cn cc ub o u w ho hs hu hf hU
  obtain ⟨c0, c1, c2⟩ := box3 x1
  have d0 : w.cell? ⟨b2, 0, none⟩ = some (.slice (some ⟨ub, 0, none⟩) 4096 4096) := by simp [World.cell?, x2]
  clear hf hU ho hs x1 x2
  go_enter Tryz.func77, Tryz.ntmps77
  go_wp2_with (go_at_call 52; (with_reducible refine Calls.mono hC ?_); rintro e w2 ⟨⟨v, rfl⟩, hU2, hF2⟩)
  go_ret
  exact ⟨rfl, hU2, hF2⟩
set_option maxRecDepth 100000 in
set_option maxHeartbeats 1000000 in
theorem stands_any (β : Nat) (sv lv : Value) (fs : Fs) (hl : (fs.life == 0) = false) (root : Nat) (ca : Option Addr) (cn cc : Nat) (ub : Nat) (o : Option (Nat × T)) (u : List Bool) (w : World) (ho : Rooted fs root o) (hs : OShut u o) (hu : u.length = 4096) (hf : FileAt w β sv lv fs) (hU : UsedAt w ub u) (hub : ub < w.heap.size) :
    Calls Tryz.prog 53 #[.agg #[.pointer (some ⟨β, 0, none⟩), .int .i64 root, .slice ca cn cc], .slice (some ⟨ub, 0, none⟩) 4096 4096] w fun e w' => e = .returned (.bool true) ∧ UsedAt w' ub (marks u (opages o)) ∧ Fr (Bl.one ub) w w' := by
  obtain ⟨W1, hW1⟩ : ∃ W1, (w.alloc (.cells #[.pointer (some ⟨β, 0, none⟩), .int .i64 root, .slice ca cn cc] 82)).alloc (.cells #[.slice (some ⟨ub, 0, none⟩) 4096 4096] 111) = W1 := ⟨_, rfl⟩
  have B1 : Below w.heap.size w W1 := hW1 ▸ ((Below.refl _ _).alloc (Nat.le_refl _) _).alloc (by simp) _
  have x1 : W1.heap[w.heap.size]? = some (.cells #[.pointer (some ⟨β, 0, none⟩), .int .i64 root, .slice ca cn cc] 82) := hW1 ▸ heap_keep _ (heap_new w _)
  have x2 : W1.heap[w.heap.size + 1]? = some (.cells #[.slice (some ⟨ub, 0, none⟩) 4096 4096] 111) := by
    rw [← hW1]; have := heap_new (w.alloc (.cells #[.pointer (some ⟨β, 0, none⟩), .int .i64 root, .slice ca cn cc] 82)) (.cells #[.slice (some ⟨ub, 0, none⟩) 4096 4096] 111); simpa using this
  have hs1 : w.heap.size + 1 < W1.heap.size := (Array.getElem?_eq_some_iff.1 x2).1
  obtain ⟨W2, hW2⟩ : ∃ W2, W1.alloc (.cells #[.int .i64 0] 37) = W2 := ⟨_, rfl⟩
  have B2 : Below w.heap.size w W2 := hW2 ▸ B1.alloc B1.size _
  have e2 : W2.heap[W1.heap.size]? = some (.cells #[.int .i64 0] 37) := hW2 ▸ heap_new W1 _
  have h1 := stands1_any β sv lv fs hl root ca cn cc ub o u W2 ho hs hu (hf.on (On.of_below B2 hf.lies)) (hU.on (Y := Bl.one ub) (On.of_below B2 (fun k hk => by simp only [Bl.one] at hk; omega)) rfl) w.heap.size (w.heap.size + 1) (hW2 ▸ heap_keep _ x1) (hW2 ▸ heap_keep _ x2)
  have hC := caught_any 77 #[] #[.pointer (some ⟨w.heap.size, 0, none⟩), .pointer (some ⟨w.heap.size + 1, 0, none⟩)] (fun _ _ => rfl) W1 (fun z w' => z = 0 ∧ UsedAt w' ub (marks u (opages o)) ∧ Fr (Bl.one ub) W2 w') (by
    rw [hW2]
    exact h1.mono fun e w' ⟨he, hu', hf'⟩ => ⟨0, he, hf'.heap e2 (fun e => by simp only [Bl.one] at e; have := B1.size; omega), rfl, hu', hf'⟩)
  have HE : Hid (W1.heap.size < W2.heap.size) := (Array.getElem?_eq_some_iff.1 e2).1
  clear h1 hf hU ho hs e2 hW2
  go_enter Tryz.func53, Tryz.ntmps53
  go_wp2_with (go_at_call 48; (with_reducible refine Calls.mono hC ?_); rintro e w3 ⟨z, W3, rfl, ⟨rfl, hU3, hF3⟩, hw3⟩)
  go_ret
  have hsz := B1.size
  exact ⟨rfl, hU3.on (Y := Bl.one ub) ((On.refl (Bl.one ub) W3).setCell (p := ⟨W1.heap.size, 0, none⟩) (fun hk => by simp only [Bl.one] at hk; omega) _) rfl, ((Fr.of_below B2).trans hF3).setCell (p := ⟨W1.heap.size, 0, none⟩) (.inr hsz) _⟩
end Go.Proofs.YtngpplmndpmgiaaGreat.Tree
namespace Go.Proofs.YtngpplmndpmgiaaGreat.Tree
open Go.RowKit Go.Proofs.YtngpplmndpmgiaaGreat.Pages
set_option linter.unusedSimpArgs false
set_option linter.unusedVariables false
theorem infoBool : (Tryz.prog.info? 4).map (fun i => (i.zero, i.size, i.bytes)) = some (some (.bool false), 1, 1) := by kernel_rfl
theorem made_false (n : Nat) : (madeCells (Value.bool false).cells (n * 1)).toList = (List.replicate n false).map Value.bool := by
  apply List.ext_getElem
  · simp [madeCells]
  · intro i h1 h2
    simp [madeCells, Value.cells, Nat.mod_one]
theorem made_used (W : World) : ∃ w1, (Instr.makeSlice 111 (.int .i64 4096) (.int .i64 4096)).run Tryz.prog W = .ok (.slice (some ⟨W.heap.size, 0, none⟩) 4096 4096) w1 ∧ UsedAt w1 W.heap.size (List.replicate 4096 false) ∧ Below W.heap.size W w1 := by
  obtain ⟨i0, hi, hz0, hz1, hz2⟩ := info_parts infoBool
  obtain ⟨w1, hmk, hown, hg⟩ := run_makeSlice_full (P := Tryz.prog) W 0 111 4 i0 (.bool false) 1 Tryz.underlying111 hi hz0 hz1 .i64 .i64 4096 (by omega) (by rw [hz2]; omega) (by unfold maxLen; omega) (Nat.zero_le _)
  rw [made_false] at hown
  exact ⟨w1, hmk, hown, hg.os, hg.tape, hg.output, hg.size, fun k hk => hg.block k hk (by simp)⟩
end Go.Proofs.YtngpplmndpmgiaaGreat.Tree
namespace Go.Proofs.YtngpplmndpmgiaaGreat.Tree
open Go.RowKit Go.Proofs.YtngpplmndpmgiaaGreat.Pages
set_option linter.unusedSimpArgs false
set_option linter.unusedVariables false
theorem UsedAt.box {w : World} {ub : Nat} {u : List Bool} (h : UsedAt w ub u) : ∃ cur, w.heap[ub]? = some (.cells cur 4 (0, 0)) := by
  obtain ⟨_, h2⟩ := h
  rcases h2 with ⟨h3, _⟩ | ⟨g', c', cur, h3, hb, hg, _⟩
  · simp at h3
  · simp only [Value.slice.injEq, Option.some.injEq, Addr.mk.injEq, and_true, true_and] at h3
    obtain ⟨rfl, rfl⟩ := h3
    exact ⟨cur, hg⟩
def freeQ (u : List Bool) (p : Nat) : List Nat := (List.range' 2 (p - 2)).filter (fun p => !(u.getD p true))
theorem freeQ_step {u : List Bool} {p : Nat} (hp : 2 ≤ p) : freeQ u (p + 1) = freeQ u p ++ (if u.getD p true then [] else [p]) := by
  unfold freeQ
  rw [show p + 1 - 2 = (p - 2) + 1 by omega, List.range'_1_concat, List.filter_append, show 2 + (p - 2) = p by omega]
  congr 1
  cases h : u.getD p true
  · have h' := h
    rw [List.getD_eq_getElem?_getD] at h'
    simp [h, h']
  · have h' := h
    rw [List.getD_eq_getElem?_getD] at h'
    simp [h, h']
theorem freeQ_end {u : List Bool} {n p : Nat} (h1 : n ≤ p) (h2 : p ≤ n ∨ p = 2) : freeQ u p = freeP n u := by
  unfold freeQ freeP
  rw [show p - 2 = n - 2 by omega]
theorem freeQ_len {u : List Bool} {p : Nat} : (freeQ u p).length ≤ p := by
  unfold freeQ
  refine Nat.le_trans (List.length_filter_le _ _) ?_
  rw [List.length_range']
  omega
set_option maxRecDepth 100000 in
set_option maxHeartbeats 4000000 in
theorem free_any (D : Db) (st : Int) (o ao : Option (Nat × T)) (ot : Tx → Option (Nat × T)) (w : World) (h : DbAt w st D) (hn : D.ts.length ≤ 1000000) (hl : (D.fs.life == 0) = false)
    (ho : Rooted D.fs (rootOf o) o) (hr : D.root = rootOf o) (hao : Rooted D.fs (rootOf ao) ao) (har : D.aroot = rootOf ao) (hts : ∀ t ∈ D.ts, Rooted D.fs (rootOf (ot t)) (ot t) ∧ t.root = rootOf (ot t)) :
    Calls Tryz.prog 128 #[.pointer (some ⟨D.d, 0, none⟩)] w fun e w' => ∃ v, e = .returned v ∧ w'.ownsRow 0 3 1 v (freeP D.fs.safe.length (usedP ([o, ao] ++ D.ts.map ot))).length ((freeP D.fs.safe.length (usedP ([o, ao] ++ D.ts.map ot))).map (fun n : Nat => Value.int .i64 n)) ∧ Below w.heap.size w w' := by
  obtain ⟨w1, hmk, hU1, hb1⟩ := made_used w
  have hmk' : (Instr.makeSlice 111 (.int .i64 4096) (.int .i64 4096)).run Tryz.prog w = .ok (.slice (some ⟨w.heap.size, 0, none⟩) 4096 4096) w1 := hmk
  have hsm : D.fs.safe.length ≤ 4096 := h.file.small
  have HK : Hid (∀ X, Below w.heap.size w X → X.cell? ⟨D.d, 2, none⟩ = some (.pointer (some ⟨D.β, 0, none⟩)) ∧ X.cell? ⟨D.d, 5, none⟩ = some (.int .i64 D.root) ∧ X.cell? ⟨D.d, 11, none⟩ = some (.int .i64 D.aroot) ∧ X.cell? ⟨D.d, 14, none⟩ = some D.ov ∧ DbAt X st D) := by
    intro X hX
    have h1 := h.on (On.of_below hX h.lies)
    obtain ⟨c0, c1, c2, c3, c4, c5, c6, c7, c8, c9, c10, c11, c12, c13, c14⟩ := box15 h1.box
    exact ⟨c2, c5, c11, c14, h1⟩
  have HM : Hid (∀ X os oo, Below w.heap.size w X → (∀ y ∈ os, Rooted D.fs (rootOf y) y) → Rooted D.fs (rootOf oo) oo → UsedAt X w.heap.size (usedP os) → ∀ root ca cn cc, root = rootOf oo → Calls Tryz.prog 52 #[.agg #[.pointer (some ⟨D.β, 0, none⟩), .int .i64 ((root : Nat) : Int), .slice ca cn cc], .slice (some ⟨w.heap.size, 0, none⟩) 4096 4096] X fun e w' => (∃ v, e = .returned v) ∧ UsedAt w' w.heap.size (usedP (os ++ [oo])) ∧ Below w.heap.size w w') := by
    intro X os oo hX hos hoo hU root ca cn cc hroot
    subst hroot
    rw [usedP_snoc]
    exact (Mark_any D.β D.sv D.lv D.fs hl _ ca cn cc w.heap.size oo (usedP os) X hoo (usedP_shut hsm os hos oo hoo) (usedP_len os) (h.file.on (On.of_below hX h.file.lies)) hU).mono fun e w' ⟨he, hu', hf'⟩ => ⟨he, hu', hX.trans (hf'.below hX.size (fun k hk => by simp only [Bl.one] at hk; omega))⟩
  have hT1 : Hid (∀ X (root : Nat), Below w.heap.size w X → Calls Tryz.prog 32 #[.pointer (some ⟨D.d, 0, none⟩), .int .i64 (root : Int)] X fun e w' => e = .returned (.agg #[.pointer (some ⟨D.β, 0, none⟩), .int .i64 (root : Int), .slice none 0 0]) ∧ Below w.heap.size w w' ∧ ∀ os, UsedAt X w.heap.size os → UsedAt w' w.heap.size os) := fun X root hX => (treeAt_any D.d D.β root X (HK.out X hX).1).mono fun e w' ⟨he, hb⟩ => ⟨he, hX.trans (hb.mono hX.size), fun os hu => hu.on (Y := Bl.one w.heap.size) (On.of_below hb (fun k hk => by simp only [Bl.one] at hk; have := hu.lt; omega)) rfl⟩
  obtain ⟨c2, c5, c11, c14, _⟩ := HK.out w1 hb1
  have hA := hT1.out w1 D.root hb1
  have HTS : Hid _ := hts
  have HO : Hid _ := ho
  have HAO : Hid _ := hao
  have HR : Hid _ := hr
  have HAR : Hid _ := har
  have HU1 : Hid (UsedAt w1 w.heap.size (usedP [])) := hU1
  obtain ⟨oa, oc, hov, hoc, hrow⟩ := own_row0 h.row
  have HOV : Hid _ := hov
  clear hts ho hao hr har hmk hov
  go_enter Tryz.func128, Tryz.ntmps128
  go_wp2_with (first
    | (go_at_call 32; (with_reducible refine Calls.mono hA ?_); rintro e w2 ⟨rfl, hb2, hk2⟩; have hM := HM.out w2 [] o hb2 (by simp) HO.out (hk2 _ HU1.out) D.root none 0 0 HR.out)
    | (go_at_call 52; (with_reducible refine Calls.mono hM ?_); rintro e w3 ⟨⟨v3, rfl⟩, hU3, hb3⟩; obtain ⟨d2, d5, d11, d14, _⟩ := HK.out w3 hb3; have hB := hT1.out w3 D.aroot hb3)
    | (go_at_call 32; (with_reducible refine Calls.mono hB ?_); rintro e w4 ⟨rfl, hb4, hk4⟩; have hN := HM.out w4 [o] ao hb4 (by intro y hy; rw [List.mem_singleton] at hy; subst hy; exact HO.out) HAO.out (hk4 _ hU3) D.aroot none 0 0 HAR.out)
    | (go_at_call 52; (with_reducible refine Calls.mono hN ?_); rintro e w5 ⟨⟨v5, rfl⟩, hU5, hb5⟩; obtain ⟨e2, e5, e11, e14, _⟩ := HK.out w5 hb5; rw [HOV.out] at e14))
  have HRow : Hid (RowOn w (fun k => D.ov.ownBlock = some k) oa (ptrs D.ts)) := hrow
  have HS : Hid (∀ k, D.ov.ownBlock = some k → k < w.heap.size) := fun k hk => own_lt h.row hk
  have HU5 : Hid (UsedAt w5 w.heap.size (usedP ([o, ao] ++ (D.ts.take 0).map ot))) := hU5
  clear hA hM hB hN hmk' hU3 hU5 hrow h hU1 hk2 hk4 c2 c5 c11 c14 d2 d5 d11 d14 hT1 HU1
  go_loopw [31] (fun a wr => ∃ j : Nat, a = .int .i64 j ∧ j ≤ D.ts.length ∧ Below w.heap.size w wr ∧ Hid (UsedAt wr w.heap.size (usedP ([o, ao] ++ (D.ts.take j).map ot)))) (fun a _ => D.ts.length - (intOf a).toNat)
  case atStart => exact ⟨0, rfl, Nat.zero_le _, hb5, HU5.out⟩
  case round =>
    obtain ⟨j, rfl, hj, hb, HI⟩ := hrel
    by_cases hlt : j < D.ts.length
    · have hlti : (j : Int) < (D.ts.length : Int) := by omega
      obtain ⟨t, ht⟩ : ∃ t, D.ts[j] = t := ⟨_, rfl⟩
      have htm : t ∈ D.ts := ht ▸ List.getElem_mem hlt
      rcases HRow.out.on (On.of_below hb HS.out) with h0 | ⟨g, off, rfl, hg, hcell⟩
      · have := congrArg List.length h0
        simp [ptrs] at this
        rw [this] at hlt
        simp at hlt
      have k0 : wr.cell? ⟨g, off + j, none⟩ = some (.pointer (some ⟨t.b, 0, none⟩)) := hcell j _ (by simp [ptrs, hlt, ht])
      have hbx := ((HK.out wr hb).2.2.2.2.each t htm).box
      have q2 : wr.cell? ⟨t.b, 2, none⟩ = some (.pointer (some ⟨D.β, 0, none⟩)) := by simp [World.cell?, hbx]
      have q3 : wr.cell? ⟨t.b, 3, none⟩ = some (.int .i64 t.root) := by simp [World.cell?, hbx]
      have q4 : wr.cell? ⟨t.b, 4, none⟩ = some (.slice t.ca t.cs.length t.cc) := by simp [World.cell?, hbx]
      have hM := HM.out wr ([o, ao] ++ (D.ts.take j).map ot) (ot t) hb (by
        intro y hy
        simp only [List.cons_append, List.nil_append, List.mem_cons, List.mem_map] at hy
        rcases hy with rfl | rfl | ⟨x, hx, rfl⟩
        · exact HO.out
        · exact HAO.out
        · exact (HTS.out x (List.mem_of_mem_take hx)).1) (HTS.out t htm).1 HI.out t.root t.ca t.cs.length t.cc (HTS.out t htm).2
      have HE : Hid ([o, ao] ++ (D.ts.take j).map ot ++ [ot t] = [o, ao] ++ (D.ts.take (j + 1)).map ot) := by
        show _ = _
        rw [List.take_succ_eq_append_getElem hlt, ht, List.map_append, List.append_assoc]
        rfl
      rw [HE.out] at hM
      clear hcell ht hbx e2 e5 e11 e14
      go_wp2_with (go_at_call 52; (with_reducible refine Calls.mono hM ?_); rintro e w6 ⟨⟨v6, rfl⟩, hU6, hb6⟩)
      exact ⟨⟨j + 1, by simp, by omega, hb6, hU6⟩, by simp [intOf]; omega⟩
    · obtain rfl : j = D.ts.length := by omega
      have hlti : ¬ (D.ts.length : Int) < (D.ts.length : Int) := by omega
      rw [List.take_length] at HI
      obtain ⟨U, hUd⟩ : ∃ U, usedP ([o, ao] ++ D.ts.map ot) = U := ⟨_, rfl⟩
      have hUl : U.length = 4096 := by rw [← hUd]; exact usedP_len _
      rw [hUd] at HI
      have HUD : Hid (usedP ([o, ao] ++ D.ts.map ot) = U) := hUd
      clear hUd
      clear e2 e5 e11 e14 hlti
      go_wp2
      go_loopw [6, 7] (fun a b wq => ∃ p : Nat, b = .int .i64 p ∧ 2 ≤ p ∧ (p ≤ D.fs.safe.length ∨ p = 2) ∧ Below w.heap.size w wq ∧ Hid (UsedAt wq w.heap.size U) ∧ Hid (wq.ownsRow 0 3 1 a (freeQ U p).length ((freeQ U p).map (fun n : Nat => Value.int .i64 n)) ∧ ∀ k, a.ownBlock = some k → w.heap.size ≤ k)) (fun _ b _ => D.fs.safe.length - (intOf b).toNat)
      case atStart => exact ⟨2, rfl, Nat.le_refl _, .inr rfl, hb, HI.out, World.ownsRow_nil _ _ _ _, fun k hk => by simp [Value.ownBlock] at hk⟩
      case round =>
        obtain ⟨p, rfl, hp2, hpn, hbq, HUq, HOq⟩ := hrel
        obtain ⟨hown, hlies⟩ := HOq.out
        obtain ⟨c2, c5, c11, c14, hDq⟩ := HK.out wr hbq
        have hPg := pages_any D.β D.sv D.lv D.fs wr hDq.file
        obtain ⟨aa, ac, rfl⟩ := own_shape hown
        by_cases hlt2 : p < D.fs.safe.length
        · have hl2 : (p : Int) < (D.fs.safe.length : Int) := by omega
          have hp4 : p < 4096 := by omega
          have hp4i : (p : Int) < 4096 := by omega
          have ucell := HUq.out.cell hp4 hUl
          have hgd : U.getD p true = U[p]'(by omega) := by rw [List.getD_eq_getElem?_getD, List.getElem?_eq_getElem (by omega)]; rfl
          have HST : Hid _ := freeQ_step (u := U) hp2
          have hlenq : (freeQ U p).length ≤ 4096 := Nat.le_trans freeQ_len (by omega)
          cases hb' : (U[p]'(by omega) : Bool)
          · rw [hb'] at ucell hgd
            have HG : Hid _ := hgd
            clear hgd
            obtain ⟨L, hL⟩ : ∃ L, freeQ U p = L := ⟨_, rfl⟩
            rw [hL] at hown hlenq HOq HST hlies
            rw [hL]
            have HS1 : Hid (freeQ U (p + 1) = L ++ [p]) := by
              show _ = _
              rw [HST.out, HG.out]; rfl
            clear HST hL c5 c11 c14 hlt hDq
            go_wp2_with (first
              | (go_at_call 27; (with_reducible refine Calls.mono hPg ?_); rintro e w7 ⟨rfl, hw7⟩; subst w7)
              | (at_builtin; refine wp_app1 wr rfl (.tmp 56) (.tmp 58) 22 3 _ 1 8 rfl Tryz.underlying22 infoInt rfl (by decide) (.slice aa L.length ac) L.length (L.map (fun n : Nat => Value.int .i64 n)) rfl hown [.int .i64 (p : Int)] rfl rfl (by simp [Value.oneCell']) (by omega) (by omega) ?_; intro v3 w3 A3; obtain ⟨g3, k3, rfl⟩ := A3.shape (by decide)))
            obtain ⟨cur, hcur⟩ := HUq.out.box
            have hub := own_ne hown hcur (by decide)
            refine ⟨⟨p + 1, by simp, by omega, .inl (by omega), hbq.trans (A3.fr.below hbq.size (fun k hk => hlies k hk)), HUq.out.on (Y := Bl.one w.heap.size) (A3.fr.on (fun k hk => ⟨by simp only [Bl.one] at hk; have := HUq.out.lt; omega, by simp only [Bl.one] at hk; subst hk; exact hub⟩)) rfl, ?_, fun k hk => ?_⟩, by simp [intOf]; omega⟩
            · rw [HS1.out, List.length_append, List.length_singleton, List.map_append]
              exact A3.row
            · rcases A3.lies k hk with h' | h'
              · exact hlies k h'
              · exact Nat.le_trans hbq.size h'
          · rw [hb'] at ucell hgd
            have HG : Hid _ := hgd
            have HS1 : Hid (freeQ U (p + 1) = freeQ U p) := by
              show _ = _
              rw [HST.out, HG.out]; simp
            clear HST HG hgd c5 c11 c14 hlt hDq
            go_wp2_with (go_at_call 27; (with_reducible refine Calls.mono hPg ?_); rintro e w7 ⟨rfl, hw7⟩; subst w7)
            refine ⟨⟨p + 1, by simp, by omega, .inl (by omega), hbq, HUq.out, ?_, hlies⟩, by simp [intOf]; omega⟩
            rw [HS1.out]
            exact hown
        · have hl2 : ¬ (p : Int) < (D.fs.safe.length : Int) := by omega
          have HFE : Hid (freeQ U p = freeP D.fs.safe.length U) := freeQ_end (by omega) hpn
          clear c5 c11 c14 hlt hDq
          go_wp2_with (go_at_call 27; (with_reducible refine Calls.mono hPg ?_); rintro e w7 ⟨rfl, hw7⟩; subst w7)
          go_ret
          refine ⟨.slice aa (freeQ U p).length ac, rfl, ?_, hbq⟩
          rw [show usedP (o :: ao :: D.ts.map ot) = U from HUD.out, ← HFE.out]
          exact hown
end Go.Proofs.YtngpplmndpmgiaaGreat.Tree
namespace Go.Proofs.YtngpplmndpmgiaaGreat.Tree
open Go.RowKit Go.Proofs.YtngpplmndpmgiaaGreat.Pages
set_option linter.unusedSimpArgs false
set_option linter.unusedVariables false
def Fs.well (fs : Fs) : Prop := fs.wait = -1 ∧ fs.life = -1
theorem Fs.well_ok {fs : Fs} (h : fs.well) : fs.chOk = true ∧ fs.ch = fs := by
  obtain ⟨h1, h2⟩ := h
  have hok : fs.chOk = true := by unfold Fs.chOk; rw [h1, h2]; rfl
  refine ⟨hok, ?_⟩
  unfold Fs.ch
  rw [if_pos hok, h1, h2]
  cases fs
  simp only at h1 h2
  subst h1 h2
  rfl
theorem Fs.well_alive {fs : Fs} (h : fs.well) : (fs.life == 0) = false := by rw [h.2]; rfl
theorem Fs.well_put {fs : Fs} (h : fs.well) (p : Nat) (d : ByteArray) : (fs.put p d).well := h
theorem Fs.well_synced {fs : Fs} (h : fs.well) : fs.synced.well := h
theorem Fs.well_puts {fs : Fs} (h : fs.well) (l : List (Nat × Pg)) : (fs.puts l).well := h
theorem write_well (β : Nat) (sv lv : Value) (fs : Fs) (p : Nat) (data : ByteArray) (w : World) (h : FileAt w β sv lv fs) (hw : fs.well) (hd : data.size = 256) (hp : p < fs.safe.length) (hroom : fs.late.length < 1000000) :
    Calls Tryz.prog 78 #[.pointer (some ⟨β, 0, none⟩), .int .i64 p, .string data] w fun e w' => e = .returned (.bool true) ∧
      ∃ lv', FileAt w' β sv lv' (fs.put p data) ∧ Fr (fpF β sv lv) w w' ∧ Grows w (fpF β sv lv) (fpF β sv lv') := by
  have := write_any β sv lv fs p data w h (by rw [hw.1]; decide) (by rw [hw.1]; decide) (by rw [hw.2]; decide) (by rw [hw.2]; decide) hd hp hroom
  rw [(Fs.well_ok hw).1, (Fs.well_ok hw).2] at this
  exact this
theorem sync_well (β : Nat) (sv lv : Value) (fs : Fs) (w : World) (h : FileAt w β sv lv fs) (hw : fs.well) (hfit : fs.fits) :
    Calls Tryz.prog 49 #[.pointer (some ⟨β, 0, none⟩)] w fun e w' => e = .returned (.bool true) ∧
      ∃ lv', FileAt w' β sv lv' fs.synced ∧ Fr (fpF β sv lv) w w' ∧ Grows w (fpF β sv lv) (fpF β sv lv') := by
  have := sync_any β sv lv fs w h (by rw [hw.1]; decide) (by rw [hw.1]; decide) (by rw [hw.2]; decide) (by rw [hw.2]; decide) hfit
  rw [(Fs.well_ok hw).1, (Fs.well_ok hw).2] at this
  exact this
theorem own_block {w : World} {B : Nat} {e : TypeId} {z n k : Nat} {v : Value} {xs : List Value} (h : w.ownsRow B e z v n xs) (hk : v.ownBlock = some k) : ∃ cur, w.heap[k]? = some (.cells cur e) := by
  obtain ⟨_, h2⟩ := h
  rcases h2 with ⟨h3, _⟩ | ⟨g', cap, cur, h3, _, hg, _⟩
  · rw [h3] at hk; simp [Value.ownBlock] at hk
  · rw [h3] at hk
    simp only [Value.ownBlock, Option.some.injEq] at hk
    subst hk
    exact ⟨cur, hg⟩
theorem DbAt.txFile {w : World} {st : Int} {D : Db} (h : DbAt w st D) {t : Tx} (ht : TxAt w D.β t) : ∀ k, fpT t k → ¬ fpF D.β D.sv D.lv k := by
  rintro k (rfl | hk)
  · exact file_apart h.file ht.box (by decide) (by decide) (by decide)
  · obtain ⟨cur, hc⟩ := own_block ht.row hk
    exact file_apart h.file hc (by decide) (by decide) (by decide)
theorem DbAt.refile {w w' : World} {st : Int} {D : Db} {lv' : Value} {fs' : Fs} (h : DbAt w st D) (hf : FileAt w' D.β D.sv lv' fs') (f : Fr (fpF D.β D.sv D.lv) w w') : DbAt w' st { D with lv := lv', fs := fs' } :=
  ⟨f.heap h.box h.noFile, hf, own_keep h.row f (fun k hk hfp => h.fileRow k hfp hk), fun t ht => (h.each t ht).on (f.on (fun k hk => ⟨(h.each t ht).lies k hk, h.txFile (h.each t ht) k hk⟩)), h.apart⟩
theorem TxAt.refile {w w' : World} {st : Int} {D : Db} {t : Tx} (h : DbAt w st D) (ht : TxAt w D.β t) (f : Fr (fpF D.β D.sv D.lv) w w') : TxAt w' D.β t :=
  ht.on (f.on (fun k hk => ⟨ht.lies k hk, h.txFile ht k hk⟩))
end Go.Proofs.YtngpplmndpmgiaaGreat.Tree
namespace Go.Proofs.YtngpplmndpmgiaaGreat.Tree
open Go.RowKit Go.Proofs.YtngpplmndpmgiaaGreat.Pages
set_option linter.unusedSimpArgs false
set_option linter.unusedVariables false
theorem RowOn.wr {w : World} {S : Bl} {a : Option Addr} {l : List (Nat × ByteArray)} {j : Nat} (h : RowOn w S a (l.flatMap wcells)) (hj : j < l.length) : ∃ b off, a = some ⟨b, off, none⟩ ∧ S b ∧ w.cell? ⟨b, off + j * 2, none⟩ = some (.int .i64 (l[j]).1) ∧ w.cell? ⟨b, off + j * 2 + 1, none⟩ = some (.string (l[j]).2) := by
  obtain ⟨c0, c1⟩ := wcells_at hj
  rcases h with h | ⟨b, off, ha, hb, hc⟩
  · rw [h] at c0; simp at c0
  · exact ⟨b, off, ha, hb, hc _ _ c0, hc _ _ c1⟩
def encL (l : List (Nat × Pg)) : List (Nat × ByteArray) := l.map fun y => (y.1, y.2.encS)
set_option maxRecDepth 100000 in
set_option maxHeartbeats 4000000 in
theorem wr_any (D : Db) (st : Int) (l : List (Nat × Pg)) (m : MV) (rt : Nat) (wa : Option Addr) (wc : Nat) (S : Bl) (w : World) (h : DbAt w st D) (hw : D.fs.well) (hlate : D.fs.late = [])
    (hR : RowOn w S wa ((encL l).flatMap wcells)) (hS : ∀ k, S k → k < w.heap.size ∧ ¬ fpF D.β D.sv D.lv k) (hlc : l.length ≤ wc) (hll : l.length ≤ 4096)
    (hE : ∀ y ∈ l, y.2.encE = 0) (hp : ∀ y ∈ l, y.1 < D.fs.safe.length) (hmE : (metaPg m.ver m.root).encE = 0) (hms : (metaPg m.ver m.root).small) (h2 : 2 ≤ D.fs.safe.length) :
    Calls Tryz.prog 102 #[.pointer (some ⟨D.d, 0, none⟩), .agg #[.int .i64 (rt : Int), .slice wa l.length wc], .agg #[.int .i64 1, .int .i64 m.ver, .int .i64 m.root, .int .i64 0, .slice m.ka 0 m.kc, .slice m.ia 0 m.ic, .slice m.ea 0 m.ec, .string ⟨#[]⟩]] w fun e w' => e = .returned (.bool true) ∧ ∃ lv', DbAt w' st { D with lv := lv', fs := D.fs.made l (m.ver % 2) (metaPg m.ver m.root) } ∧ Fr (fpF D.β D.sv D.lv) w w' ∧ Grows w (fpF D.β D.sv D.lv) (fpF D.β D.sv lv') := by
  obtain ⟨W1, hW1⟩ : ∃ W1, (w.alloc (.cells #[.int .i64 (rt : Int), .slice wa l.length wc] 174)).alloc (.cells #[.int .i64 1, .int .i64 m.ver, .int .i64 m.root, .int .i64 0, .slice m.ka 0 m.kc, .slice m.ia 0 m.ic, .slice m.ea 0 m.ec, .string ⟨#[]⟩] 72) = W1 := ⟨_, rfl⟩
  have B1 : Below w.heap.size w W1 := hW1 ▸ ((Below.refl _ _).alloc (Nat.le_refl _) _).alloc (by simp) _
  have x1 : W1.heap[w.heap.size]? = some (.cells #[.int .i64 (rt : Int), .slice wa l.length wc] 174) := hW1 ▸ heap_keep _ (heap_new w _)
  have x2 : W1.heap[w.heap.size + 1]? = some (.cells #[.int .i64 1, .int .i64 m.ver, .int .i64 m.root, .int .i64 0, .slice m.ka 0 m.kc, .slice m.ia 0 m.ic, .slice m.ea 0 m.ec, .string ⟨#[]⟩] 72) := by
    rw [← hW1]; have := heap_new (w.alloc (.cells #[.int .i64 (rt : Int), .slice wa l.length wc] 174)) (.cells #[.int .i64 1, .int .i64 m.ver, .int .i64 m.root, .int .i64 0, .slice m.ka 0 m.kc, .slice m.ia 0 m.ic, .slice m.ea 0 m.ec, .string ⟨#[]⟩] 72); simpa using this
  have l2 := (Array.getElem?_eq_some_iff.1 x2).1
  obtain ⟨p0, p1⟩ := box2 x1
  obtain ⟨m0, m1, m2, m3, m4, m5, m6, m7⟩ := box8 x2
  have hEn := encoded_any (metaPg m.ver m.root) m.ka m.ia m.ea m.kc m.ic m.ec (fun _ => False) W1 ⟨.inl rfl, .inl rfl, .inl rfl⟩ (fun _ hb => hb.elim) hms hmE
  simp only [metaPg, List.length_nil, Int.ofNat_zero] at hEn
  obtain ⟨ms, hmsd⟩ : ∃ ms, (metaPg m.ver m.root).encS = ms := ⟨_, rfl⟩
  have HMS : Hid ((metaPg m.ver m.root).encS = ms) := hmsd
  have hEn' : Calls Tryz.prog 79 #[.agg #[.int .i64 1, .int .i64 m.ver, .int .i64 m.root, .int .i64 0, .slice m.ka 0 m.kc, .slice m.ia 0 m.ic, .slice m.ea 0 m.ec, .string ⟨#[]⟩]] W1 fun e w' => e = .returned (.string ms) ∧ Below W1.heap.size W1 w' := by
    rw [← hmsd]; exact hEn
  clear hEn hmsd
  go_enter Tryz.func102, Tryz.ntmps102
  go_wp2_with (go_at_call 79; (with_reducible refine Calls.mono hEn' ?_); rintro e w2 ⟨rfl, hb2⟩; have B2 := B1.trans (hb2.mono B1.size); have y1 := (hb2.block _ (by omega)).trans x1; obtain ⟨q0, q1⟩ := box2 y1)
  have y2 := (hb2.block _ l2).trans x2
  have HD : Hid (∀ X, Fr (fpF D.β D.sv D.lv) w X → X.heap[D.d]? = some (dbO st D) ∧ RowOn X S wa ((encL l).flatMap wcells)) := fun X hX => ⟨hX.heap h.box h.noFile, hR.on (hX.on hS)⟩
  have HS0 : Hid (FileAt w2 D.β D.sv D.lv (D.fs.puts (l.take 0)) ∧ Fr (fpF D.β D.sv D.lv) w w2 ∧ Grows w (fpF D.β D.sv D.lv) (fpF D.β D.sv D.lv) ∧ w2.heap[w.heap.size + 1]? = some (.cells #[.int .i64 1, .int .i64 m.ver, .int .i64 m.root, .int .i64 0, .slice m.ka 0 m.kc, .slice m.ia 0 m.ic, .slice m.ea 0 m.ec, .string ⟨#[]⟩] 72)) := by
    refine ⟨?_, Fr.of_below B2, Grows.refl _ _, y2⟩
    rw [List.take_zero, puts_nil]
    exact h.file.on (On.of_below B2 h.file.lies)
  have HH : Hid (DbAt w st D) := h
  have HW : Hid _ := hw
  have HE : Hid _ := hE
  have HP : Hid _ := hp
  have HLT : Hid _ := hlate
  clear h hR hS hE hp hw hlate hW1 x1 x2 p0 p1 m0 m1 m2 m3 m4 m5 m6 m7 hEn' y1 y2 q0 q1
  go_loopw [15] (fun a wq => ∃ (j : Nat) (lvj : Value), a = .int .i64 j ∧ j ≤ l.length ∧ Hid (FileAt wq D.β D.sv lvj (D.fs.puts (l.take j)) ∧ Fr (fpF D.β D.sv D.lv) w wq ∧ Grows w (fpF D.β D.sv D.lv) (fpF D.β D.sv lvj) ∧ wq.heap[w.heap.size + 1]? = some (.cells #[.int .i64 1, .int .i64 m.ver, .int .i64 m.root, .int .i64 0, .slice m.ka 0 m.kc, .slice m.ia 0 m.ic, .slice m.ea 0 m.ec, .string ⟨#[]⟩] 72))) (fun a _ => l.length - (intOf a).toNat)
  case atStart => exact ⟨0, D.lv, rfl, Nat.zero_le _, HS0.out⟩
  case round =>
    obtain ⟨j, lvj, rfl, hj, HF⟩ := hrel
    obtain ⟨hFj, hFr, hG, hbx⟩ := HF.out
    obtain ⟨hdb, hrow⟩ := HD.out wr hFr
    by_cases hlt : j < l.length
    · have hlti : (j : Int) < (l.length : Int) := by omega
      obtain ⟨y, hy⟩ : ∃ y, l[j] = y := ⟨_, rfl⟩
      have hym : y ∈ l := hy ▸ List.getElem_mem hlt
      obtain ⟨rb, ro, hwa, hrb, k0, k1⟩ := hrow.wr (j := j) (by simp [encL]; exact hlt)
      simp only [encL, List.getElem_map, hy] at k0 k1
      subst hwa
      obtain ⟨yp, ye⟩ := y
      simp only at k0 k1
      obtain ⟨d, hd⟩ : ∃ d, ye.encS = d := ⟨_, rfl⟩
      rw [hd] at k1
      have hd256 : d.size = 256 := hd ▸ enc_size ye (HE.out _ hym)
      have hst : (D.fs.puts (l.take j)).put yp d = D.fs.puts (l.take (j + 1)) := by
        rw [List.take_succ_eq_append_getElem hlt, hy, puts_snoc, hd]
      have hroom : (D.fs.puts (l.take j)).late.length < 1000000 := by
        simp only [Fs.puts, HLT.out, List.nil_append, List.length_map, List.length_take]; omega
      have HWc : Hid (∀ X, Below wr.heap.size wr X → Calls Tryz.prog 78 #[.pointer (some ⟨D.β, 0, none⟩), .int .i64 (yp : Int), .string d] X fun e w' => e = .returned (.bool true) ∧ ∃ lv', FileAt w' D.β D.sv lv' (D.fs.puts (l.take (j + 1))) ∧ Fr (fpF D.β D.sv lvj) X w' ∧ Grows X (fpF D.β D.sv lvj) (fpF D.β D.sv lv') ∧ (∀ (k : Nat) (cs : Array Value) (t : TypeId), X.heap[k]? = some (Obj.cells cs t) → t ≠ 60 → t ≠ 9 → t ≠ 62 → w'.heap[k]? = some (Obj.cells cs t))) := by
        intro X hX
        have hFX := hFj.on (On.of_below hX hFj.lies)
        refine (write_well D.β D.sv lvj (D.fs.puts (l.take j)) yp d X hFX (Fs.well_puts HW.out _) hd256 (HP.out _ hym) hroom).mono ?_
        rintro e w' ⟨he, lv', h1, h2, h3⟩
        rw [hst] at h1
        exact ⟨he, lv', h1, h2, h3, fun k cs t hk n1 n2 n3 => h2.heap hk (file_apart hFX hk n1 n2 n3)⟩
      obtain ⟨c0, c1, c2, c3, c4, c5, c6, c7, c8, c9, c10, c11, c12, c13, c14⟩ := box15 hdb
      obtain ⟨W3, hW3⟩ : ∃ W3, wr.alloc (.cells #[.int .i64 (yp : Int), .string d] 205) = W3 := ⟨_, rfl⟩
      have B3 : Below wr.heap.size wr W3 := hW3 ▸ (Below.refl _ _).alloc (Nat.le_refl _) _
      have z3 : W3.heap[wr.heap.size]? = some (.cells #[.int .i64 (yp : Int), .string d] 205) := hW3 ▸ heap_new wr _
      have db3 := (B3.block _ (Array.getElem?_eq_some_iff.1 hdb).1).trans hdb
      have bx3 := (B3.block _ (Array.getElem?_eq_some_iff.1 hbx).1).trans hbx
      obtain ⟨z0, z1⟩ := box2 z3
      have z2 : W3.cell? ⟨D.d, 2, none⟩ = some (.pointer (some ⟨D.β, 0, none⟩)) := by simp [World.cell?, db3]
      clear c0 c1 c2 c3 c4 c5 c6 c7 c8 c9 c10 c11 c12 c13 c14 hst hd hy hrow
      go_wp2
      go_region_held3 (fun X => X.cell? ⟨D.d, 2, none⟩ = some (.pointer (some ⟨D.β, 0, none⟩)) ∧ X.cell? ⟨wr.heap.size, 0, none⟩ = some (.int .i64 (yp : Int)) ∧ X.cell? ⟨wr.heap.size, 1, none⟩ = some (.string d))
        ((first | (with_reducible exact ⟨z2, z0, z1⟩) | (simp [z2, z0, z1])))
        (first
          | (go_at_call 78; (with_reducible refine Calls.mono (HWc.out _ ?_) ?_); (first | exact B3.drew | exact B3); rintro e w6 ⟨rfl, lv6, hf6, hr6, hg6, hk6⟩; have db6 := hk6 _ _ _ db3 (by decide) (by decide) (by decide); have bx6 := hk6 _ _ _ bx3 (by decide) (by decide) (by decide); have z6 := hk6 _ _ _ z3 (by decide) (by decide) (by decide); obtain ⟨z0, z1⟩ := box2 z6; have z2 : w6.cell? ⟨D.d, 2, none⟩ = some (.pointer (some ⟨D.β, 0, none⟩)) := (by simp [World.cell?, db6])))
      all_goals go_wp2
      all_goals
        have F6 : Fr (fpF D.β D.sv lvj) wr w6 := by first | exact (Fr.of_below B3.drew).trans hr6 | exact (Fr.of_below B3).trans hr6
        have G6 : Grows w (fpF D.β D.sv D.lv) (fpF D.β D.sv lv6) := by
          have s1 := hFr.size
          have s2 := B3.size
          first | exact hG.trans (b := W3.drew) (by show _ ≤ W3.heap.size; omega) hg6 | exact hG.trans (b := W3) (by omega) hg6
        exact ⟨⟨j + 1, lv6, by simp, by omega, hf6, hFr.grow F6 hG, G6, bx6⟩, by simp [intOf]; omega⟩
    · obtain rfl : j = l.length := by omega
      have hlti : ¬ (l.length : Int) < (l.length : Int) := by omega
      rw [List.take_length] at hFj
      have HY : Hid (∀ X lvx fx, FileAt X D.β D.sv lvx fx → fx.well → fx.fits → Calls Tryz.prog 49 #[.pointer (some ⟨D.β, 0, none⟩)] X fun e w' => e = .returned (.bool true) ∧ ∃ lv', FileAt w' D.β D.sv lv' fx.synced ∧ Fr (fpF D.β D.sv lvx) X w' ∧ Grows X (fpF D.β D.sv lvx) (fpF D.β D.sv lv') ∧ (∀ (k : Nat) (cs : Array Value) (t : TypeId), X.heap[k]? = some (Obj.cells cs t) → t ≠ 60 → t ≠ 9 → t ≠ 62 → w'.heap[k]? = some (Obj.cells cs t))) := fun X lvx fx hX hwx hfx => (sync_well D.β D.sv lvx fx X hX hwx hfx).mono fun e w' ⟨he, lv', h1, h2, h3⟩ => ⟨he, lv', h1, h2, h3, fun k cs t hk n1 n2 n3 => h2.heap hk (file_apart hX hk n1 n2 n3)⟩
      have HZ : Hid (∀ X lvx fx, FileAt X D.β D.sv lvx fx → fx.well → m.ver % 2 < fx.safe.length → fx.late.length < 1000000 → Calls Tryz.prog 78 #[.pointer (some ⟨D.β, 0, none⟩), .int .i64 ((m.ver : Int) % 2), .string ms] X fun e w' => e = .returned (.bool true) ∧ ∃ lv', FileAt w' D.β D.sv lv' (fx.put (m.ver % 2) ms) ∧ Fr (fpF D.β D.sv lvx) X w' ∧ Grows X (fpF D.β D.sv lvx) (fpF D.β D.sv lv') ∧ (∀ (k : Nat) (cs : Array Value) (t : TypeId), X.heap[k]? = some (Obj.cells cs t) → t ≠ 60 → t ≠ 9 → t ≠ 62 → w'.heap[k]? = some (Obj.cells cs t))) := by
        intro X lvx fx hX hwx hmx hrx
        have hmod : (((m.ver % 2 : Nat)) : Int) = (m.ver : Int) % 2 := by simp
        rw [← hmod]
        exact (write_well D.β D.sv lvx fx (m.ver % 2) ms X hX hwx (HMS.out ▸ enc_size _ hmE) hmx hrx).mono fun e w' ⟨he, lv', h1, h2, h3⟩ => ⟨he, lv', h1, h2, h3, fun k cs t hk n1 n2 n3 => h2.heap hk (file_apart hX hk n1 n2 n3)⟩
      have HPl : Hid (∀ X, Calls Tryz.prog 129 #[.agg #[.int .i64 1, .int .i64 m.ver, .int .i64 m.root, .int .i64 0, .slice m.ka 0 m.kc, .slice m.ia 0 m.ic, .slice m.ea 0 m.ec, .string ⟨#[]⟩]] X fun e w' => e = .returned (.int .i64 ((m.ver : Int) % 2)) ∧ Below X.heap.size X w') := by
        intro X
        have := placeOf_any m X
        rw [show (((m.ver % 2 : Nat)) : Int) = (m.ver : Int) % 2 by simp] at this
        exact this
      have hfit1 : (D.fs.puts l).fits := by
        intro x hx
        simp only [Fs.puts, HLT.out, List.nil_append, List.mem_map] at hx
        obtain ⟨y, hy, rfl⟩ := hx
        exact HP.out y hy
      have hlen1 : (D.fs.puts l).synced.safe.length = D.fs.safe.length := laid_length _ _
      have hfit2 : (((D.fs.puts l).synced).put (m.ver % 2) ms).fits := by
        intro x hx
        simp only [Fs.put, Fs.synced, List.nil_append, List.mem_singleton] at hx
        subst hx
        show m.ver % 2 < (laid _ _).length
        rw [laid_length]
        show m.ver % 2 < D.fs.safe.length
        omega
      have HS1 := HY.out wr.drew lvj _ (hFj.on (On.of_below (Below.refl _ wr).drew hFj.lies)) (Fs.well_puts HW.out l) hfit1
      have HML : Hid (m.ver % 2 < (D.fs.puts l).synced.safe.length) := by show _ < _; rw [hlen1]; omega
      have HF2 : Hid _ := hfit2
      obtain ⟨n0, n1, n2, n3, n4, n5, n6, n7⟩ := box8 hbx
      have z2 : wr.cell? ⟨D.d, 2, none⟩ = some (.pointer (some ⟨D.β, 0, none⟩)) := by simp [World.cell?, hdb]
      clear hfit1 hfit2 hlen1 hrow
      go_wp2
      go_region_held3 (fun X => X.cell? ⟨D.d, 2, none⟩ = some (.pointer (some ⟨D.β, 0, none⟩)) ∧ X.cell? ⟨w.heap.size + 1, 0, none⟩ = some (.int .i64 1) ∧ X.cell? ⟨w.heap.size + 1, 1, none⟩ = some (.int .i64 m.ver) ∧ X.cell? ⟨w.heap.size + 1, 2, none⟩ = some (.int .i64 m.root) ∧ X.cell? ⟨w.heap.size + 1, 3, none⟩ = some (.int .i64 0) ∧ X.cell? ⟨w.heap.size + 1, 4, none⟩ = some (.slice m.ka 0 m.kc) ∧ X.cell? ⟨w.heap.size + 1, 5, none⟩ = some (.slice m.ia 0 m.ic) ∧ X.cell? ⟨w.heap.size + 1, 6, none⟩ = some (.slice m.ea 0 m.ec) ∧ X.cell? ⟨w.heap.size + 1, 7, none⟩ = some (.string ⟨#[]⟩))
        ((first | (with_reducible exact ⟨z2, n0, n1, n2, n3, n4, n5, n6, n7⟩) | (simp [z2, n0, n1, n2, n3, n4, n5, n6, n7])))
        (first
          | (go_at_call 49; (with_reducible refine Calls.mono HS1 ?_); rintro e w6 ⟨rfl, lv6, hf6, hr6, hg6, hk6⟩; have db6 := hk6 _ _ _ hdb (by decide) (by decide) (by decide); have bx6 := hk6 _ _ _ hbx (by decide) (by decide) (by decide); obtain ⟨n0, n1, n2, n3, n4, n5, n6, n7⟩ := box8 bx6; have z2 : w6.cell? ⟨D.d, 2, none⟩ = some (.pointer (some ⟨D.β, 0, none⟩)) := (by simp [World.cell?, db6]))
          | (go_at_call 129; (with_reducible refine Calls.mono (HPl.out _) ?_); rintro e w7 ⟨rfl, hb7⟩; have db7 := (hb7.block _ (Array.getElem?_eq_some_iff.1 db6).1).trans db6; have bx7 := (hb7.block _ (Array.getElem?_eq_some_iff.1 bx6).1).trans bx6; obtain ⟨n0, n1, n2, n3, n4, n5, n6, n7⟩ := box8 bx7; have z2 : w7.cell? ⟨D.d, 2, none⟩ = some (.pointer (some ⟨D.β, 0, none⟩)) := (by simp [World.cell?, db7]); have hf7 := hf6.on (On.of_below hb7 hf6.lies); have HS2 := HZ.out w7 lv6 _ hf7 (Fs.well_synced (Fs.well_puts HW.out l)) HML.out (by simp [Fs.synced]))
          | (go_at_call 78; (with_reducible refine Calls.mono HS2 ?_); rintro e w8 ⟨rfl, lv8, hf8, hr8, hg8, hk8⟩; have db8 := hk8 _ _ _ db7 (by decide) (by decide) (by decide); have bx8 := hk8 _ _ _ bx7 (by decide) (by decide) (by decide); obtain ⟨n0, n1, n2, n3, n4, n5, n6, n7⟩ := box8 bx8; have z2 : w8.cell? ⟨D.d, 2, none⟩ = some (.pointer (some ⟨D.β, 0, none⟩)) := (by simp [World.cell?, db8]); have HS3 := HY.out w8 lv8 _ hf8 (Fs.well_put (Fs.well_synced (Fs.well_puts HW.out l)) _ _) HF2.out)
          | (go_at_call 49; (with_reducible refine Calls.mono HS3 ?_); rintro e w9 ⟨rfl, lv9, hf9, hr9, hg9, hk9⟩; have db9 := hk9 _ _ _ db8 (by decide) (by decide) (by decide); have bx9 := hk9 _ _ _ bx8 (by decide) (by decide) (by decide); obtain ⟨n0, n1, n2, n3, n4, n5, n6, n7⟩ := box8 bx9; have z2 : w9.cell? ⟨D.d, 2, none⟩ = some (.pointer (some ⟨D.β, 0, none⟩)) := (by simp [World.cell?, db9])))
      all_goals go_wp2
      all_goals
        have F6 := hFr.grow ((Fr.refl _ wr).drew.trans hr6) hG
        have G6 := hG.trans (b := wr.drew) hFr.size hg6
        have F7 := F6.trans (Fr.of_below hb7)
        have F8 := F7.grow hr8 G6
        have G8 := G6.trans F7.size hg8
        have F9 := F8.grow hr9 G8
        have G9 := G8.trans F8.size hg9
        have hDB := HH.out.refile hf9 F9
        have hmade : D.fs.made l (m.ver % 2) (metaPg m.ver m.root) = (((D.fs.puts l).synced).put (m.ver % 2) ms).synced := by unfold Fs.made; rw [HMS.out]
        rw [← hmade] at hDB
        go_ret
        exact ⟨rfl, lv9, hDB, F9, G9⟩
end Go.Proofs.YtngpplmndpmgiaaGreat.Tree
