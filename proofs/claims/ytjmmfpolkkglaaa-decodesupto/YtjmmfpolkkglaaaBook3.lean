/-
  What looks answers of a book whose lists read as their owner left them.
-/
import Derived.Test.YtjmmfpolkkglaaaBook2
import Derived.Deep.DeepCutAuto
import Derived.Deep.RegionWith
import Derived.Deep.CutBlock
import Derived.Deep.RegionLaw
namespace Go.Proofs.Ytjmmfpolkkglaaa.Pages
open Go.RowKit
set_option linter.unusedSimpArgs false
set_option linter.unusedVariables false

/-- a list that its owner has marked all over -/
def Cut (w : World) (e : TypeId) (z : Nat) (c : List Value) (v : Value) : Prop := ∃ n, n ≤ 400 ∧ w.ownsRow 0 e z v n ((List.replicate n c).flatten)
def cutT (j : Nat) : List Value := [.string (markS (j / 4))]
def cutI (j : Nat) : List Value := [.int .i64 (-1 - (j : Int) / 4)]
def cutE (j : Nat) : List Value := [.string ⟨#[]⟩, .string ⟨#[]⟩, .int .i64 (-1 - (j : Int) / 4), .int .i64 0]
/-- a book in memory -/
structure BookAt (w : World) (B0 β : Nat) (vt vi ve : Value) (ts is es : List Value) : Prop where
  box : w.heap[β]? = some (.cells #[vt, vi, ve, .slice none 0 0] 42)
  le : B0 ≤ β
  ot : w.ownsRow B0 24 1 vt ts.length ts
  oi : w.ownsRow B0 25 1 vi is.length is
  oe : w.ownsRow B0 26 1 ve es.length es
  nt : ts.length ≤ 100
  ni : is.length ≤ 100
  ne : es.length ≤ 100
  ct : ∀ (j : Nat) (h : j < ts.length), Cut w 9 1 (cutT j) ts[j]
  ci : ∀ (j : Nat) (h : j < is.length), Cut w 3 1 (cutI j) is[j]
  ce : ∀ (j : Nat) (h : j < es.length), Cut w 52 4 (cutE j) es[j]
theorem mark_div (j : Nat) (w : World) (h : j ≤ 10000) :
    Calls Try.prog 34 #[.int .i64 ((j : Int) / 4)] w fun e w' => e = .returned (.string (markS (j / 4))) ∧ Below w.heap.size w w' := by
  have e : (j : Int) / 4 = ((j / 4 : Nat) : Int) := by omega
  rw [e]
  exact mark_any (j / 4) w (by omega)
theorem mark_eq (j : Nat) (z : Int) (w : World) (h : j ≤ 10000) (hz : z = (j : Int) / 4) :
    Calls Try.prog 34 #[.int .i64 z] w fun e w' => e = .returned (.string (markS (j / 4))) ∧ Below w.heap.size w w' := by
  rw [hz]
  exact mark_div j w h
theorem quo4 (j : Nat) (h : j ≤ 10000) : IntKind.i64.wrap ((j : Int).tdiv 4) = (j : Int) / 4 := by
  rw [IntKind.wrap_i64, Int.tdiv_eq_ediv_of_nonneg (by omega)]
  omega
/-- where a list of one's own lies, and its cells -/
theorem own_cells {w : World} {B : Nat} {e : TypeId} {z : Nat} {v : Value} {n : Nat} {xs : List Value} (h : w.ownsRow B e z v n xs) : ∃ a c, v = .slice a n c ∧ (n ≠ 0 → ∃ g, a = some ⟨g, 0, none⟩ ∧ g < w.heap.size ∧ ∀ j u, xs[j]? = some u → w.cell? ⟨g, j, none⟩ = some u) := by
  have hc := fun g hg => World.ownsRow.cells (w := w) h (g := g) hg
  have hlt := World.ownsRow.lt (w := w) h
  obtain ⟨hl, ⟨rfl, rfl⟩ | ⟨g, cap, cur, rfl, _⟩⟩ := id h
  · exact ⟨none, 0, rfl, fun h => absurd rfl h⟩
  · refine ⟨_, _, rfl, fun _ => ⟨g, rfl, (hlt g rfl).2, fun j u hu => ?_⟩⟩
    have := hc g rfl j u hu
    have e : (⟨g, 0, none⟩ : Addr).add j = ⟨g, j, none⟩ := by unfold Addr.add; split <;> simp_all
    rw [e] at this
    exact this
theorem flat1 (u : Value) : ∀ (n : Nat), (List.replicate n [u]).flatten = List.replicate n u
  | 0 => rfl
  | n + 1 => by rw [List.replicate_succ, List.flatten_cons, List.replicate_succ, flat1 u n]; rfl
theorem flat1_at (n k : Nat) (u : Value) (h : k < n) : ((List.replicate n [u]).flatten)[k]? = some u := by rw [flat1]; simp [h]
theorem flat4_at (a b c d : Value) : ∀ (n k i : Nat), k < n → i < 4 → ((List.replicate n [a, b, c, d]).flatten)[k * 4 + i]? = [a, b, c, d][i]?
  | 0, _, _, h, _ => by omega
  | n + 1, 0, i, _, hi => by
    rw [List.replicate_succ, List.flatten_cons, Nat.zero_mul, Nat.zero_add, List.getElem?_append_left (by simpa using hi)]
  | n + 1, k + 1, i, h, hi => by
    rw [List.replicate_succ, List.flatten_cons, List.getElem?_append_right (by simp; omega)]
    have e : (k + 1) * 4 + i - [a, b, c, d].length = k * 4 + i := by simp; omega
    rw [e]
    exact flat4_at a b c d n k i (by omega) hi

set_option maxRecDepth 100000 in
set_option maxHeartbeats 2000000 in
theorem looks_any (B0 β : Nat) (vt vi ve : Value) (ts is es : List Value) (w : World) (hB : BookAt w B0 β vt vi ve ts is es) :
    Calls Try.prog 19 #[.pointer (some ⟨β, 0, none⟩)] w fun e w' => e = .returned (.bool true) ∧ Below w.heap.size w w' := by
  obtain ⟨ta, tc, rfl, ht⟩ := own_cells hB.ot
  obtain ⟨ia, ic, rfl, hi⟩ := own_cells hB.oi
  obtain ⟨ea, ec, rfl, he⟩ := own_cells hB.oe
  have hbox := hB.box
  have hβ : β < w.heap.size := (Array.getElem?_eq_some_iff.1 hbox).1
  have hnt := hB.nt
  have hni := hB.ni
  have hne := hB.ne
  go_enter Try.func19, Try.ntmps19
  go_wp2
  go_loopw [3, 4] (fun i k wr => ∃ j : Nat, j ≤ ts.length ∧ i = .int .i64 j ∧ Below w.heap.size w wr) (fun i _ _ => ts.length - (intOf i).toNat)
  case atStart => exact ⟨0, Nat.zero_le _, rfl, Below.refl _ _⟩
  case round =>
    obtain ⟨j, hj, rfl, hb⟩ := hrel
    obtain ⟨x0, x1, x2, x3⟩ := box4 ((hb.block β hβ).trans hbox)
    by_cases hlt : j < ts.length
    · obtain ⟨g, rfl, hg, hcell⟩ := ht (by omega)
      have hrow0 : w.cell? ⟨g, j, none⟩ = some ts[j] := hcell j _ (List.getElem?_eq_getElem hlt)
      obtain ⟨n, hn, hcut⟩ := hB.ct j hlt
      obtain ⟨a, c, hv, hnz⟩ := own_cells hcut
      rw [hv] at hrow0
      clear hcell ht hi he hv hcut
      go_wp2
      go_loopw [4] (fun k wr2 => ∃ m : Nat, m ≤ n ∧ k = .int .i64 m ∧ Below w.heap.size w wr2) (fun k _ => n - (intOf k).toNat)
      case atStart => exact ⟨0, Nat.zero_le _, rfl, hb⟩
      case round =>
        clear x0 x1 x2 x3 hb
        obtain ⟨m, hm, rfl, hb⟩ := hrel
        obtain ⟨x0, x1, x2, x3⟩ := box4 ((hb.block β hβ).trans hbox)
        have hrow : wr.cell? ⟨g, j, none⟩ = _ := (hb.cell (p := ⟨g, j, none⟩) hg).trans hrow0
        by_cases hlt2 : m < n
        · obtain ⟨ga, rfl, hga, hcell⟩ := hnz (by omega)
          have hel0 : w.cell? ⟨ga, m, none⟩ = some (.string (markS (j / 4))) := hcell m _ (flat1_at n m _ hlt2)
          have hel : wr.cell? ⟨ga, m, none⟩ = some (.string (markS (j / 4))) := (hb.cell (p := ⟨ga, m, none⟩) hga).trans hel0
          clear hcell hnz hB
          go_wp2
          go_region_with (go_at_call 34; refine (mark_eq j _ _ (by omega) (by first | exact quo4 j (by omega) | rfl)).mono ?_; rintro e w3 ⟨rfl, hb3⟩; have hbw : Below w.heap.size w w3 := ⟨hb3.os.trans hb.os, hb3.tape.trans hb.tape, hb3.output.trans hb.output, Nat.le_trans hb.size hb3.size, fun k hk => (hb3.block k (Nat.lt_of_lt_of_le hk hb.size)).trans (hb.block k hk)⟩; obtain ⟨z0, z1, z2, z3⟩ := box4 ((hbw.block β hβ).trans hbox); have hrow3 := (hbw.cell (p := ⟨g, j, none⟩) hg).trans hrow0; have hel3 := (hbw.cell (p := ⟨ga, m, none⟩) hga).trans hel0)
          all_goals go_wp2
          all_goals go_roundw
          all_goals first
            | (exact (by simp [intOf]; omega))
            | exact ⟨m + 1, by omega, by go_num, by first | exact hbw | exact hbw.drew | exact hbw.drew.drew | exact below_drewN hbw _⟩
            | ((repeat apply Exists.intro); exact ⟨⟨m + 1, by omega, by go_num, by first | exact hbw | exact hbw.drew | exact hbw.drew.drew | exact below_drewN hbw _⟩, rfl⟩)
        · obtain rfl : m = n := by omega
          clear hnz hB hrow0 hlt2 hm
          go_wp2
          go_roundw
          all_goals first
            | (exact (by simp [intOf]; omega))
            | exact ⟨j + 1, by omega, by go_num, hb⟩
            | ((repeat apply Exists.intro); exact ⟨⟨j + 1, by omega, by go_num, hb⟩, rfl⟩)
    · obtain rfl : j = ts.length := by omega
      clear hlt hj ht
      go_wp2
      go_loopw [5, 6] (fun i k wr => ∃ j : Nat, j ≤ is.length ∧ i = .int .i64 j ∧ Below w.heap.size w wr) (fun i _ _ => is.length - (intOf i).toNat)
      case atStart => exact ⟨0, Nat.zero_le _, rfl, hb⟩
      case round =>
        clear x0 x1 x2 x3 hb
        obtain ⟨j, hj, rfl, hb⟩ := hrel
        obtain ⟨x0, x1, x2, x3⟩ := box4 ((hb.block β hβ).trans hbox)
        by_cases hlt : j < is.length
        · obtain ⟨g, rfl, hg, hcell⟩ := hi (by omega)
          have hrow0 : w.cell? ⟨g, j, none⟩ = some is[j] := hcell j _ (List.getElem?_eq_getElem hlt)
          obtain ⟨n, hn, hcut⟩ := hB.ci j hlt
          obtain ⟨a, c, hv, hnz⟩ := own_cells hcut
          rw [hv] at hrow0
          clear hcell hi he hv hcut
          go_wp2
          go_loopw [6] (fun k wr2 => ∃ m : Nat, m ≤ n ∧ k = .int .i64 m ∧ Below w.heap.size w wr2) (fun k _ => n - (intOf k).toNat)
          case atStart => exact ⟨0, Nat.zero_le _, rfl, hb⟩
          case round =>
            clear x0 x1 x2 x3 hb
            obtain ⟨m, hm, rfl, hb⟩ := hrel
            obtain ⟨x0, x1, x2, x3⟩ := box4 ((hb.block β hβ).trans hbox)
            have hrow : wr.cell? ⟨g, j, none⟩ = _ := (hb.cell (p := ⟨g, j, none⟩) hg).trans hrow0
            by_cases hlt2 : m < n
            · obtain ⟨ga, rfl, hga, hcell⟩ := hnz (by omega)
              have hel : wr.cell? ⟨ga, m, none⟩ = some (.int .i64 (-1 - (j : Int) / 4)) := (hb.cell (p := ⟨ga, m, none⟩) hga).trans (hcell m _ (flat1_at n m _ hlt2))
              clear hcell hnz hB
              go_wp2
              go_roundw
              all_goals first
                | (exact (by simp [intOf]; omega))
                | exact ⟨m + 1, by omega, by go_num, hb⟩
                | ((repeat apply Exists.intro); exact ⟨⟨m + 1, by omega, by go_num, hb⟩, rfl⟩)
            · obtain rfl : m = n := by omega
              clear hnz hB hrow0 hlt2 hm
              go_wp2
              go_roundw
              all_goals first
                | (exact (by simp [intOf]; omega))
                | exact ⟨j + 1, by omega, by go_num, hb⟩
                | ((repeat apply Exists.intro); exact ⟨⟨j + 1, by omega, by go_num, hb⟩, rfl⟩)
        · obtain rfl : j = is.length := by omega
          clear hlt hj hi
          go_wp2
          go_loopw [7, 8] (fun i k wr => ∃ j : Nat, j ≤ es.length ∧ i = .int .i64 j ∧ Below w.heap.size w wr) (fun i _ _ => es.length - (intOf i).toNat)
          case atStart => exact ⟨0, Nat.zero_le _, rfl, hb⟩
          case round =>
            clear x0 x1 x2 x3 hb
            obtain ⟨j, hj, rfl, hb⟩ := hrel
            obtain ⟨x0, x1, x2, x3⟩ := box4 ((hb.block β hβ).trans hbox)
            by_cases hlt : j < es.length
            · obtain ⟨g, rfl, hg, hcell⟩ := he (by omega)
              have hrow0 : w.cell? ⟨g, j, none⟩ = some es[j] := hcell j _ (List.getElem?_eq_getElem hlt)
              obtain ⟨n, hn, hcut⟩ := hB.ce j hlt
              obtain ⟨a, c, hv, hnz⟩ := own_cells hcut
              rw [hv] at hrow0
              clear hcell he hv hcut
              go_wp2
              go_loopw [8] (fun k wr2 => ∃ m : Nat, m ≤ n ∧ k = .int .i64 m ∧ Below w.heap.size w wr2) (fun k _ => n - (intOf k).toNat)
              case atStart => exact ⟨0, Nat.zero_le _, rfl, hb⟩
              case round =>
                clear x0 x1 x2 x3 hb
                obtain ⟨m, hm, rfl, hb⟩ := hrel
                obtain ⟨x0, x1, x2, x3⟩ := box4 ((hb.block β hβ).trans hbox)
                have hrow : wr.cell? ⟨g, j, none⟩ = _ := (hb.cell (p := ⟨g, j, none⟩) hg).trans hrow0
                by_cases hlt2 : m < n
                · obtain ⟨ga, rfl, hga, hcell⟩ := hnz (by omega)
                  have he0 : wr.cell? ⟨ga, m * 4, none⟩ = some (.string ⟨#[]⟩) := (hb.cell (p := ⟨ga, m * 4, none⟩) hga).trans (hcell (m * 4) _ (flat4_at _ _ _ _ n m 0 hlt2 (by omega)))
                  have he1 : wr.cell? ⟨ga, m * 4 + 1, none⟩ = some (.string ⟨#[]⟩) := (hb.cell (p := ⟨ga, m * 4 + 1, none⟩) hga).trans (hcell (m * 4 + 1) _ (flat4_at _ _ _ _ n m 1 hlt2 (by omega)))
                  have he2 : wr.cell? ⟨ga, m * 4 + 2, none⟩ = some (.int .i64 (-1 - (j : Int) / 4)) := (hb.cell (p := ⟨ga, m * 4 + 2, none⟩) hga).trans (hcell (m * 4 + 2) _ (flat4_at _ _ _ _ n m 2 hlt2 (by omega)))
                  have he3 : wr.cell? ⟨ga, m * 4 + 3, none⟩ = some (.int .i64 0) := (hb.cell (p := ⟨ga, m * 4 + 3, none⟩) hga).trans (hcell (m * 4 + 3) _ (flat4_at _ _ _ _ n m 3 hlt2 (by omega)))
                  have hm4 : m * 4 ≤ 4294967296 := by omega
                  clear hcell hnz hB
                  go_wp2
                  go_roundw
                  all_goals first
                    | (exact (by simp [intOf]; omega))
                    | exact ⟨m + 1, by omega, by go_num, hb⟩
                    | ((repeat apply Exists.intro); exact ⟨⟨m + 1, by omega, by go_num, hb⟩, rfl⟩)
                · obtain rfl : m = n := by omega
                  clear hnz hB hrow0 hlt2 hm
                  go_wp2
                  go_roundw
                  all_goals first
                    | (exact (by simp [intOf]; omega))
                    | exact ⟨j + 1, by omega, by go_num, hb⟩
                    | ((repeat apply Exists.intro); exact ⟨⟨j + 1, by omega, by go_num, hb⟩, rfl⟩)
            · obtain rfl : j = es.length := by omega
              clear hlt hj he
              go_wp2
              go_loopw [9, 10] (fun i k wr => i = .int .i64 0 ∧ Below w.heap.size w wr) (fun _ _ _ => 0)
              case atStart => exact ⟨rfl, hb⟩
              case round =>
                clear x0 x1 x2 x3 hb
                obtain ⟨rfl, hb⟩ := hrel
                obtain ⟨x0, x1, x2, x3⟩ := box4 ((hb.block β hβ).trans hbox)
                go_wp2
                go_ret
                exact ⟨rfl, hb⟩
end Go.Proofs.Ytjmmfpolkkglaaa.Pages
