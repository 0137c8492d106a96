/-
  A page that came in as an argument, opened: its numbers, its lists as they lie in memory, how great they are.
-/
import Derived.Test.YtjmmfpolkkglaaaRows
import Derived.Test.YtjmmfpolkkglaaaEncLaw0
import Derived.ProofKit
import Derived.OpenShut
import Derived.SliceStrings
import Derived.Deep.Slices
namespace Go.Proofs.Ytjmmfpolkkglaaa.Pages
open Go.RowKit Go.ChangeShapes Go.WideShapes Go.ChangeAt
set_option linter.unusedSimpArgs false
set_option linter.unusedVariables false

theorem cells9 : Try.prog.cellsOf 9 = 1 := by kernel_rfl
theorem cells3 : Try.prog.cellsOf 3 = 1 := by kernel_rfl
theorem cells52 : Try.prog.cellsOf 52 = 4 := by kernel_rfl
theorem cells28 : Try.prog.cellsOf 28 = 8 := by kernel_rfl
theorem cells24 : Try.prog.cellsOf 24 = 1 := by kernel_rfl
theorem cells25 : Try.prog.cellsOf 25 = 1 := by kernel_rfl
theorem cells26 : Try.prog.cellsOf 26 = 1 := by kernel_rfl

theorem cell_lt {w : World} {b o : Nat} {v : Value} (h : w.cell? ⟨b, o, none⟩ = some v) : b < w.heap.size := by
  rcases Nat.lt_or_ge b w.heap.size with h1 | h1
  · exact h1
  · simp [World.cell?, Array.getElem?_eq_none h1] at h

/-- a row of cells at an address, as 'RowAt' -/
theorem row_of {w : World} {a : Addr} {vs : List Value} (h : ∀ i u, vs[i]? = some u → w.cell? (a.add i) = some u) : RowAt w w.heap.size (some a) vs := by
  cases vs with
  | nil => exact .inl rfl
  | cons v vs =>
    have h0 := h 0 v rfl
    obtain ⟨b, off, spot⟩ := a
    have hs : spot = none := by simpa [Addr.add] using World.cell?_spot h0
    subst hs
    have hadd : ∀ i, (⟨b, off, none⟩ : Addr).add i = ⟨b, off + i, none⟩ := fun i => by unfold Addr.add; split <;> simp_all
    exact .inr ⟨b, off, rfl, cell_lt (by rw [← hadd 0]; exact h0), fun i u hu => by rw [← hadd i]; exact h i u hu⟩

theorem bulk_strs {H : Type} (ss : List ByteArray) : Rows.uptoBulkAll (strs (H := H) ss) = (ss.flatMap textB).length := by
  induction ss with
  | nil => rfl
  | cons s r ih =>
    have : strs (H := H) (s :: r) = .lit (.string s.data.toList) :: strs r := rfl
    rw [this, Rows.uptoBulkAll, ih]
    simp only [Rows.uptoBulk, List.flatMap_cons, List.length_append, textB, List.length_cons, List.length_nil, data_length]
    omega
theorem flat_text_len (ss : List ByteArray) : ss.length ≤ (ss.flatMap textB).length ∧ ∀ (j : Nat) (hj : j < ss.length), ss[j].size ≤ (ss.flatMap textB).length := by
  constructor
  · induction ss with
    | nil => simp
    | cons s r ih => simp only [List.flatMap_cons, List.length_append, List.length_cons, textB, List.length_nil] at ih ⊢; omega
  · intro j hj
    have := flat_le textB ss j hj
    have e : (textB ss[j]).length = ss[j].size + 1 := by simp [textB]
    omega

section
variable {H : Type} {enc : TypeId × Value → H} {W : World}

theorem open_keys {fuel : Nat} {cs : List Value} {x : DataW H × List MemPlace} (h : DataW.trod enc Try.prog W 0 (fun _ => true) true fuel 24 cs = some x) :
    ∃ (a : Option Addr) (c : Nat) (keys : List ByteArray), cs = [.slice a keys.length c] ∧ RowAt W W.heap.size a (keys.map .string) ∧ (a = none → keys = [] ∧ c = 0) ∧ (keys.flatMap textB).length ≤ Rows.uptoBulk x.1 := by
  rcases open_strings Try.underlying24 Try.underlying9 cells9 h with ⟨hcs, hx⟩ | ⟨a, len, cap, ss, hcs, _, hl, hm, hz, hx, hcell, hws⟩
  · exact ⟨none, 0, [], hcs, .inl rfl, fun _ => ⟨rfl, rfl⟩, by simp⟩
  · have hlen : (ss.take len).length = len := by simp at hz ⊢; omega
    refine ⟨some a, cap, ss.take len, by rw [hlen]; exact hcs, row_of fun i u hu => ?_, (fun h => by cases h), ?_⟩
    · simp only [List.getElem?_map, Option.map_eq_some_iff] at hu
      obtain ⟨s, hs, rfl⟩ := hu
      rw [List.getElem?_take] at hs
      split at hs
      · have hi := (List.getElem?_eq_some_iff.1 hs).1
        rw [hcell i hi]
        simp [List.getD, hs]
      · cases hs
    · rw [hx]
      simp only [Rows.uptoBulk]
      rw [bulk_strs]
      omega

theorem open_kids {fuel : Nat} {cs : List Value} {x : DataW H × List MemPlace} (h : DataW.trod enc Try.prog W 0 (fun _ => true) true fuel 25 cs = some x) :
    ∃ (a : Option Addr) (c : Nat) (kids : List Int), cs = [.slice a kids.length c] ∧ RowAt W W.heap.size a (kids.map (.int .i64)) ∧ (a = none → kids = [] ∧ c = 0) ∧ kids.length ≤ Rows.uptoBulk x.1 := by
  rcases open_ints Try.underlying25 Try.underlying3 cells3 h with ⟨hcs, hx⟩ | ⟨a, len, cap, ss, hcs, _, hl, hm, hz, hx, hcell, hws⟩
  · exact ⟨none, 0, [], hcs, .inl rfl, fun _ => ⟨rfl, rfl⟩, by simp⟩
  · have hlen : (ss.take len).length = len := by simp at hz ⊢; omega
    refine ⟨some a, cap, ss.take len, by rw [hlen]; exact hcs, row_of fun i u hu => ?_, (fun h => by cases h), ?_⟩
    · simp only [List.getElem?_map, Option.map_eq_some_iff] at hu
      obtain ⟨s, hs, rfl⟩ := hu
      rw [List.getElem?_take] at hs
      split at hs
      · have hi := (List.getElem?_eq_some_iff.1 hs).1
        rw [hcell i hi]
        simp [List.getD, hs]
      · cases hs
    · rw [hx]
      have hb : ∀ l : List Int, l.length ≤ Rows.uptoBulkAll (lits (H := H) .i64 l) := by
        intro l
        induction l with
        | nil => simp
        | cons n r ih =>
          have : lits (H := H) .i64 (n :: r) = .lit (.int .i64 n) :: lits .i64 r := rfl
          rw [this, Rows.uptoBulkAll]
          simp only [Rows.uptoBulk, List.length_cons]
          omega
      have := hb (ss.take len)
      simp only [Rows.uptoBulk]
      omega

theorem ents_cells' (ents : List Ent) : (ents.flatMap Ent.cells).length = ents.length * 4 := by
  induction ents with
  | nil => rfl
  | cons e l ih => simp only [List.flatMap_cons, List.length_append, ih, List.length_cons]; simp [Ent.cells]; omega
/-- how many values and letters an entry has -/
def Ent.bulk (e : Ent) : Nat := e.key.size + e.val.size + 5
theorem Ent.bytes_le (e : Ent) : e.bytes.length ≤ 2 * e.bulk := by
  unfold Ent.bytes entBytes Ent.bulk
  split
  · simp [textB]; omega
  · simp [textB, beB_length]; omega
theorem open_ent {fuel : Nat} {cs : List Value} {x : DataW H × List MemPlace} (h : DataW.trod enc Try.prog W 0 (fun _ => true) true fuel 52 cs = some x) :
    ∃ e : Ent, cs = e.cells ∧ Rows.uptoBulk x.1 = e.bulk := by
  obtain ⟨xs, n, _, hx, hl, hlen, hf⟩ := DataW.trod_struct Try.underlying52 h
  rw [cells52] at hl
  match cs, hl, xs, hlen with
  | [c0, c1, c2, c3], _, [y0, y1, y2, y3], _ =>
    have g0 := hf 0 _ rfl
    have g1 := hf 1 _ rfl
    have g2 := hf 2 _ rfl
    have g3 := hf 3 _ rfl
    simp [cells9, cells3] at g0 g1 g2 g3
    obtain ⟨k, e0, rfl, _⟩ := DataW.trod_string Try.underlying9 g0
    obtain ⟨v, e1, rfl, _⟩ := DataW.trod_string Try.underlying9 g1
    obtain ⟨s, e2, rfl, _⟩ := DataW.trod_int Try.underlying3 g2
    obtain ⟨o, e3, rfl, _⟩ := DataW.trod_int Try.underlying3 g3
    simp only [List.cons.injEq, and_true] at e0 e1 e2 e3
    subst e0 e1 e2 e3
    refine ⟨⟨k, v, s, o⟩, rfl, ?_⟩
    rw [hx]
    simp [Rows.uptoBulk, Rows.uptoBulkAll, Ent.bulk]
    omega

theorem open_ents {fuel : Nat} {cs : List Value} {x : DataW H × List MemPlace} (h : DataW.trod enc Try.prog W 0 (fun _ => true) true fuel 26 cs = some x) :
    ∃ (a : Option Addr) (c : Nat) (ents : List Ent), cs = [.slice a ents.length c] ∧ RowAt W W.heap.size a (ents.flatMap Ent.cells) ∧ (a = none → ents = [] ∧ c = 0) ∧ (ents.map Ent.bulk).sum ≤ Rows.uptoBulk x.1 := by
  rcases Deep.open_slice Try.underlying26 h with ⟨hcs, hx⟩ | ⟨a, len, cap, m, n, D, Pl, hcs, _, hl, _, hm, hx, hel⟩
  · exact ⟨none, 0, [], hcs, .inl rfl, fun _ => ⟨rfl, rfl⟩, by simp⟩
  · have hml : len ≤ m := by rw [hm]; simpa using hl
    have each : ∀ i, i < len → ∃ e : Ent, (∀ c u, e.cells[c]? = some u → W.cell? ((a.add (i * 4)).add c) = some u) ∧ Rows.uptoBulk (D i) = e.bulk := fun i hi => by
      obtain ⟨cs', h1, h2⟩ := hel i (by omega)
      rw [cells52] at h1
      obtain ⟨_, hlen, hcell⟩ := World.cells?_some h1
      obtain ⟨e, rfl, hb⟩ := open_ent h2
      refine ⟨e, fun c u hu => ?_, hb⟩
      have hc : c < 4 := (List.getElem?_eq_some_iff.1 hu).1
      rw [hcell c hc]; exact hu
    haveI : Inhabited Ent := ⟨⟨⟨#[]⟩, ⟨#[]⟩, 0, 0⟩⟩
    obtain ⟨f, hf⟩ := Deep.choose_lt each
    have hlen : ((List.range len).map f).length = len := by simp
    refine ⟨some a, cap, (List.range len).map f, by rw [hlen]; exact hcs, row_of fun i u hu => ?_, (fun h => by cases h), ?_⟩
    · have hi : i < len * 4 := by
        have := (List.getElem?_eq_some_iff.1 hu).1
        rw [ents_cells', hlen] at this; exact this
      have hq : i / 4 < ((List.range len).map f).length := by rw [hlen]; omega
      have hc := cells_at ((List.range len).map f) (i / 4) (i % 4) hq (by omega)
      rw [show 4 * (i / 4) + i % 4 = i by omega, hu] at hc
      have hfi := (hf (i / 4) (by omega)).1 (i % 4) u
      simp only [List.getElem_map, List.getElem_range] at hc
      have := hfi hc.symm
      rw [Deep.add_add, show i / 4 * 4 + i % 4 = i by omega] at this
      exact this
    · rw [hx]
      simp only [Rows.uptoBulk]
      have hs : ∀ l : List Nat, (∀ i ∈ l, i < len) → (l.map (fun i => (f i).bulk)).sum = Rows.uptoBulkAll (l.map D) := by
        intro l
        induction l with
        | nil => intro _; rfl
        | cons i r ih =>
          intro hl'
          simp only [List.map_cons, List.sum_cons, Rows.uptoBulkAll]
          rw [ih (fun j hj => hl' j (List.mem_cons_of_mem _ hj)), (hf i (hl' i (List.mem_cons_self ..))).2]
      have := hs (List.range len) (fun i hi => List.mem_range.1 hi)
      rw [List.map_map]
      show ((List.range len).map (fun i => (f i).bulk)).sum ≤ _
      omega

theorem leaf_len (ents : List Ent) : (leafB ents).length ≤ 1 + 2 * (ents.map Ent.bulk).sum ∧ ents.length ≤ (ents.map Ent.bulk).sum ∧ ∀ e ∈ ents, e.key.size ≤ (ents.map Ent.bulk).sum ∧ e.val.size ≤ (ents.map Ent.bulk).sum := by
  have hfl : (ents.flatMap Ent.bytes).length ≤ 2 * (ents.map Ent.bulk).sum := by
    induction ents with
    | nil => simp
    | cons e r ih =>
      have := e.bytes_le
      simp only [List.flatMap_cons, List.length_append, List.map_cons, List.sum_cons]
      omega
  refine ⟨by simp only [leafB, List.length_append, beB_length]; omega, ?_, ?_⟩
  · clear hfl
    induction ents with
    | nil => simp
    | cons e r ih => simp only [List.length_cons, List.map_cons, List.sum_cons, Ent.bulk] at ih ⊢; omega
  · clear hfl
    induction ents with
    | nil => intro e he; cases he
    | cons a r ih =>
      intro e he
      simp only [List.map_cons, List.sum_cons]
      rcases List.mem_cons.1 he with rfl | he
      · unfold Ent.bulk; omega
      · have := ih e he; omega

theorem flat_be (kids : List Int) : (kids.flatMap (beB 2)).length = 2 * kids.length := by
  induction kids with
  | nil => rfl
  | cons k r ih => simp only [List.flatMap_cons, List.length_append, beB_length, ih, List.length_cons]; omega

/-- A PAGE, OPENED. -/
theorem open_page {base : Nat} {v : Value} {d : DataW H} {p : List MemPlace} (hv : Value.okWide Try.prog W .any base 28 v) (h : DataW.Trod enc Try.prog W 0 (fun _ => true) true 28 v d p) (hd : Rows.uptoBulk d ≤ 1048576) :
    ∃ (kind ver root next : Int) (ka ia ea : Option Addr) (kc ic ec : Nat) (data : ByteArray) (keys : List ByteArray) (kids : List Int) (ents : List Ent),
      v = .agg #[.int .i64 kind, .int .i64 ver, .int .i64 root, .int .i64 next, .slice ka keys.length kc, .slice ia kids.length ic, .slice ea ents.length ec, .string data] ∧
      RowAt W W.heap.size ka (keys.map .string) ∧ RowAt W W.heap.size ia (kids.map (.int .i64)) ∧ RowAt W W.heap.size ea (ents.flatMap Ent.cells) ∧
      (ka = none → keys = [] ∧ kc = 0) ∧ (ia = none → kids = [] ∧ ic = 0) ∧ (ea = none → ents = [] ∧ ec = 0) ∧ Small keys kids ents data ∧ ∀ (j : Nat) (hj : j < keys.length), keys[j].size ≤ 1073741824 := by
  obtain ⟨cs, rfl, hsz⟩ := okWide_struct Try.underlying28 hv
  rw [cells28] at hsz
  obtain ⟨fuel, hf0⟩ := h
  obtain ⟨xs, n, _, hx, hl, hlen, hf⟩ := DataW.trod_struct Try.underlying28 hf0
  obtain ⟨l⟩ := cs
  match l, hsz, xs, hlen with
  | [c0, c1, c2, c3, c4, c5, c6, c7], _, [y0, y1, y2, y3, y4, y5, y6, y7], _ =>
    have g0 := hf 0 _ rfl
    have g1 := hf 1 _ rfl
    have g2 := hf 2 _ rfl
    have g3 := hf 3 _ rfl
    have g4 := hf 4 _ rfl
    have g5 := hf 5 _ rfl
    have g6 := hf 6 _ rfl
    have g7 := hf 7 _ rfl
    simp [Value.cells, cells9, cells3, cells24, cells25, cells26] at g0 g1 g2 g3 g4 g5 g6 g7
    obtain ⟨kind, e0, rfl, _⟩ := DataW.trod_int Try.underlying3 g0
    obtain ⟨ver, e1, rfl, _⟩ := DataW.trod_int Try.underlying3 g1
    obtain ⟨root, e2, rfl, _⟩ := DataW.trod_int Try.underlying3 g2
    obtain ⟨next, e3, rfl, _⟩ := DataW.trod_int Try.underlying3 g3
    obtain ⟨ka, kc, keys, e4, rK, nK, bK⟩ := open_keys g4
    obtain ⟨ia, ic, kids, e5, rI, nI, bI⟩ := open_kids g5
    obtain ⟨ea, ec, ents, e6, rE, nE, bE⟩ := open_ents g6
    obtain ⟨data, e7, rfl, _⟩ := DataW.trod_string Try.underlying9 g7
    simp only [List.cons.injEq, and_true] at e0 e1 e2 e3 e4 e5 e6 e7
    subst e0 e1 e2 e3 e4 e5 e6 e7
    simp only [Prod.mk.injEq] at hx
    rw [hx.1] at hd
    simp only [List.map_cons, List.map_nil, Rows.uptoBulk, Rows.uptoBulkAll] at hd
    obtain ⟨t1, t2⟩ := flat_text_len keys
    obtain ⟨l1, l2, l3⟩ := leaf_len ents
    have fb := flat_be kids
    have dl := data_length data
    refine ⟨kind, ver, root, next, ka, ia, ea, kc, ic, ec, data, keys, kids, ents, rfl, rK, rI, rE, nK, nI, nE, ⟨by omega, by omega, by omega, fun e he => ?_, ?_, by omega, by omega⟩, fun j hj => ?_⟩
    · have := l3 e he; omega
    · simp only [branchB, List.length_append, beB_length]; omega
    · have := t2 j hj; omega
end
end Go.Proofs.Ytjmmfpolkkglaaa.Pages
