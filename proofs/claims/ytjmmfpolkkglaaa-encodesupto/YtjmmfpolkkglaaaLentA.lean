/-
  What lent answers: a page that tells the same, with lists of its own, each with eight marked places behind it.
-/
import Derived.Test.YtjmmfpolkkglaaaSame
import Derived.Deep.DeepCutAuto
import Derived.Deep.CutBlock
namespace Go.Proofs.Ytjmmfpolkkglaaa.Pages
open Go.RowKit
set_option linter.unusedSimpArgs false
set_option linter.unusedVariables false

/-- a row of N elements of sz cells, the first i of which are M, the others Z -/
def rowF (sz N i : Nat) (M Z : Nat → Value) : Array Value := Array.ofFn (n := N * sz) (fun k => if k.val / sz < i then M (k.val % sz) else Z (k.val % sz))
theorem rowF_size (sz N i : Nat) (M Z : Nat → Value) : (rowF sz N i M Z).size = N * sz := by simp [rowF]
theorem rowF_at (sz N i : Nat) (M Z : Nat → Value) (k : Nat) (h : k < N * sz) : (rowF sz N i M Z)[k]? = some (if k / sz < i then M (k % sz) else Z (k % sz)) := by
  rw [Array.getElem?_eq_getElem (by rw [rowF_size]; exact h)]
  simp [rowF]
theorem rowF_set1 (N i : Nat) (M Z : Nat → Value) (h : i < N) : (rowF 1 N i M Z).setIfInBounds i (M 0) = rowF 1 N (i + 1) M Z := by
  apply Array.ext
  · simp [rowF_size]
  · intro k h1 h2
    rw [rowF_size] at h2
    rw [Array.getElem_setIfInBounds (by rw [rowF_size]; omega)]
    simp only [rowF, Array.getElem_ofFn, Nat.div_one, Nat.mod_one]
    split
    · rename_i e; subst e; rw [if_pos (by omega)]
    · rename_i e
      by_cases hk : k < i
      · rw [if_pos hk, if_pos (by omega)]
      · rw [if_neg hk, if_neg (by omega)]
theorem rowF_set4 (N i : Nat) (M Z : Nat → Value) (h : i < N) : ((((rowF 4 N i M Z).setIfInBounds (i * 4) (M 0)).setIfInBounds (i * 4 + 1) (M 1)).setIfInBounds (i * 4 + 2) (M 2)).setIfInBounds (i * 4 + 3) (M 3) = rowF 4 N (i + 1) M Z := by
  apply Array.ext_getElem?
  intro k
  by_cases hk : k < N * 4
  · simp only [Array.getElem?_setIfInBounds, Array.size_setIfInBounds, rowF_size, rowF_at 4 N i M Z k hk, rowF_at 4 N (i + 1) M Z k hk]
    by_cases e3 : i * 4 + 3 = k
    · rw [if_pos e3, if_pos (by omega), if_pos (by omega), show k % 4 = 3 by omega]
    rw [if_neg e3]
    by_cases e2 : i * 4 + 2 = k
    · rw [if_pos e2, if_pos (by omega), if_pos (by omega), show k % 4 = 2 by omega]
    rw [if_neg e2]
    by_cases e1 : i * 4 + 1 = k
    · rw [if_pos e1, if_pos (by omega), if_pos (by omega), show k % 4 = 1 by omega]
    rw [if_neg e1]
    by_cases e0 : i * 4 = k
    · rw [if_pos e0, if_pos (by omega), if_pos (by omega), show k % 4 = 0 by omega]
    rw [if_neg e0]
    by_cases hq : k / 4 < i
    · rw [if_pos hq, if_pos (by omega)]
    · rw [if_neg hq, if_neg (by omega)]
  · rw [Array.getElem?_eq_none (by simp [rowF_size]; omega), Array.getElem?_eq_none (by rw [rowF_size]; omega)]
theorem made_rowF1 (N : Nat) (M Z : Nat → Value) : madeCells #[Z 0] N = rowF 1 N 0 M Z := by
  apply Array.ext
  · simp [rowF_size, madeCells]
  · intro k h1 h2
    simp [madeCells, rowF, Nat.mod_one]
theorem made_rowF4 (N : Nat) (M Z : Nat → Value) : madeCells #[Z 0, Z 1, Z 2, Z 3] (N * 4) = rowF 4 N 0 M Z := by
  apply Array.ext
  · simp [rowF_size, madeCells]
  · intro k h1 h2
    simp only [madeCells, rowF, Array.getElem_map, Array.getElem_range, Array.getElem_ofFn, Nat.not_lt_zero, if_false]
    have h4 : k % 4 < 4 := by omega
    match hk : k % 4, h4 with
    | 0, _ => simp [hk]
    | 1, _ => simp [hk]
    | 2, _ => simp [hk]
    | 3, _ => simp [hk]

/-- a list that was lent: nil, or a row with its n elements and eight marks behind them -/
def Lent (w : World) (B : Nat) (a : Option Addr) (v : Value) (n sz : Nat) (cs : List Value) (e : TypeId) (M : Nat → Value) : Prop :=
  (a = none ∧ v = .slice none 0 0 ∧ n = 0 ∧ cs = []) ∨ ∃ g A, v = .slice (some ⟨g, 0, none⟩) n (n + 8) ∧ B ≤ g ∧ w.heap[g]? = some (.cells A e) ∧ A.size = (n + 8) * sz ∧ (∀ (j : Nat) (u : Value), cs[j]? = some u → A[j]? = some u) ∧ ∀ r, r < 8 * sz → A[n * sz + r]? = some (M (r % sz))
theorem Lent.below {w w' : World} {B C : Nat} {a : Option Addr} {v : Value} {n sz : Nat} {cs : List Value} {e : TypeId} {M : Nat → Value} (h : Lent w B a v n sz cs e M) (hb : Below C w w') (hC : w.heap.size ≤ C) : Lent w' B a v n sz cs e M := by
  rcases h with h | ⟨g, A, hv, hg, hA, r⟩
  · exact .inl h
  · have hlt : g < w.heap.size := (Array.getElem?_eq_some_iff.1 hA).1
    exact .inr ⟨g, A, hv, hg, by rw [hb.block g (by omega)]; exact hA, r⟩
theorem Lent.row {w : World} {B : Nat} {a : Option Addr} {v : Value} {n sz : Nat} {cs : List Value} {e : TypeId} {M : Nat → Value} (h : Lent w B a v n sz cs e M) : ∃ a c, v = .slice a n c ∧ RowAt w w.heap.size a cs := by
  rcases h with ⟨_, rfl, rfl, rfl⟩ | ⟨g, A, rfl, hg, hA, hs, hc, _⟩
  · exact ⟨none, 0, rfl, .inl rfl⟩
  · refine ⟨_, _, rfl, .inr ⟨g, 0, rfl, (Array.getElem?_eq_some_iff.1 hA).1, fun i u hu => ?_⟩⟩
    have := hc i u hu
    simp [World.cell?, hA, this]

/-- copy of n elements to the head of a row that the call itself made -/
theorem run_copy_any (w : World) (dT sT ty e : TypeId) (i : TypeInfo) (size : Nat) (ht : Try.prog.underlying dT = some (.slice e)) (hi : Try.prog.info? e = some i) (hsz : i.size = size)
    (g dLen dCap : Nat) (a : Option Addr) (n sCap : Nat) (cur : Array Value) (hg : w.heap[g]? = some (.cells cur e (0, 0))) (cs : List Value) (hcl : cs.length = n * size) (hle : n ≤ dLen) (hfit : cs.length ≤ cur.size)
    (hsrc : RowAt w w.heap.size a cs) (hnil : a = none → n = 0) (h1 : ∀ v ∈ cs, v.oneCell' = true) :
    (Builtin.copy_ #[dT, sT] ty #[.slice (some ⟨g, 0, none⟩) dLen dCap, .slice a n sCap]).run Try.prog w = .ok (goInt n) (w.setRow g (cs ++ cur.toList.drop cs.length).toArray) := by
  have hst := run_storeCells_at Try.prog g 0 e cs 0 cur w hg (by simpa using hfit) h1
  have hmin : Nat.min n dLen = n := Nat.min_eq_left hle
  have hf : (Builtin.firstCells size n (.slice a n sCap)).run Try.prog w = .ok cs.toArray w := by
    rcases hsrc with rfl | ⟨b, off, rfl, _, hc⟩
    · cases a with
      | none => simp [Builtin.firstCells]
      | some ad =>
        have := run_firstCells_some (P := Try.prog) w size n ad n sCap [] hcl (by simp)
        simpa using this
    · exact run_firstCells_some (P := Try.prog) w size n ⟨b, off, none⟩ n sCap cs hcl (fun j v hj => by
        have e : (⟨b, off, none⟩ : Addr).add j = ⟨b, off + j, none⟩ := by unfold Addr.add; split <;> simp_all
        rw [e]; exact hc j v hj)
  simp only [Nat.add_zero, Nat.zero_add, List.take_zero, List.nil_append] at hst
  simp [Builtin.copy_, run_underlying ht, Builtin.lenOf, sizeOf, typeInfo, hi, hsz, hmin, hf, hst]
theorem wp_copy_any {ops : Array Oper} {rest : List Oper} {o : Oper} {a : Act} {Q : Exit → Act → World → Prop} (w : World) (hgd : o.guard = none) (d s : Operand) (dT sT e : TypeId)
    (ho : o.op = .call { callee := .builtin .copy, args := #[d, s], argTypes := #[dT, sT] }) (i : TypeInfo) (size : Nat) (ht : Try.prog.underlying dT = some (.slice e)) (hi : Try.prog.info? e = some i) (hsz : i.size = size)
    (g dLen dCap : Nat) (sa : Option Addr) (n sCap : Nat) (hd : a.eval d = .slice (some ⟨g, 0, none⟩) dLen dCap) (hs : a.eval s = .slice sa n sCap) (cur : Array Value) (hg : w.heap[g]? = some (.cells cur e (0, 0))) (cs : List Value) (hcl : cs.length = n * size) (hle : n ≤ dLen) (hfit : cs.length ≤ cur.size)
    (hsrc : RowAt w w.heap.size sa cs) (hnil : sa = none → n = 0) (h1 : ∀ v ∈ cs, v.oneCell' = true)
    (h : ∀ w', w'.heap[g]? = some (.cells (cs ++ cur.toList.drop cs.length).toArray e) → Below g w w' → wpList Try.prog ops Q rest (a.put o.dst (goInt n)) w') : wpList Try.prog ops Q (o :: rest) a w := by
  refine wpList_plain hgd fun K hK => ?_
  have hrun := run_copy_any w dT sT o.type e i size ht hi hsz g dLen dCap sa n sCap cur hg cs hcl hle hfit hsrc hnil h1
  unfold Oper.wp
  simp [execOp, ho, resolve, invoke, builtin, hd, hs, hrun, Result.andThen]
  exact hK _ _ (h _ (by simpa using setRow_heap w g _ _ e _ hg) ⟨rfl, rfl, rfl, by simp [World.setRow], fun k hk => setRow_other w g k _ (by omega)⟩)

theorem box_free {w : World} {β : Nat} {cs : Array Value} {e : TypeId} (h : w.heap[β]? = some (.cells cs e)) (i : Nat) : w.frozen? ⟨β, i, none⟩ = false := by
  simp [World.frozen?, h]
theorem box_set {w : World} {β : Nat} {cs : Array Value} {e : TypeId} (h : w.heap[β]? = some (.cells cs e)) (i : Nat) (v : Value) : (w.setCell ⟨β, i, none⟩ v).heap[β]? = some (.cells (cs.setIfInBounds i v) e) := by
  simp only [World.setCell]
  rw [Array.getElem?_modify, if_pos rfl, h]
  rfl
theorem heap_alloc_keep' (u : World) (o : Obj) (k : Nat) (x : Obj) (h : u.heap[k]? = some x) : (u.alloc o).heap[k]? = some x := by
  rw [Below.heap_alloc _ _ _ (Array.getElem?_eq_some_iff.1 h).1]; exact h
theorem setRow_alloc (w : World) (cur A : Array Value) (e : TypeId) : (w.alloc (.cells cur e)).setRow w.heap.size A = w.alloc (.cells A e) := by
  show ({ (w.alloc (.cells cur e)) with heap := _ } : World) = _
  simp only [World.setRow, World.alloc]
  congr 1
  apply Array.ext_getElem?
  intro k
  rw [Array.getElem?_modify]
  by_cases hk : w.heap.size = k
  · subst hk; simp
  · rw [if_neg hk, Array.getElem?_push, Array.getElem?_push, if_neg (fun h => hk h.symm), if_neg (fun h => hk h.symm)]
/-- the row behind the copy -/
theorem lent_row {n sz : Nat} {cs : List Value} {M Z : Nat → Value} (hsz : 0 < sz) (hcl : cs.length = n * sz) : (cs ++ (rowF sz (n + 8) (n + 8) M Z).toList.drop cs.length).toArray.size = (n + 8) * sz ∧
    (∀ (j : Nat) (u : Value), cs[j]? = some u → (cs ++ (rowF sz (n + 8) (n + 8) M Z).toList.drop cs.length).toArray[j]? = some u) ∧ ∀ r, r < 8 * sz → (cs ++ (rowF sz (n + 8) (n + 8) M Z).toList.drop cs.length).toArray[n * sz + r]? = some (M (r % sz)) := by
  have hs := rowF_size sz (n + 8) (n + 8) M Z
  have he : (n + 8) * sz = n * sz + 8 * sz := Nat.add_mul _ _ _
  refine ⟨?_, ?_, ?_⟩
  · simp [hs, hcl]; omega
  · intro j u hj
    have hlt := (List.getElem?_eq_some_iff.1 hj).1
    simp only [List.getElem?_toArray]
    rw [List.getElem?_append_left hlt]; exact hj
  · intro r hr
    simp only [List.getElem?_toArray]
    rw [List.getElem?_append_right (by omega), List.getElem?_drop, hcl]
    have hk : n * sz + (n * sz + r - n * sz) = n * sz + r := by omega
    rw [hk, Array.getElem?_toList, rowF_at _ _ _ _ _ _ (by omega)]
    have h1 : (n * sz + r) / sz < n + 8 := by
      rw [Nat.div_lt_iff_lt_mul hsz]; omega
    rw [if_pos h1, Nat.mul_comm, Nat.mul_add_mod]
theorem store_facts {w wc : World} {A O : Array Value} {e t : TypeId} {X Z : Obj} (hb1 : Below w.heap.size w wc) (hz1 : w.heap.size + 3 ≤ wc.heap.size) (hx1 : wc.heap[w.heap.size]? = some X) (hr1 : wc.heap[w.heap.size + 1]? = some Z) (ho1 : wc.heap[w.heap.size + 2]? = some (.cells O t)) (c : Nat) (v : Value) :
    Below w.heap.size w ((wc.alloc (.cells A e)).setCell ⟨w.heap.size + 1 + 1, c, none⟩ v) ∧ w.heap.size + 3 ≤ ((wc.alloc (.cells A e)).setCell ⟨w.heap.size + 1 + 1, c, none⟩ v).heap.size ∧
    ((wc.alloc (.cells A e)).setCell ⟨w.heap.size + 1 + 1, c, none⟩ v).heap[w.heap.size]? = some X ∧ ((wc.alloc (.cells A e)).setCell ⟨w.heap.size + 1 + 1, c, none⟩ v).heap[w.heap.size + 1]? = some Z ∧
    ((wc.alloc (.cells A e)).setCell ⟨w.heap.size + 1 + 1, c, none⟩ v).heap[w.heap.size + 2]? = some (.cells (O.setIfInBounds c v) t) ∧ ((wc.alloc (.cells A e)).setCell ⟨w.heap.size + 1 + 1, c, none⟩ v).heap[wc.heap.size]? = some (.cells A e) ∧
    ∀ (g : Nat) (o : Obj), w.heap.size + 3 ≤ g → wc.heap[g]? = some o → ((wc.alloc (.cells A e)).setCell ⟨w.heap.size + 1 + 1, c, none⟩ v).heap[g]? = some o := by
  have hs : ((wc.alloc (.cells A e)).setCell ⟨w.heap.size + 1 + 1, c, none⟩ v).heap.size = wc.heap.size + 1 := by simp [World.setCell]
  refine ⟨(hb1.alloc (by omega) _).setCell (by simp; omega) _, by omega, ?_, ?_, ?_, ?_, ?_⟩
  · rw [Below.heap_setCell _ _ _ _ (by simp; omega)]; exact heap_alloc_keep' _ _ _ _ hx1
  · rw [Below.heap_setCell _ _ _ _ (by simp)]; exact heap_alloc_keep' _ _ _ _ hr1
  · exact box_set (heap_alloc_keep' _ _ _ _ ho1) c v
  · rw [Below.heap_setCell _ _ _ _ (by simp; omega)]; exact heap_new _ _
  · intro g o hg ho
    rw [Below.heap_setCell _ _ _ _ (by simp; omega)]; exact heap_alloc_keep' _ _ _ _ ho
theorem Lent.keep {w w' : World} {B : Nat} {a : Option Addr} {v : Value} {n sz : Nat} {cs : List Value} {e : TypeId} {M : Nat → Value} (h : Lent w B a v n sz cs e M) (hk : ∀ (g : Nat) (o : Obj), B ≤ g → w.heap[g]? = some o → w'.heap[g]? = some o) : Lent w' B a v n sz cs e M := by
  rcases h with h | ⟨g, A, hv, hg, hA, r⟩
  · exact .inl h
  · exact .inr ⟨g, A, hv, hg, hk g _ hg hA, r⟩
theorem ents_cells (ents : List Ent) : (ents.flatMap Ent.cells).length = ents.length * 4 := by
  induction ents with
  | nil => rfl
  | cons e l ih => simp only [List.flatMap_cons, List.length_append, ih, List.length_cons]; simp [Ent.cells]; omega
theorem ents_one (ents : List Ent) : ∀ v ∈ ents.flatMap Ent.cells, v.oneCell' = true := by
  intro v hv
  simp only [List.mem_flatMap, Ent.cells, List.mem_cons, List.not_mem_nil, or_false] at hv
  obtain ⟨e, _, h⟩ := hv
  rcases h with rfl | rfl | rfl | rfl <;> rfl
theorem set8 {u : World} {β : Nat} {a0 a1 a2 a3 a4 a5 a6 a7 : Value} {t : TypeId} (h : u.heap[β]? = some (.cells #[a0, a1, a2, a3, a4, a5, a6, a7] t)) (v0 v1 v2 v3 v4 v5 v6 v7 : Value) : ((((((((u.setCell ⟨β, 0, none⟩ v0).setCell ⟨β, 1, none⟩ v1).setCell ⟨β, 2, none⟩ v2).setCell ⟨β, 3, none⟩ v3).setCell ⟨β, 4, none⟩ v4).setCell ⟨β, 5, none⟩ v5).setCell ⟨β, 6, none⟩ v6).setCell ⟨β, 7, none⟩ v7).heap[β]? = some (.cells #[v0, v1, v2, v3, v4, v5, v6, v7] t) := by
  have := (box_set (box_set (box_set (box_set (box_set (box_set (box_set (box_set h 0 v0) 1 v1) 2 v2) 3 v3) 4 v4) 5 v5) 6 v6) 7 v7)
  simpa using this
theorem keep8 {u : World} {β k : Nat} (hk : k ≠ β) (v0 v1 v2 v3 v4 v5 v6 v7 : Value) : ((((((((u.setCell ⟨β, 0, none⟩ v0).setCell ⟨β, 1, none⟩ v1).setCell ⟨β, 2, none⟩ v2).setCell ⟨β, 3, none⟩ v3).setCell ⟨β, 4, none⟩ v4).setCell ⟨β, 5, none⟩ v5).setCell ⟨β, 6, none⟩ v6).setCell ⟨β, 7, none⟩ v7).heap[k]? = u.heap[k]? := by
  rw [Below.heap_setCell _ _ _ _ hk, Below.heap_setCell _ _ _ _ hk, Below.heap_setCell _ _ _ _ hk, Below.heap_setCell _ _ _ _ hk, Below.heap_setCell _ _ _ _ hk, Below.heap_setCell _ _ _ _ hk, Below.heap_setCell _ _ _ _ hk, Below.heap_setCell _ _ _ _ hk]
theorem below8 {u : World} {β B : Nat} (hB : B ≤ β) (v0 v1 v2 v3 v4 v5 v6 v7 : Value) : Below B u ((((((((u.setCell ⟨β, 0, none⟩ v0).setCell ⟨β, 1, none⟩ v1).setCell ⟨β, 2, none⟩ v2).setCell ⟨β, 3, none⟩ v3).setCell ⟨β, 4, none⟩ v4).setCell ⟨β, 5, none⟩ v5).setCell ⟨β, 6, none⟩ v6).setCell ⟨β, 7, none⟩ v7) := (((((((((Below.refl B u).setCell (p := ⟨β, 0, none⟩) hB v0).setCell (p := ⟨β, 1, none⟩) hB v1).setCell (p := ⟨β, 2, none⟩) hB v2).setCell (p := ⟨β, 3, none⟩) hB v3).setCell (p := ⟨β, 4, none⟩) hB v4).setCell (p := ⟨β, 5, none⟩) hB v5).setCell (p := ⟨β, 6, none⟩) hB v6).setCell (p := ⟨β, 7, none⟩) hB v7)
end Go.Proofs.Ytjmmfpolkkglaaa.Pages
