/-
  What page.read answers and leaves: leaves.
-/
import Derived.Test.YtjmmfpolkkglaaaRead5
namespace Go.Proofs.Ytjmmfpolkkglaaa.Pages
open Go.RowKit
set_option linter.unusedSimpArgs false
set_option linter.unusedVariables false

theorem infoEnt : (Try.prog.info? 52).map (fun i => (i.zero, i.size, i.bytes)) = some (some (.agg #[.string ⟨#[]⟩, .string ⟨#[]⟩, .int .i64 0, .int .i64 0]), 4, 48) := by kernel_rfl
def EntsR (w : World) (B : Nat) (v : Value) (es : List Ent) : Prop := w.ownsRow B 52 4 v es.length (es.flatMap Ent.cells)
theorem EntsR.nil (w : World) (B : Nat) : EntsR w B (.slice none 0 0) [] := World.ownsRow_nil _ _ _ _
theorem EntsR.alloc {w : World} {B : Nat} {v : Value} {es : List Ent} (h : EntsR w B v es) (o : Obj) : EntsR (w.alloc o) B v es := World.ownsRow.alloc (w := w) h o
theorem EntsR.only {w w' : World} {B : Nat} {v : Value} {es : List Ent} {ρ : Nat} (h : EntsR w B v es) (ho : Only ρ w w') (hρ : ρ < B) : EntsR w' B v es :=
  World.ownsRow.kept (row := some ρ) h ⟨ho.os, ho.tape, ho.output, ho.size, fun k hk hr => ho.block k hk (fun e => hr (by rw [e]))⟩ (by
    cases hv : v.ownBlock with
    | none => exact .inl rfl
    | some k => exact .inr (fun e => by have := (World.ownsRow.lt (w := w) h k hv).1; simp at e; omega))
theorem EntsR.set {w : World} {B : Nat} {v : Value} {es : List Ent} {β : Nat} (h : EntsR w B v es) (hβ : β < B) (i : Nat) (u : Value) : EntsR (w.setCell ⟨β, i, none⟩ u) B v es :=
  h.only ((Only.refl β w).setCell i u) hβ
theorem EntsR.mono {w : World} {B B' : Nat} {v : Value} {es : List Ent} (h : EntsR w B v es) (hb : B' ≤ B) : EntsR w B' v es := by
  obtain ⟨hl, hn | ⟨k, cap, row, hv, hk, hr⟩⟩ := h
  · exact ⟨hl, .inl hn⟩
  · exact ⟨hl, .inr ⟨k, cap, row, hv, by omega, hr⟩⟩
theorem EntsR.slice {w : World} {B : Nat} {v : Value} {es : List Ent} (h : EntsR w B v es) : ∃ a c, v = .slice a es.length c := by
  obtain ⟨hl, ⟨rfl, h0⟩ | ⟨k, cap, row, hv, hk⟩⟩ := h
  · rw [h0]; exact ⟨_, _, rfl⟩
  · exact ⟨_, _, hv⟩
theorem four_cells (w : World) (a0 a1 a2 a3 : Value) (t : TypeId) : ∀ j u, [a0, a1, a2, a3][j]? = some u → (w.alloc (.cells #[a0, a1, a2, a3] t)).cell? ((⟨w.heap.size, 0, none⟩ : Addr).add j) = some u := by
  intro j u hj
  have hlt : j < 4 := by have := (List.getElem?_eq_some_iff.1 hj).1; simpa using this
  have hn := heap_new w (.cells #[a0, a1, a2, a3] t)
  have e : (⟨w.heap.size, 0, none⟩ : Addr).add j = ⟨w.heap.size, j, none⟩ := by unfold Addr.add; split <;> simp_all
  rw [e]
  simp only [World.cell?, hn]
  have : j = 0 ∨ j = 1 ∨ j = 2 ∨ j = 3 := by omega
  rcases this with rfl | rfl | rfl | rfl <;> simpa using hj
/-- the operation: one entry more -/
theorem wp_append_ent {ops : Array Oper} {rest : List Oper} {o : Oper} {a : Act} {Q : Exit → Act → World → Prop} (w : World) (hgd : o.guard = none) (sl x : Operand)
    (ho : o.op = .call { callee := .builtin .append, args := #[sl, x], argTypes := #[26, 26] }) (B : Nat) (es : List Ent) (v : Value) (hs : a.eval sl = v) (hv : EntsR w B v es) (hB : B ≤ w.heap.size)
    (k : Ent) (hx : a.eval x = .slice (some ⟨w.heap.size, 0, none⟩) 1 1) (hl : es.length + 1 ≤ 4294967296)
    (h : ∀ v' w', EntsR w' B v' (es ++ [k]) → Below B w w' → wpList Try.prog ops Q rest (a.put o.dst v') w') :
    wpList Try.prog ops Q (o :: rest) a (w.alloc (.cells #[.string k.key, .string k.val, .int .i64 k.size, .int .i64 k.over] 52)) := by
  obtain ⟨i0, hi, hz0, hz1, hz2⟩ := info_parts infoEnt
  refine wpList_append_own _ hgd sl x 26 ho B 52 i0 (.agg #[.string ⟨#[]⟩, .string ⟨#[]⟩, .int .i64 0, .int .i64 0]) 4 48 Try.underlying26 hi hz0 hz1 hz2 rfl (by decide) v es.length (es.flatMap Ent.cells) hs (hv.alloc _) ⟨w.heap.size, 0, none⟩ 1 1 k.cells hx rfl (four_cells _ _ _ _ _ _) (by intro u hu; simp [Ent.cells] at hu; rcases hu with rfl | rfl | rfl | rfl <;> rfl) (by unfold maxLen; omega) (by omega) (by simp; omega) ?_
  intro v1 w1 ho1 hg1 _
  refine h v1 w1 ?_ (((Below.refl B w).alloc hB _).grown hg1 (by simp; omega) (fun k' hk' => (World.ownsRow.lt (w := w) hv k' hk').1))
  unfold EntsR
  rw [List.flatMap_append, List.length_append]
  have e : [k].flatMap Ent.cells = k.cells := by simp
  rw [e]
  exact ho1
/-- the entries that are read -/
def entPos (bs : List UInt8) (a : Nat) : Nat → Nat
  | 0 => a
  | j + 1 => entA bs (entPos bs a j)
def entsR (bs : List UInt8) (a n : Nat) : List Ent := (List.range n).map fun j => entR bs (entPos bs a j)
theorem entsR_succ (bs : List UInt8) (a n : Nat) : entsR bs a (n + 1) = entsR bs a n ++ [entR bs (entPos bs a n)] := by simp [entsR, List.range_succ]
end Go.Proofs.Ytjmmfpolkkglaaa.Pages
