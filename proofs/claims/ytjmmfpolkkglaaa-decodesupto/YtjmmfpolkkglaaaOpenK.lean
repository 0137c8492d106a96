/-
  A list of texts that came in as an argument, opened.
-/
import Derived.Test.YtjmmfpolkkglaaaRows
import Derived.Test.YtjmmfpolkkglaaaMem
import Derived.ProofKit
import Derived.OpenShut
import Derived.SliceStrings
import Derived.Deep.Slices
namespace Go.Proofs.Ytjmmfpolkkglaaa.Pages
open Go.RowKit Go.ChangeShapes Go.WideShapes Go.ChangeAt
set_option linter.unusedSimpArgs false
set_option linter.unusedVariables false

theorem cell_lt' {w : World} {b o : Nat} {v : Value} (h : w.cell? ⟨b, o, none⟩ = some v) : b < w.heap.size := by
  rcases Nat.lt_or_ge b w.heap.size with h1 | h1
  · exact h1
  · simp [World.cell?, Array.getElem?_eq_none h1] at h

/-- a row of cells at an address, as 'RowAt' -/
theorem row_of' {w : World} {a : Addr} {vs : List Value} (h : ∀ i u, vs[i]? = some u → w.cell? (a.add i) = some u) : RowAt w w.heap.size (some a) vs := by
  cases vs with
  | nil => exact .inl rfl
  | cons v vs =>
    have h0 := h 0 v rfl
    obtain ⟨b, off, spot⟩ := a
    have hs : spot = none := by simpa [Addr.add] using World.cell?_spot h0
    subst hs
    have hadd : ∀ i, (⟨b, off, none⟩ : Addr).add i = ⟨b, off + i, none⟩ := fun i => by unfold Addr.add; split <;> simp_all
    exact .inr ⟨b, off, rfl, cell_lt' (by rw [← hadd 0]; exact h0), fun i u hu => by rw [← hadd i]; exact h i u hu⟩
theorem cells9' : Try.prog.cellsOf 9 = 1 := by kernel_rfl
theorem i64_of {n : Int} (h : (Lit.int .i64 n).wf = true) : -9223372036854775808 ≤ n ∧ n ≤ 9223372036854775807 := by
  simpa [Lit.wf, IntKind.min, IntKind.max, IntKind.signed, IntKind.bits] using h
theorem open_texts {H : Type} {enc : TypeId × Value → H} {W : World} {base : Nat} {v : Value} {d : DataW H} {p : List MemPlace} (hv : Value.okWide Try.prog W .any base 24 v) (h : DataW.Trod enc Try.prog W 0 (fun _ => true) true 24 v d p) :
    ∃ (a : Option Addr) (c : Nat) (keys : List ByteArray), v = .slice a keys.length c ∧ RowAt W W.heap.size a (keys.map .string) ∧ keys.length ≤ maxLen := by
  obtain ⟨a0, len0, cap0, rfl⟩ := okWide_slice Try.underlying24 hv
  obtain ⟨fuel, hf⟩ := h
  rcases open_strings Try.underlying24 Try.underlying9 cells9' hf with ⟨hcs, hx⟩ | ⟨a, len, cap, ss, hcs, _, hl, hm, hz, hx, hcell, hws⟩
  · simp [Value.cells] at hcs
    obtain ⟨rfl, rfl, rfl⟩ := hcs
    exact ⟨none, 0, [], rfl, .inl rfl, Nat.zero_le _⟩
  · have hlen : (ss.take len).length = len := by simp at hz ⊢; omega
    simp [Value.cells] at hcs
    obtain ⟨rfl, rfl, rfl⟩ := hcs
    refine ⟨some a, cap0, ss.take len0, by rw [hlen], row_of' fun i u hu => ?_, by rw [hlen]; omega⟩
    simp only [List.getElem?_map, Option.map_eq_some_iff] at hu
    obtain ⟨s, hs, rfl⟩ := hu
    rw [List.getElem?_take] at hs
    split at hs
    · have hi := (List.getElem?_eq_some_iff.1 hs).1
      rw [hcell i hi]
      simp [List.getD, hs]
    · cases hs
end Go.Proofs.Ytjmmfpolkkglaaa.Pages
