/-
  Bytes of a text, and back.
-/
import Derived.Test.YtjmmfpolkkglaaaRead4
namespace Go.Proofs.Ytjmmfpolkkglaaa.Pages
open Go.RowKit
set_option linter.unusedSimpArgs false
set_option linter.unusedVariables false

theorem conv_bytes2 (s : ByteArray) (u : World) : ∃ c v, (convert 9 43 (.string s)).run Try.prog u = .ok (.slice (some ⟨u.heap.size, 0, none⟩) s.size c) v ∧ Below u.heap.size u v ∧
    (∀ (j : Nat) (hj : j < s.data.toList.length), v.cell? ⟨u.heap.size, j, none⟩ = some (byteV s.data.toList[j])) ∧ (∀ j, j < s.size → v.frozen? ⟨u.heap.size, j, none⟩ = false) ∧ (∃ row fz, v.heap[u.heap.size]? = some (.cells row 5 fz) ∧ s.size ≤ row.size) := by
  refine ⟨_, _, run_bytes_of_string u 9 43 5 s Try.underlying9 Try.underlying43 Try.underlying5, ?_, ?_, ?_, ?_⟩
  · exact ((Below.refl u.heap.size u).drew).alloc (by simp) _
  · intro j hj
    have hj' : j < s.data.size := by simpa using hj
    have e : (u.drew.alloc (.cells (bytesRow s (grownCap u s.size 0 5)) 5 ((bytesRow s (grownCap u s.size 0 5)).size, (bytesRow s (grownCap u s.size 0 5)).size + 1))).heap[u.heap.size]? = some (.cells (bytesRow s (grownCap u s.size 0 5)) 5 ((bytesRow s (grownCap u s.size 0 5)).size, (bytesRow s (grownCap u s.size 0 5)).size + 1)) := heap_new u.drew _
    simp only [World.cell?, e]
    have hj2 : j < s.size := hj'
    simp [bytesRow, byteV, Array.getElem?_append, hj', hj2]
  · intro j hj
    have e : (u.drew.alloc (.cells (bytesRow s (grownCap u s.size 0 5)) 5 ((bytesRow s (grownCap u s.size 0 5)).size, (bytesRow s (grownCap u s.size 0 5)).size + 1))).heap[u.heap.size]? = some (.cells (bytesRow s (grownCap u s.size 0 5)) 5 ((bytesRow s (grownCap u s.size 0 5)).size, (bytesRow s (grownCap u s.size 0 5)).size + 1)) := heap_new u.drew _
    simp only [World.frozen?, e]
    have : s.size ≤ (bytesRow s (grownCap u s.size 0 5)).size := by simp [bytesRow]
    simp
    omega
  · refine ⟨_, _, heap_new u.drew _, ?_⟩
    simp [bytesRow]
/-- the bytes of a row one of which is set, as a text -/
theorem conv_turned (u u' : World) (g k c : Nat) (bs : List UInt8) (t : UInt8) (hb : ∀ (j : Nat) (hj : j < bs.length), u.cell? ⟨g, j, none⟩ = some (byteV bs[j])) (row : Array Value) (fz : Nat × Nat) (hr : u.heap[g]? = some (.cells row 5 fz)) (hset : u'.heap[g]? = some (.cells (row.setIfInBounds k (byteV t)) 5 fz)) (hk : k < bs.length) (n : Nat) (hn : n = bs.length) :
    (convert 43 9 (.slice (some ⟨g, 0, none⟩) n c)).run Try.prog u' = .ok (.string ⟨(bs.set k t).toArray⟩) u' := by
  have hl : (bs.set k t).length = n := by simp [hn]
  have := run_convert_bytes_back (P := Try.prog) u' 43 9 5 ⟨g, 0, none⟩ c (bs.set k t) Try.underlying43 Try.underlying5 Try.underlying9 (fun j hj => by
    have e : (⟨g, 0, none⟩ : Addr).add j = ⟨g, j, none⟩ := by unfold Addr.add; split <;> simp_all
    have hj' : j < bs.length := by simpa using hj
    have hb' := hb j hj'
    simp only [World.cell?, hr] at hb'
    rw [e]
    simp only [World.cell?, hset]
    have hjr : j < row.size := (Array.getElem?_eq_some_iff.1 hb').1
    by_cases hjk : k = j
    · subst hjk
      simp [Array.getElem?_setIfInBounds, hjr, byteV]
    · rw [Array.getElem?_setIfInBounds, if_neg hjk, hb']
      simp [List.getElem_set, hjk, byteV])
  rw [hl] at this
  exact this
theorem set_row {u : World} {g k : Nat} {row : Array Value} {e : TypeId} {fz : Nat × Nat} (hr : u.heap[g]? = some (.cells row e fz)) (v : Value) : (u.setCell ⟨g, k, none⟩ v).heap[g]? = some (.cells (row.setIfInBounds k v) e fz) := by
  simp only [World.setCell]
  rw [Array.getElem?_modify, if_pos rfl, hr]
  rfl
end Go.Proofs.Ytjmmfpolkkglaaa.Pages
