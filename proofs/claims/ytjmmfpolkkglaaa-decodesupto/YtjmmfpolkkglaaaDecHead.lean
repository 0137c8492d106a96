/-
  A row of bytes that is written into; the law's pick.
-/
import Derived.Test.YtjmmfpolkkglaaaConv
import Derived.Test.YtjmmfpolkkglaaaKeep
namespace Go.Proofs.Ytjmmfpolkkglaaa.Pages
open Go.RowKit
set_option linter.unusedSimpArgs false
set_option linter.unusedVariables false

theorem pick_law (c n : Int) (w : World) (h0 : -9223372036854775808 ≤ c) (h1 : c ≤ 9223372036854775807) (hn : 0 < n) :
    Calls Try.prog 14 #[.int .i64 c, .int .i64 n] w fun e w' => ∃ m : Int, 0 ≤ m ∧ m < n ∧ e = .returned (.int .i64 m) ∧ w' = w := by
  have hn0 : n ≠ 0 := by omega
  by_cases hc : c < 0
  · go_enter Try.func14, Try.ntmps14
    go_wp2
    go_ret
    have e : -((c + 1).tmod n) = (-(c + 1)) % n := by rw [← Int.neg_tmod, Int.tmod_eq_emod_of_nonneg (by omega)]
    exact ⟨_, by rw [e]; exact Int.emod_nonneg _ hn0, by rw [e]; exact Int.emod_lt_of_pos _ hn, rfl, rfl⟩
  · go_enter Try.func14, Try.ntmps14
    go_wp2
    go_ret
    exact ⟨_, Int.emod_nonneg _ hn0, Int.emod_lt_of_pos _ hn, rfl, rfl⟩
/-- a row of bytes at block γ -/
def BR (w : World) (γ : Nat) (bs : List UInt8) : Prop := ∃ row fz, w.heap[γ]? = some (Obj.cells row 5 fz) ∧ (∀ (j : Nat) (hj : j < bs.length), row[j]? = some (byteV bs[j])) ∧ bs.length ≤ fz.1
theorem BR.cell {w : World} {γ : Nat} {bs : List UInt8} (h : BR w γ bs) (j : Nat) (hj : j < bs.length) : w.cell? ⟨γ, j, none⟩ = some (byteV bs[j]) := by
  obtain ⟨row, fz, hr, hc, _⟩ := h
  simp only [World.cell?, hr]
  exact hc j hj
theorem BR.free {w : World} {γ : Nat} {bs : List UInt8} (h : BR w γ bs) (j : Nat) (hj : j < bs.length) : w.frozen? ⟨γ, j, none⟩ = false := by
  obtain ⟨row, fz, hr, _, hf⟩ := h
  simp only [World.frozen?, hr]
  simp
  omega
theorem BR.set {w : World} {γ : Nat} {bs : List UInt8} (h : BR w γ bs) (k : Nat) (hk : k < bs.length) (t : UInt8) : BR (w.setCell ⟨γ, k, none⟩ (byteV t)) γ (bs.set k t) := by
  obtain ⟨row, fz, hr, hc, hf⟩ := h
  refine ⟨_, fz, set_row hr _, fun j hj => ?_, by simpa using hf⟩
  have hj' : j < bs.length := by simpa using hj
  have hjr : j < row.size := (Array.getElem?_eq_some_iff.1 (hc j hj')).1
  by_cases hjk : k = j
  · subst hjk
    simp [Array.getElem?_setIfInBounds, hjr]
  · rw [Array.getElem?_setIfInBounds, if_neg hjk, hc j hj']
    simp [List.getElem_set, hjk]
theorem BR.block {w w' : World} {γ : Nat} {bs : List UInt8} (h : BR w γ bs) (hb : w'.heap[γ]? = w.heap[γ]?) : BR w' γ bs := by
  obtain ⟨row, fz, hr, hc⟩ := h
  exact ⟨row, fz, hb.trans hr, hc⟩
theorem BR.conv {w : World} {γ : Nat} {bs : List UInt8} (h : BR w γ bs) (n c : Nat) (hn : n ≤ bs.length) :
    (convert 43 9 (.slice (some ⟨γ, 0, none⟩) n c)).run Try.prog w = .ok (.string ⟨(bs.take n).toArray⟩) w := by
  have hl : (bs.take n).length = n := by simp; omega
  have := run_convert_bytes_back (P := Try.prog) w 43 9 5 ⟨γ, 0, none⟩ c (bs.take n) Try.underlying43 Try.underlying5 Try.underlying9 (fun j hj => by
    have e : (⟨γ, 0, none⟩ : Addr).add j = ⟨γ, j, none⟩ := by unfold Addr.add; split <;> simp_all
    have hj' : j < bs.length := by omega
    rw [e, h.cell j hj']
    simp [byteV])
  rw [hl] at this
  exact this
theorem conv_br (s : ByteArray) (u : World) : ∃ c v, (convert 9 43 (.string s)).run Try.prog u = .ok (.slice (some ⟨u.heap.size, 0, none⟩) s.size c) v ∧ Below u.heap.size u v ∧ BR v u.heap.size s.data.toList ∧ s.size ≤ c := by
  refine ⟨_, _, run_bytes_of_string u 9 43 5 s Try.underlying9 Try.underlying43 Try.underlying5, ((Below.refl u.heap.size u).drew).alloc (by simp) _, ⟨_, _, heap_new u.drew _, fun j hj => ?_, ?_⟩, grownCap_ge _ _ _ _⟩
  · have hj' : j < s.data.size := by simpa using hj
    have hj2 : j < s.size := hj'
    simp [bytesRow, byteV, Array.getElem?_append, hj', hj2]
  · simp [bytesRow]
theorem xor_byte (a b : UInt8) : bits BinOp.xor IntKind.u8 (a.toNat : Int) (b.toNat : Int) = ((a ^^^ b).toNat : Int) := by
  rw [u8_xor_nat _ _ a.toNat_lt b.toNat_lt, UInt8.toNat_xor]
/-- what the law's head holds: the bytes, the texts, the empty book -/
structure HS (w wx : World) (β γ : Nat) (v : Value) (texts : List ByteArray) (bs : List UInt8) : Prop where
  br : BR wx γ bs
  tx : Keys wx (β + 1) v texts
  ne : ∀ b, v.ownBlock = some b → b < γ
  bk : wx.heap[β]? = some (.cells #[.slice none 0 0, .slice none 0 0, .slice none 0 0, .slice none 0 0] 42)
  bel : Below w.heap.size w wx
  lt : β < γ
  wl : w.heap.size ≤ γ
theorem HS.set {w wx : World} {β γ : Nat} {v : Value} {texts : List ByteArray} {bs : List UInt8} (h : HS w wx β γ v texts bs) (k : Nat) (hk : k < bs.length) (t : UInt8) : HS w (wx.setCell ⟨γ, k, none⟩ (byteV t)) β γ v texts (bs.set k t) := by
  refine ⟨h.br.set k hk t, ?_, h.ne, keep_set h.bk (Nat.ne_of_lt h.lt) k _, h.bel.setCell h.wl _, h.lt, h.wl⟩
  have ho := (Only.refl γ wx).setCell k (byteV t)
  exact World.ownsRow.kept (row := some γ) h.tx ⟨ho.os, ho.tape, ho.output, ho.size, fun k hk hr => ho.block k hk (fun e => hr (by rw [e]))⟩ (by
    cases hv : v.ownBlock with
    | none => exact .inl rfl
    | some b => exact .inr (fun e => by have := h.ne b hv; simp at e; omega))
end Go.Proofs.Ytjmmfpolkkglaaa.Pages
