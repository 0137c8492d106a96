/-
  What a call that grows a row of bytes leaves of memory ('Grew'), and lists that lie in memory ('RowAt').
-/
import Derived.Test.YtjmmfpolkkglaaaProg
import Derived.WalkKit
import Derived.WalkSpells
import Derived.WalkLawsBesides
namespace Go.Proofs.Ytjmmfpolkkglaaa.Pages
open Go.RowKit

/-- a row of bytes that the call itself made -/
def byteRow : Obj → Bool
  | .cells _ e _ => e == 5
  | _ => false

/-- below B all is as it was; from B on only rows of bytes may have turned, and new blocks have come -/
structure Grew (B : Nat) (w w' : World) : Prop where
  os : w'.os = w.os
  tape : w'.tape = w.tape
  output : w'.output = w.output
  size : w.heap.size ≤ w'.heap.size
  low : ∀ (k : Nat), k < B → w'.heap[k]? = w.heap[k]?
  other : ∀ (k : Nat) (o : Obj), w.heap[k]? = some o → byteRow o = false → w'.heap[k]? = some o

theorem Grew.refl (B : Nat) (w : World) : Grew B w w := ⟨rfl, rfl, rfl, Nat.le_refl _, fun _ _ => rfl, fun _ _ h _ => h⟩
theorem Grew.trans {B : Nat} {a b c : World} (h : Grew B a b) (k : Grew B b c) : Grew B a c :=
  ⟨k.os.trans h.os, k.tape.trans h.tape, k.output.trans h.output, Nat.le_trans h.size k.size, fun i hi => (k.low i hi).trans (h.low i hi), fun i o ho hb => k.other i o (h.other i o ho hb) hb⟩
theorem Grew.alloc {B : Nat} {a w : World} (h : Grew B a w) (hB : B ≤ w.heap.size) (o : Obj) : Grew B a (w.alloc o) := by
  refine h.trans ⟨rfl, rfl, rfl, by simp, fun k hk => Below.heap_alloc _ _ _ (by omega), fun k u hu _ => ?_⟩
  have hk : k < w.heap.size := by
    rw [Array.getElem?_eq_some_iff] at hu
    exact hu.1
  rw [Below.heap_alloc _ _ _ hk]; exact hu
theorem Grew.below {B : Nat} {w w' : World} (h : Grew B w w') : Below B w w' := ⟨h.os, h.tape, h.output, h.size, h.low⟩
theorem Grew.of_below {B : Nat} {w w' : World} (h : Below w.heap.size w w') (hB : B ≤ w.heap.size) : Grew B w w' :=
  ⟨h.os, h.tape, h.output, h.size, fun k hk => h.block k (by omega), fun k o ho _ => by
    have hk : k < w.heap.size := by
      rw [Array.getElem?_eq_some_iff] at ho
      exact ho.1
    rw [h.block k hk]; exact ho⟩
/-- behind an append to an owned row of bytes -/
theorem Grew.grown {B : Nat} {w w' : World} {v : Value} {n : Nat} {xs : List Value} (ho : w.ownsRow B 5 1 v n xs) (hg : w.grownBy w' v.ownBlock) (hB : B ≤ w.heap.size) : Grew B w w' := by
  refine ⟨hg.os, hg.tape, hg.output, hg.size, fun k hk => hg.block k (by omega) (fun e => by have := (ho.lt k e.symm).1; omega), fun k o hk hb => ?_⟩
  have hlt : k < w.heap.size := by
    rw [Array.getElem?_eq_some_iff] at hk
    exact hk.1
  rw [hg.block k hlt (fun e => ?_)]
  · exact hk
  · obtain ⟨_, h2⟩ := ho
    rcases h2 with ⟨hv, _⟩ | ⟨g, cap, cur, hv, _, hh, _⟩
    · rw [hv] at e; simp [Value.ownBlock] at e
    · rw [hv] at e
      simp only [Value.ownBlock, Option.some.injEq] at e
      subst e
      rw [hk] at hh
      simp only [Option.some.injEq] at hh
      subst hh
      simp [byteRow] at hb

/-- the cells of a box that is no row of bytes read as they did -/
theorem Grew.box {B : Nat} {W w1 : World} (h : Grew B W w1) (β : Nat) (o : Obj) (ho : W.heap[β]? = some o) (hb : byteRow o = false) :
    (∀ i, w1.cell? ⟨β, i, none⟩ = W.cell? ⟨β, i, none⟩) ∧ (∀ i, w1.frozen? ⟨β, i, none⟩ = W.frozen? ⟨β, i, none⟩) := by
  have e := (h.other β o ho hb).trans ho.symm
  exact ⟨fun i => World.cell?_of_block (w := W) e, fun i => World.frozen?_of_block (w := W) e⟩
theorem Grew.cells {B : Nat} {W w1 : World} (h : Grew B W w1) :
    (∀ b o, b < B → w1.cell? ⟨b, o, none⟩ = W.cell? ⟨b, o, none⟩) :=
  fun b o hb => h.below.cell (p := ⟨b, o, none⟩) hb

/-- a list that lies in memory, below B; of an empty one nothing is asked -/
def RowAt (w : World) (B : Nat) (a : Option Addr) (vs : List Value) : Prop :=
  vs = [] ∨ ∃ b off, a = some ⟨b, off, none⟩ ∧ b < B ∧ ∀ i u, vs[i]? = some u → w.cell? ⟨b, off + i, none⟩ = some u
theorem RowAt.below {w w' : World} {B : Nat} {a : Option Addr} {vs : List Value} (h : RowAt w B a vs) (hb : Below B w w') : RowAt w' B a vs := by
  rcases h with h | ⟨b, off, ha, hlt, hc⟩
  · exact .inl h
  · exact .inr ⟨b, off, ha, hlt, fun i u hu => by rw [hb.cell (p := ⟨b, off + i, none⟩) hlt]; exact hc i u hu⟩
theorem RowAt.mono {w : World} {B B' : Nat} {a : Option Addr} {vs : List Value} (h : RowAt w B a vs) (hB : B ≤ B') : RowAt w B' a vs := by
  rcases h with h | ⟨b, off, ha, hlt, hc⟩
  · exact .inl h
  · exact .inr ⟨b, off, ha, by omega, hc⟩
end Go.Proofs.Ytjmmfpolkkglaaa.Pages
