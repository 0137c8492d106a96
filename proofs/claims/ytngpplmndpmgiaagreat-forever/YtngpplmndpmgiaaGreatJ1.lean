/-
  Joined: Mem, OpenI, Fr, Buf, Small, Ents, File1, App.
-/
import Derived.WalkKit
import Derived.WalkSpells
import Derived.WalkLawsBesides
import Derived.Test.YtngpplmndpmgiaaGreatProg
import Derived.ProofKit
import Derived.OpenShut
import Derived.ChangeSlices
import Derived.Test.YtngpplmndpmgiaaGreatRows
import Derived.RangeFuncNested
import Derived.RangeFuncBound
import Derived.RangeFuncLeaves
import Derived.Deep.QuietTactic
import Derived.Lib.AppendStr
import Derived.Outline
import Derived.BigQuiet
import Derived.Maps.AppendAt
import Derived.OwnWalkIn
namespace Go.Proofs.YtngpplmndpmgiaaGreat.Pages
open Go.RowKit
def byteRow : Obj → Bool
  | .cells _ e _ => e == 5
  | _ => false
structure Grew (B : Nat) (w w' : World) : Prop where
  os : w'.os = w.os
  tape : w'.tape = w.tape
  output : w'.output = w.output
  size : w.heap.size ≤ w'.heap.size
  low : ∀ (k : Nat), k < B → w'.heap[k]? = w.heap[k]?
  other : ∀ (k : Nat) (o : Obj), w.heap[k]? = some o → byteRow o = false → w'.heap[k]? = some o
theorem Grew.refl (B : Nat) (w : World) : Grew B w w := ⟨rfl, rfl, rfl, Nat.le_refl _, fun _ _ => rfl, fun _ _ h _ => h⟩
theorem Grew.trans {B : Nat} {a b c : World} (h : Grew B a b) (k : Grew B b c) : Grew B a c :=
  ⟨k.os.trans h.os, k.tape.trans h.tape, k.output.trans h.output, Nat.le_trans h.size k.size, fun i hi => (k.low i hi).trans (h.low i hi), fun i o ho hb => k.other i o (h.other i o ho hb) hb⟩
theorem Grew.alloc {B : Nat} {a w : World} (h : Grew B a w) (hB : B ≤ w.heap.size) (o : Obj) : Grew B a (w.alloc o) := by
  refine h.trans ⟨rfl, rfl, rfl, by simp, fun k hk => Below.heap_alloc _ _ _ (by omega), fun k u hu _ => ?_⟩
  have hk : k < w.heap.size := by
    rw [Array.getElem?_eq_some_iff] at hu
    exact hu.1
  rw [Below.heap_alloc _ _ _ hk]; exact hu
theorem Grew.below {B : Nat} {w w' : World} (h : Grew B w w') : Below B w w' := ⟨h.os, h.tape, h.output, h.size, h.low⟩
theorem Grew.of_below {B : Nat} {w w' : World} (h : Below w.heap.size w w') (hB : B ≤ w.heap.size) : Grew B w w' :=
  ⟨h.os, h.tape, h.output, h.size, fun k hk => h.block k (by omega), fun k o ho _ => by
    have hk : k < w.heap.size := by
      rw [Array.getElem?_eq_some_iff] at ho
      exact ho.1
    rw [h.block k hk]; exact ho⟩
theorem Grew.grown {B : Nat} {w w' : World} {v : Value} {n : Nat} {xs : List Value} (ho : w.ownsRow B 5 1 v n xs) (hg : w.grownBy w' v.ownBlock) (hB : B ≤ w.heap.size) : Grew B w w' := by
  refine ⟨hg.os, hg.tape, hg.output, hg.size, fun k hk => hg.block k (by omega) (fun e => by have := (ho.lt k e.symm).1; omega), fun k o hk hb => ?_⟩
  have hlt : k < w.heap.size := by
    rw [Array.getElem?_eq_some_iff] at hk
    exact hk.1
  rw [hg.block k hlt (fun e => ?_)]
  · exact hk
  · obtain ⟨_, h2⟩ := ho
    rcases h2 with ⟨hv, _⟩ | ⟨g, cap, cur, hv, _, hh, _⟩
    · rw [hv] at e; simp [Value.ownBlock] at e
    · rw [hv] at e
      simp only [Value.ownBlock, Option.some.injEq] at e
      subst e
      rw [hk] at hh
      simp only [Option.some.injEq] at hh
      subst hh
      simp [byteRow] at hb
theorem Grew.box {B : Nat} {W w1 : World} (h : Grew B W w1) (β : Nat) (o : Obj) (ho : W.heap[β]? = some o) (hb : byteRow o = false) :
    (∀ i, w1.cell? ⟨β, i, none⟩ = W.cell? ⟨β, i, none⟩) ∧ (∀ i, w1.frozen? ⟨β, i, none⟩ = W.frozen? ⟨β, i, none⟩) := by
  have e := (h.other β o ho hb).trans ho.symm
  exact ⟨fun i => World.cell?_of_block (w := W) e, fun i => World.frozen?_of_block (w := W) e⟩
theorem Grew.cells {B : Nat} {W w1 : World} (h : Grew B W w1) :
    (∀ b o, b < B → w1.cell? ⟨b, o, none⟩ = W.cell? ⟨b, o, none⟩) :=
  fun b o hb => h.below.cell (p := ⟨b, o, none⟩) hb
def RowAt (w : World) (B : Nat) (a : Option Addr) (vs : List Value) : Prop :=
  vs = [] ∨ ∃ b off, a = some ⟨b, off, none⟩ ∧ b < B ∧ ∀ i u, vs[i]? = some u → w.cell? ⟨b, off + i, none⟩ = some u
theorem RowAt.below {w w' : World} {B : Nat} {a : Option Addr} {vs : List Value} (h : RowAt w B a vs) (hb : Below B w w') : RowAt w' B a vs := by
  rcases h with h | ⟨b, off, ha, hlt, hc⟩
  · exact .inl h
  · exact .inr ⟨b, off, ha, hlt, fun i u hu => by rw [hb.cell (p := ⟨b, off + i, none⟩) hlt]; exact hc i u hu⟩
theorem RowAt.mono {w : World} {B B' : Nat} {a : Option Addr} {vs : List Value} (h : RowAt w B a vs) (hB : B ≤ B') : RowAt w B' a vs := by
  rcases h with h | ⟨b, off, ha, hlt, hc⟩
  · exact .inl h
  · exact .inr ⟨b, off, ha, by omega, hc⟩
end Go.Proofs.YtngpplmndpmgiaaGreat.Pages
namespace Go.Proofs.YtngpplmndpmgiaaGreat.Pages
open Go.RowKit Go.ChangeShapes Go.WideShapes Go.ChangeAt
set_option linter.unusedSimpArgs false
set_option linter.unusedVariables false
theorem cell_lt3 {w : World} {b o : Nat} {v : Value} (h : w.cell? ⟨b, o, none⟩ = some v) : b < w.heap.size := by
  rcases Nat.lt_or_ge b w.heap.size with h1 | h1
  · exact h1
  · simp [World.cell?, Array.getElem?_eq_none h1] at h
theorem row_of3 {w : World} {a : Addr} {vs : List Value} (h : ∀ i u, vs[i]? = some u → w.cell? (a.add i) = some u) : RowAt w w.heap.size (some a) vs := by
  cases vs with
  | nil => exact .inl rfl
  | cons v vs =>
    have h0 := h 0 v rfl
    obtain ⟨b, off, spot⟩ := a
    have hs : spot = none := by simpa [Addr.add] using World.cell?_spot h0
    subst hs
    have hadd : ∀ i, (⟨b, off, none⟩ : Addr).add i = ⟨b, off + i, none⟩ := fun i => by unfold Addr.add; split <;> simp_all
    exact .inr ⟨b, off, rfl, cell_lt3 (by rw [← hadd 0]; exact h0), fun i u hu => by rw [← hadd i]; exact h i u hu⟩
theorem cells3' : Tryz.prog.cellsOf 3 = 1 := by kernel_rfl
theorem i64_of3 {n : Int} (h : (Lit.int .i64 n).wf = true) : -9223372036854775808 ≤ n ∧ n ≤ 9223372036854775807 := by
  simpa [Lit.wf, IntKind.min, IntKind.max, IntKind.signed, IntKind.bits] using h
set_option maxRecDepth 100000 in
theorem open_nums {H : Type} {enc : TypeId × Value → H} {W : World} {base : Nat} {v : Value} {d : DataW H} {p : List MemPlace} (hv : Value.okWide Tryz.prog W .any base 22 v) (h : DataW.Trod enc Tryz.prog W 0 (fun _ => true) true 22 v d p) :
    ∃ (a : Option Addr) (c : Nat) (ns : List Int), v = .slice a ns.length c ∧ RowAt W W.heap.size a (ns.map (.int .i64)) ∧ ns.length ≤ maxLen ∧ ∀ x ∈ ns, -9223372036854775808 ≤ x ∧ x ≤ 9223372036854775807 := by
  obtain ⟨a0, len0, cap0, rfl⟩ := okWide_slice Tryz.underlying22 hv
  obtain ⟨fuel, hf⟩ := h
  rcases Go.ChangeShapes.open_ints Tryz.underlying22 Tryz.underlying3 cells3' hf with ⟨hcs, hx⟩ | ⟨a, len, cap, ss, hcs, _, hl, hm, hz, hx, hcell, hws⟩
  · simp [Value.cells] at hcs
    obtain ⟨rfl, rfl, rfl⟩ := hcs
    exact ⟨none, 0, [], rfl, .inl rfl, Nat.zero_le _, by simp⟩
  · have hlen : (ss.take len).length = len := by simp at hz ⊢; omega
    simp [Value.cells] at hcs
    obtain ⟨rfl, rfl, rfl⟩ := hcs
    refine ⟨some a, cap0, ss.take len0, by rw [hlen], row_of3 fun i u hu => ?_, by rw [hlen]; omega, fun x hx => i64_of3 (hws x (List.mem_of_mem_take hx))⟩
    simp only [List.getElem?_map, Option.map_eq_some_iff] at hu
    obtain ⟨s, hs, rfl⟩ := hu
    rw [List.getElem?_take] at hs
    split at hs
    · have hi := (List.getElem?_eq_some_iff.1 hs).1
      rw [hcell i hi]
      simp [List.getD, hs]
    · cases hs
end Go.Proofs.YtngpplmndpmgiaaGreat.Pages
namespace Go.Proofs.YtngpplmndpmgiaaGreat.Tree
open Go.RowKit
abbrev Bl := Nat → Prop
def Bl.none : Bl := fun _ => False
def Bl.one (b : Nat) : Bl := fun k => k = b
def Bl.or (A B : Bl) : Bl := fun k => A k ∨ B k
structure Fr (Y : Bl) (w w' : World) : Prop where
  os : w'.os = w.os
  tape : w'.tape = w.tape
  output : w'.output = w.output
  size : w.heap.size ≤ w'.heap.size
  block : ∀ k, k < w.heap.size → ¬ Y k → w'.heap[k]? = w.heap[k]?
structure On (Y : Bl) (w w' : World) : Prop where
  os : w'.os = w.os
  tape : w'.tape = w.tape
  output : w'.output = w.output
  size : w.heap.size ≤ w'.heap.size
  block : ∀ k, Y k → w'.heap[k]? = w.heap[k]?
theorem Fr.refl (Y : Bl) (w : World) : Fr Y w w := ⟨rfl, rfl, rfl, Nat.le_refl _, fun _ _ _ => rfl⟩
def Grows (w : World) (Y Y' : Bl) : Prop := ∀ k, Y' k → Y k ∨ w.heap.size ≤ k
theorem Grows.refl (w : World) (Y : Bl) : Grows w Y Y := fun _ h => .inl h
theorem Grows.trans {a b : World} {X Y Z : Bl} (h : Grows a X Y) (hs : a.heap.size ≤ b.heap.size) (k : Grows b Y Z) : Grows a X Z := fun i hi => by
  rcases k i hi with h1 | h1
  · exact h i h1
  · exact .inr (Nat.le_trans hs h1)
theorem Fr.grow {Y Z : Bl} {a b c : World} (h : Fr Y a b) (k : Fr Z b c) (g : Grows a Y Z) : Fr Y a c :=
  ⟨k.os.trans h.os, k.tape.trans h.tape, k.output.trans h.output, Nat.le_trans h.size k.size, fun i hi hy =>
    (k.block i (Nat.lt_of_lt_of_le hi h.size) (fun hz => (g i hz).elim hy (fun h1 => by omega))).trans (h.block i hi hy)⟩
theorem Fr.trans {Y : Bl} {a b c : World} (h : Fr Y a b) (k : Fr Y b c) : Fr Y a c := h.grow k (Grows.refl _ _)
theorem Fr.mono {Y Z : Bl} {a b : World} (h : Fr Y a b) (hz : ∀ k, Y k → Z k ∨ a.heap.size ≤ k) : Fr Z a b :=
  ⟨h.os, h.tape, h.output, h.size, fun k hk hn => h.block k hk (fun hy => (hz k hy).elim hn (fun h1 => by omega))⟩
theorem Fr.drewN {Y : Bl} {a w : World} (h : Fr Y a w) (n : Nat) : Fr Y a (w.drewN n) := h.trans ⟨rfl, rfl, rfl, Nat.le_refl _, fun _ _ _ => rfl⟩
theorem Fr.drew {Y : Bl} {a w : World} (h : Fr Y a w) : Fr Y a w.drew := h.trans ⟨rfl, rfl, rfl, Nat.le_refl _, fun _ _ _ => rfl⟩
theorem Fr.alloc {Y : Bl} {a w : World} (h : Fr Y a w) (o : Obj) : Fr Y a (w.alloc o) :=
  h.trans ⟨rfl, rfl, rfl, by simp, fun k hk _ => Below.heap_alloc _ _ _ hk⟩
theorem Fr.setCell {Y : Bl} {a w : World} (h : Fr Y a w) {p : Addr} (hp : Y p.block ∨ a.heap.size ≤ p.block) (u : Value) : Fr Y a (w.setCell p u) :=
  ⟨h.os, h.tape, h.output, by have := h.size; simpa [World.setCell] using this, fun k hk hy => (Below.heap_setCell _ _ _ _ (fun e => by subst e; exact hp.elim hy (fun h1 => by omega))).trans (h.block k hk hy)⟩
theorem Fr.putObj {Y : Bl} {a w : World} (h : Fr Y a w) {l : Nat} (hp : Y l ∨ a.heap.size ≤ l) (o : Obj) : Fr Y a (w.putObj l o) :=
  ⟨h.os, h.tape, h.output, by have := h.size; simpa using this, fun k hk hy => (World.putObj_heap_other (fun e => by subst e; exact hp.elim hy (fun h1 => by omega))).trans (h.block k hk hy)⟩
theorem Fr.of_below {Y : Bl} {w w' : World} (h : Below w.heap.size w w') : Fr Y w w' := ⟨h.os, h.tape, h.output, h.size, fun k hk _ => h.block k hk⟩
theorem Fr.below {Y : Bl} {w w' : World} {B : Nat} (h : Fr Y w w') (hB : B ≤ w.heap.size) (hY : ∀ k, Y k → B ≤ k) : Below B w w' :=
  ⟨h.os, h.tape, h.output, h.size, fun k hk => h.block k (by omega) (fun hy => by have := hY k hy; omega)⟩
theorem Fr.below0 {w w' : World} (h : Fr Bl.none w w') : Below w.heap.size w w' := h.below (Nat.le_refl _) (fun _ h => h.elim)
theorem Fr.grown {Y : Bl} {a w w' : World} {row : Option Nat} (h : Fr Y a w) (hg : w.grownBy w' row) (hr : ∀ k, row = some k → Y k ∨ a.heap.size ≤ k) : Fr Y a w' :=
  ⟨hg.os.trans h.os, hg.tape.trans h.tape, hg.output.trans h.output, Nat.le_trans h.size hg.size, fun k hk hy =>
    (hg.block k (Nat.lt_of_lt_of_le hk h.size) (fun e => (hr k e.symm).elim hy (fun h1 => by omega))).trans (h.block k hk hy)⟩
theorem Fr.heap {Y : Bl} {w w' : World} (h : Fr Y w w') {k : Nat} {o : Obj} (ho : w.heap[k]? = some o) (hy : ¬ Y k) : w'.heap[k]? = some o :=
  (h.block k (Array.getElem?_eq_some_iff.1 ho).1 hy).trans ho
theorem Fr.cell {Y : Bl} {w w' : World} (h : Fr Y w w') {b o : Nat} (hb : b < w.heap.size) (hy : ¬ Y b) : w'.cell? ⟨b, o, none⟩ = w.cell? ⟨b, o, none⟩ := World.cell?_of_block (w := w) (h.block b hb hy)
theorem Fr.on {Y Z : Bl} {w w' : World} (h : Fr Y w w') (hz : ∀ k, Z k → k < w.heap.size ∧ ¬ Y k) : On Z w w' := ⟨h.os, h.tape, h.output, h.size, fun k hk => h.block k (hz k hk).1 (hz k hk).2⟩
theorem On.refl (Y : Bl) (w : World) : On Y w w := ⟨rfl, rfl, rfl, Nat.le_refl _, fun _ _ => rfl⟩
theorem On.trans {Y : Bl} {a b c : World} (h : On Y a b) (k : On Y b c) : On Y a c :=
  ⟨k.os.trans h.os, k.tape.trans h.tape, k.output.trans h.output, Nat.le_trans h.size k.size, fun i hi => (k.block i hi).trans (h.block i hi)⟩
theorem On.mono {Y Z : Bl} {a b : World} (h : On Y a b) (hz : ∀ k, Z k → Y k) : On Z a b := ⟨h.os, h.tape, h.output, h.size, fun k hk => h.block k (hz k hk)⟩
theorem On.heap {Y : Bl} {w w' : World} (h : On Y w w') {k : Nat} {o : Obj} (ho : w.heap[k]? = some o) (hy : Y k) : w'.heap[k]? = some o := (h.block k hy).trans ho
theorem On.cell {Y : Bl} {w w' : World} (h : On Y w w') {b : Nat} (o : Nat) (hy : Y b) : w'.cell? ⟨b, o, none⟩ = w.cell? ⟨b, o, none⟩ := World.cell?_of_block (w := w) (h.block b hy)
theorem On.frozen {Y : Bl} {w w' : World} (h : On Y w w') {b : Nat} (o : Nat) (hy : Y b) : w'.frozen? ⟨b, o, none⟩ = w.frozen? ⟨b, o, none⟩ := World.frozen?_of_block (w := w) (h.block b hy)
theorem On.of_below {Y : Bl} {w w' : World} (h : Below w.heap.size w w') (hy : ∀ k, Y k → k < w.heap.size) : On Y w w' := ⟨h.os, h.tape, h.output, h.size, fun k hk => h.block k (hy k hk)⟩
theorem On.alloc {Y : Bl} {a w : World} (h : On Y a w) (hy : ∀ k, Y k → k < w.heap.size) (o : Obj) : On Y a (w.alloc o) :=
  h.trans ⟨rfl, rfl, rfl, by simp, fun k hk => Below.heap_alloc _ _ _ (hy k hk)⟩
theorem On.putObj {Y : Bl} {a w : World} (h : On Y a w) {l : Nat} (hl : ¬ Y l) (o : Obj) : On Y a (w.putObj l o) :=
  h.trans ⟨rfl, rfl, rfl, by simp, fun k hk => World.putObj_heap_other (fun e => by subst e; exact hl hk)⟩
theorem On.setCell {Y : Bl} {a w : World} (h : On Y a w) {p : Addr} (hl : ¬ Y p.block) (u : Value) : On Y a (w.setCell p u) :=
  h.trans ⟨rfl, rfl, rfl, by simp [World.setCell], fun k hk => Below.heap_setCell _ _ _ _ (fun e => by subst e; exact hl hk)⟩
end Go.Proofs.YtngpplmndpmgiaaGreat.Tree
namespace Go.Proofs.YtngpplmndpmgiaaGreat.Pages
open Go.RowKit
def byteV (b : UInt8) : Value := .int .u8 (b.toNat : Int)
def Buf (w : World) (B : Nat) (v : Value) (bs : List UInt8) : Prop := w.ownsRow B 5 1 v bs.length (bs.map byteV)
theorem info8 : (Tryz.prog.info? 5).map (fun i => (i.zero, i.size, i.bytes)) = some (some (.int .u8 0), 1, 1) := by kernel_rfl
theorem Buf.nil (w : World) (B : Nat) : Buf w B (.slice none 0 0) [] := World.ownsRow_nil _ _ _ _
theorem Buf.alloc {w : World} {B : Nat} {v : Value} {bs : List UInt8} (h : Buf w B v bs) (o : Obj) : Buf (w.alloc o) B v bs := World.ownsRow.alloc (w := w) h o
theorem Buf.below {w w' : World} {B : Nat} {v : Value} {bs : List UInt8} (h : Buf w B v bs) (hb : Below w.heap.size w w') : Buf w' B v bs :=
  World.ownsRow.kept (row := none) h ⟨hb.os, hb.tape, hb.output, hb.size, fun k hk _ => hb.block k hk⟩ (by cases v.ownBlock <;> simp)
theorem strCells_eq (s : ByteArray) : Lib.strCells s = s.data.toList.map byteV := rfl
theorem data_length (s : ByteArray) : s.data.toList.length = s.size := by rw [Array.length_toList]; rfl
theorem Buf.of {w : World} {B : Nat} {v : Value} {bs : List UInt8} {n : Nat} {xs : List Value} (hn : n = bs.length) (hx : xs = bs.map byteV) (h : w.ownsRow B 5 1 v n xs) : Buf w B v bs := by
  subst hn; subst hx; exact h
theorem Buf.one {w' : World} {B : Nat} {v' : Value} {bs : List UInt8} {x : Int} (b : UInt8) (hx : x = (b.toNat : Int)) (h : w'.ownsRow B 5 1 v' (bs.length + 1) (bs.map byteV ++ [.int .u8 x])) : Buf w' B v' (bs ++ [b]) := by
  unfold Buf
  rw [List.map_append, List.length_append]
  subst hx
  exact h
theorem one_cell {w : World} (u : Value) (e : TypeId) : ∀ j x, [u][j]? = some x → (w.alloc (.cells #[u] e)).cell? ((⟨w.heap.size, 0, none⟩ : Addr).add j) = some x := by
  intro j x hj
  match j, hj with
  | 0, hj => simp at hj; subst hj; simp [Addr.add]
theorem wp_append_byte {ops : Array Oper} {rest : List Oper} {o : Oper} {a : Act} {Q : Exit → Act → World → Prop} (w : World) (hgd : o.guard = none) (sl x : Operand)
    (ho : o.op = .call { callee := .builtin .append, args := #[sl, x], argTypes := #[115, 115] }) (B : Nat) (bs : List UInt8) (v : Value) (hs : a.eval sl = v) (hv : Buf w B v bs) (hB : B ≤ w.heap.size)
    (z : Int) (b : UInt8) (hz : z = (b.toNat : Int)) (hx : a.eval x = .slice (some ⟨w.heap.size, 0, none⟩) 1 1) (hl : bs.length + 1 ≤ 140737488355328)
    (h : ∀ v' w', Buf w' B v' (bs ++ [b]) → Grew B w w' → wpList Tryz.prog ops Q rest (a.put o.dst v') w') :
    wpList Tryz.prog ops Q (o :: rest) a (w.alloc (.cells #[.int .u8 z] 5)) := by
  obtain ⟨i0, hi, hz0, hz1, hz2⟩ := info_parts info8
  refine wpList_append_own _ hgd sl x 115 ho B 5 i0 (.int .u8 0) 1 1 Tryz.underlying115 hi hz0 hz1 hz2 rfl (by decide) v bs.length (bs.map byteV) hs (hv.alloc _) ⟨w.heap.size, 0, none⟩ 1 1 [.int .u8 z] hx rfl (one_cell _ _) (by intro u hu; simp at hu; subst hu; rfl) (by unfold maxLen; omega) (by omega) (by simp; omega) ?_
  intro v1 w1 ho1 hg1 _
  exact h v1 w1 (Buf.one b hz ho1) (((Grew.refl B w).alloc hB _).trans (Grew.grown (hv.alloc _) hg1 (by simp; omega)))
theorem wp_append_str {ops : Array Oper} {rest : List Oper} {o : Oper} {a : Act} {Q : Exit → Act → World → Prop} (w : World) (hgd : o.guard = none) (sl x : Operand)
    (ho : o.op = .call { callee := .builtin .append, args := #[sl, x], argTypes := #[115, 9] }) (B : Nat) (bs : List UInt8) (v : Value) (hs : a.eval sl = v) (hv : Buf w B v bs) (hB : B ≤ w.heap.size)
    (s : ByteArray) (hx : a.eval x = .string s) (hl : bs.length + s.size ≤ 140737488355328)
    (h : ∀ v' w', Buf w' B v' (bs ++ s.data.toList) → Grew B w w' → wpList Tryz.prog ops Q rest (a.put o.dst v') w') :
    wpList Tryz.prog ops Q (o :: rest) a w := by
  obtain ⟨i0, hi, hz0, hz1, hz2⟩ := info_parts info8
  refine Lib.wpList_append_own_string _ hgd sl x 115 9 ho B 5 i0 Tryz.underlying115 Tryz.underlying9 hi hz0 hz1 hz2 v _ _ hs hv s hx (by unfold maxLen; omega) hl hB ?_
  intro v2 w2 ho2 hg2 _
  exact h v2 w2 (Buf.of (by simp) (by simp [strCells_eq]) ho2) (Grew.grown hv hg2 hB)
theorem byte_len (s : ByteArray) : (s.size : Int) % 256 = ((UInt8.ofNat s.size).toNat : Int) := by simp
set_option maxHeartbeats 1000000 in
theorem appendText_any (v : Value) (s : ByteArray) (bs : List UInt8) (B : Nat) (w : World) (hv : Buf w B v bs) (hB : B ≤ w.heap.size) (hl : bs.length + s.size + 1 ≤ 140737488355328) :
    Calls Tryz.prog 152 #[v, .string s] w fun e w' => ∃ v', e = .returned v' ∧ Buf w' B v' (bs ++ [UInt8.ofNat s.size] ++ s.data.toList) ∧ Grew B w w' := by
  have l1 : bs.length + 1 ≤ 140737488355328 := by omega
  have l2 : (bs ++ [UInt8.ofNat s.size]).length + s.size ≤ 140737488355328 := by simp; omega
  go_enter Tryz.func152, Tryz.ntmps152
  go_wp2_with (first | (at_builtin; refine wp_append_byte w rfl (.tmp 5) (.tmp 9) rfl B bs v rfl hv hB _ (UInt8.ofNat s.size) (byte_len s) rfl l1 ?_; intro v1 w1 hb1 g1; have hB1 : B ≤ w1.heap.size := Nat.le_trans hB g1.size) | (at_builtin; refine wp_append_str w1 rfl (.tmp 11) (.tmp 12) rfl B _ v1 rfl hb1 hB1 s rfl l2 ?_; intro v2 w2 hb2 g2))
  go_ret
  exact ⟨_, rfl, hb2, g1.trans g2⟩
def beB : Nat → Int → List UInt8
  | 0, _ => []
  | k + 1, n => UInt8.ofNat ((n / 2 ^ (8 * k) % 256).toNat) :: beB k n
theorem byte_back (n : Int) (m : Nat) : n / 2 ^ m % 256 = ((UInt8.ofNat ((n / 2 ^ m % 256).toNat)).toNat : Int) := by
  rw [UInt8.toNat_ofNat_of_lt' (by simp [UInt8.size]; omega)]; omega
theorem beB_length (k : Nat) (n : Int) : (beB k n).length = k := by
  induction k with
  | zero => rfl
  | succ k ih => simp [beB, ih]
set_option maxHeartbeats 1000000 in
theorem appendNumber_any (v : Value) (size : Nat) (n : Int) (bs : List UInt8) (B : Nat) (w : World) (hv : Buf w B v bs) (hB : B ≤ w.heap.size) (hs : size ≤ 8) (hl : bs.length + size ≤ 140737488355328) :
    Calls Tryz.prog 134 #[v, .int .i64 size, .int .i64 n] w fun e w' => ∃ v', e = .returned v' ∧ Buf w' B v' (bs ++ beB size n) ∧ Grew B w w' := by
  go_enter Tryz.func134, Tryz.ntmps134
  go_wp2
  go_loopw [0, 7] (fun u k wr => ∃ j : Nat, j ≤ size ∧ k = .int .i64 ((j : Int) - 1) ∧ ∃ cs, cs.length + j ≤ bs.length + size ∧ Buf wr B u cs ∧ bs ++ beB size n = cs ++ beB j n ∧ Grew B w wr) (fun _ k _ => (intOf k + 1).toNat)
  case atStart => exact ⟨size, Nat.le_refl _, rfl, bs, by omega, hv, rfl, Grew.refl _ _⟩
  case round =>
    obtain ⟨j, hj, rfl, cs, hcl, hbuf, hcs, hg⟩ := hrel
    have HC : Hid (bs ++ beB size n = cs ++ beB j n) := hcs
    clear hcs
    have hBr : B ≤ wr.heap.size := by have := hg.size; omega
    cases j with
    | succ j =>
      have l1 : cs.length + 1 ≤ 140737488355328 := by omega
      go_wp2_with (at_builtin; (refine wp_append_byte wr rfl (.tmp 14) (.tmp 20) rfl B cs u0 rfl hbuf hBr _ (UInt8.ofNat ((n / 2 ^ (8 * j) % 256).toNat)) (byte_back _ _) rfl l1 ?_; intro v1 w1 hb1 g1))
      have G1 := hg.trans g1
      clear hbuf hg hv g1
      go_roundw
      case rel => exact ⟨j, by omega, by go_num, _, by simp; omega, hb1, by rw [HC.out]; simp [beB], G1⟩
      case measure => simp [intOf]
    | zero =>
      clear hv
      go_wp2
      go_ret
      exact ⟨_, rfl, by rw [HC.out]; simpa [beB] using hbuf, hg⟩
theorem appendNumber_z (v : Value) (z n : Int) (bs : List UInt8) (B : Nat) (w : World) (hv : Buf w B v bs) (hB : B ≤ w.heap.size) (hz0 : 0 ≤ z) (hz8 : z ≤ 8) (hl : bs.length + 8 ≤ 140737488355328) :
    Calls Tryz.prog 134 #[v, .int .i64 z, .int .i64 n] w fun e w' => ∃ v', e = .returned v' ∧ Buf w' B v' (bs ++ beB z.toNat n) ∧ Grew B w w' := by
  obtain ⟨k, rfl⟩ : ∃ k : Nat, z = k := ⟨z.toNat, by omega⟩
  exact appendNumber_any v k n bs B w hv hB (by omega) (by omega)
end Go.Proofs.YtngpplmndpmgiaaGreat.Pages
namespace Go.Proofs.YtngpplmndpmgiaaGreat.Pages
open Go.RowKit
theorem ret_bool {a b : Bool} (h : a = b) : Ending.returned (.bool a) = .returned (.bool b) := by rw [h]
def placeB (n : Int) : Bool := decide (2 ≤ n) && decide (n < 4096)
theorem isPlace_any (n : Int) (w : World) :
    Calls Tryz.prog 163 #[.int .i64 n] w fun e w' => e = .returned (.bool (placeB n)) ∧ w' = w := by
  go_enter Tryz.func163, Tryz.ntmps163
  go_wp2
  all_goals go_ret
  all_goals refine ⟨ret_bool ?_, rfl⟩
  all_goals (rw [Bool.eq_iff_iff]; simp only [placeB, Bool.and_eq_true, decide_eq_true_eq, Bool.false_eq_true, false_iff]; omega)
def followsB (last key : ByteArray) : Bool := Op.bytesLess last.toList key.toList && decide (key.size ≤ 24)
theorem follows_any (last key : ByteArray) (w : World) :
    Calls Tryz.prog 164 #[.string last, .string key] w fun e w' => e = .returned (.bool (followsB last key)) ∧ w' = w := by
  go_enter Tryz.func164, Tryz.ntmps164
  go_wp2
  all_goals go_ret
  all_goals refine ⟨ret_bool ?_, rfl⟩
  all_goals (rw [Bool.eq_iff_iff]; simp only [followsB, Bool.and_eq_true, decide_eq_true_eq, Bool.false_eq_true, false_iff, not_and, *, true_and, false_implies]; try omega)
def keyB (key : ByteArray) : Bool := decide (1 ≤ key.size) && decide (key.size ≤ 24)
theorem isInline_any (k v : ByteArray) (n o : Int) (w : World) :
    Calls Tryz.prog 166 #[.agg #[.string k, .string v, .int .i64 n, .int .i64 o]] w fun e w' => e = .returned (.bool (o == 0)) ∧ Below w.heap.size w w' := by
  go_enter Tryz.func166, Tryz.ntmps166
  go_wp2
  go_ret
  exact ⟨rfl, (Below.refl _ _).alloc (Nat.le_refl _) _⟩
theorem bcell {W w1 : World} (hb : Below W.heap.size W w1) : (∀ b o, b < W.heap.size → w1.cell? ⟨b, o, none⟩ = W.cell? ⟨b, o, none⟩) ∧ (∀ b o, b < W.heap.size → w1.frozen? ⟨b, o, none⟩ = W.frozen? ⟨b, o, none⟩) :=
  ⟨fun b o h => hb.cell (p := ⟨b, o, none⟩) h, fun b o h => hb.frozen (p := ⟨b, o, none⟩) h⟩
theorem placeB_zero : placeB 0 = false := rfl
def valB (v : ByteArray) (n o : Int) : Bool := (o == 0 && decide ((v.size : Int) ≤ 60) && n == (v.size : Int)) || (placeB o && v.toList.isEmpty && decide (60 < n) && decide (n ≤ 400))
set_option maxHeartbeats 1000000 in
theorem rightValue_any (k v : ByteArray) (n o : Int) (w : World) :
    Calls Tryz.prog 165 #[.agg #[.string k, .string v, .int .i64 n, .int .i64 o]] w fun e w' => e = .returned (.bool (valB v n o)) ∧ Below w.heap.size w w' := by
  go_enter Tryz.func165, Tryz.ntmps165
  go_wp2_with (first | (go_at_call 166; refine (isInline_any _ _ _ _ _).mono ?_; rintro e w1 ⟨rfl, hb⟩; obtain ⟨hc, hf⟩ := bcell hb) | (go_at_call 163; refine (isPlace_any _ _).mono ?_; rintro e w' ⟨rfl, rfl⟩))
  all_goals go_ret
  all_goals refine ⟨ret_bool ?_, ((Below.refl _ _).alloc (Nat.le_refl _) _).trans (hb.mono (by simp))⟩
  all_goals clear hb hc hf
  all_goals simp_all [valB, placeB_zero]
  all_goals omega
def entB (k v : ByteArray) (n o : Int) : Bool := keyB k && valB v n o
end Go.Proofs.YtngpplmndpmgiaaGreat.Pages
namespace Go.Proofs.YtngpplmndpmgiaaGreat.Pages
open Go.RowKit
def textB (s : ByteArray) : List UInt8 := [UInt8.ofNat s.size] ++ s.data.toList
def entBytes (k v : ByteArray) (n o : Int) : List UInt8 :=
  textB k ++ (if (o == 0) = true then [0] ++ textB v else [1] ++ beB 2 n ++ beB 2 o)
theorem heap_new (w : World) (o : Obj) : (w.alloc o).heap[w.heap.size]? = some o := by
  show (w.heap.push o)[w.heap.size]? = _
  simp
theorem box4 {w : World} {β : Nat} {a b c d : Value} {e : TypeId} (h : w.heap[β]? = some (.cells #[a, b, c, d] e)) :
    w.cell? ⟨β, 0, none⟩ = some a ∧ w.cell? ⟨β, 1, none⟩ = some b ∧ w.cell? ⟨β, 2, none⟩ = some c ∧ w.cell? ⟨β, 3, none⟩ = some d := by
  simp [World.cell?, h]
set_option maxHeartbeats 1000000 in
theorem appendEntry_any (b : Value) (k v : ByteArray) (n o : Int) (bs : List UInt8) (B : Nat) (w : World) (hv : Buf w B b bs) (hB : B ≤ w.heap.size) (hl : bs.length + k.size + v.size + 20 ≤ 140737488355328) :
    Calls Tryz.prog 151 #[b, .agg #[.string k, .string v, .int .i64 n, .int .i64 o]] w fun e w' => ∃ b', e = .returned b' ∧ Buf w' B b' (bs ++ entBytes k v n o) ∧ Grew B w w' := by
  have hBW : B ≤ (w.alloc (.cells #[.string k, .string v, .int .i64 n, .int .i64 o] 102)).heap.size := by simp; omega
  have hbox := heap_new w (.cells #[.string k, .string v, .int .i64 n, .int .i64 o] 102)
  have gW := (Grew.refl B w).alloc hB (.cells #[.string k, .string v, .int .i64 n, .int .i64 o] 102)
  have hvW := hv.alloc (.cells #[.string k, .string v, .int .i64 n, .int .i64 o] 102)
  have l0 : bs.length + k.size + 1 ≤ 140737488355328 := by omega
  have l1 : (bs ++ [UInt8.ofNat k.size] ++ k.data.toList).length + 1 ≤ 140737488355328 := by simp; omega
  have l4 : (bs ++ [UInt8.ofNat k.size] ++ k.data.toList ++ [0]).length + v.size + 1 ≤ 140737488355328 := by simp; omega
  cases ho : (o == 0)
  all_goals
    go_enter Tryz.func151, Tryz.ntmps151
    go_wp2_with (first
      | (go_at_call 152; refine (appendText_any _ _ _ B _ (by assumption) (by assumption) (by first | exact l0 | exact l4)).mono ?_; rintro e wn ⟨bn, rfl, hbn, gn⟩; have hxn := gn.other _ _ (by assumption) rfl; obtain ⟨e0, e1, e2, e3⟩ := box4 hxn; have Gn := Grew.trans (show Grew B w _ by assumption) gn; have hBn : B ≤ wn.heap.size := Nat.le_trans hB Gn.size; clear gn)
      | (go_at_call 166; refine (isInline_any _ _ _ _ _).mono ?_; rintro e wn ⟨rfl, hbl⟩; have gn := Grew.of_below hbl (by assumption); have hbm := Buf.below (by assumption) hbl; clear hbl; have hxn := gn.other _ _ (by assumption) rfl; obtain ⟨e0, e1, e2, e3⟩ := box4 hxn; have Gn := Grew.trans (show Grew B w _ by assumption) gn; have hBn : B ≤ wn.heap.size := Nat.le_trans hB Gn.size; clear gn)
      | (at_builtin; refine wp_append_byte _ rfl (.tmp 18) (.tmp 19) rfl B _ _ rfl (by assumption) (by assumption) _ 1 rfl rfl l1 ?_; intro bn wn hbn gn; have hxn := gn.other _ _ (by assumption) rfl; obtain ⟨e0, e1, e2, e3⟩ := box4 hxn; have Gn := Grew.trans (show Grew B w _ by assumption) gn; have hBn : B ≤ wn.heap.size := Nat.le_trans hB Gn.size; clear gn)
      | (at_builtin; refine wp_append_byte _ rfl (.tmp 11) (.tmp 12) rfl B _ _ rfl (by assumption) (by assumption) _ 0 rfl rfl l1 ?_; intro bn wn hbn gn; have hxn := gn.other _ _ (by assumption) rfl; obtain ⟨e0, e1, e2, e3⟩ := box4 hxn; have Gn := Grew.trans (show Grew B w _ by assumption) gn; have hBn : B ≤ wn.heap.size := Nat.le_trans hB Gn.size; clear gn)
      | (go_at_call 134; refine (appendNumber_z _ _ _ _ B _ (by assumption) (by assumption) (by decide) (by decide) (by simp [beB_length]; omega)).mono ?_; rintro e wn ⟨bn, rfl, hbn, gn⟩; have hxn := gn.other _ _ (by assumption) rfl; obtain ⟨e0, e1, e2, e3⟩ := box4 hxn; have Gn := Grew.trans (show Grew B w _ by assumption) gn; have hBn : B ≤ wn.heap.size := Nat.le_trans hB Gn.size; clear gn))
    go_ret
    exact ⟨_, rfl, by simpa [entBytes, textB, ho] using hbn, Gn⟩
theorem flat_snoc {α : Type} (f : α → List UInt8) (l : List α) (j : Nat) (h : j < l.length) : (l.take (j + 1)).flatMap f = (l.take j).flatMap f ++ f l[j] := by
  rw [List.take_succ_eq_append_getElem h]; simp only [List.flatMap_append, List.flatMap_cons, List.flatMap_nil, List.append_nil]
theorem flat_le {α : Type} (f : α → List UInt8) (l : List α) (j : Nat) (h : j < l.length) : ((l.take j).flatMap f).length + (f l[j]).length ≤ (l.flatMap f).length := by
  have e : l.flatMap f = (l.take (j + 1)).flatMap f ++ (l.drop (j + 1)).flatMap f := by rw [← List.flatMap_append, List.take_append_drop]
  rw [e, flat_snoc f l j h]; simp
theorem box8 {w : World} {β : Nat} {a b c d a' b' c' d' : Value} {e : TypeId} (h : w.heap[β]? = some (.cells #[a, b, c, d, a', b', c', d'] e)) :
    w.cell? ⟨β, 0, none⟩ = some a ∧ w.cell? ⟨β, 1, none⟩ = some b ∧ w.cell? ⟨β, 2, none⟩ = some c ∧ w.cell? ⟨β, 3, none⟩ = some d ∧
    w.cell? ⟨β, 4, none⟩ = some a' ∧ w.cell? ⟨β, 5, none⟩ = some b' ∧ w.cell? ⟨β, 6, none⟩ = some c' ∧ w.cell? ⟨β, 7, none⟩ = some d' := by
  simp [World.cell?, h]
def branchB (keys : List ByteArray) (kids : List Int) : List UInt8 := beB 1 keys.length ++ kids.flatMap (beB 2) ++ keys.flatMap textB
theorem RowAt.at {α : Type} {f : α → Value} {w : World} {B : Nat} {a : Option Addr} {l : List α} {j : Nat} (h : RowAt w B a (l.map f)) (hj : j < l.length) : ∃ b off, a = some ⟨b, off, none⟩ ∧ b < B ∧ w.cell? ⟨b, off + j, none⟩ = some (f l[j]) := by
  rcases h with h | ⟨b, off, ha, hb, hc⟩
  · simp at h; subst h; simp at hj
  · exact ⟨b, off, ha, hb, hc j _ (by simp [List.getElem?_eq_getElem hj])⟩
set_option maxHeartbeats 1000000 in
theorem appendBranch_any (b : Value) (kind ver root next : Int) (ka ia ea : Option Addr) (kc ic el ec : Nat) (data : ByteArray) (keys : List ByteArray) (kids : List Int) (bs : List UInt8) (B : Nat) (w : World)
    (hv : Buf w B b bs) (hB : B ≤ w.heap.size) (hK : RowAt w B ka (keys.map .string)) (hI : RowAt w B ia (kids.map (.int .i64))) (hkn : keys.length ≤ 1073741824) (hin : kids.length ≤ 1073741824) (hl : bs.length + (branchB keys kids).length + 8 ≤ 140737488355328) :
    Calls Tryz.prog 150 #[b, .agg #[.int .i64 kind, .int .i64 ver, .int .i64 root, .int .i64 next, .slice ka keys.length kc, .slice ia kids.length ic, .slice ea el ec, .string data]] w fun e w' => ∃ b', e = .returned b' ∧ Buf w' B b' (bs ++ branchB keys kids) ∧ Grew B w w' := by
  have hBW : B ≤ (w.alloc (.cells #[.int .i64 kind, .int .i64 ver, .int .i64 root, .int .i64 next, .slice ka keys.length kc, .slice ia kids.length ic, .slice ea el ec, .string data] 72)).heap.size := by simp; omega
  have hbox := heap_new w (.cells #[.int .i64 kind, .int .i64 ver, .int .i64 root, .int .i64 next, .slice ka keys.length kc, .slice ia kids.length ic, .slice ea el ec, .string data] 72)
  have gW := (Grew.refl B w).alloc hB (.cells #[.int .i64 kind, .int .i64 ver, .int .i64 root, .int .i64 next, .slice ka keys.length kc, .slice ia kids.length ic, .slice ea el ec, .string data] 72)
  have hvW := hv.alloc (.cells #[.int .i64 kind, .int .i64 ver, .int .i64 root, .int .i64 next, .slice ka keys.length kc, .slice ia kids.length ic, .slice ea el ec, .string data] 72)
  have l0 : bs.length + 8 ≤ 140737488355328 := by omega
  go_enter Tryz.func150, Tryz.ntmps150
  go_wp2_with (go_at_call 134; refine (appendNumber_z _ _ _ _ B _ (by assumption) (by assumption) (by decide) (by decide) l0).mono ?_; rintro e wn ⟨bn, rfl, hbn, gn⟩; have hxn := gn.other _ _ (by assumption) rfl; obtain ⟨e0, e1, e2, e3, e4, e5, e6, e7⟩ := box8 hxn; have Gn := Grew.trans (show Grew B w _ by assumption) gn; have hBn : B ≤ wn.heap.size := Nat.le_trans hB Gn.size; clear gn)
  clear hv hvW hbox gW hBW
  go_loopw [0, 17] (fun u i wr => ∃ j : Nat, j ≤ kids.length ∧ i = .int .i64 j ∧ Buf wr B u (bs ++ beB 1 keys.length ++ (kids.take j).flatMap (beB 2)) ∧ Grew B w wr ∧ wr.heap[w.heap.size]? = some (.cells #[.int .i64 kind, .int .i64 ver, .int .i64 root, .int .i64 next, .slice ka keys.length kc, .slice ia kids.length ic, .slice ea el ec, .string data] 72)) (fun _ i _ => kids.length - (intOf i).toNat)
  case atStart => exact ⟨0, Nat.zero_le _, rfl, by simpa using hbn, Gn, hxn⟩
  case round =>
    clear hbn Gn hxn e0 e1 e2 e3 e4 e5 e6 e7 hBn
    obtain ⟨j, hj, rfl, hbr, gr, hxr⟩ := hrel
    have hBr : B ≤ wr.heap.size := Nat.le_trans hB gr.size
    by_cases hlt : j < kids.length
    · obtain ⟨ib, io, hia, hib, hic⟩ := (hI.below gr.below).at hlt
      have lj := flat_le (beB 2) kids j hlt
      have l1 : (bs ++ beB 1 keys.length ++ (kids.take j).flatMap (beB 2)).length + 8 ≤ 140737488355328 := by simp only [branchB, beB_length, List.length_append] at hl lj ⊢; omega
      subst hia
      clear hK hI hl
      go_wp2_with (go_at_call 134; refine (appendNumber_z _ _ _ _ B _ (by assumption) (by assumption) (by decide) (by decide) l1).mono ?_; rintro e wn ⟨bn, rfl, hbn, gn⟩; have hxn := gn.other _ _ (by assumption) rfl; obtain ⟨e0, e1, e2, e3, e4, e5, e6, e7⟩ := box8 hxn; have Gn := Grew.trans (show Grew B w _ by assumption) gn; have hBn : B ≤ wn.heap.size := Nat.le_trans hB Gn.size; clear gn)
      go_roundw
      case rel => exact ⟨j + 1, by omega, by go_num, by rw [flat_snoc _ _ _ hlt, ← List.append_assoc]; exact hbn, Gn, hxn⟩
      case measure => simp [intOf]; omega
    · obtain rfl : j = kids.length := by omega
      rw [List.take_length] at hbr
      obtain ⟨e0, e1, e2, e3, e4, e5, e6, e7⟩ := box8 hxr
      go_wp2
      go_loopw [0, 28] (fun u i wr => ∃ j : Nat, j ≤ keys.length ∧ i = .int .i64 j ∧ Buf wr B u (bs ++ beB 1 keys.length ++ kids.flatMap (beB 2) ++ (keys.take j).flatMap textB) ∧ Grew B w wr ∧ wr.heap[w.heap.size]? = some (.cells #[.int .i64 kind, .int .i64 ver, .int .i64 root, .int .i64 next, .slice ka keys.length kc, .slice ia kids.length ic, .slice ea el ec, .string data] 72)) (fun _ i _ => keys.length - (intOf i).toNat)
      case atStart => exact ⟨0, Nat.zero_le _, rfl, by simpa using hbr, gr, hxr⟩
      case round =>
        clear hbr gr hxr e0 e1 e2 e3 e4 e5 e6 e7 hBr
        obtain ⟨j, hj, rfl, hbr, gr, hxr⟩ := hrel
        have hBr : B ≤ wr.heap.size := Nat.le_trans hB gr.size
        by_cases hlt : j < keys.length
        · obtain ⟨kb, ko, hka, hkb, hkc⟩ := (hK.below gr.below).at hlt
          have lj := flat_le textB keys j hlt
          have l1 : (bs ++ beB 1 keys.length ++ kids.flatMap (beB 2) ++ (keys.take j).flatMap textB).length + keys[j].size + 1 ≤ 140737488355328 := by simp only [branchB, textB, beB_length, List.length_append, data_length, List.length_cons, List.length_nil] at hl lj ⊢; omega
          subst hka
          clear hK hI hl
          go_wp2_with (go_at_call 152; refine (appendText_any _ _ _ B _ (by assumption) (by assumption) l1).mono ?_; rintro e wn ⟨bn, rfl, hbn, gn⟩; have hxn := gn.other _ _ (by assumption) rfl; obtain ⟨e0, e1, e2, e3, e4, e5, e6, e7⟩ := box8 hxn; have Gn := Grew.trans (show Grew B w _ by assumption) gn; have hBn : B ≤ wn.heap.size := Nat.le_trans hB Gn.size; clear gn)
          go_roundw
          case rel => exact ⟨j + 1, by omega, by go_num, by rw [flat_snoc _ _ _ hlt]; simpa [textB] using hbn, Gn, hxn⟩
          case measure => simp [intOf]; omega
        · obtain rfl : j = keys.length := by omega
          rw [List.take_length] at hbr
          clear hK hI hl
          go_wp2
          go_ret
          exact ⟨_, rfl, by simpa [branchB] using hbr, gr⟩
end Go.Proofs.YtngpplmndpmgiaaGreat.Pages
namespace Go.Proofs.YtngpplmndpmgiaaGreat.Tree
open Go.RowKit Go.Proofs.YtngpplmndpmgiaaGreat.Pages
set_option linter.unusedSimpArgs false
set_option linter.unusedVariables false
structure Fs where
  safe : List ByteArray
  late : List (Nat × ByteArray)
  wait : Int
  life : Int
  failed : Int
def wcells (x : Nat × ByteArray) : List Value := [.int .i64 x.1, .string x.2]
structure FileAt (w : World) (β : Nat) (sv lv : Value) (fs : Fs) : Prop where
  box : w.heap[β]? = some (.cells #[sv, lv, .int .i64 fs.wait, .int .i64 fs.life, .int .i64 fs.failed] 60)
  safe : w.ownsRow 0 9 1 sv fs.safe.length (fs.safe.map .string)
  late : w.ownsRow 0 62 2 lv fs.late.length (fs.late.flatMap wcells)
  small : fs.safe.length ≤ 4096
  few : fs.late.length ≤ 1000000
def fpF (β : Nat) (sv lv : Value) : Bl := fun k => k = β ∨ sv.ownBlock = some k ∨ lv.ownBlock = some k
theorem own_on {w w' : World} {Y : Bl} {B : Nat} {e : TypeId} {z : Nat} {v : Value} {n : Nat} {xs : List Value} (h : w.ownsRow B e z v n xs) (ho : On Y w w') (hy : ∀ k, v.ownBlock = some k → Y k) : w'.ownsRow B e z v n xs := by
  obtain ⟨h1, h2⟩ := h
  refine ⟨h1, ?_⟩
  rcases h2 with h2 | ⟨g, cap, cur, rfl, hb, hg, r⟩
  · exact .inl h2
  · exact .inr ⟨g, cap, cur, rfl, hb, ho.heap hg (hy g rfl), r⟩
theorem FileAt.on {w w' : World} {β : Nat} {sv lv : Value} {fs : Fs} (h : FileAt w β sv lv fs) (ho : On (fpF β sv lv) w w') : FileAt w' β sv lv fs :=
  ⟨ho.heap h.box (.inl rfl), own_on h.safe ho (fun k hk => .inr (.inl hk)), own_on h.late ho (fun k hk => .inr (.inr hk)), h.small, h.few⟩
theorem own_lt {w : World} {B : Nat} {e : TypeId} {z : Nat} {v : Value} {n : Nat} {xs : List Value} (h : w.ownsRow B e z v n xs) {k : Nat} (hk : v.ownBlock = some k) : k < w.heap.size := (World.ownsRow.lt (w := w) h k hk).2
theorem FileAt.lies {w : World} {β : Nat} {sv lv : Value} {fs : Fs} (h : FileAt w β sv lv fs) : ∀ k, fpF β sv lv k → k < w.heap.size := by
  rintro k (rfl | hk | hk)
  · exact (Array.getElem?_eq_some_iff.1 h.box).1
  · exact own_lt h.safe hk
  · exact own_lt h.late hk
theorem box5 {w : World} {β : Nat} {a b c d e : Value} {t : TypeId} (h : w.heap[β]? = some (.cells #[a, b, c, d, e] t)) :
    w.cell? ⟨β, 0, none⟩ = some a ∧ w.cell? ⟨β, 1, none⟩ = some b ∧ w.cell? ⟨β, 2, none⟩ = some c ∧ w.cell? ⟨β, 3, none⟩ = some d ∧ w.cell? ⟨β, 4, none⟩ = some e := by
  simp [World.cell?, h]
theorem own_shape {w : World} {B : Nat} {e : TypeId} {z : Nat} {v : Value} {n : Nat} {xs : List Value} (h : w.ownsRow B e z v n xs) : ∃ a c, v = .slice a n c := by
  obtain ⟨_, h2⟩ := h
  rcases h2 with ⟨rfl, rfl⟩ | ⟨g, cap, cur, rfl, _⟩
  · exact ⟨none, 0, rfl⟩
  · exact ⟨_, _, rfl⟩
theorem own_at {w : World} {B : Nat} {e : TypeId} {z : Nat} {a : Option Addr} {c : Nat} {n : Nat} {xs : List Value} (h : w.ownsRow B e z (.slice a n c) n xs) {j : Nat} {u : Value} (hu : xs[j]? = some u) : ∃ g, a = some ⟨g, 0, none⟩ ∧ g < w.heap.size ∧ n ≤ c ∧ w.cell? ⟨g, j, none⟩ = some u := by
  obtain ⟨h1, h2⟩ := id h
  have hj : j < n * z := by rw [← h1]; exact (List.getElem?_eq_some_iff.1 hu).1
  rcases h2 with ⟨hv, rfl⟩ | ⟨g, cap, cur, hv, _, hg, hc, _⟩
  · simp at hj
  · cases hv
    exact ⟨g, rfl, (Array.getElem?_eq_some_iff.1 hg).1, hc, (World.ownsRow.cellAt (w := w) h j hj).trans hu⟩
theorem ret_sb {a a' : ByteArray} {b b' : Bool} (h1 : a = a') (h2 : b = b') : Ending.returned (.tuple #[.string a, .bool b]) = .returned (.tuple #[.string a', .bool b']) := by rw [h1, h2]
theorem pages_any (β : Nat) (sv lv : Value) (fs : Fs) (w : World) (h : FileAt w β sv lv fs) :
    Calls Tryz.prog 27 #[.pointer (some ⟨β, 0, none⟩)] w fun e w' => e = .returned (.int .i64 fs.safe.length) ∧ w' = w := by
  obtain ⟨c0, c1, c2, c3, c4⟩ := box5 h.box
  obtain ⟨a, c, rfl⟩ := own_shape h.safe
  go_enter Tryz.func27, Tryz.ntmps27
  go_wp2
  go_ret
  exact ⟨rfl, rfl⟩
theorem dead_any (β : Nat) (sv lv : Value) (fs : Fs) (w : World) (h : FileAt w β sv lv fs) :
    Calls Tryz.prog 50 #[.pointer (some ⟨β, 0, none⟩)] w fun e w' => e = .returned (.bool (fs.life == 0)) ∧ w' = w := by
  obtain ⟨c0, c1, c2, c3, c4⟩ := box5 h.box
  go_enter Tryz.func50, Tryz.ntmps50
  go_wp2
  go_ret
  exact ⟨rfl, rfl⟩
def lastW (late : List (Nat × ByteArray)) (p : Nat) : Option ByteArray := (late.reverse.find? fun x => x.1 == p).map (·.2)
def Fs.at (fs : Fs) (p : Nat) : ByteArray := (lastW fs.late p).getD (fs.safe.getD p ⟨#[]⟩)
def Fs.readS (fs : Fs) (p : Nat) : ByteArray := if decide (p < fs.safe.length) && !(fs.life == 0) then fs.at p else ⟨#[]⟩
theorem lastW_hit {l : List (Nat × ByteArray)} {p i : Nat} (hi : i < l.length) (hp : (l[i]).1 = p) (hn : ∀ x ∈ l.drop (i + 1), x.1 ≠ p) : lastW l p = some (l[i]).2 := by
  have e : l = l.take i ++ l[i] :: l.drop (i + 1) := by rw [← List.drop_eq_getElem_cons hi, List.take_append_drop]
  unfold lastW
  have e2 : l.reverse = (l.drop (i + 1)).reverse ++ (l[i] :: (l.take i).reverse) := by
    conv => lhs; rw [e]
    simp
  rw [e2, List.find?_append, List.find?_eq_none.2 (fun x hx => by simpa using hn x (by simpa using hx))]
  simp [hp]
theorem lastW_miss {l : List (Nat × ByteArray)} {p : Nat} (hn : ∀ x ∈ l, x.1 ≠ p) : lastW l p = none := by
  unfold lastW
  rw [List.find?_eq_none.2 (fun x hx => by simpa using hn x (by simpa using hx))]
  rfl
theorem wcells_at {l : List (Nat × ByteArray)} {j : Nat} (hj : j < l.length) : (l.flatMap wcells)[j * 2]? = some (.int .i64 (l[j]).1) ∧ (l.flatMap wcells)[j * 2 + 1]? = some (.string (l[j]).2) := by
  induction l generalizing j with
  | nil => simp at hj
  | cons x l ih =>
    cases j with
    | zero => simp [wcells]
    | succ j =>
      have := ih (j := j) (by simpa using hj)
      have e1 : (j + 1) * 2 = j * 2 + 2 := by omega
      have e2 : (j + 1) * 2 + 1 = j * 2 + 1 + 2 := by omega
      rw [e2, e1]
      simpa [wcells] using this
set_option maxHeartbeats 1000000 in
theorem read_any (β : Nat) (sv lv : Value) (fs : Fs) (p : Nat) (w : World) (h : FileAt w β sv lv fs) :
    Calls Tryz.prog 103 #[.pointer (some ⟨β, 0, none⟩), .int .i64 p] w fun e w' => e = .returned (.tuple #[.string (fs.readS p), .bool (decide (p < fs.safe.length) && !(fs.life == 0))]) ∧ w' = w := by
  obtain ⟨c0, c1, c2, c3, c4⟩ := box5 h.box
  obtain ⟨sa, sc, rfl⟩ := own_shape h.safe
  obtain ⟨la, lc, rfl⟩ := own_shape h.late
  have hsm := h.small
  have hfw := h.few
  by_cases hp : p < fs.safe.length
  · cases hl : (fs.life == 0)
    · have HR : Hid (fs.readS p = fs.at p) := by show _ = _; simp [Fs.readS, hp, hl]
      have HB : Hid ((decide (p < fs.safe.length) && !false) = true) := by show _ = _; simp [hp]
      have hpi : (p : Int) < (fs.safe.length : Int) := by omega
      go_enter Tryz.func103, Tryz.ntmps103
      go_wp2
      go_loop [6] (fun i => ∃ j : Nat, j ≤ fs.late.length ∧ i = .int .i64 ((j : Int) - 1) ∧ Hid (∀ x ∈ fs.late.drop j, x.1 ≠ p)) (fun i => (intOf i + 1).toNat)
      case atStart => exact ⟨fs.late.length, Nat.le_refl _, rfl, by show ∀ _, _; simp⟩
      case round =>
        obtain ⟨j, hj, rfl, HN⟩ := hrel
        cases j with
        | zero =>
          obtain ⟨g, hg, hglt, hgc, hgv⟩ := own_at h.safe (j := p) (u := .string fs.safe[p]) (by simp [hp])
          subst hg
          go_wp2
          go_ret2
          have hn : lastW fs.late p = none := lastW_miss (fun x hx => HN.out x (by simpa using hx))
          exact ⟨ret_sb (a := fs.safe[p]) (by rw [HR.out]; simp [Fs.at, hn, hp]) (by simp [hp]), rfl⟩
        | succ j =>
          obtain ⟨w1, w2⟩ := wcells_at (l := fs.late) (j := j) (by omega)
          obtain ⟨g, hg, hglt, hgc, hgv⟩ := own_at h.late w1
          obtain ⟨g', hg', _, _, hgv'⟩ := own_at h.late w2
          subst hg
          cases hg'
          by_cases he : (fs.late[j]).1 = p
          · have he' : ((fs.late[j]).1 : Int) = (p : Int) := by omega
            go_wp2
            go_ret2
            have hn : lastW fs.late p = some (fs.late[j]).2 := lastW_hit (by omega) he HN.out
            exact ⟨ret_sb (a := (fs.late[j]).2) (by rw [HR.out]; simp [Fs.at, hn]) (by simp [hp]), rfl⟩
          · have he' : ¬ ((fs.late[j]).1 : Int) = (p : Int) := by omega
            go_wp2
            go_round
            case rel => exact ⟨j, by omega, by go_num, by
              intro x hx
              rw [List.drop_eq_getElem_cons (by omega : j < fs.late.length)] at hx
              rcases List.mem_cons.1 hx with rfl | hx
              · exact he
              · exact HN.out x hx⟩
            case measure => simp [intOf]
    · have HR : Hid (fs.readS p = ⟨#[]⟩) := by show _ = _; simp [Fs.readS, hp, hl]
      have hpi : (p : Int) < (fs.safe.length : Int) := by omega
      go_enter Tryz.func103, Tryz.ntmps103
      go_wp2
      go_ret2
      exact ⟨ret_sb HR.out.symm (by simp), rfl⟩
  · have HR : Hid (fs.readS p = ⟨#[]⟩) := by show _ = _; simp [Fs.readS, hp]
    have HB : Hid ((decide (p < fs.safe.length) && !(fs.life == 0)) = false) := by show _ = _; simp [hp]
    have hpi : (fs.safe.length : Int) ≤ (p : Int) := by omega
    go_enter Tryz.func103, Tryz.ntmps103
    go_wp2
    go_ret2
    exact ⟨ret_sb HR.out.symm HB.out.symm, rfl⟩
end Go.Proofs.YtngpplmndpmgiaaGreat.Tree
namespace Go.Proofs.YtngpplmndpmgiaaGreat.Tree
open Go.RowKit Go.Proofs.YtngpplmndpmgiaaGreat.Pages
set_option linter.unusedSimpArgs false
set_option linter.unusedVariables false
structure AppR (E : TypeId) (z : Nat) (v : Value) (n : Nat) (xs news : List Value) (m : Nat) (w : World) (v' : Value) (w' : World) : Prop where
  row : w'.ownsRow 0 E z v' (n + m) (xs ++ news)
  fr : Fr (fun k => v.ownBlock = some k) w w'
  lies : ∀ k, v'.ownBlock = some k → v.ownBlock = some k ∨ w.heap.size ≤ k
theorem app_run {P : Program} (w : World) (T ty E : TypeId) (zero : Value) (z bytes : Nat) (hT : P.underlying T = some (.slice E)) (hi : (P.info? E).map (fun i => (i.zero, i.size, i.bytes)) = some (some zero, z, bytes)) (hzs : zero.cells.size = z) (hsz : 0 < z)
    (v : Value) (n : Nat) (xs : List Value) (hv : w.ownsRow 0 E z v n xs) (ad : Addr) (m c : Nat) (news : List Value) (hl : news.length = m * z) (hnews : ∀ j u, news[j]? = some u → w.cell? (ad.add j) = some u) (h1 : ∀ u ∈ news, u.oneCell' = true)
    (h63 : n + m ≤ 140737488355328) (hb : (n + m) * bytes ≤ 140737488355328) :
    ∃ v' w', (Builtin.append_ #[T, T] ty #[v, .slice (some ad) m c]).run P w = .ok v' w' ∧ AppR E z v n xs news m w v' w' := by
  obtain ⟨i0, hi0, hz0, hz1, hz2⟩ := info_parts hi
  obtain ⟨v', w', hr, h2, h3, _, h5⟩ := run_append_own_at (P := P) w 0 T ty E i0 zero z bytes hT hi0 hz0 hz1 hz2 hzs hsz v n xs hv ad m c news hl hnews h1 (by unfold maxLen; omega) hb (Nat.zero_le _)
  refine ⟨v', w', hr, h2, (Fr.refl _ w).grown h3 (fun k hk => .inl hk), fun k hk => ?_⟩
  rcases h5 with h | h
  · exact .inl (h ▸ hk)
  · rw [h] at hk; simp at hk; exact .inr (by omega)
theorem new_cells (w : World) (news : List Value) (E : TypeId) : ∀ j u, news[j]? = some u → (w.alloc (.cells news.toArray E)).cell? ((⟨w.heap.size, 0, none⟩ : Addr).add j) = some u := by
  intro j u hu
  have e : (⟨w.heap.size, 0, none⟩ : Addr).add j = ⟨w.heap.size, j, none⟩ := by unfold Addr.add; split <;> simp_all
  rw [e]
  have := World.alloc_heap_new w (.cells news.toArray E)
  unfold World.cell?
  dsimp only
  rw [this]
  simpa using hu
theorem app1_run {P : Program} (w : World) (T ty E : TypeId) (zero : Value) (z bytes : Nat) (hT : P.underlying T = some (.slice E)) (hi : (P.info? E).map (fun i => (i.zero, i.size, i.bytes)) = some (some zero, z, bytes)) (hzs : zero.cells.size = z) (hsz : 0 < z)
    (v : Value) (n : Nat) (xs : List Value) (hv : w.ownsRow 0 E z v n xs) (news : List Value) (hl : news.length = z) (h1 : ∀ u ∈ news, u.oneCell' = true)
    (h63 : n + 1 ≤ 140737488355328) (hb : (n + 1) * bytes ≤ 140737488355328) :
    ∃ v' w', (Builtin.append_ #[T, T] ty #[v, .slice (some ⟨w.heap.size, 0, none⟩) 1 1]).run P (w.alloc (.cells news.toArray E)) = .ok v' w' ∧ AppR E z v n xs news 1 w v' w' := by
  obtain ⟨v', w', hr, A⟩ := app_run (P := P) (w.alloc (.cells news.toArray E)) T ty E zero z bytes hT hi hzs hsz v n xs (World.ownsRow.alloc (w := w) hv _) ⟨w.heap.size, 0, none⟩ 1 1 news (by omega) (new_cells w news E) h1 h63 hb
  exact ⟨v', w', hr, A.row, ((Fr.refl _ w).alloc _).trans A.fr, fun k hk => (A.lies k hk).imp id (fun h => by simp at h; omega)⟩
theorem AppR.shape {E : TypeId} {z : Nat} {v : Value} {n : Nat} {xs news : List Value} {m : Nat} {w : World} {v' : Value} {w' : World} (h : AppR E z v n xs news m w v' w') (hm : 0 < m) : ∃ g c, v' = .slice (some ⟨g, 0, none⟩) (n + m) c := by
  obtain ⟨_, h2⟩ := h.row
  rcases h2 with ⟨_, h0⟩ | ⟨g, c, cur, hv, _⟩
  · omega
  · exact ⟨g, c, hv⟩
theorem AppR.keeps {E : TypeId} {z : Nat} {v : Value} {n : Nat} {xs news : List Value} {m : Nat} {w : World} {v' : Value} {w' : World} (h : AppR E z v n xs news m w v' w') {B : Nat} {e : TypeId} {y : Nat} {u : Value} {k : Nat} {ys : List Value} (ho : w.ownsRow B e y u k ys) (hne : u.ownBlock = none ∨ u.ownBlock ≠ v.ownBlock) : w'.ownsRow B e y u k ys :=
  own_on ho (h.fr.on (Z := fun k => u.ownBlock = some k) (fun k hk => ⟨own_lt ho hk, fun hv => by rcases hne with h | h <;> simp_all⟩)) (fun k hk => hk)
theorem own_ne {w : World} {B : Nat} {e : TypeId} {z : Nat} {v : Value} {n : Nat} {xs : List Value} (h : w.ownsRow B e z v n xs) {k : Nat} {cs : Array Value} {t : TypeId} {fz : Nat × Nat} (hk : w.heap[k]? = some (.cells cs t fz)) (hne : t ≠ e) : v.ownBlock ≠ some k := by
  intro hv
  obtain ⟨_, h2⟩ := h
  rcases h2 with ⟨rfl, _⟩ | ⟨g, cap, cur, rfl, _, hg, _⟩
  · simp [Value.ownBlock] at hv
  · simp [Value.ownBlock] at hv
    subst hv
    rw [hk] at hg
    simp at hg
    exact hne hg.2.1
theorem own_ne2 {w : World} {B B' : Nat} {e e' : TypeId} {z z' : Nat} {v v' : Value} {n n' : Nat} {xs xs' : List Value} (h : w.ownsRow B e z v n xs) (h' : w.ownsRow B' e' z' v' n' xs') (he : e ≠ e') : v.ownBlock = none ∨ v.ownBlock ≠ v'.ownBlock := by
  cases hb : v.ownBlock with
  | none => exact .inl rfl
  | some k =>
    refine .inr (fun e => ?_)
    obtain ⟨_, h2⟩ := h
    rcases h2 with ⟨rfl, _⟩ | ⟨g, cap, cur, rfl, _, hg, _⟩
    · simp [Value.ownBlock] at hb
    · simp [Value.ownBlock] at hb
      subst hb
      exact own_ne h' hg he e.symm
theorem step_app1 {P : Program} {ops : Array Oper} {o : Oper} {a : Act} {K : Act → World → Prop} {Q : Exit → Act → World → Prop} {F : Prop} (w : World) (hgd : o.guard = none) (sl x : Operand) (T E : TypeId) (zero : Value) (z bytes : Nat) (ho : o.op = .call { callee := .builtin .append, args := #[sl, x], argTypes := #[T, T] }) (hT : P.underlying T = some (.slice E)) (hi : (P.info? E).map (fun i => (i.zero, i.size, i.bytes)) = some (some zero, z, bytes)) (hzs : zero.cells.size = z) (hsz : 0 < z)
    (v : Value) (n : Nat) (xs : List Value) (hs : a.eval sl = v) (hv : w.ownsRow 0 E z v n xs) (news : List Value) (hx : a.eval x = .slice (some ⟨w.heap.size, 0, none⟩) 1 1) (hl : news.length = z) (h1 : ∀ u ∈ news, u.oneCell' = true) (h63 : n + 1 ≤ 140737488355328) (hb : (n + 1) * bytes ≤ 140737488355328)
    (h : ∀ v' w', AppR E z v n xs news 1 w v' w' → K (a.put o.dst v') w') :
    if Region.wanted o (yielded ops a.tmps) = true then Oper.wp P o a (w.alloc (.cells news.toArray E)) K Q else F := by
  have hw : Region.wanted o (yielded ops a.tmps) = true := by simp [Region.wanted, hgd]
  rw [if_pos hw]
  obtain ⟨v', w', hr, A⟩ := app1_run (P := P) w T o.type E zero z bytes hT hi hzs hsz v n xs hv news hl h1 h63 hb
  unfold Oper.wp execOp
  simp only [ho, resolve, invoke, builtin, Sem.run_bind, Sem.run_pure, Result.andThen_ok, List.map_toArray, List.map_cons, List.map_nil, hs, hx, hr]
  exact h v' w' A
theorem wp_app1 {P : Program} {ops : Array Oper} {rest : List Oper} {o : Oper} {a : Act} {Q : Exit → Act → World → Prop} (w : World) (hgd : o.guard = none) (sl x : Operand) (T E : TypeId) (zero : Value) (z bytes : Nat) (ho : o.op = .call { callee := .builtin .append, args := #[sl, x], argTypes := #[T, T] }) (hT : P.underlying T = some (.slice E)) (hi : (P.info? E).map (fun i => (i.zero, i.size, i.bytes)) = some (some zero, z, bytes)) (hzs : zero.cells.size = z) (hsz : 0 < z)
    (v : Value) (n : Nat) (xs : List Value) (hs : a.eval sl = v) (hv : w.ownsRow 0 E z v n xs) (news : List Value) (hx : a.eval x = .slice (some ⟨w.heap.size, 0, none⟩) 1 1) (hl : news.length = z) (h1 : ∀ u ∈ news, u.oneCell' = true) (h63 : n + 1 ≤ 140737488355328) (hb : (n + 1) * bytes ≤ 140737488355328)
    (h : ∀ v' w', AppR E z v n xs news 1 w v' w' → wpList P ops Q rest (a.put o.dst v') w') :
    wpList P ops Q (o :: rest) a (w.alloc (.cells news.toArray E)) := by
  refine wpList_plain hgd fun K hK => ?_
  obtain ⟨v', w', hr, A⟩ := app1_run (P := P) w T o.type E zero z bytes hT hi hzs hsz v n xs hv news hl h1 h63 hb
  unfold Oper.wp execOp
  simp only [ho, resolve, invoke, builtin, Sem.run_bind, Sem.run_pure, Result.andThen_ok, List.map_toArray, List.map_cons, List.map_nil, hs, hx, hr]
  exact hK _ _ (h v' w' A)
theorem wpIn_app1 {F : Fence} {d : Nat} {P : Program} {ops : Array Oper} {rest : List Oper} {o : Oper} {a : Act} {Q : Exit → Act → World → Prop} (w : World) (hgd : o.guard = none) (sl x : Operand) (T E : TypeId) (zero : Value) (z bytes : Nat) (ho : o.op = .call { callee := .builtin .append, args := #[sl, x], argTypes := #[T, T] }) (hT : P.underlying T = some (.slice E)) (hi : (P.info? E).map (fun i => (i.zero, i.size, i.bytes)) = some (some zero, z, bytes)) (hzs : zero.cells.size = z) (hsz : 0 < z)
    (v : Value) (n : Nat) (xs : List Value) (hs : a.eval sl = v) (hv : w.ownsRow 0 E z v n xs) (news : List Value) (hx : a.eval x = .slice (some ⟨w.heap.size, 0, none⟩) 1 1) (hl : news.length = z) (h1 : ∀ u ∈ news, u.oneCell' = true) (h63 : n + 1 ≤ 140737488355328) (hb : (n + 1) * bytes ≤ 140737488355328)
    (h : ∀ v' w', AppR E z v n xs news 1 w v' w' → wpListIn F d P ops Q rest (a.put o.dst v') w') :
    wpListIn F d P ops Q (o :: rest) a (w.alloc (.cells news.toArray E)) := by
  refine wpListIn_plain hgd fun K hK => ?_
  obtain ⟨v', w', hr, A⟩ := app1_run (P := P) w T o.type E zero z bytes hT hi hzs hsz v n xs hv news hl h1 h63 hb
  unfold Oper.wpIn
  refine ⟨?_, ?_⟩
  · simp [Oper.about, ho, resolve, Target.leads, Sem.run_pure]
  · rw [Oper.semAt_plain F _ _ (by rw [ho]; intro c hc'; cases hc')]
    simp [execOp, ho, resolve, invoke, builtin, hs, hx, hr, Result.andThen]
    exact hK _ _ (h v' w' A)
theorem wp_app {P : Program} {ops : Array Oper} {rest : List Oper} {o : Oper} {a : Act} {Q : Exit → Act → World → Prop} (w : World) (hgd : o.guard = none) (sl x : Operand) (T E : TypeId) (zero : Value) (z bytes : Nat) (ho : o.op = .call { callee := .builtin .append, args := #[sl, x], argTypes := #[T, T] }) (hT : P.underlying T = some (.slice E)) (hi : (P.info? E).map (fun i => (i.zero, i.size, i.bytes)) = some (some zero, z, bytes)) (hzs : zero.cells.size = z) (hsz : 0 < z)
    (v : Value) (n : Nat) (xs : List Value) (hs : a.eval sl = v) (hv : w.ownsRow 0 E z v n xs) (ad : Addr) (m c : Nat) (news : List Value) (hx : a.eval x = .slice (some ad) m c) (hl : news.length = m * z) (hnews : ∀ j u, news[j]? = some u → w.cell? (ad.add j) = some u) (h1 : ∀ u ∈ news, u.oneCell' = true) (h63 : n + m ≤ 140737488355328) (hb : (n + m) * bytes ≤ 140737488355328)
    (h : ∀ v' w', AppR E z v n xs news m w v' w' → wpList P ops Q rest (a.put o.dst v') w') :
    wpList P ops Q (o :: rest) a w := by
  refine wpList_plain hgd fun K hK => ?_
  obtain ⟨v', w', hr, A⟩ := app_run (P := P) w T o.type E zero z bytes hT hi hzs hsz v n xs hv ad m c news hl hnews h1 h63 hb
  unfold Oper.wp execOp
  simp only [ho, resolve, invoke, builtin, Sem.run_bind, Sem.run_pure, Result.andThen_ok, List.map_toArray, List.map_cons, List.map_nil, hs, hx, hr]
  exact hK _ _ (h v' w' A)
theorem step_app {P : Program} {ops : Array Oper} {o : Oper} {a : Act} {K : Act → World → Prop} {Q : Exit → Act → World → Prop} {F : Prop} (w : World) (hgd : o.guard = none) (sl x : Operand) (T E : TypeId) (zero : Value) (z bytes : Nat) (ho : o.op = .call { callee := .builtin .append, args := #[sl, x], argTypes := #[T, T] }) (hT : P.underlying T = some (.slice E)) (hi : (P.info? E).map (fun i => (i.zero, i.size, i.bytes)) = some (some zero, z, bytes)) (hzs : zero.cells.size = z) (hsz : 0 < z)
    (v : Value) (n : Nat) (xs : List Value) (hs : a.eval sl = v) (hv : w.ownsRow 0 E z v n xs) (ad : Addr) (m c : Nat) (news : List Value) (hx : a.eval x = .slice (some ad) m c) (hl : news.length = m * z) (hnews : ∀ j u, news[j]? = some u → w.cell? (ad.add j) = some u) (h1 : ∀ u ∈ news, u.oneCell' = true) (h63 : n + m ≤ 140737488355328) (hb : (n + m) * bytes ≤ 140737488355328)
    (h : ∀ v' w', AppR E z v n xs news m w v' w' → K (a.put o.dst v') w') :
    if Region.wanted o (yielded ops a.tmps) = true then Oper.wp P o a w K Q else F := by
  have hw : Region.wanted o (yielded ops a.tmps) = true := by simp [Region.wanted, hgd]
  rw [if_pos hw]
  obtain ⟨v', w', hr, A⟩ := app_run (P := P) w T o.type E zero z bytes hT hi hzs hsz v n xs hv ad m c news hl hnews h1 h63 hb
  unfold Oper.wp execOp
  simp only [ho, resolve, invoke, builtin, Sem.run_bind, Sem.run_pure, Result.andThen_ok, List.map_toArray, List.map_cons, List.map_nil, hs, hx, hr]
  exact h v' w' A
theorem wpIn_app {F : Fence} {d : Nat} {P : Program} {ops : Array Oper} {rest : List Oper} {o : Oper} {a : Act} {Q : Exit → Act → World → Prop} (w : World) (hgd : o.guard = none) (sl x : Operand) (T E : TypeId) (zero : Value) (z bytes : Nat) (ho : o.op = .call { callee := .builtin .append, args := #[sl, x], argTypes := #[T, T] }) (hT : P.underlying T = some (.slice E)) (hi : (P.info? E).map (fun i => (i.zero, i.size, i.bytes)) = some (some zero, z, bytes)) (hzs : zero.cells.size = z) (hsz : 0 < z)
    (v : Value) (n : Nat) (xs : List Value) (hs : a.eval sl = v) (hv : w.ownsRow 0 E z v n xs) (ad : Addr) (m c : Nat) (news : List Value) (hx : a.eval x = .slice (some ad) m c) (hl : news.length = m * z) (hnews : ∀ j u, news[j]? = some u → w.cell? (ad.add j) = some u) (h1 : ∀ u ∈ news, u.oneCell' = true) (h63 : n + m ≤ 140737488355328) (hb : (n + m) * bytes ≤ 140737488355328)
    (h : ∀ v' w', AppR E z v n xs news m w v' w' → wpListIn F d P ops Q rest (a.put o.dst v') w') :
    wpListIn F d P ops Q (o :: rest) a w := by
  refine wpListIn_plain hgd fun K hK => ?_
  obtain ⟨v', w', hr, A⟩ := app_run (P := P) w T o.type E zero z bytes hT hi hzs hsz v n xs hv ad m c news hl hnews h1 h63 hb
  unfold Oper.wpIn
  refine ⟨?_, ?_⟩
  · simp [Oper.about, ho, resolve, Target.leads, Sem.run_pure]
  · rw [Oper.semAt_plain F _ _ (by rw [ho]; intro c hc'; cases hc')]
    simp [execOp, ho, resolve, invoke, builtin, hs, hx, hr, Result.andThen]
    exact hK _ _ (h v' w' A)
end Go.Proofs.YtngpplmndpmgiaaGreat.Tree
