/-
  Rows of bytes that the call itself made ('Buf'): what appendText and appendNumber leave.
-/
import Derived.Test.YtjmmfpolkkglaaaMem
import Derived.Lib.AppendStr
import Derived.Outline
namespace Go.Proofs.Ytjmmfpolkkglaaa.Pages
open Go.RowKit

def byteV (b : UInt8) : Value := .int .u8 (b.toNat : Int)
def Buf (w : World) (B : Nat) (v : Value) (bs : List UInt8) : Prop := w.ownsRow B 5 1 v bs.length (bs.map byteV)

theorem info8 : (Try.prog.info? 5).map (fun i => (i.zero, i.size, i.bytes)) = some (some (.int .u8 0), 1, 1) := by kernel_rfl

theorem Buf.nil (w : World) (B : Nat) : Buf w B (.slice none 0 0) [] := World.ownsRow_nil _ _ _ _
theorem Buf.alloc {w : World} {B : Nat} {v : Value} {bs : List UInt8} (h : Buf w B v bs) (o : Obj) : Buf (w.alloc o) B v bs := World.ownsRow.alloc (w := w) h o
theorem Buf.below {w w' : World} {B : Nat} {v : Value} {bs : List UInt8} (h : Buf w B v bs) (hb : Below w.heap.size w w') : Buf w' B v bs :=
  World.ownsRow.kept (row := none) h ⟨hb.os, hb.tape, hb.output, hb.size, fun k hk _ => hb.block k hk⟩ (by cases v.ownBlock <;> simp)
theorem strCells_eq (s : ByteArray) : Lib.strCells s = s.data.toList.map byteV := rfl
theorem data_length (s : ByteArray) : s.data.toList.length = s.size := by rw [Array.length_toList]; rfl
theorem Buf.of {w : World} {B : Nat} {v : Value} {bs : List UInt8} {n : Nat} {xs : List Value} (hn : n = bs.length) (hx : xs = bs.map byteV) (h : w.ownsRow B 5 1 v n xs) : Buf w B v bs := by
  subst hn; subst hx; exact h
theorem Buf.one {w' : World} {B : Nat} {v' : Value} {bs : List UInt8} {x : Int} (b : UInt8) (hx : x = (b.toNat : Int)) (h : w'.ownsRow B 5 1 v' (bs.length + 1) (bs.map byteV ++ [.int .u8 x])) : Buf w' B v' (bs ++ [b]) := by
  unfold Buf
  rw [List.map_append, List.length_append]
  subst hx
  exact h

theorem one_cell {w : World} (u : Value) (e : TypeId) : ∀ j x, [u][j]? = some x → (w.alloc (.cells #[u] e)).cell? ((⟨w.heap.size, 0, none⟩ : Addr).add j) = some x := by
  intro j x hj
  match j, hj with
  | 0, hj => simp at hj; subst hj; simp [Addr.add]

/-- the operation: one byte more -/
theorem wp_append_byte {ops : Array Oper} {rest : List Oper} {o : Oper} {a : Act} {Q : Exit → Act → World → Prop} (w : World) (hgd : o.guard = none) (sl x : Operand)
    (ho : o.op = .call { callee := .builtin .append, args := #[sl, x], argTypes := #[43, 43] }) (B : Nat) (bs : List UInt8) (v : Value) (hs : a.eval sl = v) (hv : Buf w B v bs) (hB : B ≤ w.heap.size)
    (z : Int) (b : UInt8) (hz : z = (b.toNat : Int)) (hx : a.eval x = .slice (some ⟨w.heap.size, 0, none⟩) 1 1) (hl : bs.length + 1 ≤ 140737488355328)
    (h : ∀ v' w', Buf w' B v' (bs ++ [b]) → Grew B w w' → wpList Try.prog ops Q rest (a.put o.dst v') w') :
    wpList Try.prog ops Q (o :: rest) a (w.alloc (.cells #[.int .u8 z] 5)) := by
  obtain ⟨i0, hi, hz0, hz1, hz2⟩ := info_parts info8
  refine wpList_append_own _ hgd sl x 43 ho B 5 i0 (.int .u8 0) 1 1 Try.underlying43 hi hz0 hz1 hz2 rfl (by decide) v bs.length (bs.map byteV) hs (hv.alloc _) ⟨w.heap.size, 0, none⟩ 1 1 [.int .u8 z] hx rfl (one_cell _ _) (by intro u hu; simp at hu; subst hu; rfl) (by unfold maxLen; omega) (by omega) (by simp; omega) ?_
  intro v1 w1 ho1 hg1 _
  exact h v1 w1 (Buf.one b hz ho1) (((Grew.refl B w).alloc hB _).trans (Grew.grown (hv.alloc _) hg1 (by simp; omega)))
/-- the operation: a text's bytes more -/
theorem wp_append_str {ops : Array Oper} {rest : List Oper} {o : Oper} {a : Act} {Q : Exit → Act → World → Prop} (w : World) (hgd : o.guard = none) (sl x : Operand)
    (ho : o.op = .call { callee := .builtin .append, args := #[sl, x], argTypes := #[43, 9] }) (B : Nat) (bs : List UInt8) (v : Value) (hs : a.eval sl = v) (hv : Buf w B v bs) (hB : B ≤ w.heap.size)
    (s : ByteArray) (hx : a.eval x = .string s) (hl : bs.length + s.size ≤ 140737488355328)
    (h : ∀ v' w', Buf w' B v' (bs ++ s.data.toList) → Grew B w w' → wpList Try.prog ops Q rest (a.put o.dst v') w') :
    wpList Try.prog ops Q (o :: rest) a w := by
  obtain ⟨i0, hi, hz0, hz1, hz2⟩ := info_parts info8
  refine Lib.wpList_append_own_string _ hgd sl x 43 9 ho B 5 i0 Try.underlying43 Try.underlying9 hi hz0 hz1 hz2 v _ _ hs hv s hx (by unfold maxLen; omega) hl hB ?_
  intro v2 w2 ho2 hg2 _
  exact h v2 w2 (Buf.of (by simp) (by simp [strCells_eq]) ho2) (Grew.grown hv hg2 hB)

theorem byte_len (s : ByteArray) : (s.size : Int) % 256 = ((UInt8.ofNat s.size).toNat : Int) := by simp
set_option maxHeartbeats 1000000 in
theorem appendText_any (v : Value) (s : ByteArray) (bs : List UInt8) (B : Nat) (w : World) (hv : Buf w B v bs) (hB : B ≤ w.heap.size) (hl : bs.length + s.size + 1 ≤ 140737488355328) :
    Calls Try.prog 41 #[v, .string s] w fun e w' => ∃ v', e = .returned v' ∧ Buf w' B v' (bs ++ [UInt8.ofNat s.size] ++ s.data.toList) ∧ Grew B w w' := by
  have l1 : bs.length + 1 ≤ 140737488355328 := by omega
  have l2 : (bs ++ [UInt8.ofNat s.size]).length + s.size ≤ 140737488355328 := by simp; omega
  go_enter Try.func41, Try.ntmps41
  go_wp2_with (first | (at_builtin; refine wp_append_byte w rfl (.tmp 5) (.tmp 9) rfl B bs v rfl hv hB _ (UInt8.ofNat s.size) (byte_len s) rfl l1 ?_; intro v1 w1 hb1 g1; have hB1 : B ≤ w1.heap.size := Nat.le_trans hB g1.size) | (at_builtin; refine wp_append_str w1 rfl (.tmp 11) (.tmp 12) rfl B _ v1 rfl hb1 hB1 s rfl l2 ?_; intro v2 w2 hb2 g2))
  go_ret
  exact ⟨_, rfl, hb2, g1.trans g2⟩

/-- a number's bytes, the highest first -/
def beB : Nat → Int → List UInt8
  | 0, _ => []
  | k + 1, n => UInt8.ofNat ((n / 2 ^ (8 * k) % 256).toNat) :: beB k n
theorem byte_back (n : Int) (m : Nat) : n / 2 ^ m % 256 = ((UInt8.ofNat ((n / 2 ^ m % 256).toNat)).toNat : Int) := by
  rw [UInt8.toNat_ofNat_of_lt' (by simp [UInt8.size]; omega)]; omega
theorem beB_length (k : Nat) (n : Int) : (beB k n).length = k := by
  induction k with
  | zero => rfl
  | succ k ih => simp [beB, ih]

set_option maxHeartbeats 1000000 in
theorem appendNumber_any (v : Value) (size : Nat) (n : Int) (bs : List UInt8) (B : Nat) (w : World) (hv : Buf w B v bs) (hB : B ≤ w.heap.size) (hs : size ≤ 8) (hl : bs.length + size ≤ 140737488355328) :
    Calls Try.prog 24 #[v, .int .i64 size, .int .i64 n] w fun e w' => ∃ v', e = .returned v' ∧ Buf w' B v' (bs ++ beB size n) ∧ Grew B w w' := by
  go_enter Try.func24, Try.ntmps24
  go_wp2
  go_loopw [0, 7] (fun u k wr => ∃ j : Nat, j ≤ size ∧ k = .int .i64 ((j : Int) - 1) ∧ ∃ cs, cs.length + j ≤ bs.length + size ∧ Buf wr B u cs ∧ bs ++ beB size n = cs ++ beB j n ∧ Grew B w wr) (fun _ k _ => (intOf k + 1).toNat)
  case atStart => exact ⟨size, Nat.le_refl _, rfl, bs, by omega, hv, rfl, Grew.refl _ _⟩
  case round =>
    obtain ⟨j, hj, rfl, cs, hcl, hbuf, hcs, hg⟩ := hrel
    have HC : Hid (bs ++ beB size n = cs ++ beB j n) := hcs
    clear hcs
    have hBr : B ≤ wr.heap.size := by have := hg.size; omega
    cases j with
    | succ j =>
      have l1 : cs.length + 1 ≤ 140737488355328 := by omega
      go_wp2_with (at_builtin; (refine wp_append_byte wr rfl (.tmp 14) (.tmp 20) rfl B cs u0 rfl hbuf hBr _ (UInt8.ofNat ((n / 2 ^ (8 * j) % 256).toNat)) (byte_back _ _) rfl l1 ?_; intro v1 w1 hb1 g1))
      have G1 := hg.trans g1
      clear hbuf hg hv g1
      go_roundw
      case rel => exact ⟨j, by omega, by go_num, _, by simp; omega, hb1, by rw [HC.out]; simp [beB], G1⟩
      case measure => simp [intOf]
    | zero =>
      clear hv
      go_wp2
      go_ret
      exact ⟨_, rfl, by rw [HC.out]; simpa [beB] using hbuf, hg⟩
theorem appendNumber_z (v : Value) (z n : Int) (bs : List UInt8) (B : Nat) (w : World) (hv : Buf w B v bs) (hB : B ≤ w.heap.size) (hz0 : 0 ≤ z) (hz8 : z ≤ 8) (hl : bs.length + 8 ≤ 140737488355328) :
    Calls Try.prog 24 #[v, .int .i64 z, .int .i64 n] w fun e w' => ∃ v', e = .returned v' ∧ Buf w' B v' (bs ++ beB z.toNat n) ∧ Grew B w w' := by
  obtain ⟨k, rfl⟩ : ∃ k : Nat, z = k := ⟨z.toNat, by omega⟩
  exact appendNumber_any v k n bs B w hv hB (by omega) (by omega)
end Go.Proofs.Ytjmmfpolkkglaaa.Pages
