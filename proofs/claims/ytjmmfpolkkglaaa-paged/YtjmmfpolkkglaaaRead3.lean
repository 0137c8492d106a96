/-
  What the reader's branch answers and leaves.
-/
import Derived.Test.YtjmmfpolkkglaaaRead2
import Derived.Test.YtjmmfpolkkglaaaRefRightC
namespace Go.Proofs.Ytjmmfpolkkglaaa.Pages
open Go.RowKit
set_option linter.unusedSimpArgs false
set_option linter.unusedVariables false

theorem info3' : (Try.prog.info? 3).map (fun i => (i.zero, i.size, i.bytes)) = some (some (.int .i64 0), 1, 8) := by kernel_rfl
def Ints (w : World) (B : Nat) (v : Value) (ks : List Int) : Prop := w.ownsRow B 3 1 v ks.length (ks.map (.int .i64))
theorem Ints.nil (w : World) (B : Nat) : Ints w B (.slice none 0 0) [] := World.ownsRow_nil _ _ _ _
theorem Ints.alloc {w : World} {B : Nat} {v : Value} {ks : List Int} (h : Ints w B v ks) (o : Obj) : Ints (w.alloc o) B v ks := World.ownsRow.alloc (w := w) h o
theorem own_only {w w' : World} {B : Nat} {e : TypeId} {v : Value} {n : Nat} {xs : List Value} {ρ : Nat} (h : w.ownsRow B e 1 v n xs) (ho : Only ρ w w') (hρ : ρ < B) : w'.ownsRow B e 1 v n xs :=
  World.ownsRow.kept (row := some ρ) h ⟨ho.os, ho.tape, ho.output, ho.size, fun k hk hr => ho.block k hk (fun e => hr (by rw [e]))⟩ (by
    cases hv : v.ownBlock with
    | none => exact .inl rfl
    | some k => exact .inr (fun e => by have := (World.ownsRow.lt (w := w) h k hv).1; simp at e; omega))
theorem own_mono {w : World} {B B' : Nat} {e : TypeId} {v : Value} {n : Nat} {xs : List Value} (h : w.ownsRow B e 1 v n xs) (hb : B' ≤ B) : w.ownsRow B' e 1 v n xs := by
  obtain ⟨hl, hn | ⟨k, cap, row, hv, hk, hr⟩⟩ := h
  · exact ⟨hl, .inl hn⟩
  · exact ⟨hl, .inr ⟨k, cap, row, hv, by omega, hr⟩⟩
theorem Only.below {ρ B : Nat} {a w w' : World} (h : Only ρ a w) (hb : Below B w w') (hB : a.heap.size ≤ B) : Only ρ a w' :=
  ⟨hb.os.trans h.os, hb.tape.trans h.tape, hb.output.trans h.output, Nat.le_trans h.size hb.size, fun k hk hr => (hb.block k (by omega)).trans (h.block k hk hr)⟩
theorem Rd.below {w w' : World} {ρ g c B : Nat} {bs : List UInt8} {a : Nat} (h : Rd w ρ g c bs a) (hb : Below B w w') (hρ : ρ < B) (hg : g < B) : Rd w' ρ g c bs a :=
  ⟨(hb.block ρ hρ).trans h.box, fun j hj => by rw [hb.cell (p := ⟨g, j, none⟩) hg]; exact h.bytes j hj, h.ne, Nat.lt_of_lt_of_le h.lt hb.size, h.le, h.len, h.cap⟩
/-- the operation: one number more -/
theorem wp_append_int {ops : Array Oper} {rest : List Oper} {o : Oper} {a : Act} {Q : Exit → Act → World → Prop} (w : World) (hgd : o.guard = none) (sl x : Operand)
    (ho : o.op = .call { callee := .builtin .append, args := #[sl, x], argTypes := #[25, 25] }) (B : Nat) (ks : List Int) (v : Value) (hs : a.eval sl = v) (hv : Ints w B v ks) (hB : B ≤ w.heap.size)
    (k : Int) (hx : a.eval x = .slice (some ⟨w.heap.size, 0, none⟩) 1 1) (hl : ks.length + 1 ≤ 4294967296)
    (h : ∀ v' w', Ints w' B v' (ks ++ [k]) → Below B w w' → wpList Try.prog ops Q rest (a.put o.dst v') w') :
    wpList Try.prog ops Q (o :: rest) a (w.alloc (.cells #[.int .i64 k] 3)) := by
  obtain ⟨i0, hi, hz0, hz1, hz2⟩ := info_parts info3'
  refine wpList_append_own _ hgd sl x 25 ho B 3 i0 (.int .i64 0) 1 8 Try.underlying25 hi hz0 hz1 hz2 rfl (by decide) v ks.length (ks.map (.int .i64)) hs (hv.alloc _) ⟨w.heap.size, 0, none⟩ 1 1 [.int .i64 k] hx rfl (one_cell _ _) (by intro u hu; simp at hu; subst hu; rfl) (by unfold maxLen; omega) (by omega) (by simp; omega) ?_
  intro v1 w1 ho1 hg1 _
  refine h v1 w1 ?_ (((Below.refl B w).alloc hB _).grown hg1 (by simp; omega) (fun k' hk' => (World.ownsRow.lt (w := w) hv k' hk').1))
  unfold Ints
  rw [List.map_append, List.length_append]
  exact ho1

/-- the kids and the keys that are read -/
def kidsR (bs : List UInt8) (a n : Nat) : List Int := (List.range n).map fun i => (numV bs (posB bs a (2 * i)) 2 : Int)
def keyPos (bs : List UInt8) (a : Nat) : Nat → Nat
  | 0 => a
  | j + 1 => txtA bs (keyPos bs a j)
def keysR (bs : List UInt8) (a n : Nat) : List ByteArray := (List.range n).map fun j => (⟨(txtB bs (keyPos bs a j)).toArray⟩ : ByteArray)
theorem posB_posB (bs : List UInt8) (a i k : Nat) : posB bs (posB bs a i) k = posB bs a (i + k) := by unfold posB; omega
theorem kidsR_succ (bs : List UInt8) (a n : Nat) : kidsR bs a (n + 1) = kidsR bs a n ++ [(numV bs (posB bs a (2 * n)) 2 : Int)] := by simp [kidsR, List.range_succ]
theorem keysR_succ (bs : List UInt8) (a n : Nat) : keysR bs a (n + 1) = keysR bs a n ++ [(⟨(txtB bs (keyPos bs a n)).toArray⟩ : ByteArray)] := by simp [keysR, List.range_succ]

set_option maxRecDepth 100000 in
set_option maxHeartbeats 2000000 in
theorem branch_read (ρ g c : Nat) (bs : List UInt8) (a : Nat) (w : World) (h : Rd w ρ g c bs a) :
    Calls Try.prog 46 #[.pointer (some ⟨ρ, 0, none⟩)] w fun e w' => ∃ vk vi, e = .returned (.tuple #[vk, vi]) ∧
      Keys w' w.heap.size vk (keysR bs (posB bs (posB bs a 1) (2 * ((bs.getD a 0).toNat + 1))) (bs.getD a 0).toNat) ∧ Ints w' w.heap.size vi (kidsR bs (posB bs a 1) ((bs.getD a 0).toNat + 1)) ∧
      Rd w' ρ g c bs (keyPos bs (posB bs (posB bs a 1) (2 * ((bs.getD a 0).toNat + 1))) (bs.getD a 0).toNat) ∧ Only ρ w w' := by
  have hρ := h.lt'
  have hgl := h.lt
  have hN := number_1 ρ g c bs a w h
  have hmt := (bs.getD a 0).toNat_lt
  obtain ⟨m, hm⟩ : ∃ m, m = (bs.getD a 0).toNat := ⟨_, rfl⟩
  obtain ⟨p, hp⟩ : ∃ p, p = posB bs a 1 := ⟨_, rfl⟩
  rw [← hm] at hN hmt ⊢
  rw [← hp] at hN ⊢
  have hple : p ≤ bs.length := by rw [hp]; unfold posB; omega
  clear hm hp
  obtain ⟨P, hP⟩ : ∃ P, P = posB bs p (2 * (m + 1)) := ⟨_, rfl⟩
  rw [← hP]
  have HP : Hid (P = posB bs p (2 * (m + 1))) := hP
  clear hP
  go_enter Try.func46, Try.ntmps46
  go_wp2_with (go_at_call 45; refine hN.mono ?_; rintro e w1 ⟨rfl, hr1, ho1⟩)
  go_loopw [3, 9] (fun u i wr => ∃ j : Nat, j ≤ m + 1 ∧ i = .int .i64 j ∧ Ints wr w.heap.size u (kidsR bs p j) ∧ Rd wr ρ g c bs (posB bs p (2 * j)) ∧ Only ρ w wr) (fun _ i _ => m + 1 - (intOf i).toNat)
  case atStart => exact ⟨0, Nat.zero_le _, rfl, Ints.nil _ _, by rw [posB_zero hple]; exact hr1, ho1⟩
  case round =>
    clear hr1 ho1
    obtain ⟨j, hj, rfl, hi, hr, ho⟩ := hrel
    have hsz : w.heap.size ≤ wr.heap.size := ho.size
    by_cases hlt : j < m + 1
    · have hM := number_2 ρ g c bs (posB bs p (2 * j)) wr hr
      have lk : (kidsR bs p j).length + 1 ≤ 4294967296 := by simp [kidsR]; omega
      have hks := kidsR_succ bs p j
      rw [posB_posB] at hM
      obtain ⟨n1, hn1⟩ : ∃ n1, n1 = numV bs (posB bs p (2 * j)) 2 := ⟨_, rfl⟩
      rw [← hn1] at hM hks
      have HK : Hid (kidsR bs p (j + 1) = kidsR bs p j ++ [(n1 : Int)]) := hks
      clear hn1 hks
      have hj2 : 2 * j + 2 = 2 * (j + 1) := by omega
      rw [hj2] at hM
      clear hj2
      go_wp2_with (first | (go_at_call 45; refine hM.mono ?_; rintro e w2 ⟨rfl, hr2, ho2⟩; have hi2 : Ints w2 w.heap.size u3 (kidsR bs p j) := own_only hi ho2 hρ; have hs2 : w.heap.size ≤ w2.heap.size := Nat.le_trans hsz ho2.size) | (at_builtin; refine wp_append_int w2 rfl (.tmp 11) (.tmp 14) rfl w.heap.size _ u3 rfl hi2 hs2 (n1 : Int) rfl lk ?_; intro v3 w3 hi3 hb3))
      go_roundw
      case rel => first | exact ⟨j + 1, by omega, by go_num, by rw [HK.out]; exact hi3, hr2.below hb3 hρ hgl, (ho.trans ho2).below hb3 (Nat.le_refl _)⟩ | ((repeat apply Exists.intro); exact ⟨⟨j + 1, by omega, by go_num, by rw [HK.out]; exact hi3, hr2.below hb3 hρ hgl, (ho.trans ho2).below hb3 (Nat.le_refl _)⟩, rfl⟩)
      case measure => simp [intOf]; omega
    · obtain rfl : j = m + 1 := by omega
      obtain ⟨w0, hw0⟩ : ∃ w0, w0 = wr := ⟨_, rfl⟩
      subst hw0
      rw [← HP.out] at hr
      clear HP hlt hj
      have hρ0 : ρ < w0.heap.size := by omega
      have hg0 : g < w0.heap.size := by omega
      go_wp2
      go_loopw [2, 18] (fun u i wr => ∃ j : Nat, j ≤ m ∧ i = .int .i64 j ∧ Keys wr w0.heap.size u (keysR bs P j) ∧ Rd wr ρ g c bs (keyPos bs P j) ∧ Only ρ w0 wr) (fun _ i _ => m - (intOf i).toNat)
      case atStart => exact ⟨0, Nat.zero_le _, rfl, Keys.nil _ _, hr, Only.refl _ _⟩
      case round =>
        clear hr
        obtain ⟨j, hj, rfl, hk, hr, ho0⟩ := hrel
        have hsz0 : w0.heap.size ≤ wr.heap.size := ho0.size
        by_cases hlt : j < m
        · have hM := text_read ρ g c bs (keyPos bs P j) wr hr
          have lk : (keysR bs P j).length + 1 ≤ 4294967296 := by simp [keysR]; omega
          have hks := keysR_succ bs P j
          have hkp : txtA bs (keyPos bs P j) = keyPos bs P (j + 1) := rfl
          rw [hkp] at hM
          obtain ⟨n1, hn1⟩ : ∃ n1, n1 = (⟨(txtB bs (keyPos bs P j)).toArray⟩ : ByteArray) := ⟨_, rfl⟩
          rw [← hn1] at hM hks
          have HK : Hid (keysR bs P (j + 1) = keysR bs P j ++ [n1]) := hks
          clear hn1 hks hkp
          go_wp2_with (first | (go_at_call 48; refine hM.mono ?_; rintro e w2 ⟨rfl, hr2, ho2⟩; have hk2 : Keys w2 w0.heap.size u2 (keysR bs P j) := own_only hk ho2 hρ0; have hs2 : w0.heap.size ≤ w2.heap.size := Nat.le_trans hsz0 ho2.size) | (at_builtin; refine wp_append_key w2 rfl (.tmp 20) (.tmp 23) rfl w0.heap.size _ u2 rfl hk2 hs2 n1 rfl lk ?_; intro v3 w3 hk3 hb3))
          go_roundw
          case rel => first | exact ⟨j + 1, by omega, by go_num, by rw [HK.out]; exact hk3, hr2.below hb3 hρ0 hg0, (ho0.trans ho2).below hb3 (Nat.le_refl _)⟩ | ((repeat apply Exists.intro); exact ⟨⟨j + 1, by omega, by go_num, by rw [HK.out]; exact hk3, hr2.below hb3 hρ0 hg0, (ho0.trans ho2).below hb3 (Nat.le_refl _)⟩, rfl⟩)
          case measure => simp [intOf]; omega
        · obtain rfl : j = m := by omega
          go_wp2
          go_ret2
          exact ⟨u2, u3, rfl, own_mono hk hsz, own_only hi ho0 hρ, hr, ho.trans ho0⟩
end Go.Proofs.Ytjmmfpolkkglaaa.Pages
