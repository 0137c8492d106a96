/-
  What keep leaves.
-/
import Derived.Test.YtjmmfpolkkglaaaBook4
namespace Go.Proofs.Ytjmmfpolkkglaaa.Pages
open Go.RowKit
set_option linter.unusedSimpArgs false
set_option linter.unusedVariables false

theorem infoL1 : (Try.prog.info? 24).map (fun i => (i.zero, i.size, i.bytes)) = some (some (.slice none 0 0), 1, 24) := by kernel_rfl
/-- the operation: a list more in the book's row -/
theorem wp_lay1 {ops : Array Oper} {rest : List Oper} {o : Oper} {a : Act} {Q : Exit → Act → World → Prop} (w : World) (hgd : o.guard = none) (sl x : Operand)
    (ho : o.op = .call { callee := .builtin .append, args := #[sl, x], argTypes := #[37, 37] }) (B0 : Nat) (TS : List Value) (V : Value) (hs : a.eval sl = V) (hv : w.ownsRow B0 24 1 V TS.length TS) (hB : B0 ≤ w.heap.size)
    (aa : Option Addr) (n c : Nat) (hx : a.eval x = .slice (some ⟨w.heap.size, 0, none⟩) 1 1) (hl : TS.length + 1 ≤ 1000000)
    (h : ∀ V' w', w'.ownsRow B0 24 1 V' (TS.length + 1) (TS ++ [.slice aa n c]) → (w.alloc (.cells #[.slice aa n c] 24)).grownBy w' V.ownBlock → wpList Try.prog ops Q rest (a.put o.dst V') w') :
    wpList Try.prog ops Q (o :: rest) a (w.alloc (.cells #[.slice aa n c] 24)) := by
  obtain ⟨i0, hi, hz0, hz1, hz2⟩ := info_parts infoL1
  refine wpList_append_own _ hgd sl x 37 ho B0 24 i0 (.slice none 0 0) 1 24 Try.underlying37 hi hz0 hz1 hz2 rfl (by decide) V TS.length TS hs (World.ownsRow.alloc (w := w) hv _) ⟨w.heap.size, 0, none⟩ 1 1 [.slice aa n c] hx rfl (one_cell _ _) (by intro u hu; simp at hu; subst hu; rfl) (by unfold maxLen; omega) (by omega) (by simp; omega) ?_
  intro v1 w1 ho1 hg1 _
  exact h v1 w1 ho1 hg1
/-- the operation: a mark more in a list -/
theorem wp_ext1 {ops : Array Oper} {rest : List Oper} {o : Oper} {a : Act} {Q : Exit → Act → World → Prop} (w : World) (hgd : o.guard = none) (sl x : Operand)
    (ho : o.op = .call { callee := .builtin .append, args := #[sl, x], argTypes := #[24, 24] }) (B : Nat) (n : Nat) (xs : List Value) (V : Value) (hs : a.eval sl = V) (hv : w.ownsRow B 9 1 V n xs) (hB : B ≤ w.heap.size)
    (M : ByteArray) (hx : a.eval x = .slice (some ⟨w.heap.size, 0, none⟩) 1 1) (hl : n + 1 ≤ 1000000)
    (h : ∀ V' w', w'.ownsRow B 9 1 V' (n + 1) (xs ++ [.string M]) → (w.alloc (.cells #[.string M] 9)).grownBy w' V.ownBlock → (∀ base2 n2 v2 xs2, (w.alloc (.cells #[.string M] 9)).ownsRow base2 9 1 v2 n2 xs2 → (v2.ownBlock ≠ V.ownBlock ∨ n2 ≤ n) → w'.ownsRow base2 9 1 v2 n2 xs2) → (V'.ownBlock = V.ownBlock ∨ V'.ownBlock = some (w.heap.size + 1)) → wpList Try.prog ops Q rest (a.put o.dst V') w') :
    wpList Try.prog ops Q (o :: rest) a (w.alloc (.cells #[.string M] 9)) := by
  obtain ⟨i0, hi, hz0, hz1, hz2⟩ := info_parts info9
  refine wpList_append_cuts _ hgd sl x 24 ho B 9 i0 (.string ⟨#[]⟩) 1 16 Try.underlying24 hi hz0 hz1 hz2 rfl (by decide) V n xs hs (World.ownsRow.alloc (w := w) hv _) ⟨w.heap.size, 0, none⟩ 1 1 [.string M] hx rfl (one_cell _ _) (by intro u hu; simp at hu; subst hu; rfl) (by decide) (by unfold maxLen; omega) (by omega) (by simp; omega) ?_
  intro v1 w1 ho1 hg1 hc1 hd1
  rw [size_one] at hd1
  exact h v1 w1 ho1 hg1 hc1 hd1
theorem infoL2 : (Try.prog.info? 25).map (fun i => (i.zero, i.size, i.bytes)) = some (some (.slice none 0 0), 1, 24) := by kernel_rfl
/-- the operation: a list more in the book's row -/
theorem wp_lay2 {ops : Array Oper} {rest : List Oper} {o : Oper} {a : Act} {Q : Exit → Act → World → Prop} (w : World) (hgd : o.guard = none) (sl x : Operand)
    (ho : o.op = .call { callee := .builtin .append, args := #[sl, x], argTypes := #[38, 38] }) (B0 : Nat) (TS : List Value) (V : Value) (hs : a.eval sl = V) (hv : w.ownsRow B0 25 1 V TS.length TS) (hB : B0 ≤ w.heap.size)
    (aa : Option Addr) (n c : Nat) (hx : a.eval x = .slice (some ⟨w.heap.size, 0, none⟩) 1 1) (hl : TS.length + 1 ≤ 1000000)
    (h : ∀ V' w', w'.ownsRow B0 25 1 V' (TS.length + 1) (TS ++ [.slice aa n c]) → (w.alloc (.cells #[.slice aa n c] 25)).grownBy w' V.ownBlock → wpList Try.prog ops Q rest (a.put o.dst V') w') :
    wpList Try.prog ops Q (o :: rest) a (w.alloc (.cells #[.slice aa n c] 25)) := by
  obtain ⟨i0, hi, hz0, hz1, hz2⟩ := info_parts infoL2
  refine wpList_append_own _ hgd sl x 38 ho B0 25 i0 (.slice none 0 0) 1 24 Try.underlying38 hi hz0 hz1 hz2 rfl (by decide) V TS.length TS hs (World.ownsRow.alloc (w := w) hv _) ⟨w.heap.size, 0, none⟩ 1 1 [.slice aa n c] hx rfl (one_cell _ _) (by intro u hu; simp at hu; subst hu; rfl) (by unfold maxLen; omega) (by omega) (by simp; omega) ?_
  intro v1 w1 ho1 hg1 _
  exact h v1 w1 ho1 hg1
/-- the operation: a mark more in a list -/
theorem wp_ext2 {ops : Array Oper} {rest : List Oper} {o : Oper} {a : Act} {Q : Exit → Act → World → Prop} (w : World) (hgd : o.guard = none) (sl x : Operand)
    (ho : o.op = .call { callee := .builtin .append, args := #[sl, x], argTypes := #[25, 25] }) (B : Nat) (n : Nat) (xs : List Value) (V : Value) (hs : a.eval sl = V) (hv : w.ownsRow B 3 1 V n xs) (hB : B ≤ w.heap.size)
    (M : Int) (hx : a.eval x = .slice (some ⟨w.heap.size, 0, none⟩) 1 1) (hl : n + 1 ≤ 1000000)
    (h : ∀ V' w', w'.ownsRow B 3 1 V' (n + 1) (xs ++ [.int .i64 M]) → (w.alloc (.cells #[.int .i64 M] 3)).grownBy w' V.ownBlock → (∀ base2 n2 v2 xs2, (w.alloc (.cells #[.int .i64 M] 3)).ownsRow base2 3 1 v2 n2 xs2 → (v2.ownBlock ≠ V.ownBlock ∨ n2 ≤ n) → w'.ownsRow base2 3 1 v2 n2 xs2) → (V'.ownBlock = V.ownBlock ∨ V'.ownBlock = some (w.heap.size + 1)) → wpList Try.prog ops Q rest (a.put o.dst V') w') :
    wpList Try.prog ops Q (o :: rest) a (w.alloc (.cells #[.int .i64 M] 3)) := by
  obtain ⟨i0, hi, hz0, hz1, hz2⟩ := info_parts info3'
  refine wpList_append_cuts _ hgd sl x 25 ho B 3 i0 (.int .i64 0) 1 8 Try.underlying25 hi hz0 hz1 hz2 rfl (by decide) V n xs hs (World.ownsRow.alloc (w := w) hv _) ⟨w.heap.size, 0, none⟩ 1 1 [.int .i64 M] hx rfl (one_cell _ _) (by intro u hu; simp at hu; subst hu; rfl) (by decide) (by unfold maxLen; omega) (by omega) (by simp; omega) ?_
  intro v1 w1 ho1 hg1 hc1 hd1
  rw [size_one] at hd1
  exact h v1 w1 ho1 hg1 hc1 hd1
theorem infoL3 : (Try.prog.info? 26).map (fun i => (i.zero, i.size, i.bytes)) = some (some (.slice none 0 0), 1, 24) := by kernel_rfl
/-- the operation: a list more in the book's row -/
theorem wp_lay3 {ops : Array Oper} {rest : List Oper} {o : Oper} {a : Act} {Q : Exit → Act → World → Prop} (w : World) (hgd : o.guard = none) (sl x : Operand)
    (ho : o.op = .call { callee := .builtin .append, args := #[sl, x], argTypes := #[39, 39] }) (B0 : Nat) (TS : List Value) (V : Value) (hs : a.eval sl = V) (hv : w.ownsRow B0 26 1 V TS.length TS) (hB : B0 ≤ w.heap.size)
    (aa : Option Addr) (n c : Nat) (hx : a.eval x = .slice (some ⟨w.heap.size, 0, none⟩) 1 1) (hl : TS.length + 1 ≤ 1000000)
    (h : ∀ V' w', w'.ownsRow B0 26 1 V' (TS.length + 1) (TS ++ [.slice aa n c]) → (w.alloc (.cells #[.slice aa n c] 26)).grownBy w' V.ownBlock → wpList Try.prog ops Q rest (a.put o.dst V') w') :
    wpList Try.prog ops Q (o :: rest) a (w.alloc (.cells #[.slice aa n c] 26)) := by
  obtain ⟨i0, hi, hz0, hz1, hz2⟩ := info_parts infoL3
  refine wpList_append_own _ hgd sl x 39 ho B0 26 i0 (.slice none 0 0) 1 24 Try.underlying39 hi hz0 hz1 hz2 rfl (by decide) V TS.length TS hs (World.ownsRow.alloc (w := w) hv _) ⟨w.heap.size, 0, none⟩ 1 1 [.slice aa n c] hx rfl (one_cell _ _) (by intro u hu; simp at hu; subst hu; rfl) (by unfold maxLen; omega) (by omega) (by simp; omega) ?_
  intro v1 w1 ho1 hg1 _
  exact h v1 w1 ho1 hg1
/-- the operation: a mark more in a list -/
theorem wp_ext3 {ops : Array Oper} {rest : List Oper} {o : Oper} {a : Act} {Q : Exit → Act → World → Prop} (w : World) (hgd : o.guard = none) (sl x : Operand)
    (ho : o.op = .call { callee := .builtin .append, args := #[sl, x], argTypes := #[26, 26] }) (B : Nat) (n : Nat) (xs : List Value) (V : Value) (hs : a.eval sl = V) (hv : w.ownsRow B 52 4 V n xs) (hB : B ≤ w.heap.size)
    (M : Int) (hx : a.eval x = .slice (some ⟨w.heap.size, 0, none⟩) 1 1) (hl : n + 1 ≤ 1000000)
    (h : ∀ V' w', w'.ownsRow B 52 4 V' (n + 1) (xs ++ [.string ⟨#[]⟩, .string ⟨#[]⟩, .int .i64 M, .int .i64 0]) → (w.alloc (.cells #[.string ⟨#[]⟩, .string ⟨#[]⟩, .int .i64 M, .int .i64 0] 52)).grownBy w' V.ownBlock → (∀ base2 n2 v2 xs2, (w.alloc (.cells #[.string ⟨#[]⟩, .string ⟨#[]⟩, .int .i64 M, .int .i64 0] 52)).ownsRow base2 52 4 v2 n2 xs2 → (v2.ownBlock ≠ V.ownBlock ∨ n2 ≤ n) → w'.ownsRow base2 52 4 v2 n2 xs2) → (V'.ownBlock = V.ownBlock ∨ V'.ownBlock = some (w.heap.size + 1)) → wpList Try.prog ops Q rest (a.put o.dst V') w') :
    wpList Try.prog ops Q (o :: rest) a (w.alloc (.cells #[.string ⟨#[]⟩, .string ⟨#[]⟩, .int .i64 M, .int .i64 0] 52)) := by
  obtain ⟨i0, hi, hz0, hz1, hz2⟩ := info_parts infoEnt
  refine wpList_append_cuts _ hgd sl x 26 ho B 52 i0 (.agg #[.string ⟨#[]⟩, .string ⟨#[]⟩, .int .i64 0, .int .i64 0]) 4 48 Try.underlying26 hi hz0 hz1 hz2 rfl (by decide) V n xs hs (World.ownsRow.alloc (w := w) hv _) ⟨w.heap.size, 0, none⟩ 1 1 [.string ⟨#[]⟩, .string ⟨#[]⟩, .int .i64 M, .int .i64 0] hx rfl (four_cells _ _ _ _ _ _) (by intro u hu; simp at hu; rcases hu with rfl | rfl | rfl | rfl <;> rfl) (by decide) (by unfold maxLen; omega) (by omega) (by simp; omega) ?_
  intro v1 w1 ho1 hg1 hc1 hd1
  rw [size_one] at hd1
  exact h v1 w1 ho1 hg1 hc1 hd1
theorem set_mark {α : Type} (M : α) (xs : List α) (j : Nat) (h : j < xs.length) : (List.replicate j M ++ xs.drop j).set j M = List.replicate (j + 1) M ++ xs.drop (j + 1) := by
  rw [List.drop_eq_getElem_cons h, List.set_append_right _ _ (by simp), List.length_replicate, Nat.sub_self, List.set_cons_zero, List.replicate_succ', List.append_assoc]
  rfl
theorem flat_mark (a b c d : Value) (n : Nat) : (List.replicate n [a, b, c, d]).flatten ++ [a, b, c, d] = (List.replicate (n + 1) [a, b, c, d]).flatten := by
  rw [List.replicate_succ', List.flatten_append]; simp
theorem flat_len (a b c d : Value) (n : Nat) : ((List.replicate n [a, b, c, d]).flatten).length = n * 4 := by simp
theorem set_mark4 (a b c d : Value) (xs : List Value) (j : Nat) (h : j * 4 + 4 ≤ xs.length) : (((((List.replicate j [a, b, c, d]).flatten ++ xs.drop (j * 4)).set (j * 4) a).set (j * 4 + 1) b).set (j * 4 + 2) c).set (j * 4 + 3) d = (List.replicate (j + 1) [a, b, c, d]).flatten ++ xs.drop ((j + 1) * 4) := by
  have hl := flat_len a b c d j
  rw [← flat_mark]
  obtain ⟨p, q, r, u, ys, hys⟩ : ∃ p q r u ys, xs.drop (j * 4) = p :: q :: r :: u :: ys := by
    have hlen : (xs.drop (j * 4)).length = xs.length - j * 4 := List.length_drop
    match hm : xs.drop (j * 4) with
    | p :: q :: r :: u :: ys => exact ⟨p, q, r, u, ys, rfl⟩
    | [] => rw [hm] at hlen; simp at hlen; omega
    | [_] => rw [hm] at hlen; simp at hlen; omega
    | [_, _] => rw [hm] at hlen; simp at hlen; omega
    | [_, _, _] => rw [hm] at hlen; simp at hlen; omega
  have hd : xs.drop ((j + 1) * 4) = ys := by
    rw [show (j + 1) * 4 = j * 4 + 4 by omega, ← List.drop_drop, hys]; rfl
  rw [hd, hys]
  rw [List.set_append_right _ _ (by omega), List.set_append_right _ _ (by omega), List.set_append_right _ _ (by omega), List.set_append_right _ _ (by omega), hl]
  rw [show j * 4 - j * 4 = 0 by omega, show j * 4 + 1 - j * 4 = 1 by omega, show j * 4 + 2 - j * 4 = 2 by omega, show j * 4 + 3 - j * 4 = 3 by omega]
  simp
theorem cutT_q (L j : Nat) (hL : L % 4 = 0) (hj : j < 4) : cutT (L + j) = [.string (markS (L / 4))] := by
  unfold cutT
  rw [show (L + j) / 4 = L / 4 by omega]
theorem cutI_q (L j : Nat) (hL : L % 4 = 0) (hj : j < 4) : cutI (L + j) = [.int .i64 (-1 - (L : Int) / 4)] := by
  unfold cutI
  rw [show ((L + j : Nat) : Int) / 4 = (L : Int) / 4 by omega]
theorem cutE_q (L j : Nat) (hL : L % 4 = 0) (hj : j < 4) : cutE (L + j) = [.string ⟨#[]⟩, .string ⟨#[]⟩, .int .i64 (-1 - (L : Int) / 4), .int .i64 0] := by
  unfold cutE
  rw [show ((L + j : Nat) : Int) / 4 = (L : Int) / 4 by omega]
set_option maxRecDepth 100000 in
set_option maxHeartbeats 4000000 in
theorem keep_any (B0 B β : Nat) (vt vi ve : Value) (ts is es : List Value) (kind ver root next : Int) (vk vn vx : Value) (nk nn nx : Nat) (xk xn xx : List Value) (data : ByteArray) (w : World) (hBk : BookAt w B0 β vt vi ve ts is es)
    (rk : w.ownsRow B 9 1 vk nk xk) (rn : w.ownsRow B 3 1 vn nn xn) (rx : w.ownsRow B 52 4 vx nx xx) (hnk : nk ≤ 300) (hnn : nn ≤ 300) (hnx : nx ≤ 300)
    (hlt : ts.length % 4 = 0) (hli : is.length % 4 = 0) (hle : es.length % 4 = 0) (hst : ts.length ≤ 90) (hsi : is.length ≤ 90) (hse : es.length ≤ 90)
    (lo1 : ∀ (j : Nat) (h : j < ts.length) b, ts[j].ownBlock = some b → b < B) (lo2 : ∀ (j : Nat) (h : j < is.length) b, is[j].ownBlock = some b → b < B) (lo3 : ∀ (j : Nat) (h : j < es.length) b, es[j].ownBlock = some b → b < B)
    (hBB : B0 ≤ B) (hBw : B ≤ w.heap.size) :
    Calls Try.prog 18 #[.pointer (some ⟨β, 0, none⟩), .agg #[.int .i64 kind, .int .i64 ver, .int .i64 root, .int .i64 next, vk, vn, vx, .string data]] w fun e w' => e = .returned (.tuple #[]) ∧ ∃ VT VI VE TS IS ES, BookAt w' B0 β VT VI VE TS IS ES ∧ TS.length = ts.length + 4 ∧ IS.length = is.length + 4 ∧ ES.length = es.length + 4 ∧ Below B0 w w' ∧ FarS B w w' := by
  obtain ⟨ka, kc, rfl, _⟩ := own_cells rk
  obtain ⟨na, nc, rfl, _⟩ := own_cells rn
  obtain ⟨xa, xc, rfl, _⟩ := own_cells rx
  have D0 : Desk w (w.alloc (.cells #[.int .i64 kind, .int .i64 ver, .int .i64 root, .int .i64 next, .slice ka nk kc, .slice na nn nc, .slice xa nx xc, .string data] 28)) B0 B β w.heap.size #[.int .i64 kind, .int .i64 ver, .int .i64 root, .int .i64 next, .slice ka nk kc, .slice na nn nc, .slice xa nx xc, .string data] vt vi ve ts is es (.slice ka nk kc) nk xk (.slice na nn nc) nn xn (.slice xa nx xc) nx xx :=
    ⟨keep_alloc hBk.box, heap_new _ _, ⟨World.ownsRow.alloc (w := w) hBk.ot _, fun j hj => by obtain ⟨m, hm, hc⟩ := hBk.ct j hj; exact ⟨m, hm, World.ownsRow.alloc (w := w) hc _, .inl (lo1 j hj)⟩, World.ownsRow.alloc (w := w) rk _⟩,
     ⟨World.ownsRow.alloc (w := w) hBk.oi _, fun j hj => by obtain ⟨m, hm, hc⟩ := hBk.ci j hj; exact ⟨m, hm, World.ownsRow.alloc (w := w) hc _, .inl (lo2 j hj)⟩, World.ownsRow.alloc (w := w) rn _⟩,
     ⟨World.ownsRow.alloc (w := w) hBk.oe _, fun j hj => by obtain ⟨m, hm, hc⟩ := hBk.ce j hj; exact ⟨m, hm, World.ownsRow.alloc (w := w) hc _, .inl (lo3 j hj)⟩, World.ownsRow.alloc (w := w) rx _⟩,
     (Below.refl B0 w).alloc (by omega) _, FarS.below ((Below.refl _ w).alloc (Nat.le_refl _) _), by rw [size_one]; omega⟩
  have hβ := hBk.le
  have lk := rk.1
  have ln := rn.1
  have lx := rx.1
  obtain ⟨ta, tc, rfl, _⟩ := own_cells hBk.ot
  obtain ⟨ia, ic, rfl, _⟩ := own_cells hBk.oi
  obtain ⟨ea, ec, rfl, _⟩ := own_cells hBk.oe
  clear hBk rk rn rx
  have HL1 : Hid (ts.length % 4 = 0) := hlt
  have HL2 : Hid (is.length % 4 = 0) := hli
  have HL3 : Hid (es.length % 4 = 0) := hle
  clear hlt hli hle
  go_enter Try.func18, Try.ntmps18
  go_upto_region 1 with fail
  generalize w.alloc (.cells #[.int .i64 kind, .int .i64 ver, .int .i64 root, .int .i64 next, .slice ka nk kc, .slice na nn nc, .slice xa nx xc, .string data] 28) = w0 at D0 ⊢
  obtain ⟨x0, x1, x2, x3⟩ := box4 D0.box
  go_upto_region 2 with (go_at_call 34; refine (mark_eq ts.length _ _ (by omega) (by first | exact quo4 ts.length (by omega) | rfl)).mono ?_; rintro e w1 ⟨rfl, hb1⟩)
  have D1 := D0.below hb1 hBB
  clear D0 hb1 x0 x1 x2 x3
  obtain ⟨M, hM⟩ : ∃ M, markS (ts.length / 4) = M := ⟨_, rfl⟩
  have HM : Hid (markS (ts.length / 4) = M) := hM
  rw [hM]
  clear hM
  go_wp2
  go_loopw [5] (fun i wr => ∃ j : Nat, j ≤ nk ∧ i = .int .i64 j ∧ Desk w wr B0 B β w.heap.size #[.int .i64 kind, .int .i64 ver, .int .i64 root, .int .i64 next, .slice ka nk kc, .slice na nn nc, .slice xa nx xc, .string data] (.slice ta ts.length tc) (.slice ia is.length ic) (.slice ea es.length ec) ts is es (.slice ka nk kc) nk (List.replicate j (Value.string M) ++ xk.drop j) (.slice na nn nc) nn xn (.slice xa nx xc) nx xx) (fun i _ => nk - (intOf i).toNat)
  case atStart => exact ⟨0, Nat.zero_le _, rfl, by simpa using D1⟩
  case round =>
    clear D1
    obtain ⟨j, hj, rfl, D⟩ := hrel
    obtain ⟨q0, q1, q2, q3, q4, q5, q6, q7⟩ := box8 D.pb
    have hlen : (List.replicate j (Value.string M) ++ xk.drop j).length = nk := by have := D.g1.rv.1; simpa using this
    by_cases hlt : j < nk
    · obtain ⟨a', c', hv, hnz⟩ := own_cells D.g1.rv
      obtain ⟨g, hga, hgl, hcs⟩ := hnz (by omega)
      obtain ⟨rfl, rfl⟩ : ka = some ⟨g, 0, none⟩ ∧ kc = c' := by simp at hv; exact ⟨hv.1.trans hga, hv.2⟩
      obtain ⟨u0, hcell⟩ : ∃ u0, wr.cell? ⟨g, j, none⟩ = some u0 := ⟨_, hcs j _ (List.getElem?_eq_getElem (by rw [hlen]; exact hlt))⟩
      have hfz := World.ownsRow.frozenAt (w := wr) D.g1.rv j
      have D2 := D.store1 lo1 hBB j (Value.string M)
      rw [set_mark (Value.string M) xk j (by omega)] at D2
      clear hcs hnz hv hga D hlen
      go_wp2
      go_roundw
      all_goals first
        | (exact (by simp [intOf]; omega))
        | exact ⟨j + 1, by omega, by go_num, D2⟩
        | ((repeat apply Exists.intro); exact ⟨⟨j + 1, by omega, by go_num, D2⟩, rfl⟩)
    · obtain rfl : nk = j := by omega
      have D2 : Desk w wr B0 B β w.heap.size #[.int .i64 kind, .int .i64 ver, .int .i64 root, .int .i64 next, .slice ka nk kc, .slice na nn nc, .slice xa nx xc, .string data] (.slice ta ts.length tc) (.slice ia is.length ic) (.slice ea es.length ec) ts is es (.slice ka nk kc) nk (List.replicate nk (Value.string M)) (.slice na nn nc) nn xn (.slice xa nx xc) nx xx := by
        have := D; rw [List.drop_eq_nil_of_le (by omega), List.append_nil] at this; exact this
      clear D hlen hlt hj
      go_wp2
      go_loopw [6, 7] (fun g i wr => ∃ (t : Nat) (V' : Value) (L' : List Value), t ≤ 4 ∧ i = .int .i64 t ∧ Desk w wr B0 B β w.heap.size #[.int .i64 kind, .int .i64 ver, .int .i64 root, .int .i64 next, .slice ka nk kc, .slice na nn nc, .slice xa nx xc, .string data] V' (.slice ia is.length ic) (.slice ea es.length ec) L' is es g (nk + t) (List.replicate (nk + t) (Value.string M)) (.slice na nn nc) nn xn (.slice xa nx xc) nx xx ∧ Hid (L'.length = ts.length + t)) (fun _ i _ => 4 - (intOf i).toNat)
      case atStart => exact ⟨0, _, ts, by omega, rfl, D2, rfl⟩
      case round =>
        clear D2 q0 q1 q2 q3 q4 q5 q6 q7
        obtain ⟨t, V', L', ht, rfl, D, HT⟩ := hrel
        obtain ⟨va, vc, rfl, _⟩ := own_cells D.g1.ot
        obtain ⟨ga, gc, rfl, _⟩ := own_cells D.g1.rv
        obtain ⟨b0, b1, b2, b3⟩ := box4 D.box
        by_cases hlt : t < 4
        · have hll : L'.length + 1 ≤ 1000000 := by rw [HT.out]; omega
          have hxx : List.replicate (nk + t) (Value.string M) = (List.replicate (nk + t) (cutT L'.length)).flatten := by rw [HT.out, cutT_q _ _ HL1.out hlt, HM.out, flat1]
          have hBwr : B0 ≤ wr.heap.size := Nat.le_trans hBB D.sz
          go_upto_region 11 with (at_builtin; refine wp_lay1 wr rfl (.tmp 45) (.tmp 47) rfl B0 L' (.slice va L'.length vc) rfl D.g1.ot hBwr ga (nk + t) gc rfl hll ?_; intro V2 w2 ho2 hg2; obtain ⟨a2, c2, rfl, _⟩ := own_cells ho2; have Da := D.below ((Below.refl _ wr).alloc (Nat.le_refl _) (.cells #[.slice ga (nk + t) gc] 24)) hBB; have hbx := (keptB_grown Da.g1.ot hg2) β _ _ _ (by decide) Da.box; obtain ⟨e0, e1, e2, e3⟩ := box4 hbx; have hfb := free_of hbx; have D2 := Da.lay1 ho2 hg2 hBB hβ (by omega) hxx)
          have hlen2 : L'.length + 1 = (L' ++ [Value.slice ga (nk + t) gc]).length := by simp
          generalize w2.setCell ⟨β, 0, none⟩ (.slice a2 (L'.length + 1) c2) = W2 at D2 ⊢
          clear Da hbx e0 e1 e2 e3 hfb D b0 b1 b2 b3 hxx ho2 hg2
          go_wp2_with (at_builtin; refine wp_ext1 W2 rfl (.tmp 51) (.tmp 53) rfl B (nk + t) (List.replicate (nk + t) (Value.string M)) (.slice ga (nk + t) gc) rfl D2.g1.rv D2.sz M rfl (by omega) ?_; intro V3 w3 ho3 hg3 hc3 _; have D3 := (D2.below ((Below.refl _ W2).alloc (Nat.le_refl _) (.cells #[Value.string M] 9)) hBB).ext1 ho3 hg3 hc3 hBB)
          rw [show List.replicate (nk + t) (Value.string M) ++ [Value.string M] = List.replicate (nk + (t + 1)) (Value.string M) from (List.replicate_succ' (n := nk + t)).symm] at D3
          have HT2 : Hid ((L' ++ [Value.slice ga (nk + t) gc]).length = ts.length + (t + 1)) := by show _ = _; rw [← hlen2, HT.out]; omega
          clear D2 ho3 hg3 hc3 hlen2
          go_wp2
          go_roundw
          all_goals first
            | (exact (by simp [intOf]; omega))
            | exact ⟨t + 1, _, _, by omega, by go_num, D3, HT2⟩
            | ((repeat apply Exists.intro); exact ⟨⟨t + 1, _, _, by omega, by go_num, D3, HT2⟩, rfl⟩)
        · obtain rfl : t = 4 := by omega
          clear hlt ht
          have hsi' : is.length ≤ 1000 := by omega
          go_upto_region 13 with fail
          obtain ⟨M2, hM2⟩ : ∃ M2, -1 - (is.length : Int) / 4 = M2 := ⟨_, rfl⟩
          have HM2 : Hid (-1 - (is.length : Int) / 4 = M2) := hM2
          rw [hM2]
          clear hM2 b0 b1 b2 b3
          go_wp2
          go_loopw [9] (fun i wr => ∃ j2 : Nat, j2 ≤ nn ∧ i = .int .i64 j2 ∧ Desk w wr B0 B β w.heap.size #[.int .i64 kind, .int .i64 ver, .int .i64 root, .int .i64 next, .slice ka nk kc, .slice na nn nc, .slice xa nx xc, .string data] (.slice va L'.length vc) (.slice ia is.length ic) (.slice ea es.length ec) L' is es (.slice ga (nk + 4) gc) (nk + 4) (List.replicate (nk + 4) (Value.string M)) (.slice na nn nc) nn (List.replicate j2 (Value.int .i64 M2) ++ xn.drop j2) (.slice xa nx xc) nx xx) (fun i _ => nn - (intOf i).toNat)
          case atStart => exact ⟨0, Nat.zero_le _, rfl, by simpa using D⟩
          case round =>
            clear D
            obtain ⟨j2, hj, rfl, D⟩ := hrel
            obtain ⟨q0, q1, q2, q3, q4, q5, q6, q7⟩ := box8 D.pb
            have hlen : (List.replicate j2 (Value.int .i64 M2) ++ xn.drop j2).length = nn := by have := D.g2.rv.1; simpa using this
            by_cases hlt : j2 < nn
            · obtain ⟨a', c', hv, hnz⟩ := own_cells D.g2.rv
              obtain ⟨g, hga, hgl, hcs⟩ := hnz (by omega)
              obtain ⟨rfl, rfl⟩ : na = some ⟨g, 0, none⟩ ∧ nc = c' := by simp at hv; exact ⟨hv.1.trans hga, hv.2⟩
              obtain ⟨u0, hcell⟩ : ∃ u0, wr.cell? ⟨g, j2, none⟩ = some u0 := ⟨_, hcs j2 _ (List.getElem?_eq_getElem (by rw [hlen]; exact hlt))⟩
              have hfz := World.ownsRow.frozenAt (w := wr) D.g2.rv j2
              have D2 := D.store2 lo2 hBB j2 (Value.int .i64 M2)
              rw [set_mark (Value.int .i64 M2) xn j2 (by omega)] at D2
              clear hcs hnz hv hga D hlen
              go_wp2
              go_roundw
              all_goals first
                | (exact (by simp [intOf]; omega))
                | exact ⟨j2 + 1, by omega, by go_num, D2⟩
                | ((repeat apply Exists.intro); exact ⟨⟨j2 + 1, by omega, by go_num, D2⟩, rfl⟩)
            · obtain rfl : nn = j2 := by omega
              have D2 : Desk w wr B0 B β w.heap.size #[.int .i64 kind, .int .i64 ver, .int .i64 root, .int .i64 next, .slice ka nk kc, .slice na nn nc, .slice xa nx xc, .string data] (.slice va L'.length vc) (.slice ia is.length ic) (.slice ea es.length ec) L' is es (.slice ga (nk + 4) gc) (nk + 4) (List.replicate (nk + 4) (Value.string M)) (.slice na nn nc) nn (List.replicate nn (Value.int .i64 M2)) (.slice xa nx xc) nx xx := by
                have := D; rw [List.drop_eq_nil_of_le (by omega), List.append_nil] at this; exact this
              clear D hlen hlt hj
              go_wp2
              go_loopw [10, 11] (fun g i wr => ∃ (t2 : Nat) (V2' : Value) (L2' : List Value), t2 ≤ 4 ∧ i = .int .i64 t2 ∧ Desk w wr B0 B β w.heap.size #[.int .i64 kind, .int .i64 ver, .int .i64 root, .int .i64 next, .slice ka nk kc, .slice na nn nc, .slice xa nx xc, .string data] (.slice va L'.length vc) V2' (.slice ea es.length ec) L' L2' es (.slice ga (nk + 4) gc) (nk + 4) (List.replicate (nk + 4) (Value.string M)) g (nn + t2) (List.replicate (nn + t2) (Value.int .i64 M2)) (.slice xa nx xc) nx xx ∧ Hid (L2'.length = is.length + t2)) (fun _ i _ => 4 - (intOf i).toNat)
              case atStart => exact ⟨0, _, is, by omega, rfl, D2, rfl⟩
              case round =>
                clear D2 q0 q1 q2 q3 q4 q5 q6 q7
                obtain ⟨t2, V2', L2', ht, rfl, D, HTP2⟩ := hrel
                obtain ⟨va2, vc2, rfl, _⟩ := own_cells D.g2.ot
                obtain ⟨ga2, gc2, rfl, _⟩ := own_cells D.g2.rv
                obtain ⟨b0, b1, b2, b3⟩ := box4 D.box
                by_cases hlt : t2 < 4
                · have hll : L2'.length + 1 ≤ 1000000 := by rw [HTP2.out]; omega
                  have hxx : List.replicate (nn + t2) (Value.int .i64 M2) = (List.replicate (nn + t2) (cutI L2'.length)).flatten := by rw [HTP2.out, cutI_q _ _ HL2.out hlt, HM2.out, flat1]
                  have hBwr : B0 ≤ wr.heap.size := Nat.le_trans hBB D.sz
                  go_upto_region 22 with (at_builtin; refine wp_lay2 wr rfl (.tmp 84) (.tmp 86) rfl B0 L2' (.slice va2 L2'.length vc2) rfl D.g2.ot hBwr ga2 (nn + t2) gc2 rfl hll ?_; intro V2 w2 ho2 hg2; obtain ⟨a2, c2, rfl, _⟩ := own_cells ho2; have Da := D.below ((Below.refl _ wr).alloc (Nat.le_refl _) (.cells #[.slice ga2 (nn + t2) gc2] 25)) hBB; have hbx := (keptB_grown Da.g2.ot hg2) β _ _ _ (by decide) Da.box; obtain ⟨e0, e1, e2, e3⟩ := box4 hbx; have hfb := free_of hbx; have D2 := Da.lay2 ho2 hg2 hBB hβ (by omega) hxx)
                  have hlen2 : L2'.length + 1 = (L2' ++ [Value.slice ga2 (nn + t2) gc2]).length := by simp
                  generalize w2.setCell ⟨β, 1, none⟩ (.slice a2 (L2'.length + 1) c2) = W2 at D2 ⊢
                  clear Da hbx e0 e1 e2 e3 hfb D b0 b1 b2 b3 hxx ho2 hg2
                  go_wp2_with (at_builtin; refine wp_ext2 W2 rfl (.tmp 90) (.tmp 92) rfl B (nn + t2) (List.replicate (nn + t2) (Value.int .i64 M2)) (.slice ga2 (nn + t2) gc2) rfl D2.g2.rv D2.sz M2 rfl (by omega) ?_; intro V3 w3 ho3 hg3 hc3 _; have D3 := (D2.below ((Below.refl _ W2).alloc (Nat.le_refl _) (.cells #[Value.int .i64 M2] 3)) hBB).ext2 ho3 hg3 hc3 hBB)
                  rw [show List.replicate (nn + t2) (Value.int .i64 M2) ++ [Value.int .i64 M2] = List.replicate (nn + (t2 + 1)) (Value.int .i64 M2) from (List.replicate_succ' (n := nn + t2)).symm] at D3
                  have HT2 : Hid ((L2' ++ [Value.slice ga2 (nn + t2) gc2]).length = is.length + (t2 + 1)) := by show _ = _; rw [← hlen2, HTP2.out]; omega
                  clear D2 ho3 hg3 hc3 hlen2
                  go_wp2
                  go_roundw
                  all_goals first
                    | (exact (by simp [intOf]; omega))
                    | exact ⟨t2 + 1, _, _, by omega, by go_num, D3, HT2⟩
                    | ((repeat apply Exists.intro); exact ⟨⟨t2 + 1, _, _, by omega, by go_num, D3, HT2⟩, rfl⟩)
                · obtain rfl : t2 = 4 := by omega
                  clear hlt ht
                  have hse' : es.length ≤ 1000 := by omega
                  go_upto_region 24 with fail
                  obtain ⟨M3, hM3⟩ : ∃ M3, -1 - (es.length : Int) / 4 = M3 := ⟨_, rfl⟩
                  have HM3 : Hid (-1 - (es.length : Int) / 4 = M3) := hM3
                  rw [hM3]
                  clear hM3 b0 b1 b2 b3
                  have hown := fun b hb => (World.ownsRow.lt (w := wr) D.g3.rv b hb).2
                  obtain ⟨δ, hδ⟩ : ∃ δ, wr.heap.size = δ := ⟨_, rfl⟩
                  have D4 := D.below ((Below.refl _ wr).alloc (Nat.le_refl _) (.cells #[.string ⟨#[]⟩, .string ⟨#[]⟩, .int .i64 M3, .int .i64 0] 52)) hBB
                  have EB := heap_new wr (.cells #[.string ⟨#[]⟩, .string ⟨#[]⟩, .int .i64 M3, .int .i64 0] 52)
                  rw [hδ] at EB hown ⊢
                  generalize wr.alloc (.cells #[.string ⟨#[]⟩, .string ⟨#[]⟩, .int .i64 M3, .int .i64 0] 52) = w5 at D4 EB ⊢
                  clear D hδ
                  go_wp2
                  go_loopw [13] (fun i wr => ∃ j3 : Nat, j3 ≤ nx ∧ i = .int .i64 j3 ∧ Desk w wr B0 B β w.heap.size #[.int .i64 kind, .int .i64 ver, .int .i64 root, .int .i64 next, .slice ka nk kc, .slice na nn nc, .slice xa nx xc, .string data] (.slice va L'.length vc) (.slice va2 L2'.length vc2) (.slice ea es.length ec) L' L2' es (.slice ga (nk + 4) gc) (nk + 4) (List.replicate (nk + 4) (Value.string M)) (.slice ga2 (nn + 4) gc2) (nn + 4) (List.replicate (nn + 4) (Value.int .i64 M2)) (.slice xa nx xc) nx ((List.replicate j3 [Value.string ⟨#[]⟩, Value.string ⟨#[]⟩, Value.int .i64 M3, Value.int .i64 0]).flatten ++ xx.drop (j3 * 4)) ∧ wr.heap[δ]? = some (.cells #[.string ⟨#[]⟩, .string ⟨#[]⟩, .int .i64 M3, .int .i64 0] 52)) (fun i _ => nx - (intOf i).toNat)
                  case atStart => exact ⟨0, Nat.zero_le _, rfl, by simpa using D4, EB⟩
                  case round =>
                    clear D4 EB
                    obtain ⟨j3, hj, rfl, D, EB⟩ := hrel
                    obtain ⟨q0, q1, q2, q3, q4, q5, q6, q7⟩ := box8 D.pb
                    obtain ⟨y0, y1, y2, y3⟩ := box4 EB
                    have hlen : ((List.replicate j3 [Value.string ⟨#[]⟩, Value.string ⟨#[]⟩, Value.int .i64 M3, Value.int .i64 0]).flatten ++ xx.drop (j3 * 4)).length = nx * 4 := D.g3.rv.1
                    by_cases hlt : j3 < nx
                    · obtain ⟨a', c', hv, hnz⟩ := own_cells D.g3.rv
                      obtain ⟨g, hga, hgl, hcs⟩ := hnz (by omega)
                      obtain ⟨rfl, rfl⟩ : xa = some ⟨g, 0, none⟩ ∧ xc = c' := by simp at hv; exact ⟨hv.1.trans hga, hv.2⟩
                      have hgδ : δ ≠ g := Nat.ne_of_gt (hown g rfl)
                      obtain ⟨u0', hc0⟩ : ∃ u, wr.cell? ⟨g, j3 * 4, none⟩ = some u := ⟨_, hcs (j3 * 4) _ (List.getElem?_eq_getElem (by rw [hlen]; omega))⟩
                      obtain ⟨u1', hc1⟩ : ∃ u, wr.cell? ⟨g, j3 * 4 + 1, none⟩ = some u := ⟨_, hcs (j3 * 4 + 1) _ (List.getElem?_eq_getElem (by rw [hlen]; omega))⟩
                      obtain ⟨u2', hc2⟩ : ∃ u, wr.cell? ⟨g, j3 * 4 + 2, none⟩ = some u := ⟨_, hcs (j3 * 4 + 2) _ (List.getElem?_eq_getElem (by rw [hlen]; omega))⟩
                      obtain ⟨u3', hc3⟩ : ∃ u, wr.cell? ⟨g, j3 * 4 + 3, none⟩ = some u := ⟨_, hcs (j3 * 4 + 3) _ (List.getElem?_eq_getElem (by rw [hlen]; omega))⟩
                      obtain ⟨hbx, hbc⟩ := own_cell_of D.g3.rv rfl
                      have hfz := free_of hbc
                      have D2 := (((D.store3 lo3 hBB (j3 * 4) (.string ⟨#[]⟩)).store3 lo3 hBB (j3 * 4 + 1) (.string ⟨#[]⟩)).store3 lo3 hBB (j3 * 4 + 2) (.int .i64 M3)).store3 lo3 hBB (j3 * 4 + 3) (.int .i64 0)
                      rw [set_mark4 _ _ _ _ xx j3 (by omega)] at D2
                      have EB2 := keep_set (keep_set (keep_set (keep_set EB hgδ (j3 * 4) (.string ⟨#[]⟩)) hgδ (j3 * 4 + 1) (.string ⟨#[]⟩)) hgδ (j3 * 4 + 2) (.int .i64 M3)) hgδ (j3 * 4 + 3) (.int .i64 0)
                      have hj4 : j3 * 4 ≤ 4294967296 := by omega
                      clear hcs hnz hv hga D hlen EB
                      go_wp2
                      go_roundw
                      all_goals first
                        | (exact (by simp [intOf]; omega))
                        | exact ⟨j3 + 1, by omega, by go_num, D2, EB2⟩
                        | ((repeat apply Exists.intro); exact ⟨⟨j3 + 1, by omega, by go_num, D2, EB2⟩, rfl⟩)
                    · obtain rfl : nx = j3 := by omega
                      have D2 : Desk w wr B0 B β w.heap.size #[.int .i64 kind, .int .i64 ver, .int .i64 root, .int .i64 next, .slice ka nk kc, .slice na nn nc, .slice xa nx xc, .string data] (.slice va L'.length vc) (.slice va2 L2'.length vc2) (.slice ea es.length ec) L' L2' es (.slice ga (nk + 4) gc) (nk + 4) (List.replicate (nk + 4) (Value.string M)) (.slice ga2 (nn + 4) gc2) (nn + 4) (List.replicate (nn + 4) (Value.int .i64 M2)) (.slice xa nx xc) nx ((List.replicate nx [Value.string ⟨#[]⟩, Value.string ⟨#[]⟩, Value.int .i64 M3, Value.int .i64 0]).flatten) := by
                        have := D; rw [List.drop_eq_nil_of_le (by omega), List.append_nil] at this; exact this
                      clear D hlen hlt hj
                      go_wp2
                      go_loopw [14, 15] (fun g i wr => ∃ (t3 : Nat) (V3' : Value) (L3' : List Value), t3 ≤ 4 ∧ i = .int .i64 t3 ∧ Desk w wr B0 B β w.heap.size #[.int .i64 kind, .int .i64 ver, .int .i64 root, .int .i64 next, .slice ka nk kc, .slice na nn nc, .slice xa nx xc, .string data] (.slice va L'.length vc) (.slice va2 L2'.length vc2) V3' L' L2' L3' (.slice ga (nk + 4) gc) (nk + 4) (List.replicate (nk + 4) (Value.string M)) (.slice ga2 (nn + 4) gc2) (nn + 4) (List.replicate (nn + 4) (Value.int .i64 M2)) g (nx + t3) ((List.replicate (nx + t3) [Value.string ⟨#[]⟩, Value.string ⟨#[]⟩, Value.int .i64 M3, Value.int .i64 0]).flatten) ∧ wr.heap[δ]? = some (.cells #[.string ⟨#[]⟩, .string ⟨#[]⟩, .int .i64 M3, .int .i64 0] 52) ∧ (g.ownBlock ≠ some δ) ∧ Hid (L3'.length = es.length + t3)) (fun _ i _ => 4 - (intOf i).toNat)
                      case atStart => exact ⟨0, _, es, by omega, rfl, D2, EB, fun h => by have := hown _ h; omega, rfl⟩
                      case round =>
                        clear D2 EB hown q0 q1 q2 q3 q4 q5 q6 q7 y0 y1 y2 y3
                        obtain ⟨t3, V3', L3', ht, rfl, D, EB, hgne, HTP3⟩ := hrel
                        obtain ⟨va3, vc3, rfl, _⟩ := own_cells D.g3.ot
                        obtain ⟨ga3, gc3, rfl, _⟩ := own_cells D.g3.rv
                        obtain ⟨b0, b1, b2, b3⟩ := box4 D.box
                        by_cases hlt : t3 < 4
                        · have hll : L3'.length + 1 ≤ 1000000 := by rw [HTP3.out]; omega
                          have hxx : (List.replicate (nx + t3) [Value.string ⟨#[]⟩, Value.string ⟨#[]⟩, Value.int .i64 M3, Value.int .i64 0]).flatten = (List.replicate (nx + t3) (cutE L3'.length)).flatten := by rw [HTP3.out, cutE_q _ _ HL3.out hlt, HM3.out]
                          have hBwr : B0 ≤ wr.heap.size := Nat.le_trans hBB D.sz
                          have hδl : δ < wr.heap.size := (Array.getElem?_eq_some_iff.1 EB).1
                          go_upto_region 33 with (at_builtin; refine wp_lay3 wr rfl (.tmp 124) (.tmp 126) rfl B0 L3' (.slice va3 L3'.length vc3) rfl D.g3.ot hBwr ga3 (nx + t3) gc3 rfl hll ?_; intro V2 w2 ho2 hg2; obtain ⟨a2, c2, rfl, _⟩ := own_cells ho2; have Da := D.below ((Below.refl _ wr).alloc (Nat.le_refl _) (.cells #[.slice ga3 (nx + t3) gc3] 26)) hBB; have hk2 := keptB_grown Da.g3.ot hg2; have hbx := hk2 β _ _ _ (by decide) Da.box; have EB2 := hk2 δ _ _ _ (by decide) (keep_alloc (x := .cells #[.slice ga3 (nx + t3) gc3] 26) EB); have EB3 := (show KeptB 42 w2 (w2.setCell ⟨β, 2, none⟩ (.slice a2 (L3'.length + 1) c2)) from keptB_set hbx) δ _ _ _ (by decide) EB2; obtain ⟨e0, e1, e2, e3⟩ := box4 hbx; have hfb := free_of hbx; have D2 := Da.lay3 ho2 hg2 hBB hβ (by omega) hxx)
                          have hlen2 : L3'.length + 1 = (L3' ++ [Value.slice ga3 (nx + t3) gc3]).length := by simp
                          generalize w2.setCell ⟨β, 2, none⟩ (.slice a2 (L3'.length + 1) c2) = W2 at D2 EB3 ⊢
                          clear Da hbx e0 e1 e2 e3 hfb D b0 b1 b2 b3 hxx ho2 hg2 hk2 EB2 EB hδl
                          obtain ⟨y0, y1, y2, y3⟩ := box4 EB3
                          have hδl : δ < W2.heap.size := (Array.getElem?_eq_some_iff.1 EB3).1
                          go_wp2_with (at_builtin; refine wp_ext3 W2 rfl (.tmp 130) (.tmp 132) rfl B (nx + t3) ((List.replicate (nx + t3) [Value.string ⟨#[]⟩, Value.string ⟨#[]⟩, Value.int .i64 M3, Value.int .i64 0]).flatten) (.slice ga3 (nx + t3) gc3) rfl D2.g3.rv D2.sz M3 rfl (by omega) ?_; intro V3 w3 ho3 hg3 hc3 hd3; have D3 := (D2.below ((Below.refl _ W2).alloc (Nat.le_refl _) (.cells #[.string ⟨#[]⟩, .string ⟨#[]⟩, .int .i64 M3, .int .i64 0] 52)) hBB).ext3 ho3 hg3 hc3 hBB)
                          have EB4 : w3.heap[δ]? = some (.cells #[.string ⟨#[]⟩, .string ⟨#[]⟩, .int .i64 M3, .int .i64 0] 52) := (hg3.block δ (by rw [size_one]; omega) (fun h => hgne h.symm)).trans (keep_alloc EB3)
                          have hgne2 : V3.ownBlock ≠ some δ := by
                            rcases hd3 with h | h
                            · rw [h]; exact hgne
                            · rw [h]; intro e; simp at e; omega
                          rw [flat_mark] at D3
                          have HT2' : Hid ((L3' ++ [Value.slice ga3 (nx + t3) gc3]).length = es.length + (t3 + 1)) := by show _ = _; rw [← hlen2, HTP3.out]; omega
                          clear D2 ho3 hg3 hc3 hlen2 hd3 hgne
                          go_wp2
                          go_roundw
                          all_goals first
                            | (exact (by simp [intOf]; omega))
                            | exact ⟨t3 + 1, _, _, by omega, by go_num, D3, EB4, hgne2, HT2'⟩
                            | ((repeat apply Exists.intro); exact ⟨⟨t3 + 1, _, _, by omega, by go_num, D3, EB4, hgne2, HT2'⟩, rfl⟩)
                        · obtain rfl : t3 = 4 := by omega
                          clear hlt ht
                          go_wp2
                          refine bodyPost_end (v := .tuple #[]) ?_ rfl ⟨rfl, _, _, _, _, _, _, ⟨D.box, hβ, D.g1.ot, D.g2.ot, D.g3.ot, ?_, ?_, ?_, fun j3 h => ?_, fun j3 h => ?_, fun j3 h => ?_⟩, HT.out, HTP2.out, HTP3.out, D.bel, D.far⟩
                          · simp [results, Try.results18, go_sem]
                          · rw [HT.out]; omega
                          · rw [HTP2.out]; omega
                          · rw [HTP3.out]; omega
                          · obtain ⟨m, hm, hc, _⟩ := D.g1.ct j3 h; exact ⟨m, hm, hc⟩
                          · obtain ⟨m, hm, hc, _⟩ := D.g2.ct j3 h; exact ⟨m, hm, hc⟩
                          · obtain ⟨m, hm, hc, _⟩ := D.g3.ct j3 h; exact ⟨m, hm, hc⟩
end Go.Proofs.Ytjmmfpolkkglaaa.Pages
