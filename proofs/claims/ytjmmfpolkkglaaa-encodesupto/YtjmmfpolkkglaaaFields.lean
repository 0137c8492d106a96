/-
  What fields leaves: the bytes of a page ahead of the zeros.
-/
import Derived.Test.YtjmmfpolkkglaaaEnts
namespace Go.Proofs.Ytjmmfpolkkglaaa.Pages
open Go.RowKit
set_option linter.unusedSimpArgs false

structure Ent where
  key : ByteArray
  val : ByteArray
  size : Int
  over : Int
def Ent.cells (e : Ent) : List Value := [.string e.key, .string e.val, .int .i64 e.size, .int .i64 e.over]
def Ent.bytes (e : Ent) : List UInt8 := entBytes e.key e.val e.size e.over

theorem cells_at (ents : List Ent) (j i : Nat) (hj : j < ents.length) (hi : i < 4) : (ents.flatMap Ent.cells)[4 * j + i]? = (ents[j].cells)[i]? := by
  induction ents generalizing j with
  | nil => simp at hj
  | cons e l ih =>
    cases j with
    | zero =>
      simp only [List.flatMap_cons, Nat.mul_zero, Nat.zero_add, List.getElem_cons_zero]
      rw [List.getElem?_append_left (by simp [Ent.cells]; omega)]
    | succ j =>
      simp only [List.flatMap_cons, List.getElem_cons_succ]
      have h4 : e.cells.length = 4 := rfl
      rw [List.getElem?_append_right (by omega), h4, show 4 * (j + 1) + i - 4 = 4 * j + i by omega]
      exact ih j (by simpa using hj)
theorem RowAt.ent {w : World} {B : Nat} {a : Option Addr} {l : List Ent} {j : Nat} (h : RowAt w B a (l.flatMap Ent.cells)) (hj : j < l.length) : ∃ b off, a = some ⟨b, off, none⟩ ∧ b < B ∧
    w.cell? ⟨b, off + j * 4, none⟩ = some (.string l[j].key) ∧ w.cell? ⟨b, off + j * 4 + 1, none⟩ = some (.string l[j].val) ∧ w.cell? ⟨b, off + j * 4 + 2, none⟩ = some (.int .i64 l[j].size) ∧ w.cell? ⟨b, off + j * 4 + 3, none⟩ = some (.int .i64 l[j].over) := by
  have c := fun i (hi : i < 4) => cells_at l j i hj hi
  rcases h with h | ⟨b, off, ha, hb, hc⟩
  · have := c 0 (by omega); rw [h] at this; simp [Ent.cells] at this
  · refine ⟨b, off, ha, hb, ?_, ?_, ?_, ?_⟩
    · rw [Nat.mul_comm]; exact hc (4 * j) _ (c 0 (by omega))
    · rw [Nat.mul_comm, Nat.add_assoc]; exact hc (4 * j + 1) _ (c 1 (by omega))
    · rw [Nat.mul_comm, Nat.add_assoc]; exact hc (4 * j + 2) _ (c 2 (by omega))
    · rw [Nat.mul_comm, Nat.add_assoc]; exact hc (4 * j + 3) _ (c 3 (by omega))

def leafB (ents : List Ent) : List UInt8 := beB 1 ents.length ++ ents.flatMap Ent.bytes

set_option maxHeartbeats 1000000 in
theorem fields_meta (ver root next : Int) (ka ia ea : Option Addr) (kc ic ec : Nat) (data : ByteArray) (keys : List ByteArray) (kids : List Int) (ents : List Ent) (B : Nat) (w : World) (hB : B ≤ w.heap.size) :
    Calls Try.prog 23 #[.agg #[.int .i64 1, .int .i64 ver, .int .i64 root, .int .i64 next, .slice ka keys.length kc, .slice ia kids.length ic, .slice ea ents.length ec, .string data]] w fun e w' => ∃ b', e = .returned b' ∧ Buf w' B b' (beB 1 1 ++ beB 8 ver ++ beB 2 root) ∧ Grew B w w' := by
  have hBW : B ≤ (w.alloc (.cells #[.int .i64 1, .int .i64 ver, .int .i64 root, .int .i64 next, .slice ka keys.length kc, .slice ia kids.length ic, .slice ea ents.length ec, .string data] 28)).heap.size := by simp; omega
  have hbox := heap_new w (.cells #[.int .i64 1, .int .i64 ver, .int .i64 root, .int .i64 next, .slice ka keys.length kc, .slice ia kids.length ic, .slice ea ents.length ec, .string data] 28)
  have gW := (Grew.refl B w).alloc hB (.cells #[.int .i64 1, .int .i64 ver, .int .i64 root, .int .i64 next, .slice ka keys.length kc, .slice ia kids.length ic, .slice ea ents.length ec, .string data] 28)
  have hvW := Buf.nil (w.alloc (.cells #[.int .i64 1, .int .i64 ver, .int .i64 root, .int .i64 next, .slice ka keys.length kc, .slice ia kids.length ic, .slice ea ents.length ec, .string data] 28)) B
  go_enter Try.func23, Try.ntmps23
  go_wp2_with (go_at_call 24; refine (appendNumber_z _ _ _ _ B _ (by assumption) (by assumption) (by decide) (by decide) (by simp [beB_length])).mono ?_; rintro e wn ⟨bn, rfl, hbn, gn⟩; have hxn := gn.other _ _ (by assumption) rfl; obtain ⟨e0, e1, e2, e3, e4, e5, e6, e7⟩ := box8 hxn; have Gn := Grew.trans (show Grew B w _ by assumption) gn; have hBn : B ≤ wn.heap.size := Nat.le_trans hB Gn.size; clear gn)
  go_ret
  exact ⟨_, rfl, by simpa using hbn, Gn⟩

set_option maxHeartbeats 1000000 in
theorem fields_branch (ver root next : Int) (ka ia ea : Option Addr) (kc ic ec : Nat) (data : ByteArray) (keys : List ByteArray) (kids : List Int) (ents : List Ent) (B : Nat) (w : World) (hB : B ≤ w.heap.size) (hK : RowAt w B ka (keys.map .string)) (hI : RowAt w B ia (kids.map (.int .i64))) (hkn : keys.length ≤ 1073741824) (hin : kids.length ≤ 1073741824) (hl : (branchB keys kids).length + 20 ≤ 140737488355328) :
    Calls Try.prog 23 #[.agg #[.int .i64 2, .int .i64 ver, .int .i64 root, .int .i64 next, .slice ka keys.length kc, .slice ia kids.length ic, .slice ea ents.length ec, .string data]] w fun e w' => ∃ b', e = .returned b' ∧ Buf w' B b' (beB 1 2 ++ branchB keys kids) ∧ Grew B w w' := by
  have hBW : B ≤ (w.alloc (.cells #[.int .i64 2, .int .i64 ver, .int .i64 root, .int .i64 next, .slice ka keys.length kc, .slice ia kids.length ic, .slice ea ents.length ec, .string data] 28)).heap.size := by simp; omega
  have hbox := heap_new w (.cells #[.int .i64 2, .int .i64 ver, .int .i64 root, .int .i64 next, .slice ka keys.length kc, .slice ia kids.length ic, .slice ea ents.length ec, .string data] 28)
  have gW := (Grew.refl B w).alloc hB (.cells #[.int .i64 2, .int .i64 ver, .int .i64 root, .int .i64 next, .slice ka keys.length kc, .slice ia kids.length ic, .slice ea ents.length ec, .string data] 28)
  have hvW := Buf.nil (w.alloc (.cells #[.int .i64 2, .int .i64 ver, .int .i64 root, .int .i64 next, .slice ka keys.length kc, .slice ia kids.length ic, .slice ea ents.length ec, .string data] 28)) B
  have l2 : ([] ++ beB (Int.toNat 1) 2).length + (branchB keys kids).length + 8 ≤ 140737488355328 := by simp only [List.length_append, List.length_nil, beB_length]; omega
  go_enter Try.func23, Try.ntmps23
  go_wp2_with (first
    | (go_at_call 24; refine (appendNumber_z _ _ _ _ B _ (by assumption) (by assumption) (by decide) (by decide) (by simp [beB_length])).mono ?_; rintro e wn ⟨bn, rfl, hbn, gn⟩; have hxn := gn.other _ _ (by assumption) rfl; obtain ⟨e0, e1, e2, e3, e4, e5, e6, e7⟩ := box8 hxn; have Gn := Grew.trans (show Grew B w _ by assumption) gn; have hBn : B ≤ wn.heap.size := Nat.le_trans hB Gn.size; clear gn; have hKn := hK.below Gn.below; have hIn := hI.below Gn.below)
    | (go_at_call 39; refine (appendBranch_any _ _ _ _ _ _ _ _ _ _ _ _ _ _ _ _ B _ (by assumption) (by assumption) hKn hIn hkn hin l2).mono ?_; rintro e wn ⟨bn, rfl, hbn, gn⟩; have hxn := gn.other _ _ (by assumption) rfl; obtain ⟨e0, e1, e2, e3, e4, e5, e6, e7⟩ := box8 hxn; have Gn := Grew.trans (show Grew B w _ by assumption) gn; have hBn : B ≤ wn.heap.size := Nat.le_trans hB Gn.size; clear gn))
  go_ret
  exact ⟨_, rfl, by simpa using hbn, Gn⟩

set_option maxHeartbeats 1000000 in
theorem fields_over (ver root next : Int) (ka ia ea : Option Addr) (kc ic ec : Nat) (data : ByteArray) (keys : List ByteArray) (kids : List Int) (ents : List Ent) (B : Nat) (w : World) (hB : B ≤ w.heap.size) (hl : data.size + 4 ≤ 140737488355328) :
    Calls Try.prog 23 #[.agg #[.int .i64 4, .int .i64 ver, .int .i64 root, .int .i64 next, .slice ka keys.length kc, .slice ia kids.length ic, .slice ea ents.length ec, .string data]] w fun e w' => ∃ b', e = .returned b' ∧ Buf w' B b' (beB 1 4 ++ beB 2 next ++ textB data) ∧ Grew B w w' := by
  have hBW : B ≤ (w.alloc (.cells #[.int .i64 4, .int .i64 ver, .int .i64 root, .int .i64 next, .slice ka keys.length kc, .slice ia kids.length ic, .slice ea ents.length ec, .string data] 28)).heap.size := by simp; omega
  have hbox := heap_new w (.cells #[.int .i64 4, .int .i64 ver, .int .i64 root, .int .i64 next, .slice ka keys.length kc, .slice ia kids.length ic, .slice ea ents.length ec, .string data] 28)
  have gW := (Grew.refl B w).alloc hB (.cells #[.int .i64 4, .int .i64 ver, .int .i64 root, .int .i64 next, .slice ka keys.length kc, .slice ia kids.length ic, .slice ea ents.length ec, .string data] 28)
  have hvW := Buf.nil (w.alloc (.cells #[.int .i64 4, .int .i64 ver, .int .i64 root, .int .i64 next, .slice ka keys.length kc, .slice ia kids.length ic, .slice ea ents.length ec, .string data] 28)) B
  go_enter Try.func23, Try.ntmps23
  go_wp2_with (first
    | (go_at_call 24; refine (appendNumber_z _ _ _ _ B _ (by assumption) (by assumption) (by decide) (by decide) (by simp [beB_length])).mono ?_; rintro e wn ⟨bn, rfl, hbn, gn⟩; have hxn := gn.other _ _ (by assumption) rfl; obtain ⟨e0, e1, e2, e3, e4, e5, e6, e7⟩ := box8 hxn; have Gn := Grew.trans (show Grew B w _ by assumption) gn; have hBn : B ≤ wn.heap.size := Nat.le_trans hB Gn.size; clear gn)
    | (go_at_call 41; refine (appendText_any _ _ _ B _ (by assumption) (by assumption) (by simp [beB_length]; omega)).mono ?_; rintro e wn ⟨bn, rfl, hbn, gn⟩; have hxn := gn.other _ _ (by assumption) rfl; obtain ⟨e0, e1, e2, e3, e4, e5, e6, e7⟩ := box8 hxn; have Gn := Grew.trans (show Grew B w _ by assumption) gn; have hBn : B ≤ wn.heap.size := Nat.le_trans hB Gn.size; clear gn))
  go_ret
  exact ⟨_, rfl, by simpa [textB] using hbn, Gn⟩

set_option maxHeartbeats 1000000 in
theorem fields_leaf (ver root next : Int) (ka ia ea : Option Addr) (kc ic ec : Nat) (data : ByteArray) (keys : List ByteArray) (kids : List Int) (ents : List Ent) (B : Nat) (w : World) (hB : B ≤ w.heap.size) (hE : RowAt w B ea (ents.flatMap Ent.cells)) (hen : ents.length ≤ 1073741824) (hsm : ∀ e ∈ ents, e.key.size ≤ 1073741824 ∧ e.val.size ≤ 1073741824) (hl : 1 + (leafB ents).length ≤ 1407374883553) :
    Calls Try.prog 23 #[.agg #[.int .i64 3, .int .i64 ver, .int .i64 root, .int .i64 next, .slice ka keys.length kc, .slice ia kids.length ic, .slice ea ents.length ec, .string data]] w fun e w' => ∃ b', e = .returned b' ∧ Buf w' B b' (beB 1 3 ++ leafB ents) ∧ Grew B w w' := by
  have hBW : B ≤ (w.alloc (.cells #[.int .i64 3, .int .i64 ver, .int .i64 root, .int .i64 next, .slice ka keys.length kc, .slice ia kids.length ic, .slice ea ents.length ec, .string data] 28)).heap.size := by simp; omega
  have hbox := heap_new w (.cells #[.int .i64 3, .int .i64 ver, .int .i64 root, .int .i64 next, .slice ka keys.length kc, .slice ia kids.length ic, .slice ea ents.length ec, .string data] 28)
  have gW := (Grew.refl B w).alloc hB (.cells #[.int .i64 3, .int .i64 ver, .int .i64 root, .int .i64 next, .slice ka keys.length kc, .slice ia kids.length ic, .slice ea ents.length ec, .string data] 28)
  have hvW := Buf.nil (w.alloc (.cells #[.int .i64 3, .int .i64 ver, .int .i64 root, .int .i64 next, .slice ka keys.length kc, .slice ia kids.length ic, .slice ea ents.length ec, .string data] 28)) B
  go_enter Try.func23, Try.ntmps23
  go_wp2_with (go_at_call 24; refine (appendNumber_z _ _ _ _ B _ (by assumption) (by assumption) (by decide) (by decide) (by simp [beB_length])).mono ?_; rintro e wn ⟨bn, rfl, hbn, gn⟩; have hxn := gn.other _ _ (by assumption) rfl; obtain ⟨e0, e1, e2, e3, e4, e5, e6, e7⟩ := box8 hxn; have Gn := Grew.trans (show Grew B w _ by assumption) gn; have hBn : B ≤ wn.heap.size := Nat.le_trans hB Gn.size; clear gn)
  clear hvW hbox gW hBW
  go_loopw [3, 36] (fun u i wr => ∃ j : Nat, j ≤ ents.length ∧ i = .int .i64 j ∧ Buf wr B u (beB 1 3 ++ beB 1 ents.length ++ (ents.take j).flatMap Ent.bytes) ∧ Grew B w wr) (fun _ i _ => ents.length - (intOf i).toNat)
  case atStart => exact ⟨0, Nat.zero_le _, rfl, by simpa using hbn, Gn⟩
  case round =>
    clear hbn Gn hxn e0 e1 e2 e3 e4 e5 e6 e7 hBn
    obtain ⟨j, hj, rfl, hbr, gr⟩ := hrel
    have hBr : B ≤ wr.heap.size := Nat.le_trans hB gr.size
    by_cases hlt : j < ents.length
    · obtain ⟨ib, io, hia, hib, d0, d1, d2, d3⟩ := (hE.below gr.below).ent hlt
      have lj := flat_le Ent.bytes ents j hlt
      have sj := hsm ents[j] (List.getElem_mem hlt)
      have l3 : (beB 1 3 ++ beB 1 ents.length ++ (ents.take j).flatMap Ent.bytes).length + ents[j].key.size + ents[j].val.size + 20 ≤ 140737488355328 := by simp only [leafB, beB_length, List.length_append] at hl lj ⊢; omega
      subst hia
      clear hE hl hsm
      have hjw : j * 4 ≤ 4294967296 := by omega
      have hBa : ∀ o : Obj, B ≤ (wr.alloc o).heap.size := fun o => by simp; omega
      go_wp2_with (go_at_call 40; refine (appendEntry_any _ _ _ _ _ _ B _ (hbr.alloc _) (hBa _) l3).mono ?_; rintro e wn ⟨bn, rfl, hbn, gn⟩)
      have Gn := gr.trans (((Grew.refl B wr).alloc hBr _).trans gn)
      go_roundw
      case rel => exact ⟨j + 1, by omega, by go_num, by rw [flat_snoc _ _ _ hlt, ← List.append_assoc]; exact hbn, Gn⟩
      case measure => simp [intOf]; omega
    · obtain rfl : j = ents.length := by omega
      rw [List.take_length] at hbr
      clear hE hl hsm
      go_wp2
      go_ret
      exact ⟨_, rfl, by simpa [leafB] using hbr, gr⟩
end Go.Proofs.Ytjmmfpolkkglaaa.Pages
