/-
  What the reference's Encode answers of a right page: the same as page.Encode.
-/
import Derived.Test.YtjmmfpolkkglaaaRefRightC
import Derived.Deep.RegionWith
import Derived.Deep.CutBlock
namespace Go.Proofs.Ytjmmfpolkkglaaa.Pages
open Go.RowKit
set_option linter.unusedSimpArgs false
set_option linter.unusedVariables false

theorem inv_step {B : Nat} {W a wn : World} (hJ : Below B W a) (hW : B ≤ W.heap.size) (hbn : Below a.heap.size a wn) : Below B W wn := hJ.trans (hbn.mono (Nat.le_trans hW hJ.size))
def zeroA (m : Nat) : Array Value := madeCells #[Value.int .u8 0] m
theorem zeros_buf (u : World) (m : Nat) (hm : m ≤ 252) : Buf (u.alloc (.cells (zeroA m) 5)) u.heap.size (.slice (some ⟨u.heap.size, 0, none⟩) m m) (List.replicate m 0) := by
  have hz : zeroA m = ((List.replicate m (0 : UInt8)).map byteV).toArray := by
    unfold zeroA
    apply Array.ext
    · simp [madeCells]
    · intro i h1 h2
      simp [madeCells, byteV, Nat.mod_one]
  refine ⟨by simp, .inr ⟨u.heap.size, m, zeroA m, by rw [List.length_replicate], Nat.le_refl _, heap_new _ _, by rw [List.length_replicate]; exact Nat.le_refl _, by unfold maxLen; omega, by rw [hz]; simp, ?_⟩⟩
  rw [hz]
  simp
theorem make_zeros (s : ByteArray) (hs : s.size ≤ 252) (u : World) : (Instr.makeSlice 43 (.int .i64 (252 - (s.size : Int))) (.int .i64 (252 - (s.size : Int)))).run Try.prog u =
    .ok (.slice (some ⟨u.heap.size, 0, none⟩) (252 - s.size) (252 - s.size)) (u.alloc (.cells (zeroA (252 - s.size)) 5)) := by
  obtain ⟨i0, hi, hz0, hz1, hz2⟩ := info_parts info8
  have h := run_make (P := Try.prog) u 43 5 i0 (.int .u8 0) Try.underlying43 hi hz0 .i64 .i64 (252 - (s.size : Int)) (252 - (s.size : Int)) (by omega) (Int.le_refl _) (by rw [hz2]; omega) (by omega)
  have e : (252 - (s.size : Int)).toNat = 252 - s.size := by omega
  rw [e] at h
  simpa [hz1, Value.cells, zeroA] using h
def padS (s : ByteArray) : ByteArray := s ++ ⟨(List.replicate (252 - s.size) (0 : UInt8)).toArray⟩
theorem crc_pad (s : ByteArray) : s ++ ⟨Array.replicate (252 - s.size) (0 : UInt8)⟩ = padS s := by unfold padS; simp
theorem padS_eq {s : ByteArray} {fs : List UInt8} (h : s = strB fs) : padS s = strB (padB fs) := by
  subst h
  unfold padS padB
  rw [strB_size, ← strB_append]; rfl
theorem pad_size (s : ByteArray) (hs : s.size ≤ 252) : (padS s).size ≤ maxLen := by
  rw [padS_eq (strB_data s).symm, strB_size, padB_len (by rw [data_length]; omega)]; decide

theorem full_str (fs : List UInt8) : (⟨(fullB fs).toArray⟩ : ByteArray) = strB (padB fs) ++ strB (beB (Int.toNat 4) (Crc.crc (strB (padB fs)).data.toList : Nat)) := by
  rw [strB_append]
  show strB (fullB fs) = _
  rfl
theorem cat2 {a b : ByteArray} {x y : List UInt8} (ha : Hid (a = strB x)) (hb : Hid (b = strB y)) : a ++ b = strB (x ++ y) := by rw [ha.out, hb.out, strB_append]
theorem cat3 {a b c : ByteArray} {x y z : List UInt8} (ha : Hid (a = strB x)) (hb : Hid (b = strB y)) (hc : Hid (c = strB z)) : a ++ b ++ c = strB (x ++ y ++ z) := by rw [cat2 ha hb, hc.out, strB_append]

set_option maxRecDepth 100000 in
set_option maxHeartbeats 4000000 in
theorem ref_enc_1 (ver root next : Int) (ka ia ea : Option Addr) (kc ic ec : Nat) (data : ByteArray) (keys : List ByteArray) (kids : List Int) (ents : List Ent) (w : World) (hK : RowAt w w.heap.size ka (keys.map .string)) (hI : RowAt w w.heap.size ia (kids.map (.int .i64))) (hE : RowAt w w.heap.size ea (ents.flatMap Ent.cells)) (hs : Small keys kids ents data) (hr : rightB 1 ver root next keys kids ents data = true) :
    Calls Try.prog 13 #[.agg #[.int .i64 1, .int .i64 ver, .int .i64 root, .int .i64 next, .slice ka keys.length kc, .slice ia kids.length ic, .slice ea ents.length ec, .string data]] w fun e w' => e = .returned (.tuple #[.string (encS 1 ver root next keys kids ents data), .int .i64 (encE 1 ver root next keys kids ents data)]) ∧ Below w.heap.size w w' := by
  have hb := (Below.refl w.heap.size w).alloc (Nat.le_refl _) (.cells #[.int .i64 1, .int .i64 ver, .int .i64 root, .int .i64 next, .slice ka keys.length kc, .slice ia kids.length ic, .slice ea ents.length ec, .string data] 28)
  have hJ := Below.refl (w.heap.size + 1) (w.alloc (.cells #[.int .i64 1, .int .i64 ver, .int .i64 root, .int .i64 next, .slice ka keys.length kc, .slice ia kids.length ic, .slice ea ents.length ec, .string data] 28))
  have hWz : w.heap.size + 1 ≤ (w.alloc (.cells #[.int .i64 1, .int .i64 ver, .int .i64 root, .int .i64 next, .slice ka keys.length kc, .slice ia kids.length ic, .slice ea ents.length ec, .string data] 28)).heap.size := by simp
  have hKb := (hK.below hb).mono (show w.heap.size ≤ (w.alloc (.cells #[.int .i64 1, .int .i64 ver, .int .i64 root, .int .i64 next, .slice ka keys.length kc, .slice ia kids.length ic, .slice ea ents.length ec, .string data] 28)).heap.size by simp)
  have hIb := (hI.below hb).mono (show w.heap.size ≤ (w.alloc (.cells #[.int .i64 1, .int .i64 ver, .int .i64 root, .int .i64 next, .slice ka keys.length kc, .slice ia kids.length ic, .slice ea ents.length ec, .string data] 28)).heap.size by simp)
  have hEb := (hE.below hb).mono (show w.heap.size ≤ (w.alloc (.cells #[.int .i64 1, .int .i64 ver, .int .i64 root, .int .i64 next, .slice ka keys.length kc, .slice ia kids.length ic, .slice ea ents.length ec, .string data] 28)).heap.size by simp)
  have hkn := hs.nKeys
  have hin := hs.nKids
  have hen := hs.nEnts
  obtain ⟨fl, fl1⟩ := fieldsB_len (kind := 1) (ver := ver) (root := root) (next := next) hs
  obtain ⟨fs, hfs⟩ : ∃ fs, fs = fieldsB 1 ver root next keys kids ents data := ⟨_, rfl⟩
  rw [← hfs] at fl fl1
  have HF : Hid (fs = fieldsB 1 ver root next keys kids ents data) := hfs
  clear hfs
  go_enter Try.func13, Try.ntmps13
  go_upto_block 0 with (first | (go_at_call 25; refine (ref_right_any _ _ _ _ _ _ _ _ _ _ _ _ _ _ _ hKb hIb hEb hkn hin hen).mono ?_; rintro e wn ⟨rfl, hbn⟩; have hJ : Below (w.heap.size + 1) (w.alloc (.cells #[.int .i64 1, .int .i64 ver, .int .i64 root, .int .i64 next, .slice ka keys.length kc, .slice ia kids.length ic, .slice ea ents.length ec, .string data] 28)) wn := (by first | exact inv_step hJ hWz hbn | exact inv_step hJ.drew hWz hbn | exact inv_step hJ.drew.drew hWz hbn); obtain ⟨e0, e1, e2, e3, e4, e5, e6, e7⟩ := box8 ((hJ.block w.heap.size (Nat.lt_succ_self _)).trans (heap_new _ _))) | (go_at_call 26; refine (field_z _ _ _ (by decide) (by decide)).mono ?_; rintro e wn ⟨t, rfl, ht, HT, hbn⟩; have hJ : Below (w.heap.size + 1) (w.alloc (.cells #[.int .i64 1, .int .i64 ver, .int .i64 root, .int .i64 next, .slice ka keys.length kc, .slice ia kids.length ic, .slice ea ents.length ec, .string data] 28)) wn := (by first | exact inv_step hJ hWz hbn | exact inv_step hJ.drew hWz hbn | exact inv_step hJ.drew.drew hWz hbn); obtain ⟨e0, e1, e2, e3, e4, e5, e6, e7⟩ := box8 ((hJ.block w.heap.size (Nat.lt_succ_self _)).trans (heap_new _ _))))
  have hJ0 := hJ
  clear hKb hIb hEb
  go_cut [5] (fun s5 wx => ∃ s : ByteArray, s5 = .string s ∧ Hid (s = strB fs) ∧ Below (w.heap.size + 1) (w.alloc (.cells #[.int .i64 1, .int .i64 ver, .int .i64 root, .int .i64 next, .slice ka keys.length kc, .slice ia kids.length ic, .slice ea ents.length ec, .string data] 28)) wx)
  case first =>
    go_wp2
    go_region_with (go_at_call 26; refine (field_z _ _ _ (by decide) (by decide)).mono ?_; rintro e wn ⟨t, rfl, ht, HT, hbn⟩; have hJ : Below (w.heap.size + 1) (w.alloc (.cells #[.int .i64 1, .int .i64 ver, .int .i64 root, .int .i64 next, .slice ka keys.length kc, .slice ia kids.length ic, .slice ea ents.length ec, .string data] 28)) wn := (by first | exact inv_step hJ hWz hbn | exact inv_step hJ.drew hWz hbn | exact inv_step hJ.drew.drew hWz hbn); obtain ⟨e0, e1, e2, e3, e4, e5, e6, e7⟩ := box8 ((hJ.block w.heap.size (Nat.lt_succ_self _)).trans (heap_new _ _)))
    all_goals first | (exfalso; omega) | skip
    all_goals go_wp2
    all_goals go_meet
    all_goals exact ⟨_, rfl, (cat3 (by assumption) (by assumption) (by assumption)).trans (by rw [HF.out]; simp [fieldsB]), by first | exact hJ | exact hJ.drew⟩
  case rest =>
    obtain ⟨s, rfl, HS, hJ⟩ := hcut
    have hsl : s.size = fs.length := by rw [HS.out, strB_size]
    have HB : Below w.heap.size w wc := hb.trans (hJ.mono (by omega))
    by_cases hlen : fs.length ≤ 252
    · have hsz : s.size ≤ 252 := by omega
      have HE1 : Hid (encS 1 ver root next keys kids ents data = ⟨(fullB fs).toArray⟩) := by show _ = _; unfold encS; rw [← HF.out]; simp [hr, hlen]
      have HE2 : Hid (encE 1 ver root next keys kids ents data = 0) := by show _ = _; unfold encE; rw [← HF.out]; simp [hr, hlen]
      have HSL : Hid (s.size = fs.length) := hsl
      clear hsl hlen
      have hmk := make_zeros s hsz
      have hcv := fun u : World => (zeros_buf u (252 - s.size) (by omega)).string
      go_wp2_with (first | (go_at_call 8; refine (Crc.ref_crc _ _ (pad_size s hsz)).mono ?_; rintro e w' ⟨rfl, rfl⟩) | (go_at_call 26; refine (field_z _ _ _ (by decide) (by decide)).mono ?_; rintro e wn ⟨t, rfl, ht, HT, hbn⟩))
      go_ret2
      refine ⟨ret_se (HE1.out.trans ?_).symm HE2.out.symm, HB.trans (((Below.refl _ _).alloc HB.size _).trans (hbn.mono (by have := HB.size; simp; omega)))⟩
      rw [HT.out, crc_pad, padS_eq HS.out]
      exact full_str fs
    · have hsz : ¬ s.size ≤ 252 := by omega
      have HE1 : Hid (encS 1 ver root next keys kids ents data = ⟨#[]⟩) := by show _ = _; unfold encS; rw [← HF.out]; simp [hr, hlen]
      have HE2 : Hid (encE 1 ver root next keys kids ents data = 2) := by show _ = _; unfold encE; rw [← HF.out]; simp [hr, hlen]
      clear hsl hlen
      go_wp2
      go_ret2
      exact ⟨ret_se HE1.out.symm HE2.out.symm, HB⟩
end Go.Proofs.Ytjmmfpolkkglaaa.Pages
