/-
  What the reference's Encode answers of a right page that goes on: the same as page.Encode.
-/
import Derived.Test.YtjmmfpolkkglaaaRefEncA
namespace Go.Proofs.Ytjmmfpolkkglaaa.Pages
open Go.RowKit
set_option linter.unusedSimpArgs false
set_option linter.unusedVariables false

set_option maxRecDepth 100000 in
set_option maxHeartbeats 4000000 in
theorem ref_enc_4 (ver root next : Int) (ka ia ea : Option Addr) (kc ic ec : Nat) (data : ByteArray) (keys : List ByteArray) (kids : List Int) (ents : List Ent) (w : World) (hK : RowAt w w.heap.size ka (keys.map .string)) (hI : RowAt w w.heap.size ia (kids.map (.int .i64))) (hE : RowAt w w.heap.size ea (ents.flatMap Ent.cells)) (hs : Small keys kids ents data) (hr : rightB 4 ver root next keys kids ents data = true) :
    Calls Try.prog 13 #[.agg #[.int .i64 4, .int .i64 ver, .int .i64 root, .int .i64 next, .slice ka keys.length kc, .slice ia kids.length ic, .slice ea ents.length ec, .string data]] w fun e w' => e = .returned (.tuple #[.string (encS 4 ver root next keys kids ents data), .int .i64 (encE 4 ver root next keys kids ents data)]) ∧ Below w.heap.size w w' := by
  have hb := (Below.refl w.heap.size w).alloc (Nat.le_refl _) (.cells #[.int .i64 4, .int .i64 ver, .int .i64 root, .int .i64 next, .slice ka keys.length kc, .slice ia kids.length ic, .slice ea ents.length ec, .string data] 28)
  have hJ := Below.refl (w.heap.size + 1) (w.alloc (.cells #[.int .i64 4, .int .i64 ver, .int .i64 root, .int .i64 next, .slice ka keys.length kc, .slice ia kids.length ic, .slice ea ents.length ec, .string data] 28))
  have hWz : w.heap.size + 1 ≤ (w.alloc (.cells #[.int .i64 4, .int .i64 ver, .int .i64 root, .int .i64 next, .slice ka keys.length kc, .slice ia kids.length ic, .slice ea ents.length ec, .string data] 28)).heap.size := by simp
  have hKb := (hK.below hb).mono (show w.heap.size ≤ (w.alloc (.cells #[.int .i64 4, .int .i64 ver, .int .i64 root, .int .i64 next, .slice ka keys.length kc, .slice ia kids.length ic, .slice ea ents.length ec, .string data] 28)).heap.size by simp)
  have hIb := (hI.below hb).mono (show w.heap.size ≤ (w.alloc (.cells #[.int .i64 4, .int .i64 ver, .int .i64 root, .int .i64 next, .slice ka keys.length kc, .slice ia kids.length ic, .slice ea ents.length ec, .string data] 28)).heap.size by simp)
  have hEb := (hE.below hb).mono (show w.heap.size ≤ (w.alloc (.cells #[.int .i64 4, .int .i64 ver, .int .i64 root, .int .i64 next, .slice ka keys.length kc, .slice ia kids.length ic, .slice ea ents.length ec, .string data] 28)).heap.size by simp)
  have hkn := hs.nKeys
  have hin := hs.nKids
  have hen := hs.nEnts
  obtain ⟨fl, fl1⟩ := fieldsB_len (kind := 4) (ver := ver) (root := root) (next := next) hs
  obtain ⟨fs, hfs⟩ : ∃ fs, fs = fieldsB 4 ver root next keys kids ents data := ⟨_, rfl⟩
  rw [← hfs] at fl fl1
  have HF : Hid (fs = fieldsB 4 ver root next keys kids ents data) := hfs
  clear hfs
  go_enter Try.func13, Try.ntmps13
  go_upto_block 0 with (first | (go_at_call 25; refine (ref_right_any _ _ _ _ _ _ _ _ _ _ _ _ _ _ _ hKb hIb hEb hkn hin hen).mono ?_; rintro e wn ⟨rfl, hbn⟩; have hJ : Below (w.heap.size + 1) (w.alloc (.cells #[.int .i64 4, .int .i64 ver, .int .i64 root, .int .i64 next, .slice ka keys.length kc, .slice ia kids.length ic, .slice ea ents.length ec, .string data] 28)) wn := (by first | exact inv_step hJ hWz hbn | exact inv_step hJ.drew hWz hbn | exact inv_step hJ.drew.drew hWz hbn); obtain ⟨e0, e1, e2, e3, e4, e5, e6, e7⟩ := box8 ((hJ.block w.heap.size (Nat.lt_succ_self _)).trans (heap_new _ _))) | (go_at_call 26; refine (field_z _ _ _ (by decide) (by decide)).mono ?_; rintro e wn ⟨t, rfl, ht, HT, hbn⟩; have hJ : Below (w.heap.size + 1) (w.alloc (.cells #[.int .i64 4, .int .i64 ver, .int .i64 root, .int .i64 next, .slice ka keys.length kc, .slice ia kids.length ic, .slice ea ents.length ec, .string data] 28)) wn := (by first | exact inv_step hJ hWz hbn | exact inv_step hJ.drew hWz hbn | exact inv_step hJ.drew.drew hWz hbn); obtain ⟨e0, e1, e2, e3, e4, e5, e6, e7⟩ := box8 ((hJ.block w.heap.size (Nat.lt_succ_self _)).trans (heap_new _ _))))
  have hJ0 := hJ
  clear hKb hIb hEb
  go_cut [5] (fun s5 wx => ∃ s : ByteArray, s5 = .string s ∧ Hid (s = strB fs) ∧ Below (w.heap.size + 1) (w.alloc (.cells #[.int .i64 4, .int .i64 ver, .int .i64 root, .int .i64 next, .slice ka keys.length kc, .slice ia kids.length ic, .slice ea ents.length ec, .string data] 28)) wx)
  case first =>
    go_wp2
    go_region_with (first | (go_at_call 26; refine (field_z _ _ _ (by decide) (by decide)).mono ?_; rintro e wn ⟨t, rfl, ht, HT, hbn⟩; have hJ : Below (w.heap.size + 1) (w.alloc (.cells #[.int .i64 4, .int .i64 ver, .int .i64 root, .int .i64 next, .slice ka keys.length kc, .slice ia kids.length ic, .slice ea ents.length ec, .string data] 28)) wn := (by first | exact inv_step hJ hWz hbn | exact inv_step hJ.drew hWz hbn | exact inv_step hJ.drew.drew hWz hbn); obtain ⟨e0, e1, e2, e3, e4, e5, e6, e7⟩ := box8 ((hJ.block w.heap.size (Nat.lt_succ_self _)).trans (heap_new _ _))) | (go_at_call 27; refine (text_any _ _ hs.lData).mono ?_; rintro e wn ⟨t, rfl, ht, HT, hbn⟩; have hJ : Below (w.heap.size + 1) (w.alloc (.cells #[.int .i64 4, .int .i64 ver, .int .i64 root, .int .i64 next, .slice ka keys.length kc, .slice ia kids.length ic, .slice ea ents.length ec, .string data] 28)) wn := (by first | exact inv_step hJ hWz hbn | exact inv_step hJ.drew hWz hbn | exact inv_step hJ.drew.drew hWz hbn); obtain ⟨e0, e1, e2, e3, e4, e5, e6, e7⟩ := box8 ((hJ.block w.heap.size (Nat.lt_succ_self _)).trans (heap_new _ _))))
    all_goals first | (exfalso; omega) | skip
    all_goals go_wp2
    all_goals go_meet
    all_goals exact ⟨_, rfl, (cat3 (by assumption) (by assumption) (by assumption)).trans (by rw [HF.out]; simp [fieldsB]), by first | exact hJ | exact hJ.drew⟩
  case rest =>
    obtain ⟨s, rfl, HS, hJ⟩ := hcut
    have hsl : s.size = fs.length := by rw [HS.out, strB_size]
    have HB : Below w.heap.size w wc := hb.trans (hJ.mono (by omega))
    by_cases hlen : fs.length ≤ 252
    · have hsz : s.size ≤ 252 := by omega
      have HE1 : Hid (encS 4 ver root next keys kids ents data = ⟨(fullB fs).toArray⟩) := by show _ = _; unfold encS; rw [← HF.out]; simp [hr, hlen]
      have HE2 : Hid (encE 4 ver root next keys kids ents data = 0) := by show _ = _; unfold encE; rw [← HF.out]; simp [hr, hlen]
      have HSL : Hid (s.size = fs.length) := hsl
      clear hsl hlen
      have hmk := make_zeros s hsz
      have hcv := fun u : World => (zeros_buf u (252 - s.size) (by omega)).string
      go_wp2_with (first | (go_at_call 8; refine (Crc.ref_crc _ _ (pad_size s hsz)).mono ?_; rintro e w' ⟨rfl, rfl⟩) | (go_at_call 26; refine (field_z _ _ _ (by decide) (by decide)).mono ?_; rintro e wn ⟨t, rfl, ht, HT, hbn⟩))
      go_ret2
      refine ⟨ret_se (HE1.out.trans ?_).symm HE2.out.symm, HB.trans (((Below.refl _ _).alloc HB.size _).trans (hbn.mono (by have := HB.size; simp; omega)))⟩
      rw [HT.out, crc_pad, padS_eq HS.out]
      exact full_str fs
    · have hsz : ¬ s.size ≤ 252 := by omega
      have HE1 : Hid (encS 4 ver root next keys kids ents data = ⟨#[]⟩) := by show _ = _; unfold encS; rw [← HF.out]; simp [hr, hlen]
      have HE2 : Hid (encE 4 ver root next keys kids ents data = 2) := by show _ = _; unfold encE; rw [← HF.out]; simp [hr, hlen]
      clear hsl hlen
      go_wp2
      go_ret2
      exact ⟨ret_se HE1.out.symm HE2.out.symm, HB⟩
end Go.Proofs.Ytjmmfpolkkglaaa.Pages
