/-
  What the reference's Encode answers of a right branch: the same as page.Encode.
-/
import Derived.Test.YtjmmfpolkkglaaaRefEncA
namespace Go.Proofs.Ytjmmfpolkkglaaa.Pages
open Go.RowKit
set_option linter.unusedSimpArgs false
set_option linter.unusedVariables false

theorem branch_len (keys : List ByteArray) (kids : List Int) (j : Nat) (hj : j < keys.length) (h : (branchB keys kids).length ≤ 34359738368) : keys[j].size ≤ 34359738368 := by
  have := flat_le textB keys j hj
  simp only [branchB, textB, List.length_append, List.length_cons, List.length_nil, data_length] at h this
  omega
set_option maxRecDepth 100000 in
set_option maxHeartbeats 4000000 in
theorem ref_enc_2 (ver root next : Int) (ka ia ea : Option Addr) (kc ic ec : Nat) (data : ByteArray) (keys : List ByteArray) (kids : List Int) (ents : List Ent) (w : World) (hK : RowAt w w.heap.size ka (keys.map .string)) (hI : RowAt w w.heap.size ia (kids.map (.int .i64))) (hE : RowAt w w.heap.size ea (ents.flatMap Ent.cells)) (hs : Small keys kids ents data) (hks : ∀ (j : Nat) (hj : j < keys.length), keys[j].size ≤ 1073741824) (hr : rightB 2 ver root next keys kids ents data = true) :
    Calls Try.prog 13 #[.agg #[.int .i64 2, .int .i64 ver, .int .i64 root, .int .i64 next, .slice ka keys.length kc, .slice ia kids.length ic, .slice ea ents.length ec, .string data]] w fun e w' => e = .returned (.tuple #[.string (encS 2 ver root next keys kids ents data), .int .i64 (encE 2 ver root next keys kids ents data)]) ∧ Below w.heap.size w w' := by
  have hb := (Below.refl w.heap.size w).alloc (Nat.le_refl _) (.cells #[.int .i64 2, .int .i64 ver, .int .i64 root, .int .i64 next, .slice ka keys.length kc, .slice ia kids.length ic, .slice ea ents.length ec, .string data] 28)
  have hJ := Below.refl (w.heap.size + 1) (w.alloc (.cells #[.int .i64 2, .int .i64 ver, .int .i64 root, .int .i64 next, .slice ka keys.length kc, .slice ia kids.length ic, .slice ea ents.length ec, .string data] 28))
  have hWz : w.heap.size + 1 ≤ (w.alloc (.cells #[.int .i64 2, .int .i64 ver, .int .i64 root, .int .i64 next, .slice ka keys.length kc, .slice ia kids.length ic, .slice ea ents.length ec, .string data] 28)).heap.size := by simp
  have hKb := (hK.below hb).mono (show w.heap.size ≤ (w.alloc (.cells #[.int .i64 2, .int .i64 ver, .int .i64 root, .int .i64 next, .slice ka keys.length kc, .slice ia kids.length ic, .slice ea ents.length ec, .string data] 28)).heap.size by simp)
  have hIb := (hI.below hb).mono (show w.heap.size ≤ (w.alloc (.cells #[.int .i64 2, .int .i64 ver, .int .i64 root, .int .i64 next, .slice ka keys.length kc, .slice ia kids.length ic, .slice ea ents.length ec, .string data] 28)).heap.size by simp)
  have hEb := (hE.below hb).mono (show w.heap.size ≤ (w.alloc (.cells #[.int .i64 2, .int .i64 ver, .int .i64 root, .int .i64 next, .slice ka keys.length kc, .slice ia kids.length ic, .slice ea ents.length ec, .string data] 28)).heap.size by simp)
  have hkn := hs.nKeys
  have hin := hs.nKids
  have hen := hs.nEnts
  obtain ⟨fl, fl1⟩ := fieldsB_len (kind := 2) (ver := ver) (root := root) (next := next) hs
  obtain ⟨fs, hfs⟩ : ∃ fs, fs = fieldsB 2 ver root next keys kids ents data := ⟨_, rfl⟩
  rw [← hfs] at fl fl1
  have HF : Hid (fs = fieldsB 2 ver root next keys kids ents data) := hfs
  clear hfs
  have hkb : ∀ (j : Nat) (hj : j < keys.length), keys[j].size ≤ 1073741824 := hks
  go_enter Try.func13, Try.ntmps13
  go_upto_block 0 with (first | (go_at_call 25; refine (ref_right_any _ _ _ _ _ _ _ _ _ _ _ _ _ _ _ hKb hIb hEb hkn hin hen).mono ?_; rintro e wn ⟨rfl, hbn⟩; have hJ : Below (w.heap.size + 1) (w.alloc (.cells #[.int .i64 2, .int .i64 ver, .int .i64 root, .int .i64 next, .slice ka keys.length kc, .slice ia kids.length ic, .slice ea ents.length ec, .string data] 28)) wn := (by first | exact inv_step hJ hWz hbn | exact inv_step hJ.drew hWz hbn | exact inv_step hJ.drew.drew hWz hbn); obtain ⟨e0, e1, e2, e3, e4, e5, e6, e7⟩ := box8 ((hJ.block w.heap.size (Nat.lt_succ_self _)).trans (heap_new _ _))) | (go_at_call 26; refine (field_z _ _ _ (by decide) (by decide)).mono ?_; rintro e wn ⟨t, rfl, ht, HT, hbn⟩; have hJ : Below (w.heap.size + 1) (w.alloc (.cells #[.int .i64 2, .int .i64 ver, .int .i64 root, .int .i64 next, .slice ka keys.length kc, .slice ia kids.length ic, .slice ea ents.length ec, .string data] 28)) wn := (by first | exact inv_step hJ hWz hbn | exact inv_step hJ.drew hWz hbn | exact inv_step hJ.drew.drew hWz hbn); obtain ⟨e0, e1, e2, e3, e4, e5, e6, e7⟩ := box8 ((hJ.block w.heap.size (Nat.lt_succ_self _)).trans (heap_new _ _))))
  clear hKb hIb hEb
  have HF2 : Hid (fs = beB 1 2 ++ (beB 1 keys.length ++ kids.flatMap (beB 2) ++ keys.flatMap textB)) := by show _ = _; rw [HF.out]; simp [fieldsB, branchB]
  have HT0 := HT
  go_cut [5] (fun s5 wx => ∃ s : ByteArray, s5 = .string s ∧ Hid (s = strB fs) ∧ Below (w.heap.size + 1) (w.alloc (.cells #[.int .i64 2, .int .i64 ver, .int .i64 root, .int .i64 next, .slice ka keys.length kc, .slice ia kids.length ic, .slice ea ents.length ec, .string data] 28)) wx)
  case first =>
    go_wp2_with (go_at_call 26; refine (field_z _ _ _ (by decide) (by decide)).mono ?_; rintro e wn ⟨t, rfl, ht, HT, hbn⟩; have hJ : Below (w.heap.size + 1) (w.alloc (.cells #[.int .i64 2, .int .i64 ver, .int .i64 root, .int .i64 next, .slice ka keys.length kc, .slice ia kids.length ic, .slice ea ents.length ec, .string data] 28)) wn := (by first | exact inv_step hJ hWz hbn | exact inv_step hJ.drew hWz hbn | exact inv_step hJ.drew.drew hWz hbn); obtain ⟨e0, e1, e2, e3, e4, e5, e6, e7⟩ := box8 ((hJ.block w.heap.size (Nat.lt_succ_self _)).trans (heap_new _ _)))
    go_loopw [5, 6] (fun u i wr => ∃ (j : Nat) (s : ByteArray), j ≤ kids.length ∧ i = .int .i64 j ∧ u = .string s ∧ Hid (s = strB (beB 1 2 ++ beB 1 keys.length ++ (kids.take j).flatMap (beB 2))) ∧ s.size ≤ 16 + 8 * j ∧ Below (w.heap.size + 1) (w.alloc (.cells #[.int .i64 2, .int .i64 ver, .int .i64 root, .int .i64 next, .slice ka keys.length kc, .slice ia kids.length ic, .slice ea ents.length ec, .string data] 28)) wr) (fun _ i _ => kids.length - (intOf i).toNat)
    case atStart => exact ⟨0, _, Nat.zero_le _, rfl, rfl, (cat2 HT0 HT).trans (by simp), by rw [ByteArray.size_append]; omega, hJ⟩
    case round =>
      clear hJ hbn HT ht e0 e1 e2 e3 e4 e5 e6 e7
      obtain ⟨j, s, hj, rfl, rfl, HS, hsz, hJ⟩ := hrel
      obtain ⟨e0, e1, e2, e3, e4, e5, e6, e7⟩ := box8 ((hJ.block w.heap.size (Nat.lt_succ_self _)).trans (heap_new _ _))
      by_cases hlt : j < kids.length
      · obtain ⟨ib, io, hia, hib, hic⟩ := (hI.below (hb.trans (hJ.mono (by omega)))).at hlt
        subst hia
        clear hK hI hE
        go_wp2_with (go_at_call 26; refine (field_z _ _ _ (by decide) (by decide)).mono ?_; rintro e wn ⟨t, rfl, ht, HT, hbn⟩; have hJ : Below (w.heap.size + 1) (w.alloc (.cells #[.int .i64 2, .int .i64 ver, .int .i64 root, .int .i64 next, .slice ka keys.length kc, .slice (some ⟨ib, io, none⟩) kids.length ic, .slice ea ents.length ec, .string data] 28)) wn := (by first | exact inv_step hJ hWz hbn | exact inv_step hJ.drew hWz hbn | exact inv_step hJ.drew.drew hWz hbn); obtain ⟨e0, e1, e2, e3, e4, e5, e6, e7⟩ := box8 ((hJ.block w.heap.size (Nat.lt_succ_self _)).trans (heap_new _ _)))
        go_roundw
        case rel => exact ⟨j + 1, _, by omega, by go_num, rfl, (cat2 HS HT).trans (by rw [flat_snoc _ _ _ hlt, ← List.append_assoc]; rfl), by rw [ByteArray.size_append]; omega, hJ⟩
        case measure => simp [intOf]; omega
      · obtain rfl : j = kids.length := by omega
        rw [List.take_length] at HS
        go_wp2
        go_loopw [5, 7] (fun u i wr => ∃ (j : Nat) (s : ByteArray), j ≤ keys.length ∧ i = .int .i64 j ∧ u = .string s ∧ Hid (s = strB (beB 1 2 ++ beB 1 keys.length ++ kids.flatMap (beB 2) ++ (keys.take j).flatMap textB)) ∧ Below (w.heap.size + 1) (w.alloc (.cells #[.int .i64 2, .int .i64 ver, .int .i64 root, .int .i64 next, .slice ka keys.length kc, .slice ia kids.length ic, .slice ea ents.length ec, .string data] 28)) wr) (fun _ i _ => keys.length - (intOf i).toNat)
        case atStart => exact ⟨0, _, Nat.zero_le _, rfl, rfl, by simpa using HS, hJ⟩
        case round =>
          clear hJ HS hsz hj hlt e0 e1 e2 e3 e4 e5 e6 e7
          obtain ⟨j, s, hj, rfl, rfl, HS, hJ⟩ := hrel
          obtain ⟨e0, e1, e2, e3, e4, e5, e6, e7⟩ := box8 ((hJ.block w.heap.size (Nat.lt_succ_self _)).trans (heap_new _ _))
          by_cases hlt : j < keys.length
          · obtain ⟨kb, ko, hka, hkb', hkc⟩ := (hK.below (hb.trans (hJ.mono (by omega)))).at hlt
            have hkj := hks j hlt
            have hsz : s.size ≤ 34359738400 := by
              rw [HS.out, strB_size]
              have lj := flat_le textB keys j hlt
              rw [HF2.out] at fl
              simp only [List.length_append] at fl ⊢
              omega
            subst hka
            clear hK hI hE
            go_wp2_with (go_at_call 27; refine (text_any _ _ hkj).mono ?_; rintro e wn ⟨t, rfl, ht, HT, hbn⟩; have hJ : Below (w.heap.size + 1) (w.alloc (.cells #[.int .i64 2, .int .i64 ver, .int .i64 root, .int .i64 next, .slice (some ⟨kb, ko, none⟩) keys.length kc, .slice ia kids.length ic, .slice ea ents.length ec, .string data] 28)) wn := (by first | exact inv_step hJ hWz hbn | exact inv_step hJ.drew hWz hbn | exact inv_step hJ.drew.drew hWz hbn); obtain ⟨e0, e1, e2, e3, e4, e5, e6, e7⟩ := box8 ((hJ.block w.heap.size (Nat.lt_succ_self _)).trans (heap_new _ _)))
            go_roundw
            case rel => exact ⟨j + 1, _, by omega, by go_num, rfl, (cat2 HS HT).trans (by rw [flat_snoc _ _ _ hlt, ← List.append_assoc]), hJ⟩
            case measure => simp [intOf]; omega
          · obtain rfl : j = keys.length := by omega
            rw [List.take_length] at HS
            go_wp2
            go_meet
            exact ⟨s, rfl, HS.out.trans (by rw [HF2.out]; simp), hJ⟩
  case rest =>
    obtain ⟨s, rfl, HS, hJ⟩ := hcut
    have hsl : s.size = fs.length := by rw [HS.out, strB_size]
    have HB : Below w.heap.size w wc := hb.trans (hJ.mono (by omega))
    by_cases hlen : fs.length ≤ 252
    · have hsz : s.size ≤ 252 := by omega
      have HE1 : Hid (encS 2 ver root next keys kids ents data = ⟨(fullB fs).toArray⟩) := by show _ = _; unfold encS; rw [← HF.out]; simp [hr, hlen]
      have HE2 : Hid (encE 2 ver root next keys kids ents data = 0) := by show _ = _; unfold encE; rw [← HF.out]; simp [hr, hlen]
      have HSL : Hid (s.size = fs.length) := hsl
      clear hsl hlen
      have hmk := make_zeros s hsz
      have hcv := fun u : World => (zeros_buf u (252 - s.size) (by omega)).string
      go_wp2_with (first | (go_at_call 8; refine (Crc.ref_crc _ _ (pad_size s hsz)).mono ?_; rintro e w' ⟨rfl, rfl⟩) | (go_at_call 26; refine (field_z _ _ _ (by decide) (by decide)).mono ?_; rintro e wn ⟨t, rfl, ht, HT, hbn⟩))
      go_ret2
      refine ⟨ret_se (HE1.out.trans ?_).symm HE2.out.symm, HB.trans (((Below.refl _ _).alloc HB.size _).trans (hbn.mono (by have := HB.size; simp; omega)))⟩
      rw [HT.out, crc_pad, padS_eq HS.out]
      exact full_str fs
    · have hsz : ¬ s.size ≤ 252 := by omega
      have HE1 : Hid (encS 2 ver root next keys kids ents data = ⟨#[]⟩) := by show _ = _; unfold encS; rw [← HF.out]; simp [hr, hlen]
      have HE2 : Hid (encE 2 ver root next keys kids ents data = 2) := by show _ = _; unfold encE; rw [← HF.out]; simp [hr, hlen]
      clear hsl hlen
      go_wp2
      go_ret2
      exact ⟨ret_se HE1.out.symm HE2.out.symm, HB⟩
end Go.Proofs.Ytjmmfpolkkglaaa.Pages
