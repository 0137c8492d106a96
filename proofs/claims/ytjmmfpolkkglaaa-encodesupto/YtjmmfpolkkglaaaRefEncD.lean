/-
  What the reference's Encode answers of a right leaf: the same as page.Encode.
-/
import Derived.Test.YtjmmfpolkkglaaaRefEncA
namespace Go.Proofs.Ytjmmfpolkkglaaa.Pages
open Go.RowKit
set_option linter.unusedSimpArgs false
set_option linter.unusedVariables false

theorem cat4 {a b c : ByteArray} {x y z : List UInt8} (m : UInt8) (ha : Hid (a = strB x)) (hb : Hid (b = strB y)) (hc : Hid (c = strB z)) : a ++ b ++ ⟨#[m]⟩ ++ c = strB (x ++ (y ++ ([m] ++ z))) := by
  rw [cat2 ha hb, show (⟨#[m]⟩ : ByteArray) = strB [m] from rfl, strB_append, hc.out, strB_append]
  simp
theorem cat5 {a b c d : ByteArray} {x y z u : List UInt8} (m : UInt8) (ha : Hid (a = strB x)) (hb : Hid (b = strB y)) (hc : Hid (c = strB z)) (hd : Hid (d = strB u)) : a ++ b ++ ⟨#[m]⟩ ++ c ++ d = strB (x ++ (y ++ ([m] ++ z ++ u))) := by
  rw [cat4 m ha hb hc, hd.out, strB_append]
  simp
theorem ent_in {e : Ent} (h : (e.over == 0) = true) : e.bytes = textB e.key ++ ([0] ++ textB e.val) := by unfold Ent.bytes entBytes; rw [if_pos h]
theorem ent_out {e : Ent} (h : (e.over == 0) = false) : e.bytes = textB e.key ++ ([1] ++ beB 2 e.size ++ beB 2 e.over) := by unfold Ent.bytes entBytes; rw [if_neg (by simp [h])]
set_option maxRecDepth 100000 in
set_option maxHeartbeats 4000000 in
theorem ref_enc_3 (ver root next : Int) (ka ia ea : Option Addr) (kc ic ec : Nat) (data : ByteArray) (keys : List ByteArray) (kids : List Int) (ents : List Ent) (w : World) (hK : RowAt w w.heap.size ka (keys.map .string)) (hI : RowAt w w.heap.size ia (kids.map (.int .i64))) (hE : RowAt w w.heap.size ea (ents.flatMap Ent.cells)) (hs : Small keys kids ents data) (hr : rightB 3 ver root next keys kids ents data = true) :
    Calls Try.prog 13 #[.agg #[.int .i64 3, .int .i64 ver, .int .i64 root, .int .i64 next, .slice ka keys.length kc, .slice ia kids.length ic, .slice ea ents.length ec, .string data]] w fun e w' => e = .returned (.tuple #[.string (encS 3 ver root next keys kids ents data), .int .i64 (encE 3 ver root next keys kids ents data)]) ∧ Below w.heap.size w w' := by
  have hb := (Below.refl w.heap.size w).alloc (Nat.le_refl _) (.cells #[.int .i64 3, .int .i64 ver, .int .i64 root, .int .i64 next, .slice ka keys.length kc, .slice ia kids.length ic, .slice ea ents.length ec, .string data] 28)
  have hJ := Below.refl (w.heap.size + 1) (w.alloc (.cells #[.int .i64 3, .int .i64 ver, .int .i64 root, .int .i64 next, .slice ka keys.length kc, .slice ia kids.length ic, .slice ea ents.length ec, .string data] 28))
  have hWz : w.heap.size + 1 ≤ (w.alloc (.cells #[.int .i64 3, .int .i64 ver, .int .i64 root, .int .i64 next, .slice ka keys.length kc, .slice ia kids.length ic, .slice ea ents.length ec, .string data] 28)).heap.size := by simp
  have hKb := (hK.below hb).mono (show w.heap.size ≤ (w.alloc (.cells #[.int .i64 3, .int .i64 ver, .int .i64 root, .int .i64 next, .slice ka keys.length kc, .slice ia kids.length ic, .slice ea ents.length ec, .string data] 28)).heap.size by simp)
  have hIb := (hI.below hb).mono (show w.heap.size ≤ (w.alloc (.cells #[.int .i64 3, .int .i64 ver, .int .i64 root, .int .i64 next, .slice ka keys.length kc, .slice ia kids.length ic, .slice ea ents.length ec, .string data] 28)).heap.size by simp)
  have hEb := (hE.below hb).mono (show w.heap.size ≤ (w.alloc (.cells #[.int .i64 3, .int .i64 ver, .int .i64 root, .int .i64 next, .slice ka keys.length kc, .slice ia kids.length ic, .slice ea ents.length ec, .string data] 28)).heap.size by simp)
  have hkn := hs.nKeys
  have hin := hs.nKids
  have hen := hs.nEnts
  obtain ⟨fl, fl1⟩ := fieldsB_len (kind := 3) (ver := ver) (root := root) (next := next) hs
  obtain ⟨fs, hfs⟩ : ∃ fs, fs = fieldsB 3 ver root next keys kids ents data := ⟨_, rfl⟩
  rw [← hfs] at fl fl1
  have HF : Hid (fs = fieldsB 3 ver root next keys kids ents data) := hfs
  clear hfs
  go_enter Try.func13, Try.ntmps13
  go_upto_block 0 with (first | (go_at_call 25; refine (ref_right_any _ _ _ _ _ _ _ _ _ _ _ _ _ _ _ hKb hIb hEb hkn hin hen).mono ?_; rintro e wn ⟨rfl, hbn⟩; have hJ : Below (w.heap.size + 1) (w.alloc (.cells #[.int .i64 3, .int .i64 ver, .int .i64 root, .int .i64 next, .slice ka keys.length kc, .slice ia kids.length ic, .slice ea ents.length ec, .string data] 28)) wn := (by first | exact inv_step hJ hWz hbn | exact inv_step hJ.drew hWz hbn | exact inv_step hJ.drew.drew hWz hbn); obtain ⟨e0, e1, e2, e3, e4, e5, e6, e7⟩ := box8 ((hJ.block w.heap.size (Nat.lt_succ_self _)).trans (heap_new _ _))) | (go_at_call 26; refine (field_z _ _ _ (by decide) (by decide)).mono ?_; rintro e wn ⟨t, rfl, ht, HT, hbn⟩; have hJ : Below (w.heap.size + 1) (w.alloc (.cells #[.int .i64 3, .int .i64 ver, .int .i64 root, .int .i64 next, .slice ka keys.length kc, .slice ia kids.length ic, .slice ea ents.length ec, .string data] 28)) wn := (by first | exact inv_step hJ hWz hbn | exact inv_step hJ.drew hWz hbn | exact inv_step hJ.drew.drew hWz hbn); obtain ⟨e0, e1, e2, e3, e4, e5, e6, e7⟩ := box8 ((hJ.block w.heap.size (Nat.lt_succ_self _)).trans (heap_new _ _))))
  clear hKb hIb hEb
  have HF2 : Hid (fs = beB 1 3 ++ (beB 1 ents.length ++ ents.flatMap Ent.bytes)) := by show _ = _; rw [HF.out]; simp [fieldsB, leafB]
  have HT0 := HT
  go_cut [5] (fun s5 wx => ∃ s : ByteArray, s5 = .string s ∧ Hid (s = strB fs) ∧ Below (w.heap.size + 1) (w.alloc (.cells #[.int .i64 3, .int .i64 ver, .int .i64 root, .int .i64 next, .slice ka keys.length kc, .slice ia kids.length ic, .slice ea ents.length ec, .string data] 28)) wx)
  case first =>
    go_wp2_with (go_at_call 26; refine (field_z _ _ _ (by decide) (by decide)).mono ?_; rintro e wn ⟨t, rfl, ht, HT, hbn⟩; have hJ : Below (w.heap.size + 1) (w.alloc (.cells #[.int .i64 3, .int .i64 ver, .int .i64 root, .int .i64 next, .slice ka keys.length kc, .slice ia kids.length ic, .slice ea ents.length ec, .string data] 28)) wn := (by first | exact inv_step hJ hWz hbn | exact inv_step hJ.drew hWz hbn | exact inv_step hJ.drew.drew hWz hbn); obtain ⟨e0, e1, e2, e3, e4, e5, e6, e7⟩ := box8 ((hJ.block w.heap.size (Nat.lt_succ_self _)).trans (heap_new _ _)))
    go_loopw [5, 8] (fun u i wr => ∃ (j : Nat) (s : ByteArray), j ≤ ents.length ∧ i = .int .i64 j ∧ u = .string s ∧ Hid (s = strB (beB 1 3 ++ beB 1 ents.length ++ (ents.take j).flatMap Ent.bytes)) ∧ Below (w.heap.size + 1) (w.alloc (.cells #[.int .i64 3, .int .i64 ver, .int .i64 root, .int .i64 next, .slice ka keys.length kc, .slice ia kids.length ic, .slice ea ents.length ec, .string data] 28)) wr) (fun _ i _ => ents.length - (intOf i).toNat)
    case atStart => exact ⟨0, _, Nat.zero_le _, rfl, rfl, (cat2 HT0 HT).trans (by simp), hJ⟩
    case round =>
      clear hJ hbn HT ht e0 e1 e2 e3 e4 e5 e6 e7
      obtain ⟨j, s, hj, rfl, rfl, HS, hJ⟩ := hrel
      obtain ⟨e0, e1, e2, e3, e4, e5, e6, e7⟩ := box8 ((hJ.block w.heap.size (Nat.lt_succ_self _)).trans (heap_new _ _))
      by_cases hlt : j < ents.length
      · obtain ⟨ib, io, hia, hib, d0, d1, d2, d3⟩ := (hE.below (hb.trans (hJ.mono (by omega)))).ent hlt
        have hjw : j * 4 ≤ 4294967296 := by omega
        obtain ⟨hsk, hsv⟩ := hs.each ents[j] (List.getElem_mem hlt)
        have hsz : s.size ≤ 34359738400 := by
          rw [HS.out, strB_size]
          have lj := flat_le Ent.bytes ents j hlt
          rw [HF2.out] at fl
          simp only [List.length_append] at fl ⊢
          omega
        have hL := Below.refl (wr.heap.size + 1) (wr.alloc (.cells #[.string ents[j].key, .string ents[j].val, .int .i64 ents[j].size, .int .i64 ents[j].over] 52))
        have hLz : wr.heap.size + 1 ≤ (wr.alloc (.cells #[.string ents[j].key, .string ents[j].val, .int .i64 ents[j].size, .int .i64 ents[j].over] 52)).heap.size := by simp
        have hJr := hJ.size
        have HW : w.heap.size + 1 ≤ wr.heap.size := by simpa using hJr
        have HJL : ∀ wz, Below (wr.heap.size + 1) (wr.alloc (.cells #[.string ents[j].key, .string ents[j].val, .int .i64 ents[j].size, .int .i64 ents[j].over] 52)) wz → Below (w.heap.size + 1) (w.alloc (.cells #[.int .i64 3, .int .i64 ver, .int .i64 root, .int .i64 next, .slice ka keys.length kc, .slice ia kids.length ic, .slice ea ents.length ec, .string data] 28)) wz := fun wz hz => (hJ.alloc HW _).trans (hz.mono (by omega))
        subst hia
        clear hK hI hE hJr
        cases ho : (ents[j].over == 0)
        · have HE : Hid (ents[j].bytes = _) := ent_out ho
          go_wp2_with (go_at_call 27; refine (text_any _ _ (by first | exact hsk | exact hsv)).mono ?_; rintro e wn ⟨t, rfl, ht, HT, hbn⟩; have hL : Below (wr.heap.size + 1) (wr.alloc (.cells #[.string ents[j].key, .string ents[j].val, .int .i64 ents[j].size, .int .i64 ents[j].over] 52)) wn := (by first | exact inv_step hL hLz hbn | exact inv_step hL.drew hLz hbn | exact inv_step hL.drew.drew hLz hbn); obtain ⟨d0, d1, d2, d3⟩ := box4 ((hL.block wr.heap.size (Nat.lt_succ_self _)).trans (heap_new _ _)))
          go_region_with (go_at_call 26; refine (field_z _ _ _ (by decide) (by decide)).mono ?_; rintro e wn ⟨t, rfl, ht, HT, hbn⟩; have hL : Below (wr.heap.size + 1) (wr.alloc (.cells #[.string ents[j].key, .string ents[j].val, .int .i64 ents[j].size, .int .i64 ents[j].over] 52)) wn := (by first | exact inv_step hL hLz hbn | exact inv_step hL.drew hLz hbn | exact inv_step hL.drew.drew hLz hbn); obtain ⟨d0, d1, d2, d3⟩ := box4 ((hL.block wr.heap.size (Nat.lt_succ_self _)).trans (heap_new _ _)))
          all_goals first | (exfalso; omega) | skip
          all_goals go_wp2
          all_goals go_roundw
          all_goals first | exact ⟨j + 1, _, by omega, by go_num, rfl, (cat5 1 HS (by assumption) (by assumption) (by assumption)).trans (by rw [flat_snoc _ _ _ hlt, HE.out]; simp), HJL _ (by first | exact hL | exact hL.drew)⟩ | (simp [intOf]; omega)
        · have HE : Hid (ents[j].bytes = _) := ent_in ho
          go_wp2_with (go_at_call 27; refine (text_any _ _ (by first | exact hsk | exact hsv)).mono ?_; rintro e wn ⟨t, rfl, ht, HT, hbn⟩; have hL : Below (wr.heap.size + 1) (wr.alloc (.cells #[.string ents[j].key, .string ents[j].val, .int .i64 ents[j].size, .int .i64 ents[j].over] 52)) wn := (by first | exact inv_step hL hLz hbn | exact inv_step hL.drew hLz hbn | exact inv_step hL.drew.drew hLz hbn); obtain ⟨d0, d1, d2, d3⟩ := box4 ((hL.block wr.heap.size (Nat.lt_succ_self _)).trans (heap_new _ _)))
          go_roundw
          case rel => exact ⟨j + 1, _, by omega, by go_num, rfl, (cat4 0 HS (by assumption) HT).trans (by rw [flat_snoc _ _ _ hlt, HE.out]; simp), HJL _ hL⟩
          case measure => simp [intOf]; omega
      · obtain rfl : j = ents.length := by omega
        rw [List.take_length] at HS
        go_wp2
        go_meet
        exact ⟨s, rfl, HS.out.trans (by rw [HF2.out]; simp), hJ⟩
  case rest =>
    obtain ⟨s, rfl, HS, hJ⟩ := hcut
    have hsl : s.size = fs.length := by rw [HS.out, strB_size]
    have HB : Below w.heap.size w wc := hb.trans (hJ.mono (by omega))
    by_cases hlen : fs.length ≤ 252
    · have hsz : s.size ≤ 252 := by omega
      have HE1 : Hid (encS 3 ver root next keys kids ents data = ⟨(fullB fs).toArray⟩) := by show _ = _; unfold encS; rw [← HF.out]; simp [hr, hlen]
      have HE2 : Hid (encE 3 ver root next keys kids ents data = 0) := by show _ = _; unfold encE; rw [← HF.out]; simp [hr, hlen]
      have HSL : Hid (s.size = fs.length) := hsl
      clear hsl hlen
      have hmk := make_zeros s hsz
      have hcv := fun u : World => (zeros_buf u (252 - s.size) (by omega)).string
      go_wp2_with (first | (go_at_call 8; refine (Crc.ref_crc _ _ (pad_size s hsz)).mono ?_; rintro e w' ⟨rfl, rfl⟩) | (go_at_call 26; refine (field_z _ _ _ (by decide) (by decide)).mono ?_; rintro e wn ⟨t, rfl, ht, HT, hbn⟩))
      go_ret2
      refine ⟨ret_se (HE1.out.trans ?_).symm HE2.out.symm, HB.trans (((Below.refl _ _).alloc HB.size _).trans (hbn.mono (by have := HB.size; simp; omega)))⟩
      rw [HT.out, crc_pad, padS_eq HS.out]
      exact full_str fs
    · have hsz : ¬ s.size ≤ 252 := by omega
      have HE1 : Hid (encS 3 ver root next keys kids ents data = ⟨#[]⟩) := by show _ = _; unfold encS; rw [← HF.out]; simp [hr, hlen]
      have HE2 : Hid (encE 3 ver root next keys kids ents data = 2) := by show _ = _; unfold encE; rw [← HF.out]; simp [hr, hlen]
      clear hsl hlen
      go_wp2
      go_ret2
      exact ⟨ret_se HE1.out.symm HE2.out.symm, HB⟩
end Go.Proofs.Ytjmmfpolkkglaaa.Pages
