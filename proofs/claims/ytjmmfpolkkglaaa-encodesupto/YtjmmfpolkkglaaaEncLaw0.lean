/-
  The reference's Encode of any page; the document's example.
-/
import Derived.Test.YtjmmfpolkkglaaaSame
import Derived.Test.YtjmmfpolkkglaaaRefEncB
import Derived.Test.YtjmmfpolkkglaaaRefEncC
import Derived.Test.YtjmmfpolkkglaaaRefEncD
namespace Go.Proofs.Ytjmmfpolkkglaaa.Pages
open Go.RowKit
set_option linter.unusedSimpArgs false
set_option linter.unusedVariables false

set_option maxRecDepth 100000 in
set_option maxHeartbeats 2000000 in
theorem ref_encode_any (kind ver root next : Int) (ka ia ea : Option Addr) (kc ic ec : Nat) (data : ByteArray) (keys : List ByteArray) (kids : List Int) (ents : List Ent) (w : World)
    (hK : RowAt w w.heap.size ka (keys.map .string)) (hI : RowAt w w.heap.size ia (kids.map (.int .i64))) (hE : RowAt w w.heap.size ea (ents.flatMap Ent.cells)) (hs : Small keys kids ents data) (hks : ∀ (j : Nat) (hj : j < keys.length), keys[j].size ≤ 1073741824) :
    Calls Try.prog 13 #[.agg #[.int .i64 kind, .int .i64 ver, .int .i64 root, .int .i64 next, .slice ka keys.length kc, .slice ia kids.length ic, .slice ea ents.length ec, .string data]] w fun e w' => e = .returned (.tuple #[.string (encS kind ver root next keys kids ents data), .int .i64 (encE kind ver root next keys kids ents data)]) ∧ Below w.heap.size w w' := by
  cases hr : rightB kind ver root next keys kids ents data
  · have hb := (Below.refl w.heap.size w).alloc (Nat.le_refl _) (Obj.cells #[.int .i64 kind, .int .i64 ver, .int .i64 root, .int .i64 next, .slice ka keys.length kc, .slice ia kids.length ic, .slice ea ents.length ec, .string data] 28)
    have hKb := (hK.below hb).mono (show w.heap.size ≤ (w.alloc (Obj.cells #[.int .i64 kind, .int .i64 ver, .int .i64 root, .int .i64 next, .slice ka keys.length kc, .slice ia kids.length ic, .slice ea ents.length ec, .string data] 28)).heap.size by simp)
    have hIb := (hI.below hb).mono (show w.heap.size ≤ (w.alloc (Obj.cells #[.int .i64 kind, .int .i64 ver, .int .i64 root, .int .i64 next, .slice ka keys.length kc, .slice ia kids.length ic, .slice ea ents.length ec, .string data] 28)).heap.size by simp)
    have hEb := (hE.below hb).mono (show w.heap.size ≤ (w.alloc (Obj.cells #[.int .i64 kind, .int .i64 ver, .int .i64 root, .int .i64 next, .slice ka keys.length kc, .slice ia kids.length ic, .slice ea ents.length ec, .string data] 28)).heap.size by simp)
    have hkn := hs.nKeys
    have hin := hs.nKids
    have hen := hs.nEnts
    have HS : Hid (encS kind ver root next keys kids ents data = ⟨#[]⟩) := by show _ = _; simp [encS, hr]
    have HE : Hid (encE kind ver root next keys kids ents data = 2) := by show _ = _; simp [encE, hr]
    go_enter Try.func13, Try.ntmps13
    go_wp2_with (go_at_call 25; refine (ref_right_any _ _ _ _ _ _ _ _ _ _ _ _ _ _ _ hKb hIb hEb hkn hin hen).mono ?_; rintro e wn ⟨rfl, hbn⟩)
    go_ret2
    exact ⟨ret_se HS.out.symm HE.out.symm, hb.trans (hbn.mono (by simp))⟩
  · rcases rightB_kind hr with rfl | rfl | rfl | rfl
    · exact ref_enc_1 ver root next ka ia ea kc ic ec data keys kids ents w hK hI hE hs hr
    · exact ref_enc_2 ver root next ka ia ea kc ic ec data keys kids ents w hK hI hE hs hks hr
    · exact ref_enc_3 ver root next ka ia ea kc ic ec data keys kids ents w hK hI hE hs hr
    · exact ref_enc_4 ver root next ka ia ea kc ic ec data keys kids ents w hK hI hE hs hr

theorem heap_lt (u : World) (o : Obj) : u.heap.size < (u.alloc o).heap.size := by simp
theorem small_none : Small [] [] [] ⟨#[]⟩ := ⟨by simp, by simp, by simp, by simp, by simp [branchB, beB], by simp [leafB, beB], by decide⟩
theorem strB_take (l : List UInt8) (k : Nat) : (strB l).extract 0 k = strB (l.take k) := by
  apply ByteArray.ext
  rw [ByteArray.data_extract]
  simp [strB]
theorem first_right : rightB 1 1 2 0 [] [] [] ⟨#[]⟩ = true := by
  simp [rightB, noBranch, noLeaf, noOver, toList_nil, metaB, placeB]
theorem first_fields : fieldsB 1 1 2 0 [] [] [] ⟨#[]⟩ = [1, 0, 0, 0, 0, 0, 0, 0, 1, 0, 2] := by
  unfold fieldsB
  rw [if_pos rfl]
  decide +kernel
theorem first_enc : encS 1 1 2 0 [] [] [] ⟨#[]⟩ = strB (fullB [1, 0, 0, 0, 0, 0, 0, 0, 1, 0, 2]) := by
  unfold encS
  rw [first_fields, first_right]
  rfl
theorem first_s : (encS 1 1 2 0 [] [] [] ⟨#[]⟩).size = 256 ∧ (encS 1 1 2 0 [] [] [] ⟨#[]⟩).extract 0 11 = ⟨#[1, 0, 0, 0, 0, 0, 0, 0, 1, 0, 2]⟩ := by
  rw [first_enc]
  constructor
  · rw [strB_size]
    unfold fullB
    rw [List.length_append, padB_len (by decide), beB_length]
  · rw [strB_take]
    unfold fullB padB
    rw [List.append_assoc]
    exact congrArg strB (List.take_left (l₁ := [1, 0, 0, 0, 0, 0, 0, 0, 1, 0, 2]))
theorem first_e : encE 1 1 2 0 [] [] [] ⟨#[]⟩ = 0 := by
  unfold encE
  rw [first_fields, first_right]
  rfl
set_option maxRecDepth 100000 in
set_option maxHeartbeats 1000000 in
theorem first_any (w : World) : Calls Try.prog 9 #[] w fun e w' => e = .returned (.bool true) ∧ Below w.heap.size w w' := by
  have hen := encode_any 1 1 2 0 none none none 0 0 0 ⟨#[]⟩ [] [] [] w (.inl rfl) (.inl rfl) (.inl rfl) small_none
  obtain ⟨h1, h2⟩ := first_s
  have h3 := first_e
  obtain ⟨S, hS⟩ : ∃ S, S = encS 1 1 2 0 [] [] [] ⟨#[]⟩ := ⟨_, rfl⟩
  rw [← hS] at h1 h2 hen
  rw [h3] at hen
  simp only [List.length_nil] at hen
  clear hS h3
  go_enter Try.func9, Try.ntmps9
  go_wp2_with (go_at_call 11; refine hen.mono ?_; rintro e wn ⟨rfl, hbn⟩)
  go_ret
  exact ⟨rfl, hbn⟩
end Go.Proofs.Ytjmmfpolkkglaaa.Pages
