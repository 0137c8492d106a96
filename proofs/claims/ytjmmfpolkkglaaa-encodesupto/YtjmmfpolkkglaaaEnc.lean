/-
  What page.Encode answers.
-/
import Derived.Test.YtjmmfpolkkglaaaRight2
import Derived.Test.YtjmmfpolkkglaaaZeros
import Derived.Test.YtjmmfpolkkglaaaCrcWalks
namespace Go.Proofs.Ytjmmfpolkkglaaa.Pages
open Go.RowKit
set_option linter.unusedSimpArgs false

def fieldsB (kind ver root next : Int) (keys : List ByteArray) (kids : List Int) (ents : List Ent) (data : ByteArray) : List UInt8 :=
  if kind = 1 then beB 1 1 ++ beB 8 ver ++ beB 2 root
  else if kind = 2 then beB 1 2 ++ branchB keys kids
  else if kind = 3 then beB 1 3 ++ leafB ents
  else beB 1 4 ++ beB 2 next ++ textB data
def padB (bs : List UInt8) : List UInt8 := bs ++ List.replicate (252 - bs.length) 0
def fullB (bs : List UInt8) : List UInt8 := padB bs ++ beB 4 (Crc.crc (padB bs) : Nat)
def encS (kind ver root next : Int) (keys : List ByteArray) (kids : List Int) (ents : List Ent) (data : ByteArray) : ByteArray :=
  if (rightB kind ver root next keys kids ents data && decide ((fieldsB kind ver root next keys kids ents data).length ≤ 252)) = true then ⟨(fullB (fieldsB kind ver root next keys kids ents data)).toArray⟩ else ⟨#[]⟩
def encE (kind ver root next : Int) (keys : List ByteArray) (kids : List Int) (ents : List Ent) (data : ByteArray) : Int :=
  if (rightB kind ver root next keys kids ents data && decide ((fieldsB kind ver root next keys kids ents data).length ≤ 252)) = true then 0 else 2

/-- how great the page's lists may be -/
structure Small (keys : List ByteArray) (kids : List Int) (ents : List Ent) (data : ByteArray) : Prop where
  nKeys : keys.length ≤ 1073741824
  nKids : kids.length ≤ 1073741824
  nEnts : ents.length ≤ 1073741824
  each : ∀ e ∈ ents, e.key.size ≤ 1073741824 ∧ e.val.size ≤ 1073741824
  lBranch : (branchB keys kids).length ≤ 34359738368
  lLeaf : (leafB ents).length ≤ 34359738368
  lData : data.size ≤ 1073741824

theorem Buf.string {w : World} {B : Nat} {v : Value} {bs : List UInt8} (h : Buf w B v bs) : (convert 43 9 v).run Try.prog w = .ok (.string ⟨bs.toArray⟩) w := by
  obtain ⟨hx1, hx2⟩ := id h
  rcases hx2 with ⟨rfl, h0⟩ | ⟨g, cap, cur, rfl, hbg, hg, hnc, hcm, hcs, htake⟩
  · obtain rfl := List.eq_nil_of_length_eq_zero h0
    exact run_convert_bytes_nil w 43 5 Try.underlying43 Try.underlying5 0 0 9 Try.underlying9
  · refine run_convert_bytes_back w 43 9 5 ⟨g, 0, none⟩ cap bs Try.underlying43 Try.underlying5 Try.underlying9 fun j hj => ?_
    exact World.ownsRow.cells (w := w) h (g := g) rfl j _ (by simp [List.getElem?_eq_getElem hj, byteV])

theorem Buf.shape {w : World} {B : Nat} {v : Value} {bs : List UInt8} (h : Buf w B v bs) : ∃ a cap, v = .slice a bs.length cap := by
  obtain ⟨_, hx2⟩ := id h
  rcases hx2 with ⟨rfl, h0⟩ | ⟨g, cap, cur, rfl, _⟩
  · exact ⟨none, 0, by rw [h0]⟩
  · exact ⟨_, _, rfl⟩
theorem ret_se {a a' : ByteArray} {b b' : Int} (h1 : a = a') (h2 : b = b') : Ending.returned (.tuple #[.string a, .int .i64 b]) = .returned (.tuple #[.string a', .int .i64 b']) := by rw [h1, h2]
theorem padB_len {bs : List UInt8} (h : bs.length ≤ 252) : (padB bs).length = 252 := by simp [padB]; omega
theorem rightB_kind {kind ver root next : Int} {keys : List ByteArray} {kids : List Int} {ents : List Ent} {data : ByteArray} (h : rightB kind ver root next keys kids ents data = true) : kind = 1 ∨ kind = 2 ∨ kind = 3 ∨ kind = 4 := by
  unfold rightB at h
  by_cases k1 : kind = 1
  · exact .inl k1
  by_cases k2 : kind = 2
  · exact .inr (.inl k2)
  by_cases k3 : kind = 3
  · exact .inr (.inr (.inl k3))
  by_cases k4 : kind = 4
  · exact .inr (.inr (.inr k4))
  rw [if_neg k1, if_neg k2, if_neg k3, if_neg k4] at h
  cases h

theorem fields_any (kind ver root next : Int) (ka ia ea : Option Addr) (kc ic ec : Nat) (data : ByteArray) (keys : List ByteArray) (kids : List Int) (ents : List Ent) (w : World) (B : Nat) (hB : B ≤ w.heap.size) (hK : RowAt w B ka (keys.map .string)) (hI : RowAt w B ia (kids.map (.int .i64))) (hE : RowAt w B ea (ents.flatMap Ent.cells)) (hs : Small keys kids ents data) (hk : kind = 1 ∨ kind = 2 ∨ kind = 3 ∨ kind = 4) :
    Calls Try.prog 23 #[.agg #[.int .i64 kind, .int .i64 ver, .int .i64 root, .int .i64 next, .slice ka keys.length kc, .slice ia kids.length ic, .slice ea ents.length ec, .string data]] w fun e w' => ∃ b', e = .returned b' ∧ Buf w' B b' (fieldsB kind ver root next keys kids ents data) ∧ Grew B w w' := by
  have s1 := hs.lBranch
  have s2 := hs.lLeaf
  have s3 := hs.lData
  rcases hk with rfl | rfl | rfl | rfl
  · simpa [fieldsB] using fields_meta ver root next ka ia ea kc ic ec data keys kids ents B w hB
  · simpa [fieldsB] using fields_branch ver root next ka ia ea kc ic ec data keys kids ents B w hB hK hI hs.nKeys hs.nKids (by omega)
  · simpa [fieldsB] using fields_leaf ver root next ka ia ea kc ic ec data keys kids ents B w hB hE hs.nEnts hs.each (by omega)
  · simpa [fieldsB] using fields_over ver root next ka ia ea kc ic ec data keys kids ents B w hB (by omega)

theorem fieldsB_len {kind ver root next : Int} {keys : List ByteArray} {kids : List Int} {ents : List Ent} {data : ByteArray} (hs : Small keys kids ents data) : (fieldsB kind ver root next keys kids ents data).length ≤ 34359738400 ∧ 1 ≤ (fieldsB kind ver root next keys kids ents data).length := by
  have s1 := hs.lBranch
  have s2 := hs.lLeaf
  have s3 := hs.lData
  unfold fieldsB
  split
  · simp [beB_length]
  split
  · simp [beB_length]; omega
  split
  · simp [beB_length]; omega
  · simp [beB_length, textB]; omega

set_option maxRecDepth 100000 in
set_option maxHeartbeats 1000000 in
theorem encode_any (kind ver root next : Int) (ka ia ea : Option Addr) (kc ic ec : Nat) (data : ByteArray) (keys : List ByteArray) (kids : List Int) (ents : List Ent) (w : World) (hK : RowAt w w.heap.size ka (keys.map .string)) (hI : RowAt w w.heap.size ia (kids.map (.int .i64))) (hE : RowAt w w.heap.size ea (ents.flatMap Ent.cells)) (hs : Small keys kids ents data) :
    Calls Try.prog 11 #[.agg #[.int .i64 kind, .int .i64 ver, .int .i64 root, .int .i64 next, .slice ka keys.length kc, .slice ia kids.length ic, .slice ea ents.length ec, .string data]] w fun e w' => e = .returned (.tuple #[.string (encS kind ver root next keys kids ents data), .int .i64 (encE kind ver root next keys kids ents data)]) ∧ Below w.heap.size w w' := by
  have hb := (Below.refl w.heap.size w).alloc (Nat.le_refl _) (.cells #[.int .i64 kind, .int .i64 ver, .int .i64 root, .int .i64 next, .slice ka keys.length kc, .slice ia kids.length ic, .slice ea ents.length ec, .string data] 28)
  have hbox := heap_new w (.cells #[.int .i64 kind, .int .i64 ver, .int .i64 root, .int .i64 next, .slice ka keys.length kc, .slice ia kids.length ic, .slice ea ents.length ec, .string data] 28)
  have hKb := (hK.below hb).mono (show w.heap.size ≤ (w.alloc (.cells #[.int .i64 kind, .int .i64 ver, .int .i64 root, .int .i64 next, .slice ka keys.length kc, .slice ia kids.length ic, .slice ea ents.length ec, .string data] 28)).heap.size by simp)
  have hIb := (hI.below hb).mono (show w.heap.size ≤ (w.alloc (.cells #[.int .i64 kind, .int .i64 ver, .int .i64 root, .int .i64 next, .slice ka keys.length kc, .slice ia kids.length ic, .slice ea ents.length ec, .string data] 28)).heap.size by simp)
  have hEb := (hE.below hb).mono (show w.heap.size ≤ (w.alloc (.cells #[.int .i64 kind, .int .i64 ver, .int .i64 root, .int .i64 next, .slice ka keys.length kc, .slice ia kids.length ic, .slice ea ents.length ec, .string data] 28)).heap.size by simp)
  have hkn := hs.nKeys
  have hin := hs.nKids
  have hen := hs.nEnts
  obtain ⟨fl, fl1⟩ := fieldsB_len (kind := kind) (ver := ver) (root := root) (next := next) hs
  cases hr : rightB kind ver root next keys kids ents data
  · have HS : Hid (encS kind ver root next keys kids ents data = ⟨#[]⟩) := by show _ = _; simp [encS, hr]
    have HE : Hid (encE kind ver root next keys kids ents data = 2) := by show _ = _; simp [encE, hr]
    go_enter Try.func11, Try.ntmps11
    go_wp2_with (go_at_call 22; refine (right_any _ _ _ _ _ _ _ _ _ _ _ _ _ _ _ hKb hIb hEb hkn hin hen).mono ?_; rintro e w1 ⟨rfl, hb1⟩)
    go_ret2
    exact ⟨ret_se HS.out.symm HE.out.symm, hb.trans (hb1.mono (by simp))⟩
  · have hk := rightB_kind hr
    obtain ⟨fs, hfs⟩ : ∃ fs, fs = fieldsB kind ver root next keys kids ents data := ⟨_, rfl⟩
    rw [← hfs] at fl fl1
    have HF : Hid (fs = fieldsB kind ver root next keys kids ents data) := hfs
    clear hfs
    by_cases hlen : fs.length ≤ 252
    · have HS : Hid (encS kind ver root next keys kids ents data = ⟨(fullB fs).toArray⟩) := by show _ = _; unfold encS; rw [← HF.out]; simp [hr, hlen]
      have HE : Hid (encE kind ver root next keys kids ents data = 0) := by show _ = _; unfold encE; rw [← HF.out]; simp [hr, hlen]
      have hz : 252 - (fs.length : Int) = ((252 - fs.length : Nat) : Int) := by omega
      have hne : fs ≠ [] := by intro h; rw [h] at fl1; simp at fl1
      have lz : fs.length + (252 - fs.length) ≤ 140737488355328 := by omega
      have pl := padB_len hlen
      have ln : (padB fs).length + 8 ≤ 140737488355328 := by omega
      have lc : (⟨(padB fs).toArray⟩ : ByteArray).size ≤ maxLen := by show (padB fs).toArray.size ≤ _; rw [List.size_toArray, pl]; decide
      have HZ : Hid (252 - (fs.length : Int) = ((252 - fs.length : Nat) : Int)) := hz
      clear hz pl
      go_enter Try.func11, Try.ntmps11
      go_wp2_with (first
        | (go_at_call 22; refine (right_any _ _ _ _ _ _ _ _ _ _ _ _ _ _ _ hKb hIb hEb hkn hin hen).mono ?_; rintro e w1 ⟨rfl, hb1⟩; have hx1 := (Grew.of_below hb1 (Nat.le_refl _)).other _ _ hbox rfl; obtain ⟨e0, e1, e2, e3, e4, e5, e6, e7⟩ := box8 hx1; have HB1 : Below w.heap.size w w1 := hb.trans (hb1.mono (by simp)); have hBn : w.heap.size ≤ w1.heap.size := HB1.size; clear hb1 hKb hIb hEb hbox)
        | (go_at_call 23; refine (fields_any _ _ _ _ _ _ _ _ _ _ _ _ _ _ _ w.heap.size hBn (hK.below HB1) (hI.below HB1) (hE.below HB1) hs hk).mono ?_; rintro e w2 ⟨b2, rfl, hb2, g2⟩; rw [← HF.out] at hb2; obtain ⟨a2, c2, rfl⟩ := hb2.shape; have hB2 : w.heap.size ≤ w2.heap.size := Nat.le_trans hBn g2.size; clear e0 e1 e2 e3 e4 e5 e6 e7 hx1)
        | (at_builtin; refine wp_append_zeros _ rfl (.tmp 16) (.tmp 17) rfl w.heap.size fs _ rfl hb2 hne hB2 (252 - fs.length) _ HZ.out rfl lz ?_; intro b3 w3 hb3 g3; have hcv := hb3.string; have hB3 : w.heap.size ≤ w3.heap.size := Nat.le_trans hB2 g3.size)
        | (go_at_call 7; refine (Crc.page_crc _ _ lc).mono ?_; rintro e w' ⟨rfl, rfl⟩)
        | (go_at_call 24; refine (appendNumber_z _ _ _ _ w.heap.size _ hb3 hB3 (by decide) (by decide) ln).mono ?_; rintro e w4 ⟨b4, rfl, hb4, g4⟩; have hcv4 := hb4.string))
      go_ret2
      exact ⟨ret_se (HS.out.trans (by simp [fullB, padB])).symm HE.out.symm, HB1.trans (g2.below.trans (g3.below.trans g4.below))⟩
    · have HS : Hid (encS kind ver root next keys kids ents data = ⟨#[]⟩) := by show _ = _; unfold encS; rw [← HF.out]; simp [hr, hlen]
      have HE : Hid (encE kind ver root next keys kids ents data = 2) := by show _ = _; unfold encE; rw [← HF.out]; simp [hr, hlen]
      go_enter Try.func11, Try.ntmps11
      go_wp2_with (first
        | (go_at_call 22; refine (right_any _ _ _ _ _ _ _ _ _ _ _ _ _ _ _ hKb hIb hEb hkn hin hen).mono ?_; rintro e w1 ⟨rfl, hb1⟩; have hx1 := (Grew.of_below hb1 (Nat.le_refl _)).other _ _ hbox rfl; obtain ⟨e0, e1, e2, e3, e4, e5, e6, e7⟩ := box8 hx1; have HB1 : Below w.heap.size w w1 := hb.trans (hb1.mono (by simp)); have hBn : w.heap.size ≤ w1.heap.size := HB1.size; clear hb1 hKb hIb hEb hbox)
        | (go_at_call 23; refine (fields_any _ _ _ _ _ _ _ _ _ _ _ _ _ _ _ w.heap.size hBn (hK.below HB1) (hI.below HB1) (hE.below HB1) hs hk).mono ?_; rintro e w2 ⟨b2, rfl, hb2, g2⟩; rw [← HF.out] at hb2; obtain ⟨a2, c2, rfl⟩ := hb2.shape; have hB2 : w.heap.size ≤ w2.heap.size := Nat.le_trans hBn g2.size; clear e0 e1 e2 e3 e4 e5 e6 e7 hx1))
      go_ret2
      exact ⟨ret_se HS.out.symm HE.out.symm, HB1.trans g2.below⟩
end Go.Proofs.Ytjmmfpolkkglaaa.Pages
