/-
  What the law Paged answers: behind its switch.
-/
import Derived.Test.YtjmmfpolkkglaaaKeep
import Derived.Test.YtjmmfpolkkglaaaWhole
import Derived.Test.YtjmmfpolkkglaaaConv
import Derived.Deep.DeepCutAuto
import Derived.Deep.RegionWith
import Derived.Deep.CutBlock
import Derived.Deep.RegionLaw
namespace Go.Proofs.Ytjmmfpolkkglaaa.Pages
open Go.RowKit
set_option linter.unusedSimpArgs false
set_option linter.unusedVariables false

/-- the page that the switch has made: its box, its rows, and that it is right and fits -/
def Made (w wx : World) : Prop := ∃ (G : Pg) (vk vi ve : Value), wx.heap[w.heap.size]? = some (.cells #[.int .i64 G.kind, .int .i64 G.ver, .int .i64 G.root, .int .i64 G.next, vk, vi, ve, .string G.data] 28) ∧
  Keys wx (w.heap.size + 1) vk G.keys ∧ Ints wx (w.heap.size + 1) vi G.kids ∧ EntsR wx (w.heap.size + 1) ve G.ents ∧ G.encE = 0 ∧ G.small ∧ G.ver < 9223372036854775808 ∧ Below w.heap.size w wx

theorem enc_ok (G : Pg) (hr : rightB G.kind G.ver G.root G.next G.keys G.kids G.ents G.data = true) (hl : (fieldsB G.kind G.ver G.root G.next G.keys G.kids G.ents G.data).length ≤ 252) : G.encE = 0 := by
  unfold Pg.encE Pages.encE
  rw [if_pos (by rw [hr]; simpa using hl)]
theorem empty_list : (⟨#[]⟩ : ByteArray).toList.isEmpty = true := by rw [ByteArray.toList_eq]; rfl
theorem small_of {keys : List ByteArray} {kids : List Int} {ents : List Ent} {data : ByteArray} (h1 : keys.length ≤ 10) (h2 : kids.length ≤ 10) (h3 : ents.length ≤ 10) (h4 : ∀ e ∈ ents, e.key.size ≤ 255 ∧ e.val.size ≤ 255) (h5 : ∀ k ∈ keys, k.size ≤ 255) (h6 : data.size ≤ 255) : Small keys kids ents data := by
  refine ⟨by omega, by omega, by omega, fun e he => ⟨Nat.le_trans (h4 e he).1 (by omega), Nat.le_trans (h4 e he).2 (by omega)⟩, ?_, ?_, by omega⟩
  · have f1 := flat_mul_le (beB 2) 2 kids (fun x _ => by rw [beB_len]; omega)
    have f2 := flat_mul_le textB 256 keys (fun x hx => textB_le (h5 x hx))
    unfold branchB
    rw [List.length_append, List.length_append, beB_len]
    have : keys.length * 256 ≤ 10 * 256 := Nat.mul_le_mul_right _ h1
    omega
  · have f1 := flat_mul_le Ent.bytes 600 ents (fun e he => bytes_le (h4 e he))
    unfold leafB
    rw [List.length_append, beB_len]
    have : ents.length * 600 ≤ 10 * 600 := Nat.mul_le_mul_right _ h3
    omega
theorem made_meta (ver root : Int) (h0 : 0 ≤ ver) (h1 : 2 ≤ root) (h2 : root < 4096) : (⟨1, ver, root, 0, [], [], [], ⟨#[]⟩⟩ : Pg).encE = 0 ∧ (⟨1, ver, root, 0, [], [], [], ⟨#[]⟩⟩ : Pg).small := by
  refine ⟨enc_ok _ ?_ ?_, small_of (by simp) (by simp) (by simp) (by simp) (by simp) (Nat.zero_le 255)⟩
  · simp [rightB, noBranch, noLeaf, noOver, metaB, placeB, h0, h1, h2, empty_list]
  · simp [fieldsB, beB_length]
theorem made_over (next : Int) (data : ByteArray) (h1 : 2 ≤ next) (h2 : next < 4096) (h3 : 1 ≤ data.size) (h4 : data.size ≤ 240) : (⟨4, 0, 0, next, [], [], [], data⟩ : Pg).encE = 0 ∧ (⟨4, 0, 0, next, [], [], [], data⟩ : Pg).small := by
  refine ⟨enc_ok _ ?_ ?_, small_of (by simp) (by simp) (by simp) (by simp) (by simp) (by dsimp only; omega)⟩
  · simp [rightB, noBranch, noLeaf, noMeta, overB, placeB, h1, h2, h3, h4]
  · have := textB_le h4
    simp [fieldsB, beB_length]
    omega
theorem made_branch (l : List ByteArray) (n : Int) (hr : risingB ⟨#[]⟩ l = true) (hl1 : 1 ≤ l.length) (hl : l.length ≤ 6) (h1 : 2 ≤ n) (h2 : n < 4096) : (⟨2, 0, 0, 0, l, [n] ++ List.replicate l.length n, [], ⟨#[]⟩⟩ : Pg).encE = 0 ∧ (⟨2, 0, 0, 0, l, [n] ++ List.replicate l.length n, [], ⟨#[]⟩⟩ : Pg).small := by
  have hk := rising_all hr
  refine ⟨enc_ok _ ?_ ?_, small_of (by dsimp only; omega) (by simp; omega) (by simp) (by simp) (fun k hk' => Nat.le_trans (hk k hk') (by omega)) (Nat.zero_le 255)⟩
  · have hne : l.length ≠ 0 := by omega
    have hne' : l ≠ [] := fun h => hne (by rw [h]; rfl)
    simp [rightB, noMeta, noLeaf, noOver, branchOk, hr, hne', empty_list, placeB, h1, h2, List.all_replicate]
  · have f2 := flat_mul_le textB 25 l (fun x hx => textB_le (hk x hx))
    have f3 := flat_two ([n] ++ List.replicate l.length n)
    have : l.length * 25 ≤ 6 * 25 := Nat.mul_le_mul_right _ hl
    simp only [fieldsB, branchB, List.length_append, beB_length, f3, List.length_cons, List.length_nil, List.length_replicate, if_neg (show ¬ (2 : Int) = 1 by decide), if_pos]
    omega
theorem made_leaf (es : List Ent) (hr : leafOk ⟨#[]⟩ es = true) (hl1 : 1 ≤ es.length) (hl : es.length ≤ 5) (hv : ∀ e ∈ es, e.val.size ≤ 1) : (⟨3, 0, 0, 0, [], [], es, ⟨#[]⟩⟩ : Pg).encE = 0 ∧ (⟨3, 0, 0, 0, [], [], es, ⟨#[]⟩⟩ : Pg).small := by
  have hk := leaf_all hr
  refine ⟨enc_ok _ ?_ ?_, small_of (by simp) (by simp) (by dsimp only; omega) (fun e he => ⟨Nat.le_trans (hk e he).1 (by omega), Nat.le_trans (hv e he) (by omega)⟩) (by simp) (Nat.zero_le 255)⟩
  · have hne' : es ≠ [] := fun h => by rw [h] at hl1; simp at hl1
    simp [rightB, noMeta, noBranch, noOver, hr, hne', empty_list]
  · have f2 := flat_mul_le Ent.bytes 40 es (fun e he => by
      have h1 := textB_le (hk e he).1
      have h2 := textB_le (hv e he)
      unfold Ent.bytes entBytes
      rw [List.length_append]
      split
      · rw [List.length_append]; simp; omega
      · rw [List.length_append, List.length_append, beB_len, beB_len]; simp; omega)
    have : es.length * 40 ≤ 5 * 40 := Nat.mul_le_mul_right _ hl
    simp only [fieldsB, leafB, List.length_append, beB_length, if_neg (show ¬ (3 : Int) = 1 by decide), if_neg (show ¬ (3 : Int) = 2 by decide), if_pos]
    omega

theorem EntsR.other {w w' : World} {B : Nat} {v : Value} {es : List Ent} {β : Nat} (h : EntsR w B v es) (ho : Only β w w') (hne : ∀ k, v.ownBlock = some k → k ≠ β) : EntsR w' B v es :=
  World.ownsRow.kept (row := some β) h ⟨ho.os, ho.tape, ho.output, ho.size, fun k hk hr => ho.block k hk (fun e => hr (by rw [e]))⟩ (by
    cases hv : v.ownBlock with
    | none => exact .inl rfl
    | some k => exact .inr (fun e => hne k hv (by simpa using e)))
theorem over_ok {m n : Int} (h0 : 0 ≤ m) (h1 : m < 340) (h2 : 2 ≤ n) (h3 : n < 4096) : valB ⟨#[]⟩ (61 + m) n = true ∧ (⟨#[]⟩ : ByteArray).size ≤ 1 := by
  refine ⟨?_, Nat.zero_le 1⟩
  simp only [valB, placeB, empty_list, Bool.or_eq_true, Bool.and_eq_true, decide_eq_true_eq]
  exact .inr ⟨⟨⟨⟨h2, h3⟩, trivial⟩, by omega⟩, by omega⟩
theorem v_ok : valB ⟨#[118]⟩ 1 0 = true ∧ (⟨#[118]⟩ : ByteArray).size ≤ 1 := by decide +kernel
theorem Keys.spots {w : World} {B : Nat} {v : Value} {l : List ByteArray} (h : Keys w B v l) (hl : 1 ≤ l.length) : ∃ g c, v = .slice (some ⟨g, 0, none⟩) l.length c ∧ B ≤ g ∧ g < w.heap.size ∧ ∀ (j : Nat) (hj : j < l.length), w.cell? ⟨g, j, none⟩ = some (.string l[j]) := by
  obtain ⟨_, ⟨_, h0⟩ | ⟨g, c, cur, rfl, hB, hr⟩⟩ := id h
  · omega
  · refine ⟨g, c, rfl, hB, (World.ownsRow.lt (w := w) h g rfl).2, fun j hj => ?_⟩
    have := World.ownsRow.cellAt (w := w) h j (by omega)
    rw [this]
    simp [List.getElem?_eq_getElem hj]
theorem take_more_key {l : List ByteArray} {es : List Ent} {j : Nat} {e : Ent} (h : es.map Ent.key = l.take j) (hj : j < l.length) (he : e.key = l[j]) : (es ++ [e]).map Ent.key = l.take (j + 1) := by
  rw [List.map_append, h, List.take_succ_eq_append_getElem hj]; simp [he]
theorem all_more {es : List Ent} {e : Ent} (h : ∀ x ∈ es, valB x.val x.size x.over = true ∧ x.val.size ≤ 1) (he : valB e.val e.size e.over = true ∧ e.val.size ≤ 1) : ∀ x ∈ es ++ [e], valB x.val x.size x.over = true ∧ x.val.size ≤ 1 := by
  intro x hx
  rcases List.mem_append.1 hx with hx | hx
  · exact h x hx
  · rw [List.mem_singleton.1 hx]; exact he
theorem leaf_of {l : List ByteArray} {es : List Ent} (hr : risingB ⟨#[]⟩ l = true) (hk : es.map Ent.key = l) (hv : ∀ x ∈ es, valB x.val x.size x.over = true ∧ x.val.size ≤ 1) : leafOk ⟨#[]⟩ es = true := by
  subst hk
  generalize (⟨#[]⟩ : ByteArray) = last at hr
  induction es generalizing last with
  | nil => rfl
  | cons e r ih =>
    simp only [List.map_cons, risingB, Bool.and_eq_true] at hr
    simp only [leafOk, Bool.and_eq_true]
    exact ⟨⟨hr.1, (hv e (by simp)).1⟩, ih (fun x hx => hv x (by simp [hx])) _ hr.2⟩
theorem not_whole_len {s : ByteArray} (h : s.size ≠ 256) : ¬ Whole s.data.toList := fun hw => h (by have := whole_len hw; rwa [data_length] at this)
theorem turned_byte (b : UInt8) (m : Int) (h0 : 0 ≤ m) (h1 : m < 255) : ∃ t : UInt8, t ≠ b ∧ bits BinOp.xor IntKind.u8 (b.toNat : Int) (1 + m) = (t.toNat : Int) := by
  obtain ⟨n, rfl⟩ : ∃ n : Nat, m = n := ⟨m.toNat, by omega⟩
  have hb := b.toNat_lt
  have e : (1 : Int) + (n : Int) = ((1 + n : Nat) : Int) := by omega
  have hx : b.toNat ^^^ (1 + n) < 256 := Nat.xor_lt_two_pow (n := 8) (by omega) (by omega)
  refine ⟨UInt8.ofNat (b.toNat ^^^ (1 + n)), fun h => ?_, ?_⟩
  · have h2 := congrArg UInt8.toNat h
    rw [UInt8.toNat_ofNat_of_lt' (by simpa [UInt8.size] using hx)] at h2
    have h3 := congrArg (fun x => b.toNat ^^^ x) h2
    simp only [← Nat.xor_assoc, Nat.xor_self, Nat.zero_xor] at h3
    omega
  · rw [e, u8_xor_nat _ _ (by omega) (by omega), UInt8.toNat_ofNat_of_lt' (by simpa [UInt8.size] using hx)]
/-- page.Decode of what page.Encode wrote -/
theorem decode_made (G : Pg) (hE : G.encE = 0) (hV : G.ver < 9223372036854775808) (w : World) :
    Calls Try.prog 15 #[.string G.encS] w fun e w' => ∃ vk vi ve, e = .returned (.tuple #[.agg #[.int .i64 G.kind, .int .i64 G.ver, .int .i64 G.root, .int .i64 G.next, vk, vi, ve, .string G.data], .int .i64 0]) ∧ Keys w' w.heap.size vk G.keys ∧ Ints w' w.heap.size vi G.kids ∧ EntsR w' w.heap.size ve G.ents ∧ Below w.heap.size w w' := by
  have hr := round_trip G hV hE
  have hl := whole_len (enc_whole G hE)
  rw [data_length] at hl
  refine (decode_any G.encS w).mono fun e w' ⟨hb, h⟩ => ?_
  rw [hr] at h
  rcases h with ⟨_, _, _, v, he, vk, vi, ve, rfl, h1, h2, h3⟩ | ⟨hn, _⟩
  · exact ⟨vk, vi, ve, he, h1, h2, h3, hb⟩
  · exact absurd ⟨hl, hE, rfl⟩ hn
/-- page.Decode of what is no page's bytes -/
theorem decode_not (s : ByteArray) (hs : ¬ Whole s.data.toList) (w : World) :
    Calls Try.prog 15 #[.string s] w fun e w' => e = .returned (.tuple #[.agg #[.int .i64 0, .int .i64 0, .int .i64 0, .int .i64 0, .slice none 0 0, .slice none 0 0, .slice none 0 0, .string ⟨#[]⟩], .int .i64 2]) ∧ Below w.heap.size w w' := by
  refine (decode_any s w).mono fun e w' ⟨hb, h⟩ => ?_
  rcases h with ⟨_, h1, h2, _⟩ | ⟨_, he⟩
  · have := enc_whole _ h1
    rw [h2] at this
    exact absurd this hs
  · exact ⟨he, hb⟩
set_option maxRecDepth 100000 in
set_option maxHeartbeats 2000000 in
theorem paged_walk (kind root version : Int) (ta : Option Addr) (tc : Nat) (texts : List ByteArray) (data : ByteArray) (at_ by_ : Int) (w : World)
    (k0 : -9223372036854775808 ≤ kind) (k1 : kind ≤ 9223372036854775807) (r0 : -9223372036854775808 ≤ root) (r1 : root ≤ 9223372036854775807) (v0 : -9223372036854775808 ≤ version) (v1 : version ≤ 9223372036854775807)
    (a0 : -9223372036854775808 ≤ at_) (a1 : at_ ≤ 9223372036854775807) (b0 : -9223372036854775808 ≤ by_) (b1 : by_ ≤ 9223372036854775807)
    (hT : RowAt w w.heap.size ta (texts.map .string)) (hn : texts.length ≤ 9223372036854775807) (hd : data.size ≤ 9223372036854775807) :
    Calls Try.prog 6 #[.int .i64 kind, .int .i64 root, .int .i64 version, .slice ta texts.length tc, .string data, .int .i64 at_, .int .i64 by_] w fun e w' => e = .returned (.bool true) ∧ Below w.heap.size w w' := by
  go_enter Try.func6, Try.ntmps6
  go_upto_block 0 with (go_at_call 20; refine (pick_any _ _ _ (by assumption) (by assumption) (by decide)).mono ?_; rintro e w' ⟨m, hm0, hm1, rfl, hw⟩; subst w')
  rename_i _ kd kd0 kd1 _ _
  have hP := heap_new w (pageK (1 + kd))
  have hb := (Below.refl w.heap.size w).alloc (Nat.le_refl _) (pageK (1 + kd))
  have hz := size_one w (pageK (1 + kd))
  generalize hKd : 1 + kd = K at hP hb hz ⊢
  generalize hw0 : w.alloc (pageK K) = w0 at hP hb hz ⊢
  clear hw0
  obtain ⟨n, hn2⟩ : ∃ n, 2 + m = n := ⟨_, rfl⟩
  rw [hn2]
  have n0 : 2 ≤ n := by omega
  have n1 : n < 4096 := by omega
  go_cut [] (fun wx => Made w wx)
  case first =>
    have hK4 : K = 1 ∨ K = 2 ∨ K = 3 ∨ K = 4 := by omega
    clear hKd hn2 hm0 hm1 kd0 kd1
    obtain ⟨c0, c1, c2, c3, c4, c5, c6, c7⟩ := box8 hP
    have hf := free_of hP
    rcases hK4 with rfl | rfl | rfl | rfl
    · go_wp2_with (go_at_call 20; refine (pick_any _ _ _ (by assumption) (by assumption) (by decide)).mono ?_; rintro e w' ⟨mv, hm0, hm1, rfl, hw⟩; subst w')
      go_meet
      have h2 := set_of (set_of hP 2 (.int .i64 n)) 1 (.int .i64 mv)
      obtain ⟨e1, e2⟩ := made_meta mv n hm0 n0 n1
      exact ⟨⟨1, mv, n, 0, [], [], [], ⟨#[]⟩⟩, .slice none 0 0, .slice none 0 0, .slice none 0 0, by simpa using h2, Keys.nil _ _, Ints.nil _ _, EntsR.nil _ _, e1, e2, by dsimp only; omega, (hb.setCell (Nat.le_refl _) _).setCell (Nat.le_refl _) _⟩
    · go_upto_region 11 with fail
      have hs5 := set_of hP 5 (.slice (some ⟨w.heap.size + 1, 0, none⟩) 1 1)
      have hB0 := hb.setCell (p := ⟨w.heap.size, 5, none⟩) (Nat.le_refl _) (.slice (some ⟨w.heap.size + 1, 0, none⟩) 1 1)
      have hz0 : (w0.setCell ⟨w.heap.size, 5, none⟩ (.slice (some ⟨w.heap.size + 1, 0, none⟩) 1 1)).heap.size = w.heap.size + 1 := by rw [← hz]; simp
      generalize w0.setCell ⟨w.heap.size, 5, none⟩ (.slice (some ⟨w.heap.size + 1, 0, none⟩) 1 1) = w1 at hs5 hB0 hz0 ⊢
      have hI1 : Ints (w1.alloc (.cells #[.int .i64 n] 3)) (w.heap.size + 1) (.slice (some ⟨w.heap.size + 1, 0, none⟩) 1 1) [n] := by
        have := World.ownsRow_lit (base := w.heap.size + 1) (e := 3) (size := 1) w1 #[.int .i64 n] 1 (by omega) (by decide) rfl
        rw [hz0] at this
        exact this
      have hP1 : (w1.alloc (.cells #[.int .i64 n] 3)).heap[w.heap.size]? = some (.cells #[.int .i64 2, .int .i64 0, .int .i64 0, .int .i64 0, .slice none 0 0, .slice (some ⟨w.heap.size + 1, 0, none⟩) 1 1, .slice none 0 0, .string ⟨#[]⟩] 28) := by simpa using keep_alloc (x := .cells #[.int .i64 n] 3) hs5
      have hz1 : (w1.alloc (.cells #[.int .i64 n] 3)).heap.size = w.heap.size + 1 + 1 := by rw [← hz0]; exact size_one _ _
      have hB1 := hB0.alloc (by omega) (.cells #[.int .i64 n] 3)
      generalize w1.alloc (.cells #[.int .i64 n] 3) = W at hI1 hP1 hz1 hB1 ⊢
      have hX := rising_keep ta tc texts 6 (.slice (some ⟨w.heap.size + 1, 0, none⟩) 1 1) [n] n (w.heap.size + 1) W ((hT.below hB1).mono (Nat.le_succ _)) hI1 (by omega) (by decide) (by decide) (by simp) hn
      obtain ⟨d0, d1, d2, d3, d4, d5, d6, d7⟩ := box8 hP1
      clear hP hs5 hI1 c0 c1 c2 c3 c4 c5 c6 c7 hf hb hB0
      go_wp2_with (go_at_call 21; refine hX.mono ?_; rintro e w3 ⟨vl, vi, l, rfl, hK3, hI3, hr3, hl1, hl6, hb3⟩; obtain ⟨la, lc, rfl, _⟩ := own_row hK3; obtain ⟨ja, jc, rfl, _⟩ := own_row hI3; have hP3 := (hb3.block w.heap.size (Nat.lt_succ_self _)).trans hP1; obtain ⟨f0, f1, f2, f3, f4, f5, f6, f7⟩ := box8 hP3; have hf3 := free_of hP3)
      go_meet
      obtain ⟨e1, e2⟩ := made_branch l n hr3 hl1 hl6 n0 n1
      have h2 := fun a b => set_of (set_of hP3 4 a) 5 b
      have o2 := fun a b => ((Only.refl w.heap.size w3).setCell 4 a).setCell 5 b
      exact ⟨⟨2, 0, 0, 0, l, [n] ++ List.replicate l.length n, [], ⟨#[]⟩⟩, _, _, .slice none 0 0, by simpa using h2 _ _, own_only hK3 (o2 _ _) (Nat.lt_succ_self _), own_only hI3 (o2 _ _) (Nat.lt_succ_self _), EntsR.nil _ _, e1, e2, by dsimp only; omega, ((hB1.trans (hb3.mono (Nat.le_succ _))).setCell (Nat.le_refl _) _).setCell (Nat.le_refl _) _⟩
    · have hX := rising_keep ta tc texts 5 (.slice none 0 0) [] n (w.heap.size + 1) w0 ((hT.below hb).mono (Nat.le_succ _)) (Ints.nil _ _) (by omega) (by decide) (by decide) (by simp) hn
      go_wp2_with (go_at_call 21; refine hX.mono ?_; rintro e w2 ⟨vl, vi, l, rfl, hK3, hI3, hr3, hl1, hl6, hb3⟩; obtain ⟨g, c, rfl, hg, hgz, hgc⟩ := hK3.spots hl1; obtain ⟨ja, jc, rfl, _⟩ := own_row hI3; have hP3 := (hb3.block w.heap.size (Nat.lt_succ_self _)).trans hP)
      go_loopw [19] (fun i wr => ∃ (j : Nat) (es : List Ent) (ve : Value), j ≤ l.length ∧ i = .int .i64 j ∧ wr.heap[w.heap.size]? = some (pageE ve) ∧ EntsR wr w2.heap.size ve es ∧ Only w.heap.size w2 wr ∧ Hid (es.map Ent.key = l.take j) ∧ Hid (∀ x ∈ es, valB x.val x.size x.over = true ∧ x.val.size ≤ 1)) (fun i _ => l.length - (intOf i).toNat)
      case atStart => exact ⟨0, [], .slice none 0 0, Nat.zero_le _, rfl, hP3, EntsR.nil _ _, Only.refl _ _, by show _ = _; simp, by show ∀ x ∈ _, _; simp⟩
      case round =>
        obtain ⟨j, es, ve, hj, rfl, hE, hes, ho, HK, HV⟩ := hrel
        obtain ⟨ea, ec, rfl⟩ := hes.slice
        obtain ⟨d0, d1, d2, d3, d4, d5, d6, d7⟩ := box8 hE
        have hf1 := free_of hE
        by_cases hlt : j < l.length
        · have hgr : wr.cell? ⟨g, j, none⟩ = some (.string l[j]) := (World.cell?_of_block (w := w2) (ho.block g hgz (by omega))).trans (hgc j hlt)
          have hzr : w2.heap.size ≤ wr.heap.size := ho.size
          have hwz : w.heap.size < w2.heap.size := by omega
          clear hgc hP3 hX hK3 hI3 hP hb3
          go_upto_region 18 with fail
          have hE5 := keep_alloc (x := .cells #[.string l[j], .string ⟨#[118]⟩, .int .i64 1, .int .i64 0] 52) hE
          have hY5 := heap_new wr (.cells #[.string l[j], .string ⟨#[118]⟩, .int .i64 1, .int .i64 0] 52)
          have hes5 := hes.alloc (.cells #[.string l[j], .string ⟨#[118]⟩, .int .i64 1, .int .i64 0] 52)
          have ho5 := ho.alloc (.cells #[.string l[j], .string ⟨#[118]⟩, .int .i64 1, .int .i64 0] 52)
          have hs5 := size_one wr (.cells #[.string l[j], .string ⟨#[118]⟩, .int .i64 1, .int .i64 0] 52)
          have hg5 : (wr.alloc (.cells #[.string l[j], .string ⟨#[118]⟩, .int .i64 1, .int .i64 0] 52)).cell? ⟨g, j, none⟩ = some (.string l[j]) := (World.cell?_of_block (w := wr) (Below.heap_alloc _ _ _ (by show g < wr.heap.size; omega))).trans hgr
          generalize wr.alloc (.cells #[.string l[j], .string ⟨#[118]⟩, .int .i64 1, .int .i64 0] 52) = w5 at hE5 hY5 hes5 ho5 hs5 hg5 ⊢
          have lk : es.length + 1 ≤ 4294967296 := by
            have := congrArg List.length HK.out
            simp at this
            omega
          have hz5 : w2.heap.size ≤ w5.heap.size := by omega
          have hwr : w.heap.size < wr.heap.size := by omega
          have HS5 : Hid (w5.heap.size = wr.heap.size + 1) := hs5
          clear hs5
          have hown : ∀ k, (Value.slice ea es.length ec).ownBlock = some k → k ≠ wr.heap.size := fun k hk => Nat.ne_of_lt (World.ownsRow.lt (w := wr) hes k hk).2
          clear hE hes ho d0 d1 d2 d3 d4 d5 d6 d7 hf1 hgr
          obtain ⟨p0, p1, p2, p3, p4, p5, p6, p7⟩ := box8 hE5
          obtain ⟨y0, y1, y2, y3⟩ := box4 hY5
          have hf5 := free_of hY5
          by_cases hpar : j % 2 = 1
          · have hpar' : (((j : Int) % 2) == 1) = true := by simp; omega
            go_wp2
            go_region_with (go_at_call 20; refine (pick_any _ _ _ (by assumption) (by assumption) (by decide)).mono ?_; rintro e w' ⟨mv, hm0, hm1, rfl, hw⟩; subst w')
            all_goals (
              have hw61 : IntKind.i64.wrap (61 + mv) = 61 + mv := by rw [IntKind.wrap_i64]; omega
              have hE6 := keep_set (keep_set (keep_set (keep_set hE5 (Nat.ne_of_lt hwr) 0 (.string l[j])) (Nat.ne_of_lt hwr) 1 (.string ⟨#[]⟩)) (Nat.ne_of_lt hwr) 2 (.int .i64 (61 + mv))) (Nat.ne_of_lt hwr) 3 (.int .i64 n)
              have hY6 := set4 hY5 (.string l[j]) (.string ⟨#[]⟩) (.int .i64 (61 + mv)) (.int .i64 n)
              have hes6 := hes5.other ((((((Only.refl wr.heap.size w5).setCell 0 (.string l[j])).setCell 1 (.string ⟨#[]⟩)).setCell 2 (.int .i64 (61 + mv)))).setCell 3 (.int .i64 n)) hown
              have ho6 := (((ho5.set hzr 0 (.string l[j])).set hzr 1 (.string ⟨#[]⟩)).set hzr 2 (.int .i64 (61 + mv))).set hzr 3 (.int .i64 n)
              rw [hw61]
              generalize (((w5.setCell ⟨wr.heap.size, 0, none⟩ (.string l[j])).setCell ⟨wr.heap.size, 1, none⟩ (.string ⟨#[]⟩)).setCell ⟨wr.heap.size, 2, none⟩ (.int .i64 (61 + mv))).setCell ⟨wr.heap.size, 3, none⟩ (.int .i64 n) = X at hE6 hY6 hes6 ho6 ⊢
              clear hE5 hY5 hes5 ho5 hg5 hz5 p0 p1 p2 p3 p4 p5 p6 p7 y0 y1 y2 y3 hf5 hw61 HS5
              obtain ⟨w5', hw5⟩ : ∃ w5', X.drew = w5' := ⟨_, rfl⟩
              have hE5 : w5'.heap[w.heap.size]? = some (pageE (.slice ea es.length ec)) := by rw [← hw5]; exact hE6
              have hY5 : w5'.heap[wr.heap.size]? = some (.cells #[.string l[j], .string ⟨#[]⟩, .int .i64 (61 + mv), .int .i64 n] 52) := by rw [← hw5]; exact hY6
              have hes5 : EntsR w5' w2.heap.size (.slice ea es.length ec) es := by rw [← hw5]; exact hes6
              have ho5 : Only w.heap.size w2 w5' := by rw [← hw5]; exact ⟨ho6.os, ho6.tape, ho6.output, ho6.size, ho6.block⟩
              have hz5 : w2.heap.size ≤ w5'.heap.size := ho5.size
              rw [hw5]
              clear hw5 hE6 hY6 hes6 ho6
              obtain ⟨E, hE0⟩ : ∃ E : Ent, E = ⟨l[j], ⟨#[]⟩, 61 + mv, n⟩ := ⟨_, rfl⟩
              have HE : Hid (E.key = l[j]) := by show _ = _; rw [hE0]
              have HEV : Hid (valB E.val E.size E.over = true ∧ E.val.size ≤ 1) := by show _ ∧ _; rw [hE0]; exact over_ok hm0 hm1 n0 n1
              have hq : Obj.cells #[.string l[j], .string ⟨#[]⟩, .int .i64 (61 + mv), .int .i64 n] 52 = .cells #[.string E.key, .string E.val, .int .i64 E.size, .int .i64 E.over] 52 := by rw [hE0]
              rw [hq] at hY5
              clear hq hE0
              obtain ⟨p0, p1, p2, p3, p4, p5, p6, p7⟩ := box8 hE5
              obtain ⟨y0, y1, y2, y3⟩ := box4 hY5
              go_wp2_with (at_builtin; refine wp_append_ent w5' rfl (.tmp 105) (.tmp 107) rfl w2.heap.size es (.slice ea es.length ec) rfl hes5 hz5 E rfl lk ?_; intro v4 w4 hes4 hb4; obtain ⟨ea4, ec4, rfl⟩ := hes4.slice; have hE4 := (hb4.block w.heap.size hwz).trans hE5; obtain ⟨q0, q1, q2, q3, q4, q5, q6, q7⟩ := box8 hE4; have hf4 := free_of hE4)
              have hlen : (es ++ [E]).length = es.length + 1 := by simp
              have hN := hes4.set hwz 6 (.slice ea4 (es ++ [E]).length ec4)
              have hB4 := set_of hE4 6 (.slice ea4 (es ++ [E]).length ec4)
              have hO4 := ((ho5.below hb4 (Nat.le_refl _)).setCell 6 (.slice ea4 (es ++ [E]).length ec4))
              rw [hlen] at hN hB4 hO4
              have HK2 : Hid ((es ++ [E]).map Ent.key = l.take (j + 1)) := take_more_key HK.out hlt HE.out
              have HV2 : Hid (∀ x ∈ es ++ [E], valB x.val x.size x.over = true ∧ x.val.size ≤ 1) := all_more HV.out HEV.out
              clear hlen
              go_roundw
              case rel => exact ⟨j + 1, es ++ [E], _, by omega, by go_num, by simpa using hB4, hN, hO4, HK2, HV2⟩
              case measure => simp [intOf]; omega)
          · have hpar' : (((j : Int) % 2) == 1) = false := by simp; omega
            obtain ⟨E, hE0⟩ : ∃ E : Ent, E = ⟨l[j], ⟨#[118]⟩, 1, 0⟩ := ⟨_, rfl⟩
            have HE : Hid (E.key = l[j]) := by show _ = _; rw [hE0]
            have HEV : Hid (valB E.val E.size E.over = true ∧ E.val.size ≤ 1) := by show _ ∧ _; rw [hE0]; exact v_ok
            have hq0 : Value.string l[j] = .string E.key := by rw [hE0]
            have hq1 : Value.string ⟨#[118]⟩ = .string E.val := by rw [hE0]
            have hq2 : Value.int .i64 1 = .int .i64 E.size := by rw [hE0]
            have hq3 : Value.int .i64 0 = .int .i64 E.over := by rw [hE0]
            rw [hq0] at y0
            rw [hq1] at y1
            rw [hq2] at y2
            rw [hq3] at y3
            clear hq0 hq1 hq2 hq3 hE0
            go_wp2_with (at_builtin; refine wp_append_ent w5 rfl (.tmp 105) (.tmp 107) rfl w2.heap.size es (.slice ea es.length ec) rfl hes5 hz5 E rfl lk ?_; intro v4 w4 hes4 hb4; obtain ⟨ea4, ec4, rfl⟩ := hes4.slice; have hE4 := (hb4.block w.heap.size hwz).trans hE5; obtain ⟨q0, q1, q2, q3, q4, q5, q6, q7⟩ := box8 hE4; have hf4 := free_of hE4)
            have hlen : (es ++ [E]).length = es.length + 1 := by simp
            have hN := hes4.set hwz 6 (.slice ea4 (es ++ [E]).length ec4)
            have hB4 := set_of hE4 6 (.slice ea4 (es ++ [E]).length ec4)
            have hO4 := ((ho5.below hb4 (Nat.le_refl _)).setCell 6 (.slice ea4 (es ++ [E]).length ec4))
            rw [hlen] at hN hB4 hO4
            have HK2 : Hid ((es ++ [E]).map Ent.key = l.take (j + 1)) := take_more_key HK.out hlt HE.out
            have HV2 : Hid (∀ x ∈ es ++ [E], valB x.val x.size x.over = true ∧ x.val.size ≤ 1) := all_more HV.out HEV.out
            clear hlen
            go_roundw
            case rel => exact ⟨j + 1, es ++ [E], _, by omega, by go_num, by simpa using hB4, hN, hO4, HK2, HV2⟩
            case measure => simp [intOf]; omega
        · obtain rfl : j = l.length := by omega
          clear hgc hP3 hX hI3 hP
          go_wp2
          go_meet
          have hk : es.map Ent.key = l := by rw [HK.out, List.take_length]
          have hel : es.length = l.length := by rw [← hk]; simp
          obtain ⟨e1, e2⟩ := made_leaf es (leaf_of hr3 hk HV.out) (by omega) (by omega) (fun x hx => (HV.out x hx).2)
          exact ⟨⟨3, 0, 0, 0, [], [], es, ⟨#[]⟩⟩, .slice none 0 0, .slice none 0 0, _, hE, Keys.nil _ _, Ints.nil _ _, hes.mono (by omega), e1, e2, by dsimp only; omega, below_only (hb.trans (hb3.mono (Nat.le_succ _))) ho (Nat.le_refl _) (by omega)⟩
    · obtain ⟨D, hD, hD1, hD2⟩ : ∃ D : ByteArray, (⟨#[120]⟩ : ByteArray) ++ data.extract 0 (if 239 < (data.size : Int) then 239 else (data.size : Int)).toNat = D ∧ 1 ≤ D.size ∧ D.size ≤ 240 := ⟨_, rfl, by rw [ByteArray.size_append]; show 1 ≤ 1 + _; omega, by rw [ByteArray.size_append, ByteArray.size_extract]; show 1 + _ ≤ 240; split <;> omega⟩
      go_wp2
      all_goals go_meet
      all_goals (have h2 := set_of (set_of hP 7 (.string D)) 3 (.int .i64 n)
                 obtain ⟨e1, e2⟩ := made_over n D n0 n1 hD1 hD2
                 exact ⟨⟨4, 0, 0, n, [], [], [], D⟩, .slice none 0 0, .slice none 0 0, .slice none 0 0, by simpa using h2, Keys.nil _ _, Ints.nil _ _, EntsR.nil _ _, e1, e2, by dsimp only; omega, (hb.setCell (Nat.le_refl _) _).setCell (Nat.le_refl _) _⟩)
  case rest =>
    clear hP hb hz hT hn hd kd0 kd1 hKd hn2 hm0 hm1 n0 n1 k0 k1 r0 r1 v0 v1
    obtain ⟨G, vk, vi, ve, hX, hK, hI, hE, hEnc, hSm, hVer, hB⟩ := hcut
    obtain ⟨ka, kc, rfl, rk⟩ := own_row hK
    obtain ⟨ia, ic, rfl, ri⟩ := own_row hI
    obtain ⟨ea, ec, rfl, re⟩ := own_row hE
    have hEn := fun ka ia ea kc ic ec u rk ri re => encode_any G.kind G.ver G.root G.next ka ia ea kc ic ec G.data G.keys G.kids G.ents u rk ri re hSm
    have e0 : Pages.encE G.kind G.ver G.root G.next G.keys G.kids G.ents G.data = 0 := hEnc
    have hDm := decode_made G hEnc hVer
    have hW := enc_whole G hEnc
    rw [e0] at hEn
    change ∀ w, _ at hDm
    obtain ⟨S, hS⟩ : ∃ S, G.encS = S := ⟨_, rfl⟩
    have hS' : Pages.encS G.kind G.ver G.root G.next G.keys G.kids G.ents G.data = S := hS
    rw [hS'] at hEn
    rw [hS] at hDm hW
    clear hS hS' e0 hEnc hVer
    have hl : S.size = 256 := by have := whole_len hW; rwa [data_length] at this
    have hl1 : ((S.size : Int) != 256) = false := by simp; omega
    obtain ⟨c0, c1, c2, c3, c4, c5, c6, c7⟩ := box8 hX
    have hEn1 := hEn ka ia ea kc ic ec wc rk ri re
    have HL : Hid (S.size = 256) := hl
    clear hl
    go_upto_region 25 with (first
      | (go_at_call 15; refine (hDm _).mono ?_; rintro e w2 ⟨qk, qi, qe, rfl, hK2, hI2, hE2, hb2⟩; obtain ⟨qka, qkc, rfl, rk2⟩ := own_row hK2; obtain ⟨qia, qic, rfl, ri2⟩ := own_row hI2; obtain ⟨qea, qec, rfl, re2⟩ := own_row hE2)
      | (go_at_call 11; refine hEn1.mono ?_; rintro e w1 ⟨rfl, hb1⟩; clear hEn1))
    have hX2 := (hb2.block w.heap.size (Nat.lt_of_lt_of_le (Array.getElem?_eq_some_iff.1 hX).1 hb1.size)).trans ((hb1.block w.heap.size (Array.getElem?_eq_some_iff.1 hX).1).trans hX)
    have hzc := (Array.getElem?_eq_some_iff.1 hX).1
    have hz2 : w.heap.size < w2.heap.size := Nat.lt_of_lt_of_le (Nat.lt_of_lt_of_le hzc hb1.size) hb2.size
    have hB2 : Below w.heap.size w w2 := (hB.trans (hb1.mono (Nat.le_of_lt hzc))).trans (hb2.mono (Nat.le_trans (Nat.le_of_lt hzc) hb1.size))
    have hb3 : Below w2.heap.size w2 (w2.alloc (pageG G qka qia qea qkc qic qec)) := (Below.refl _ w2).alloc (Nat.le_refl _) _
    have hz3 := size_one w2 (pageG G qka qia qea qkc qic qec)
    have hQ3 := heap_new w2 (pageG G qka qia qea qkc qic qec)
    have hX3 := keep_alloc (x := pageG G qka qia qea qkc qic qec) hX2
    clear hX hX2 hK hI hE rk ri re c0 c1 c2 c3 c4 c5 c6 c7 hB hDm hK2 hI2 hE2
    generalize hw3 : w2.alloc (pageG G qka qia qea qkc qic qec) = w3 at *
    clear hw3
    have hEn2 := hEn qka qia qea qkc qic qec w3 ((rk2.below hb3).mono hb3.size) ((ri2.below hb3).mono hb3.size) ((re2.below hb3).mono hb3.size)
    have hB3 : Below w.heap.size w w3 := hB2.trans (hb3.mono (Nat.le_of_lt hz2))
    have hq3 : w2.heap.size < w3.heap.size := by omega
    clear hEn rk2 ri2 re2 hb1 hb2 hB2 hz3
    obtain ⟨x0, x1, x2, x3, x4, x5, x6, x7⟩ := box8 hX3
    obtain ⟨y0, y1, y2, y3, y4, y5, y6, y7⟩ := box8 hQ3
    go_upto_region 26 with (go_at_call 11; refine hEn2.mono ?_; rintro e w4 ⟨rfl, hb4⟩; clear hEn2)
    obtain ⟨c, v, hcv, hvb, hvc, hvf, row, fz, hvr, hrs⟩ := conv_bytes2 S w4
    have hX4 := (hb4.block w.heap.size (by omega)).trans hX3
    have hQ4 := (hb4.block w2.heap.size hq3).trans hQ3
    have hB4 : Below w.heap.size w w4 := hB3.trans (hb4.mono (by omega))
    have hz4 : w2.heap.size < w4.heap.size := Nat.lt_of_lt_of_le hq3 hb4.size
    clear hX3 hQ3 hB3 x0 x1 x2 x3 x4 x5 x6 x7 y0 y1 y2 y3 y4 y5 y6 y7
    have hX5 := (hvb.block w.heap.size (by omega)).trans hX4
    have hQ5 := (hvb.block w2.heap.size (by omega)).trans hQ4
    have hB5 : Below w.heap.size w v := hB4.trans (hvb.mono (by omega))
    go_upto_region 28 with (go_at_call 20; refine (pick_any _ _ _ (by assumption) (by assumption) (by decide)).mono ?_; rintro e w' ⟨mk, hm0, hm1, rfl, hw⟩; subst w')
    obtain ⟨k, rfl⟩ : ∃ k : Nat, mk = k := ⟨mk.toNat, by omega⟩
    have hk : k < S.data.toList.length := by rw [data_length, HL.out]; omega
    have hk' : (k : Int) < (S.size : Int) := by rw [HL.out]; omega
    have hck := hvc k hk
    have hfk := hvf k (by rw [HL.out]; omega)
    have hbk := (S.data.toList[k]).toNat_lt
    obtain ⟨bk, hbk0⟩ : ∃ bk, S.data.toList[k] = bk := ⟨_, rfl⟩
    rw [hbk0] at hck hbk
    unfold byteV at hck
    go_region_with (go_at_call 20; refine (pick_any _ _ _ (by assumption) (by assumption) (by decide)).mono ?_; rintro e w' ⟨mx, hx0, hx1, rfl, hw⟩; subst w')
    all_goals (
      obtain ⟨t, ht, hxt⟩ := turned_byte bk mx hx0 hx1
      have e1 : IntKind.u8.wrap (IntKind.i64.wrap (1 + mx)) = 1 + mx := by rw [IntKind.wrap_i64, IntKind.wrap_u8]; omega
      rw [e1, hxt]
      have hX6 := keep_set hX5 (β := w4.heap.size) (by omega) k (.int .u8 (t.toNat : Int))
      have hQ6 := keep_set hQ5 (β := w4.heap.size) (by omega) k (.int .u8 (t.toNat : Int))
      have hB6 := hB5.setCell (p := ⟨w4.heap.size, k, none⟩) (show w.heap.size ≤ w4.heap.size by omega) (.int .u8 (t.toNat : Int))
      have hR6 := set_row (k := k) hvr (.int .u8 (t.toNat : Int))
      have hz6 : w4.heap.size < (v.setCell ⟨w4.heap.size, k, none⟩ (.int .u8 (t.toNat : Int))).heap.size := (Array.getElem?_eq_some_iff.1 hR6).1
      generalize v.setCell ⟨w4.heap.size, k, none⟩ (.int .u8 (t.toNat : Int)) = X at hX6 hQ6 hB6 hR6 hz6 ⊢
      obtain ⟨Y, hY⟩ : ∃ Y, X.drew = Y := ⟨_, rfl⟩
      have hX7 : Y.heap[w.heap.size]? = some (pageG G ka ia ea kc ic ec) := by rw [← hY]; exact hX6
      have hQ7 : Y.heap[w2.heap.size]? = some (pageG G qka qia qea qkc qic qec) := by rw [← hY]; exact hQ6
      have hB7 : Below w.heap.size w Y := by rw [← hY]; exact hB6.drew
      have hR7 : Y.heap[w4.heap.size]? = some (.cells (row.setIfInBounds k (byteV t)) 5 fz) := by rw [← hY]; exact hR6
      have hz7 : w4.heap.size < Y.heap.size := by rw [← hY]; exact hz6
      have hcv2 := conv_turned v Y w4.heap.size k c S.data.toList t hvc row fz hvr hR7 hk S.size (data_length S).symm
      have hT : ¬ Whole (⟨(S.data.toList.set k t).toArray⟩ : ByteArray).data.toList := by
        have := turned_seen hW k hk t (by rw [hbk0]; exact ht)
        simpa using this
      obtain ⟨TT, hTT⟩ : ∃ TT : ByteArray, ⟨(S.data.toList.set k t).toArray⟩ = TT := ⟨_, rfl⟩
      rw [hTT] at hT hcv2
      have hsh : ¬ Whole (S.extract 0 255).data.toList := not_whole_len (by rw [ByteArray.size_extract, HL.out]; decide)
      have hD1 := decode_not TT hT
      have hD2 := decode_not (S.extract 0 255) hsh
      have hl255 : (255 : Int) ≤ (S.size : Int) := by rw [HL.out]; decide
      rw [hY]
      clear hY hX6 hQ6 hB6 hR6 hz6 hR7 hT hTT hsh hvc hvf hvr hrs hcv hck hfk hX5 hQ5 hB5 hW hk hbk hxt e1 hX4 hQ4 hB4 hbk0 hvb
      obtain ⟨x0, x1, x2, x3, x4, x5, x6, x7⟩ := box8 hX7
      obtain ⟨y0, y1, y2, y3, y4, y5, y6, y7⟩ := box8 hQ7
      go_upto_region 30 with (go_at_call 15; refine (hD1 _).mono ?_; rintro e w6 ⟨rfl, hb6⟩)
      have hX8 := (hb6.block w.heap.size (by omega)).trans hX7
      have hQ8 := (hb6.block w2.heap.size (by omega)).trans hQ7
      have hB8 : Below w.heap.size w w6 := hB7.trans (hb6.mono (by omega))
      have hz8 : w4.heap.size < w6.heap.size := Nat.lt_of_lt_of_le hz7 hb6.size
      clear hX7 hQ7 hB7 x0 x1 x2 x3 x4 x5 x6 x7 y0 y1 y2 y3 y4 y5 y6 y7 hcv2 hD1
      have hX10 := keep_alloc (x := page0) hX8
      have hQ10 := keep_alloc (x := page0) hQ8
      have hB10 := hB8.alloc (by omega) page0
      have hz10 : w4.heap.size < (w6.alloc page0).heap.size := by rw [size_one]; omega
      generalize w6.alloc page0 = w7 at hX10 hQ10 hB10 hz10 ⊢
      clear hX8 hQ8 hB8 hb6
      go_upto_region 31 with (go_at_call 15; refine (hD2 _).mono ?_; rintro e w9 ⟨rfl, hb9⟩)
      have hX11 := keep_alloc (x := page0) ((hb9.block w.heap.size (by omega)).trans hX10)
      have hQ11 := keep_alloc (x := page0) ((hb9.block w2.heap.size (by omega)).trans hQ10)
      have hz9 : w4.heap.size < w9.heap.size := Nat.lt_of_lt_of_le hz10 hb9.size
      have hB11 := (hB10.trans (hb9.mono (by omega))).alloc (by omega) page0
      generalize w9.alloc page0 = w11 at hX11 hQ11 hB11 ⊢
      clear hX10 hQ10 hB10 hb9 hD2
      obtain ⟨x0, x1, x2, x3, x4, x5, x6, x7⟩ := box8 hX11
      obtain ⟨y0, y1, y2, y3, y4, y5, y6, y7⟩ := box8 hQ11
      go_wp2
      go_ret
      exact ⟨rfl, hB11⟩)
end Go.Proofs.Ytjmmfpolkkglaaa.Pages
