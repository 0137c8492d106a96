/-
  A page that is right and fits, read off its bytes, is the page again.
-/
import Derived.Test.YtjmmfpolkkglaaaDec3
namespace Go.Proofs.Ytjmmfpolkkglaaa.Pages
open Go.RowKit
set_option linter.unusedSimpArgs false
set_option linter.unusedVariables false

/-- some bytes stand among others at a place -/
def Has (bs : List UInt8) (a : Nat) (l : List UInt8) : Prop := ∃ p r, bs = p ++ (l ++ r) ∧ p.length = a
theorem Has.le {bs : List UInt8} {a : Nat} {l : List UInt8} (h : Has bs a l) : a + l.length ≤ bs.length := by
  obtain ⟨p, r, rfl, rfl⟩ := h; simp
theorem Has.left {bs : List UInt8} {a : Nat} {l m : List UInt8} (h : Has bs a (l ++ m)) : Has bs a l := by
  obtain ⟨p, r, rfl, rfl⟩ := h; exact ⟨p, m ++ r, by simp, rfl⟩
theorem Has.right {bs : List UInt8} {a : Nat} {l m : List UInt8} (h : Has bs a (l ++ m)) : Has bs (a + l.length) m := by
  obtain ⟨p, r, rfl, rfl⟩ := h; exact ⟨p ++ l, r, by simp, by simp⟩
theorem Has.pos {bs : List UInt8} {a : Nat} {l : List UInt8} (h : Has bs a l) {k : Nat} (hk : k ≤ l.length) : posB bs a k = a + k := by
  have := h.le; unfold posB; omega
theorem Has.getD {bs : List UInt8} {a : Nat} {l : List UInt8} (h : Has bs a l) {k : Nat} (hk : k < l.length) : bs.getD (a + k) 0 = l[k] := by
  obtain ⟨p, r, rfl, rfl⟩ := h
  simp [List.getD, List.getElem?_append_right, List.getElem?_append_left hk, List.getElem?_eq_getElem hk]
theorem Has.head {bs : List UInt8} {a : Nat} {b : UInt8} {l : List UInt8} (h : Has bs a (b :: l)) : bs.getD a 0 = b := by
  have := h.getD (k := 0) (by simp); simpa using this
theorem Has.tail {bs : List UInt8} {a : Nat} {b : UInt8} {l : List UInt8} (h : Has bs a (b :: l)) : Has bs (a + 1) l :=
  Has.right (l := [b]) h
theorem Has.slice {bs : List UInt8} {a : Nat} {l : List UInt8} (h : Has bs a l) : (bs.drop a).take l.length = l := by
  obtain ⟨p, r, rfl, rfl⟩ := h; simp
theorem byte_of (m : Int) (h0 : 0 ≤ m) (h1 : m < 256) : ((UInt8.ofNat m.toNat).toNat : Int) = m := by
  rw [UInt8.toNat_ofNat_of_lt' (by simp [UInt8.size]; omega)]; omega
theorem byteI (n : Int) (m : Nat) : ((UInt8.ofNat ((n / 2 ^ m % 256).toNat)).toNat : Int) = n / 2 ^ m % 256 := byte_of _ (by omega) (by omega)
theorem num_one {bs : List UInt8} {a : Nat} {n : Int} (h : Has bs a (beB 1 n)) (h0 : 0 ≤ n) (h1 : n < 256) : ((bs.getD a 0).toNat : Int) = n := by
  have e := h.head
  rw [e, byteI]
  simp only [Nat.mul_zero, Int.pow_zero]
  omega
theorem num_two {bs : List UInt8} {a : Nat} {n : Int} (h : Has bs a (beB 2 n)) (h0 : 0 ≤ n) (h1 : n < 65536) : (numV bs a 2 : Int) = n := by
  have e0 := h.head
  have e1 := h.tail.head
  simp only [numV, Nat.add_zero, e0, e1, Nat.zero_mul, Nat.zero_add]
  rw [Int.natCast_add, Int.natCast_mul, byteI, byteI]
  simp only [Nat.mul_zero, Int.pow_zero, Nat.mul_one]
  omega
theorem num_eight {bs : List UInt8} {a : Nat} {n : Int} (h : Has bs a (beB 8 n)) (h0 : 0 ≤ n) (h1 : n < 9223372036854775808) : (numV bs a 8 : Int) = n := by
  have e0 := h.head
  have e1 := h.tail.head
  have e2 := h.tail.tail.head
  have e3 := h.tail.tail.tail.head
  have e4 := h.tail.tail.tail.tail.head
  have e5 := h.tail.tail.tail.tail.tail.head
  have e6 := h.tail.tail.tail.tail.tail.tail.head
  have e7 := h.tail.tail.tail.tail.tail.tail.tail.head
  simp only [Nat.add_assoc] at e0 e1 e2 e3 e4 e5 e6 e7
  simp only [Nat.reduceAdd] at e0 e1 e2 e3 e4 e5 e6 e7
  simp only [numV, Nat.add_zero, e0, e1, e2, e3, e4, e5, e6, e7, Nat.zero_mul, Nat.zero_add]
  simp only [Int.natCast_add, Int.natCast_mul, byteI]
  simp only [Nat.mul_zero, Int.pow_zero, Nat.mul_one, Nat.reduceMul, Int.reducePow]
  omega
theorem arr_back (s : ByteArray) : (⟨s.data.toList.toArray⟩ : ByteArray) = s := by cases s; simp
/-- a text -/
theorem txt_of {bs : List UInt8} {a : Nat} {s : ByteArray} (h : Has bs a (textB s)) (hs : s.size < 256) : (⟨(txtB bs a).toArray⟩ : ByteArray) = s ∧ (txtB bs a).length = s.size ∧ txtA bs a = a + (textB s).length := by
  have e0 : (bs.getD a 0).toNat = s.size := by
    rw [Has.head (l := s.data.toList) h, UInt8.toNat_ofNat_of_lt' (by simpa [UInt8.size] using hs)]
  have hp : posB bs a 1 = a + 1 := h.pos (by simp [textB])
  have h2 : Has bs (a + 1) s.data.toList := Has.tail (b := UInt8.ofNat s.size) h
  have hl : s.data.toList.length = s.size := data_length s
  have e1 : txtB bs a = s.data.toList := by
    unfold txtB
    rw [hp, e0, ← hl]
    exact h2.slice
  refine ⟨by rw [e1, arr_back], by rw [e1, hl], ?_⟩
  have := h2.le
  unfold txtA
  rw [hp, e0]
  simp only [textB, List.length_append, List.length_cons, List.length_nil]
  omega
theorem empty_of {s : ByteArray} (h : s.toList.isEmpty = true) : s = ⟨#[]⟩ := by
  rw [ByteArray.toList_eq] at h
  have h2 : s.data.toList = [] := List.isEmpty_iff.1 h
  rw [← arr_back s, h2]
/-- an entry -/
theorem ent_of {bs : List UInt8} {a : Nat} {e : Ent} (h : Has bs a e.bytes) (hk : e.key.size ≤ 24) (hv : valB e.val e.size e.over = true) : entR bs a = e ∧ entA bs a = a + e.bytes.length := by
  obtain ⟨k, v, n, o⟩ := e
  simp only [Ent.bytes, entBytes] at h hk hv ⊢
  obtain ⟨t1, t2, t3⟩ := txt_of h.left (by omega)
  have hr := h.right
  by_cases ho : (o == 0) = true
  · rw [if_pos ho] at hr ⊢
    have hb : bs.getD (a + (textB k).length) 0 = 0 := hr.head
    have hp : posB bs (a + (textB k).length) 1 = a + (textB k).length + 1 := hr.pos (by simp)
    obtain rfl : o = 0 := by simpa using ho
    simp [valB, placeB_zero] at hv
    obtain ⟨s1, s2, s3⟩ := txt_of (Has.tail (b := 0) hr) (by omega)
    unfold entR entA
    rw [t3, if_pos hb, if_pos hb, hp, t1, s1, s2, s3]
    refine ⟨?_, by simp; omega⟩
    rw [hv.2]
  · rw [if_neg ho] at hr ⊢
    have hb : ¬ bs.getD (a + (textB k).length) 0 = 0 := by rw [Has.head (b := 1) (l := beB 2 n ++ beB 2 o) (by simpa using hr)]; decide
    have hp : posB bs (a + (textB k).length) 1 = a + (textB k).length + 1 := hr.pos (by simp)
    have ho' : o ≠ 0 := by simpa using ho
    simp only [valB, ho', placeB, Bool.or_eq_true, Bool.and_eq_true, decide_eq_true_eq, beq_iff_eq, false_and, false_or] at hv
    have hr2 : Has bs (a + (textB k).length + 1) (beB 2 n ++ beB 2 o) := Has.tail (b := 1) (by simpa using hr)
    have n1 := num_two hr2.left (by omega) (by omega)
    have hp2 : posB bs (a + (textB k).length + 1) 2 = a + (textB k).length + 1 + 2 := hr2.pos (by simp [beB_length])
    have hr3 := hr2.right
    rw [beB_length] at hr3
    have n2 := num_two hr3 (by omega) (by omega)
    have hp3 : posB bs (a + (textB k).length + 1 + 2) 2 = a + (textB k).length + 1 + 2 + 2 := hr3.pos (by simp [beB_length])
    unfold entR entA
    rw [t3, if_neg hb, if_neg hb, hp, hp2, hp3, t1, n1, n2]
    refine ⟨?_, by simp [beB_length]; omega⟩
    rw [empty_of hv.1.1.2]
theorem keysR_cons (bs : List UInt8) (a n : Nat) : keysR bs a (n + 1) = (⟨(txtB bs a).toArray⟩ : ByteArray) :: keysR bs (txtA bs a) n := by
  have hk : ∀ j, keyPos bs a (j + 1) = keyPos bs (txtA bs a) j := fun j => by
    induction j with
    | zero => rfl
    | succ j ih => rw [keyPos, ih, ← keyPos]
  simp only [keysR, List.range_succ_eq_map, List.map_cons, List.map_map]
  refine congrArg (List.cons _) (List.map_congr_left fun j _ => ?_)
  simp only [Function.comp, Nat.succ_eq_add_one, hk]
theorem kidsR_cons (bs : List UInt8) (a n : Nat) : kidsR bs a (n + 1) = (numV bs (posB bs a 0) 2 : Int) :: kidsR bs (posB bs a 2) n := by
  simp only [kidsR, List.range_succ_eq_map, List.map_cons, List.map_map]
  refine congrArg (List.cons _) (List.map_congr_left fun j _ => ?_)
  simp only [Function.comp, Nat.succ_eq_add_one, posB_posB]
  rw [show 2 * (j + 1) = 2 + 2 * j by omega]
theorem entsR_cons (bs : List UInt8) (a n : Nat) : entsR bs a (n + 1) = entR bs a :: entsR bs (entA bs a) n := by
  have hk : ∀ j, entPos bs a (j + 1) = entPos bs (entA bs a) j := fun j => by
    induction j with
    | zero => rfl
    | succ j ih => rw [entPos, ih, ← entPos]
  simp only [entsR, List.range_succ_eq_map, List.map_cons, List.map_map]
  refine congrArg (List.cons _) (List.map_congr_left fun j _ => ?_)
  simp only [Function.comp, Nat.succ_eq_add_one, hk]
theorem keys_of {bs : List UInt8} : ∀ {keys : List ByteArray} {a : Nat}, Has bs a (keys.flatMap textB) → (∀ k ∈ keys, k.size < 256) → keysR bs a keys.length = keys
  | [], _, _, _ => rfl
  | k :: l, a, h, hs => by
    rw [List.flatMap_cons] at h
    obtain ⟨t1, t2, t3⟩ := txt_of h.left (hs k (by simp))
    rw [List.length_cons, keysR_cons, t1, t3, keys_of h.right (fun x hx => hs x (by simp [hx]))]
theorem kids_of {bs : List UInt8} : ∀ {kids : List Int} {a : Nat}, Has bs a (kids.flatMap (beB 2)) → (∀ k ∈ kids, 0 ≤ k ∧ k < 65536) → kidsR bs a kids.length = kids
  | [], _, _, _ => rfl
  | k :: l, a, h, hs => by
    rw [List.flatMap_cons] at h
    have t1 := num_two h.left (hs k (by simp)).1 (hs k (by simp)).2
    have h0 : posB bs a 0 = a := h.pos (Nat.zero_le _)
    have h2 : posB bs a 2 = a + 2 := h.pos (by simp [beB_length])
    have hr := h.right
    rw [beB_length] at hr
    rw [List.length_cons, kidsR_cons, h0, t1, h2, kids_of hr (fun x hx => hs x (by simp [hx]))]
theorem ents_of {bs : List UInt8} : ∀ {ents : List Ent} {a : Nat}, Has bs a (ents.flatMap Ent.bytes) → (∀ e ∈ ents, e.key.size ≤ 24 ∧ valB e.val e.size e.over = true) → entsR bs a ents.length = ents
  | [], _, _, _ => rfl
  | e :: l, a, h, hs => by
    rw [List.flatMap_cons] at h
    obtain ⟨t1, t2⟩ := ent_of h.left (hs e (by simp)).1 (hs e (by simp)).2
    rw [List.length_cons, entsR_cons, t1, t2, ents_of h.right (fun x hx => hs x (by simp [hx]))]
theorem flat_two : ∀ (kids : List Int), (kids.flatMap (beB 2)).length = 2 * kids.length
  | [] => rfl
  | k :: l => by rw [List.flatMap_cons, List.length_append, beB_length, flat_two l, List.length_cons]; omega
/- what a page that is right has -/
theorem rising_all : ∀ {keys : List ByteArray} {l : ByteArray}, risingB l keys = true → ∀ k ∈ keys, k.size ≤ 24
  | [], _, _ => by simp
  | k :: r, l, h => by
    simp only [risingB, followsB, Bool.and_eq_true, decide_eq_true_eq] at h
    intro x hx
    rcases List.mem_cons.1 hx with rfl | hx
    · exact h.1.2
    · exact rising_all h.2 x hx
theorem leaf_all : ∀ {ents : List Ent} {l : ByteArray}, leafOk l ents = true → ∀ e ∈ ents, e.key.size ≤ 24 ∧ valB e.val e.size e.over = true
  | [], _, _ => by simp
  | k :: r, l, h => by
    simp only [leafOk, followsB, Bool.and_eq_true, decide_eq_true_eq] at h
    intro x hx
    rcases List.mem_cons.1 hx with rfl | hx
    · exact ⟨h.1.1.2, h.1.2⟩
    · exact leaf_all h.2 x hx
theorem nil_of {α : Type} {l : List α} (h : ((l.length : Int) == 0) = true) : l = [] := List.eq_nil_of_length_eq_zero (by simpa using h)
theorem flat_ge {α : Type} (f : α → List UInt8) : ∀ (l : List α), (∀ x ∈ l, 1 ≤ (f x).length) → l.length ≤ (l.flatMap f).length
  | [], _ => by simp
  | x :: l, h => by
    have h1 := h x (by simp)
    have h2 := flat_ge f l (fun y hy => h y (by simp [hy]))
    rw [List.flatMap_cons, List.length_append, List.length_cons]
    omega
theorem textB_pos (s : ByteArray) : 1 ≤ (textB s).length := by simp [textB]
theorem bytes_pos (e : Ent) : 1 ≤ e.bytes.length := by
  have := textB_pos e.key
  simp only [Ent.bytes, entBytes, List.length_append]; omega
theorem wrap64_small {n : Int} (h0 : 0 ≤ n) (h1 : n < 9223372036854775808) : wrap64 n = n := by unfold wrap64; omega
theorem round_trip (g : Pg) (hver : g.ver < 9223372036854775808) (hE : g.encE = 0) : readP g.encS.data.toList = g := by
  obtain ⟨kind, ver, root, next, keys, kids, ents, data⟩ := g
  simp only [Pg.encE, Pg.encS, Pages.encE, Pages.encS] at hE hver ⊢
  split at hE
  case isFalse => simp at hE
  case isTrue hT =>
  rw [if_pos hT]
  simp only [Bool.and_eq_true, decide_eq_true_eq] at hT
  obtain ⟨hR, hL⟩ := hT
  have hAll : Has (fullB (fieldsB kind ver root next keys kids ents data)) 0 (fieldsB kind ver root next keys kids ents data) :=
    ⟨[], _, by rw [fullB, padB, List.append_assoc]; rfl, rfl⟩
  have hdata : ((⟨(fullB (fieldsB kind ver root next keys kids ents data)).toArray⟩ : ByteArray)).data.toList = fullB (fieldsB kind ver root next keys kids ents data) := by simp
  rw [hdata]
  clear hdata
  generalize fullB (fieldsB kind ver root next keys kids ents data) = bs at hAll ⊢
  unfold readP
  unfold rightB at hR
  by_cases h1 : kind = 1
  · subst h1
    rw [if_pos rfl] at hR
    simp only [noBranch, noLeaf, noOver, metaB, Bool.and_eq_true, decide_eq_true_eq, Bool.or_eq_true, placeB] at hR
    obtain ⟨⟨⟨⟨k1, k2⟩, k3⟩, k4, k5⟩, k6, k7⟩ := hR
    rw [fieldsB, if_pos rfl] at hAll
    have hk : bs.getD 0 0 = 1 := hAll.left.left.head
    have hp1 : posB bs 0 1 = 1 := hAll.pos (by simp [beB_length])
    have hv := hAll.left.right
    rw [beB_length] at hv
    have hp2 : posB bs 1 8 = 9 := hv.pos (by simp [beB_length])
    have hr := hAll.right
    rw [List.length_append, beB_length, beB_length] at hr
    have hroot : 0 ≤ root ∧ root < 65536 := by
      rcases k7 with k7 | k7
      · have := beq_iff_eq.1 k7; omega
      · omega
    rw [hk, show readK bs (1 : UInt8).toNat = _ from if_pos rfl, hp1, hp2, num_two hr hroot.1 hroot.2]
    rw [num_eight hv k6 hver, wrap64_small k6 hver, nil_of k1, nil_of k2, nil_of k3, empty_of k5, beq_iff_eq.1 k4]
  by_cases h2 : kind = 2
  · subst h2
    rw [if_neg h1, if_pos rfl] at hR
    simp only [noMeta, noLeaf, noOver, branchOk, Bool.and_eq_true, decide_eq_true_eq] at hR
    obtain ⟨⟨⟨⟨k1, k2⟩, k3⟩, k4, k5⟩, ⟨⟨k6, k7⟩, k8⟩, k9⟩ := hR
    rw [fieldsB, if_neg h1, if_pos rfl] at hAll hL
    have hkn : keys.length < 256 := by
      have := flat_ge textB keys (fun x _ => textB_pos x)
      rw [branchB] at hL
      simp only [List.length_append] at hL
      omega
    have hk : bs.getD 0 0 = 2 := hAll.left.head
    have hp1 : posB bs 0 1 = 1 := hAll.pos (by simp [beB_length])
    have hB := hAll.right
    rw [beB_length, branchB] at hB
    have hn := num_one hB.left.left (by omega) (by omega)
    have hn' : (bs.getD 1 0).toNat = keys.length := by have h : ((bs.getD 1 0).toNat : Int) = keys.length := hn; omega
    have hp2 : posB bs 1 1 = 2 := hB.pos (by simp [beB_length])
    have hI := hB.left.right
    rw [beB_length] at hI
    have hp3 : posB bs 2 (2 * (keys.length + 1)) = 2 + 2 * (keys.length + 1) := hI.pos (by rw [flat_two, k7]; omega)
    have hK := hB.right
    rw [List.length_append, beB_length, flat_two, k7] at hK
    have e1 := keys_of hK (fun k hk => by have := rising_all k9 k hk; omega)
    have e2 := kids_of hI (fun k hk => by have := List.all_eq_true.1 k8 k hk; simp [placeB] at this; omega)
    rw [hk, show readK bs (2 : UInt8).toNat = _ from (if_neg (by decide)).trans (if_pos rfl), hp1, hn', hp2, hp3, ← k7, e2, k7]
    rw [show 2 + 2 * (keys.length + 1) = 0 + 1 + (1 + 2 * (keys.length + 1)) by omega, e1]
    rw [beq_iff_eq.1 k1, beq_iff_eq.1 k2, nil_of k3, beq_iff_eq.1 k4, empty_of k5]
  by_cases h3 : kind = 3
  · subst h3
    rw [if_neg h1, if_neg h2, if_pos rfl] at hR
    simp only [noMeta, noBranch, noOver, Bool.and_eq_true, decide_eq_true_eq] at hR
    obtain ⟨⟨⟨⟨k1, k2⟩, k3, k3b⟩, k4, k5⟩, k6, k7⟩ := hR
    rw [fieldsB, if_neg h1, if_neg h2, if_pos rfl] at hAll hL
    have hkn : ents.length < 256 := by
      have := flat_ge Ent.bytes ents (fun x _ => bytes_pos x)
      rw [leafB] at hL
      simp only [List.length_append] at hL
      omega
    have hk : bs.getD 0 0 = 3 := hAll.left.head
    have hp1 : posB bs 0 1 = 1 := hAll.pos (by simp [beB_length])
    have hB := hAll.right
    rw [beB_length, leafB] at hB
    have hn := num_one hB.left (by omega) (by omega)
    have hn' : (bs.getD 1 0).toNat = ents.length := by have h : ((bs.getD 1 0).toNat : Int) = ents.length := hn; omega
    have hp2 : posB bs 1 1 = 2 := hB.pos (by simp [beB_length])
    have hI := hB.right
    rw [beB_length] at hI
    have e1 := ents_of hI (leaf_all k7)
    rw [hk, show readK bs (3 : UInt8).toNat = _ from (if_neg (by decide)).trans ((if_neg (by decide)).trans (if_pos rfl)), hp1, hn', hp2]
    rw [show 2 = 0 + 1 + 1 from rfl, e1]
    rw [beq_iff_eq.1 k1, beq_iff_eq.1 k2, nil_of k3, nil_of k3b, beq_iff_eq.1 k4, empty_of k5]
  by_cases h4 : kind = 4
  · subst h4
    rw [if_neg h1, if_neg h2, if_neg h3, if_pos rfl] at hR
    simp only [noMeta, noBranch, noLeaf, overB, Bool.and_eq_true, decide_eq_true_eq, Bool.or_eq_true, placeB] at hR
    obtain ⟨⟨⟨⟨k1, k2⟩, k3, k3b⟩, k4⟩, k5, k6, k7⟩ := hR
    rw [fieldsB, if_neg h1, if_neg h2, if_neg h3] at hAll
    have hk : bs.getD 0 0 = 4 := hAll.left.left.head
    have hp1 : posB bs 0 1 = 1 := hAll.pos (by simp [beB_length])
    have hv := hAll.left.right
    rw [beB_length] at hv
    have hp2 : posB bs 1 2 = 3 := hv.pos (by simp [beB_length])
    have hr := hAll.right
    rw [List.length_append, beB_length, beB_length] at hr
    have hnext : 0 ≤ next ∧ next < 65536 := by
      rcases k5 with k5 | k5
      · have := beq_iff_eq.1 k5; omega
      · omega
    obtain ⟨t1, t2, t3⟩ := txt_of hr (by omega)
    rw [hk, show readK bs (4 : UInt8).toNat = _ from (if_neg (by decide)).trans ((if_neg (by decide)).trans ((if_neg (by decide)).trans (if_pos rfl))), hp1, hp2, num_two hv hnext.1 hnext.2]
    rw [show 3 = 0 + (1 + 2) from rfl, t1, beq_iff_eq.1 k1, beq_iff_eq.1 k2, nil_of k3, nil_of k3b, nil_of k4]
  · simp [h1, h2, h3, h4] at hR
end Go.Proofs.Ytjmmfpolkkglaaa.Pages
