/-
  The page that the reference reads off bytes; of a page that is right and fits it is the page again.
-/
import Derived.Test.YtjmmfpolkkglaaaREntry
import Derived.Test.YtjmmfpolkkglaaaRound
namespace Go.Proofs.Ytjmmfpolkkglaaa.Pages
open Go.RowKit
set_option linter.unusedSimpArgs false
set_option linter.unusedVariables false

def RS.kids : RS → Nat → List Int
  | _, 0 => []
  | s, n + 1 => numI (s.bytes 2) :: (s.past 2).kids n
def RS.pastKids : RS → Nat → RS
  | s, 0 => s
  | s, n + 1 => (s.past 2).pastKids n
def RS.keys : RS → Nat → List ByteArray
  | _, 0 => []
  | s, n + 1 => s.key :: s.keyed.keys n
def RS.pastKeys : RS → Nat → RS
  | s, 0 => s
  | s, n + 1 => s.keyed.pastKeys n
def RS.ents : RS → Nat → List Ent
  | _, 0 => []
  | s, n + 1 => s.ent :: s.ented.ents n
def RS.pastEnts : RS → Nat → RS
  | s, 0 => s
  | s, n + 1 => s.ented.pastEnts n
/-- the page that is read, by its kind, and what is left -/
def RS.page (s : RS) (k : Nat) : Pg :=
  if k = 1 then ⟨1, numI (s.bytes 8), numI ((s.past 8).bytes 2), 0, [], [], [], ⟨#[]⟩⟩
  else if k = 2 then ⟨2, 0, 0, 0, ((s.past 1).pastKids (s.one + 1)).keys s.one, (s.past 1).kids (s.one + 1), [], ⟨#[]⟩⟩
  else if k = 3 then ⟨3, 0, 0, 0, [], [], (s.past 1).ents s.one, ⟨#[]⟩⟩
  else if k = 4 then ⟨4, 0, 0, numI (s.bytes 2), [], [], [], (s.past 2).key⟩
  else ⟨(k : Nat), 0, 0, 0, [], [], [], ⟨#[]⟩⟩
def RS.paged (s : RS) (k : Nat) : RS :=
  if k = 1 then (s.past 8).past 2
  else if k = 2 then ((s.past 1).pastKids (s.one + 1)).pastKeys s.one
  else if k = 3 then (s.past 1).pastEnts s.one
  else if k = 4 then (s.past 2).keyed
  else s
theorem RS.page_1 (s : RS) : s.page 1 = ⟨1, numI (s.bytes 8), numI ((s.past 8).bytes 2), 0, [], [], [], ⟨#[]⟩⟩ := if_pos rfl
theorem RS.page_2 (s : RS) : s.page 2 = ⟨2, 0, 0, 0, ((s.past 1).pastKids (s.one + 1)).keys s.one, (s.past 1).kids (s.one + 1), [], ⟨#[]⟩⟩ := (if_neg (by decide)).trans (if_pos rfl)
theorem RS.page_3 (s : RS) : s.page 3 = ⟨3, 0, 0, 0, [], [], (s.past 1).ents s.one, ⟨#[]⟩⟩ := (if_neg (by decide)).trans ((if_neg (by decide)).trans (if_pos rfl))
theorem RS.page_4 (s : RS) : s.page 4 = ⟨4, 0, 0, numI (s.bytes 2), [], [], [], (s.past 2).key⟩ := (if_neg (by decide)).trans ((if_neg (by decide)).trans ((if_neg (by decide)).trans (if_pos rfl)))
theorem RS.page_n (s : RS) {k : Nat} (h1 : k ≠ 1) (h2 : k ≠ 2) (h3 : k ≠ 3) (h4 : k ≠ 4) : s.page k = ⟨(k : Nat), 0, 0, 0, [], [], [], ⟨#[]⟩⟩ := (if_neg h1).trans ((if_neg h2).trans ((if_neg h3).trans (if_neg h4)))
theorem RS.paged_1 (s : RS) : s.paged 1 = (s.past 8).past 2 := if_pos rfl
theorem RS.paged_2 (s : RS) : s.paged 2 = ((s.past 1).pastKids (s.one + 1)).pastKeys s.one := (if_neg (by decide)).trans (if_pos rfl)
theorem RS.paged_3 (s : RS) : s.paged 3 = (s.past 1).pastEnts s.one := (if_neg (by decide)).trans ((if_neg (by decide)).trans (if_pos rfl))
theorem RS.paged_4 (s : RS) : s.paged 4 = (s.past 2).keyed := (if_neg (by decide)).trans ((if_neg (by decide)).trans ((if_neg (by decide)).trans (if_pos rfl)))
theorem RS.paged_n (s : RS) {k : Nat} (h1 : k ≠ 1) (h2 : k ≠ 2) (h3 : k ≠ 3) (h4 : k ≠ 4) : s.paged k = s := (if_neg h1).trans ((if_neg h2).trans ((if_neg h3).trans (if_neg h4)))
/-- what the reference begins with: the bytes ahead of the sum -/
def rs0 (s : ByteArray) : RS := ⟨s.data.toList.take 252, false⟩

/- reading what was written -/
theorem RS.bytes_app {s : RS} {a r : List UInt8} (h : s.l = a ++ r) {n : Nat} (hn : n = a.length) : s.bytes n = a := by
  subst hn
  unfold RS.bytes
  rw [h, if_neg (by simp), List.take_left]
theorem RS.past_app {s : RS} {a r : List UInt8} (h : s.l = a ++ r) {n : Nat} (hn : n = a.length) : s.past n = ⟨r, s.bad⟩ := by
  subst hn
  unfold RS.past
  rw [h, if_neg (by simp), List.drop_left]
def numN (l : List UInt8) : Nat := l.foldl (fun n b => n * 256 + b.toNat) 0
theorem fold_ge : ∀ (l : List UInt8) (V : Nat), V ≤ l.foldl (fun n b => n * 256 + b.toNat) V
  | [], V => Nat.le_refl _
  | b :: l, V => by
    have := fold_ge l (V * 256 + b.toNat)
    rw [List.foldl_cons]
    omega
theorem numI_fold : ∀ (l : List UInt8) (V : Nat), l.foldl (fun n b => n * 256 + b.toNat) V < 9223372036854775808 → l.foldl stepI (V : Int) = ((l.foldl (fun n b => n * 256 + b.toNat) V : Nat) : Int)
  | [], V, _ => rfl
  | b :: l, V, h => by
    rw [List.foldl_cons] at h
    have := fold_ge l (V * 256 + b.toNat)
    rw [List.foldl_cons, List.foldl_cons, stepI_small b (by omega), numI_fold l _ h]
theorem numI_nat (l : List UInt8) (h : numN l < 9223372036854775808) : numI l = (numN l : Int) := numI_fold l 0 h
theorem numI_one {n : Int} (h0 : 0 ≤ n) (h1 : n < 256) : numI (beB 1 n) = n := by
  have e : (numN (beB 1 n) : Int) = n := by
    simp only [numN, beB, List.foldl_cons, List.foldl_nil, Nat.zero_mul, Nat.zero_add, byteI]
    simp only [Nat.mul_zero, Int.pow_zero]
    omega
  rw [numI_nat _ (by omega), e]
theorem numI_two {n : Int} (h0 : 0 ≤ n) (h1 : n < 65536) : numI (beB 2 n) = n := by
  have e : (numN (beB 2 n) : Int) = n := by
    simp only [numN, beB, List.foldl_cons, List.foldl_nil, Nat.zero_mul, Nat.zero_add, Int.natCast_add, Int.natCast_mul, byteI]
    simp only [Nat.mul_zero, Int.pow_zero, Nat.mul_one]
    omega
  rw [numI_nat _ (by omega), e]
theorem numI_eight {n : Int} (h0 : 0 ≤ n) (h1 : n < 9223372036854775808) : numI (beB 8 n) = n := by
  have e : (numN (beB 8 n) : Int) = n := by
    simp only [numN, beB, List.foldl_cons, List.foldl_nil, Nat.zero_mul, Nat.zero_add, Int.natCast_add, Int.natCast_mul, byteI]
    simp only [Nat.mul_zero, Int.pow_zero, Nat.mul_one, Nat.reduceMul, Int.reducePow]
    omega
  rw [numI_nat _ (by omega), e]
theorem RS.num_app {s : RS} {r : List UInt8} {k : Nat} {n : Int} (h : s.l = beB k n ++ r) : s.bytes k = beB k n ∧ s.past k = ⟨r, s.bad⟩ :=
  ⟨RS.bytes_app h (beB_length k n).symm, RS.past_app h (beB_length k n).symm⟩
theorem RS.one_app {s : RS} {r : List UInt8} {b : UInt8} (h : s.l = b :: r) : s.one = b.toNat ∧ s.past 1 = ⟨r, s.bad⟩ := by
  have h' : s.l = [b] ++ r := h
  refine ⟨?_, RS.past_app h' rfl⟩
  unfold RS.one
  rw [RS.bytes_app (n := 1) h' rfl, num_byte]
  omega
theorem RS.text_app {s : RS} {r : List UInt8} {t : ByteArray} (h : s.l = textB t ++ r) (ht : t.size < 256) : s.key = t ∧ s.keyed = ⟨r, s.bad⟩ := by
  have h' : s.l = UInt8.ofNat t.size :: (t.data.toList ++ r) := by rw [h]; simp [textB]
  obtain ⟨e1, e2⟩ := RS.one_app h'
  rw [UInt8.toNat_ofNat_of_lt' (by simpa [UInt8.size] using ht)] at e1
  unfold RS.key RS.keyed
  rw [e1, e2]
  have hl : t.size = t.data.toList.length := (data_length t).symm
  exact ⟨by rw [RS.bytes_app (s := ⟨t.data.toList ++ r, s.bad⟩) rfl hl, strB_data], RS.past_app (s := ⟨t.data.toList ++ r, s.bad⟩) rfl hl⟩
theorem RS.ent_app {s : RS} {r : List UInt8} {e : Ent} (h : s.l = e.bytes ++ r) (hk : e.key.size ≤ 24) (hv : valB e.val e.size e.over = true) : s.ent = e ∧ s.ented = ⟨r, s.bad⟩ := by
  obtain ⟨k, v, n, o⟩ := e
  simp only [Ent.bytes, entBytes] at h hk hv ⊢
  rw [List.append_assoc] at h
  obtain ⟨t1, t2⟩ := RS.text_app h (by omega)
  unfold RS.ent RS.ented
  rw [t1, t2]
  by_cases ho : (o == 0) = true
  · rw [if_pos ho] at h ⊢
    obtain rfl : o = 0 := by simpa using ho
    simp [valB, placeB_zero] at hv
    obtain ⟨e1, e2⟩ := RS.one_app (s := ⟨[0] ++ textB v ++ r, s.bad⟩) (b := 0) (r := textB v ++ r) (by simp)
    have e1' : RS.one ⟨[0] ++ textB v ++ r, s.bad⟩ = 0 := e1
    rw [e1', e2, if_pos rfl, if_pos rfl]
    obtain ⟨u1, u2⟩ := RS.text_app (s := ⟨textB v ++ r, s.bad⟩) rfl (show v.size < 256 by omega)
    unfold RS.key at u1
    unfold RS.keyed at u2
    rw [u1, u2]
    refine ⟨?_, rfl⟩
    have e3 : (RS.one ⟨textB v ++ r, s.bad⟩ : Int) = n := by
      rw [(RS.one_app (s := ⟨textB v ++ r, s.bad⟩) (b := UInt8.ofNat v.size) (r := v.data.toList ++ r) (by simp [textB])).1, UInt8.toNat_ofNat_of_lt' (by simp [UInt8.size]; omega)]
      omega
    rw [e3]
  · rw [if_neg ho] at h ⊢
    have ho' : o ≠ 0 := by simpa using ho
    simp only [valB, ho', placeB, Bool.or_eq_true, Bool.and_eq_true, decide_eq_true_eq, beq_iff_eq, false_and, false_or] at hv
    obtain ⟨e1, e2⟩ := RS.one_app (s := ⟨[1] ++ beB 2 n ++ beB 2 o ++ r, s.bad⟩) (b := 1) (r := beB 2 n ++ (beB 2 o ++ r)) (by simp)
    have e1' : RS.one ⟨[1] ++ beB 2 n ++ beB 2 o ++ r, s.bad⟩ = 1 := e1
    rw [e1', e2, if_neg (by decide), if_neg (by decide)]
    obtain ⟨f1, f2⟩ := RS.num_app (s := ⟨beB 2 n ++ (beB 2 o ++ r), s.bad⟩) rfl
    rw [f1, f2]
    obtain ⟨f3, f4⟩ := RS.num_app (s := ⟨beB 2 o ++ r, s.bad⟩) rfl
    rw [f3, f4, numI_two (by omega) (by omega), numI_two (by omega) (by omega), empty_of hv.1.1.2]
    exact ⟨rfl, rfl⟩
theorem RS.kids_app : ∀ {kids : List Int} {s : RS} {r : List UInt8}, s.l = kids.flatMap (beB 2) ++ r → (∀ k ∈ kids, 0 ≤ k ∧ k < 65536) → s.kids kids.length = kids ∧ s.pastKids kids.length = ⟨r, s.bad⟩
  | [], s, r, h, _ => ⟨rfl, by cases s; simp at h; subst h; rfl⟩
  | k :: l, s, r, h, hs => by
    rw [List.flatMap_cons, List.append_assoc] at h
    obtain ⟨e1, e2⟩ := RS.num_app h
    obtain ⟨f1, f2⟩ := RS.kids_app (kids := l) (s := ⟨l.flatMap (beB 2) ++ r, s.bad⟩) rfl (fun x hx => hs x (by simp [hx]))
    rw [List.length_cons, RS.kids, RS.pastKids, e1, e2, f1, f2, numI_two (hs k (by simp)).1 (hs k (by simp)).2]
    exact ⟨rfl, rfl⟩
theorem RS.keys_app : ∀ {keys : List ByteArray} {s : RS} {r : List UInt8}, s.l = keys.flatMap textB ++ r → (∀ k ∈ keys, k.size < 256) → s.keys keys.length = keys ∧ s.pastKeys keys.length = ⟨r, s.bad⟩
  | [], s, r, h, _ => ⟨rfl, by cases s; simp at h; subst h; rfl⟩
  | k :: l, s, r, h, hs => by
    rw [List.flatMap_cons, List.append_assoc] at h
    obtain ⟨e1, e2⟩ := RS.text_app h (hs k (by simp))
    obtain ⟨f1, f2⟩ := RS.keys_app (keys := l) (s := ⟨l.flatMap textB ++ r, s.bad⟩) rfl (fun x hx => hs x (by simp [hx]))
    rw [List.length_cons, RS.keys, RS.pastKeys, e1, e2, f1, f2]
    exact ⟨rfl, rfl⟩
theorem RS.ents_app : ∀ {es : List Ent} {s : RS} {r : List UInt8}, s.l = es.flatMap Ent.bytes ++ r → (∀ e ∈ es, e.key.size ≤ 24 ∧ valB e.val e.size e.over = true) → s.ents es.length = es ∧ s.pastEnts es.length = ⟨r, s.bad⟩
  | [], s, r, h, _ => ⟨rfl, by cases s; simp at h; subst h; rfl⟩
  | e :: l, s, r, h, hs => by
    rw [List.flatMap_cons, List.append_assoc] at h
    obtain ⟨e1, e2⟩ := RS.ent_app h (hs e (by simp)).1 (hs e (by simp)).2
    obtain ⟨f1, f2⟩ := RS.ents_app (es := l) (s := ⟨l.flatMap Ent.bytes ++ r, s.bad⟩) rfl (fun x hx => hs x (by simp [hx]))
    rw [List.length_cons, RS.ents, RS.pastEnts, e1, e2, f1, f2]
    exact ⟨rfl, rfl⟩
theorem ref_round (g : Pg) (hver : g.ver < 9223372036854775808) (hE : g.encE = 0) : ((rs0 g.encS).past 1).page (rs0 g.encS).one = g ∧ (((rs0 g.encS).past 1).paged (rs0 g.encS).one).bad = false := by
  obtain ⟨kind, ver, root, next, keys, kids, ents, data⟩ := g
  simp only [Pg.encE, Pg.encS, Pages.encE, Pages.encS] at hE hver ⊢
  split at hE
  case isFalse => simp at hE
  case isTrue hT =>
  rw [if_pos hT]
  simp only [Bool.and_eq_true, decide_eq_true_eq] at hT
  obtain ⟨hR, hL⟩ := hT
  have hs0 : rs0 ⟨(fullB (fieldsB kind ver root next keys kids ents data)).toArray⟩ = ⟨fieldsB kind ver root next keys kids ents data ++ List.replicate (252 - (fieldsB kind ver root next keys kids ents data).length) 0, false⟩ := by
    unfold rs0
    have : (fullB (fieldsB kind ver root next keys kids ents data)).take 252 = padB (fieldsB kind ver root next keys kids ents data) := by
      unfold fullB
      rw [List.take_left' (by simp [padB]; omega)]
    simp only [List.toList_toArray]
    rw [this]; rfl
  rw [hs0]
  clear hs0
  generalize List.replicate (252 - (fieldsB kind ver root next keys kids ents data).length) (0 : UInt8) = Z
  unfold rightB at hR
  by_cases h1 : kind = 1
  · subst h1
    rw [if_pos rfl] at hR
    simp only [noBranch, noLeaf, noOver, metaB, Bool.and_eq_true, decide_eq_true_eq, Bool.or_eq_true, placeB] at hR
    obtain ⟨⟨⟨⟨k1, k2⟩, k3⟩, k4, k5⟩, k6, k7⟩ := hR
    have hroot : 0 ≤ root ∧ root < 65536 := by
      rcases k7 with k7 | k7
      · have := beq_iff_eq.1 k7; omega
      · omega
    rw [fieldsB, if_pos rfl]
    obtain ⟨e1, e2⟩ := RS.one_app (s := ⟨beB 1 1 ++ beB 8 ver ++ beB 2 root ++ Z, false⟩) (b := 1) (r := beB 8 ver ++ (beB 2 root ++ Z)) (by simp [beB])
    simp only [UInt8.reduceToNat] at e1
    rw [e1, e2]
    obtain ⟨f1, f2⟩ := RS.num_app (s := ⟨beB 8 ver ++ (beB 2 root ++ Z), false⟩) rfl
    obtain ⟨f3, f4⟩ := RS.num_app (s := ⟨beB 2 root ++ Z, false⟩) rfl
    rw [RS.page_1, RS.paged_1, f1, f2, f3, f4, numI_eight k6 hver, numI_two hroot.1 hroot.2, nil_of k1, nil_of k2, nil_of k3, empty_of k5, beq_iff_eq.1 k4]
    exact ⟨rfl, rfl⟩
  by_cases h2 : kind = 2
  · subst h2
    rw [if_neg h1, if_pos rfl] at hR
    simp only [noMeta, noLeaf, noOver, branchOk, Bool.and_eq_true, decide_eq_true_eq] at hR
    obtain ⟨⟨⟨⟨k1, k2⟩, k3⟩, k4, k5⟩, ⟨⟨k6, k7⟩, k8⟩, k9⟩ := hR
    rw [fieldsB, if_neg h1, if_pos rfl] at hL ⊢
    have hkn : keys.length < 256 := by
      have := flat_ge textB keys (fun x _ => textB_pos x)
      rw [branchB] at hL
      simp only [List.length_append] at hL
      omega
    rw [branchB]
    obtain ⟨e1, e2⟩ := RS.one_app (s := ⟨beB 1 2 ++ (beB 1 keys.length ++ kids.flatMap (beB 2) ++ keys.flatMap textB) ++ Z, false⟩) (b := 2) (r := beB 1 keys.length ++ (kids.flatMap (beB 2) ++ (keys.flatMap textB ++ Z))) (by simp [beB])
    simp only [UInt8.reduceToNat] at e1
    rw [e1, e2]
    obtain ⟨f1, f2⟩ := RS.one_app (s := ⟨beB 1 keys.length ++ (kids.flatMap (beB 2) ++ (keys.flatMap textB ++ Z)), false⟩) (b := UInt8.ofNat keys.length) (r := kids.flatMap (beB 2) ++ (keys.flatMap textB ++ Z)) (by rw [beB_one]; simp)
    rw [UInt8.toNat_ofNat_of_lt' (by simpa [UInt8.size] using hkn)] at f1
    obtain ⟨g1, g2⟩ := RS.kids_app (kids := kids) (s := ⟨kids.flatMap (beB 2) ++ (keys.flatMap textB ++ Z), false⟩) rfl (fun k hk => by have := List.all_eq_true.1 k8 k hk; simp [placeB] at this; omega)
    obtain ⟨g3, g4⟩ := RS.keys_app (keys := keys) (s := ⟨keys.flatMap textB ++ Z, false⟩) rfl (fun k hk => by have := rising_all k9 k hk; omega)
    rw [RS.page_2, RS.paged_2, f1, f2, ← k7, g1, g2, g3, g4, beq_iff_eq.1 k1, beq_iff_eq.1 k2, nil_of k3, beq_iff_eq.1 k4, empty_of k5]
    exact ⟨rfl, rfl⟩
  by_cases h3 : kind = 3
  · subst h3
    rw [if_neg h1, if_neg h2, if_pos rfl] at hR
    simp only [noMeta, noBranch, noOver, Bool.and_eq_true, decide_eq_true_eq] at hR
    obtain ⟨⟨⟨⟨k1, k2⟩, k3, k3b⟩, k4, k5⟩, k6, k7⟩ := hR
    rw [fieldsB, if_neg h1, if_neg h2, if_pos rfl] at hL ⊢
    have hkn : ents.length < 256 := by
      have := flat_ge Ent.bytes ents (fun x _ => bytes_pos x)
      rw [leafB] at hL
      simp only [List.length_append] at hL
      omega
    rw [leafB]
    obtain ⟨e1, e2⟩ := RS.one_app (s := ⟨beB 1 3 ++ (beB 1 ents.length ++ ents.flatMap Ent.bytes) ++ Z, false⟩) (b := 3) (r := beB 1 ents.length ++ (ents.flatMap Ent.bytes ++ Z)) (by simp [beB])
    simp only [UInt8.reduceToNat] at e1
    rw [e1, e2]
    obtain ⟨f1, f2⟩ := RS.one_app (s := ⟨beB 1 ents.length ++ (ents.flatMap Ent.bytes ++ Z), false⟩) (b := UInt8.ofNat ents.length) (r := ents.flatMap Ent.bytes ++ Z) (by rw [beB_one]; simp)
    rw [UInt8.toNat_ofNat_of_lt' (by simpa [UInt8.size] using hkn)] at f1
    obtain ⟨g1, g2⟩ := RS.ents_app (es := ents) (s := ⟨ents.flatMap Ent.bytes ++ Z, false⟩) rfl (leaf_all k7)
    rw [RS.page_3, RS.paged_3, f1, f2, g1, g2, beq_iff_eq.1 k1, beq_iff_eq.1 k2, nil_of k3, nil_of k3b, beq_iff_eq.1 k4, empty_of k5]
    exact ⟨rfl, rfl⟩
  by_cases h4 : kind = 4
  · subst h4
    rw [if_neg h1, if_neg h2, if_neg h3, if_pos rfl] at hR
    simp only [noMeta, noBranch, noLeaf, overB, Bool.and_eq_true, decide_eq_true_eq, Bool.or_eq_true, placeB] at hR
    obtain ⟨⟨⟨⟨k1, k2⟩, k3, k3b⟩, k4⟩, k5, k6, k7⟩ := hR
    have hnext : 0 ≤ next ∧ next < 65536 := by
      rcases k5 with k5 | k5
      · have := beq_iff_eq.1 k5; omega
      · omega
    rw [fieldsB, if_neg h1, if_neg h2, if_neg h3]
    obtain ⟨e1, e2⟩ := RS.one_app (s := ⟨beB 1 4 ++ beB 2 next ++ textB data ++ Z, false⟩) (b := 4) (r := beB 2 next ++ (textB data ++ Z)) (by simp [beB])
    simp only [UInt8.reduceToNat] at e1
    rw [e1, e2]
    obtain ⟨f1, f2⟩ := RS.num_app (s := ⟨beB 2 next ++ (textB data ++ Z), false⟩) rfl
    obtain ⟨f3, f4⟩ := RS.text_app (s := ⟨textB data ++ Z, false⟩) rfl (show data.size < 256 by omega)
    rw [RS.page_4, RS.paged_4, f1, f2, f3, f4, numI_two hnext.1 hnext.2, beq_iff_eq.1 k1, beq_iff_eq.1 k2, nil_of k3, nil_of k3b, nil_of k4]
    exact ⟨rfl, rfl⟩
  · simp [h1, h2, h3, h4] at hR
end Go.Proofs.Ytjmmfpolkkglaaa.Pages
