/-
  Joined: PTop, PGe, PFs, PStore, PWith, PUsed, AppX.
-/
import Derived.Test.YtngpplmndpmgiaaGreatJ36
import Derived.Test.YtngpplmndpmgiaaGreatJ27
import Derived.Test.YtngpplmndpmgiaaGreatJ20
import Derived.Test.YtngpplmndpmgiaaGreatJ28
import Derived.Test.YtngpplmndpmgiaaGreatJ30
namespace Go.Proofs.YtngpplmndpmgiaaGreat.Tree
open Go.RowKit Go.Proofs.YtngpplmndpmgiaaGreat.Pages
set_option linter.unusedSimpArgs false
set_option linter.unusedVariables false
def layTop (N : List NT) (fr : List Nat) : Option (Nat × T) × List (Nat × Pg) := match N with
  | [] => (none, [])
  | [n] => (some (0, (layN n fr).1), (layN n fr).2)
  | n :: m :: r => (some (1, (layB (n :: m :: r) fr).1), (layB (n :: m :: r) fr).2)
def rootOf : Option (Nat × T) → Nat
  | none => 0
  | some (_, t) => t.place
theorem newCh_len (x : En) (fr : List Nat) : (newCh x fr).length ≤ 2 := by
  unfold newCh
  split
  · exact layV_len 2 _ _
  · simp
theorem layEs_count : ∀ (es : List En) (fr : List Nat), (layEs es fr).2.length ≤ 2 * es.length
  | [], _ => by simp [layEs]
  | x :: es, fr => by
    have h1 := newCh_len x fr
    have h2 := layEs_count es (fr.drop (newCh x fr).length)
    simp only [layEs, List.length_append, List.length_reverse, List.length_cons]; omega
theorem layN_count (n : NT) (fr : List Nat) : (layN n fr).2.length ≤ 1 + 2 * n.ents0.length := by
  cases n with
  | kept => simp [layN]
  | bran => simp [layN]
  | leaf s es =>
    have := layEs_count es fr
    simp only [layN, List.length_append, List.length_singleton, NT.ents0]; omega
theorem layNs_count : ∀ (ns : List NT) (fr : List Nat), (layNs ns fr).2.length ≤ ns.length + 2 * (entsL ns).length
  | [], _ => by simp [layNs]
  | n :: ns, fr => by
    have h1 := layN_count n fr
    have h2 := layNs_count ns (fr.drop (layN n fr).2.length)
    simp only [layNs, entsL, List.flatMap_cons, List.length_append, List.length_cons] at *; omega
theorem layTop_count (N : List NT) (fr : List Nat) : (layTop N fr).2.length ≤ 1 + N.length + 2 * (entsL N).length := by
  unfold layTop
  split
  · simp
  · rename_i n
    have := layN_count n fr
    simp only [entsL, List.flatMap_cons, List.flatMap_nil, List.append_nil, List.length_cons, List.length_nil]; omega
  · rename_i n m r
    have := layNs_count (n :: m :: r) fr
    simp only [layB, List.length_append, List.length_singleton]; omega
theorem layTop_places (N : List NT) (fr : List Nat) (hl : (layTop N fr).2.length ≤ fr.length) : (layTop N fr).2.map (·.1) = fr.take (layTop N fr).2.length := by
  unfold layTop at hl ⊢
  split
  · simp
  · exact layN_places _ fr hl
  · exact layB_places _ fr hl
def En.kv (x : En) : ByteArray × List UInt8 := (x.e.key, x.value)
theorem layEs_kv {fs : Fs} : ∀ (es : List En) (fr : List Nat), (∀ x ∈ es, x.good fs) → (layEs es fr).2.length ≤ fr.length → (∀ p ∈ fr, placeB (p : Nat) = true) → (layEs es fr).1.map En.kv = es.map En.kv
  | [], _, _, _, _ => rfl
  | x :: es, fr, hg, hl, hp => by
    simp only [layEs, List.length_append, List.length_reverse] at hl
    have h1 := layX_value (hg x (by simp)) fr (by omega) hp
    have h2 := layEs_kv es (fr.drop (newCh x fr).length) (fun y hy => hg y (by simp [hy])) (by rw [List.length_drop]; omega) (fun p h => hp p (List.mem_of_mem_drop h))
    simp only [layEs, List.map_cons, h2, List.cons.injEq, and_true, En.kv, h1, layX_key]
theorem layN_kv {fs : Fs} {n : NT} (h : Ok0 fs n) (fr : List Nat) (hl : (layN n fr).2.length ≤ fr.length) (hp : ∀ p ∈ fr, placeB (p : Nat) = true) : (T.ents 0 (layN n fr).1).map En.kv = n.ents0.map En.kv := by
  cases n with
  | bran => exact h.elim
  | kept t s => cases t with
    | leaf => rfl
    | branch => exact h.elim
  | leaf s es =>
    simp only [layN, List.length_append, List.length_singleton] at hl
    exact layEs_kv es fr h.2.2.2.2 (by omega) hp
theorem layNs_kv {fs : Fs} : ∀ (ns : List NT) (fr : List Nat), (∀ n ∈ ns, Ok0 fs n) → (layNs ns fr).2.length ≤ fr.length → (∀ p ∈ fr, placeB (p : Nat) = true) → ((layNs ns fr).1.flatMap (T.ents 0)).map En.kv = (entsL ns).map En.kv
  | [], _, _, _, _ => rfl
  | n :: ns, fr, ho, hl, hp => by
    simp only [layNs, List.length_append] at hl
    have h1 := layN_kv (ho n (by simp)) fr (by omega) hp
    have h2 := layNs_kv ns (fr.drop (layN n fr).2.length) (fun y hy => ho y (by simp [hy])) (by rw [List.length_drop]; omega) (fun p h => hp p (List.mem_of_mem_drop h))
    simp only [layNs, List.flatMap_cons, List.map_append, entsL] at h1 h2 ⊢
    rw [h1, h2]
theorem layTop_kv {fs : Fs} {N : List NT} (h : ∀ n ∈ N, Ok0 fs n) (fr : List Nat) (hl : (layTop N fr).2.length ≤ fr.length) (hp : ∀ p ∈ fr, placeB (p : Nat) = true) : (oents (layTop N fr).1).map En.kv = (entsL N).map En.kv := by
  unfold layTop at hl ⊢
  split
  · rfl
  · rename_i n
    have := layN_kv (h n (by simp)) fr hl hp
    simp only [oents, entsL, List.flatMap_cons, List.flatMap_nil, List.append_nil]
    exact this
  · rename_i n m r
    simp only [layB, List.length_append, List.length_singleton] at hl
    exact layNs_kv (n :: m :: r) fr h (by omega) hp
theorem layN_TIn {K : List ByteArray} {fs : Fs} {n : NT} (h : Ok0 fs n) (hK : LoIn K n) (fr : List Nat) : TIn K 0 (layN n fr).1 := by
  cases n with
  | bran => exact h.elim
  | kept t s => cases t with
    | leaf => exact hK.2
    | branch => exact h.elim
  | leaf s es =>
    intro y hy
    obtain ⟨x, hx, e⟩ := keys_mem (layEs_keys es fr) hy
    rw [← e]; exact hK.2 x hx
theorem layTop_ok {fs : Fs} {K : List ByteArray} {N : List NT} (h : Lst fs N) (hK : ∀ n ∈ N, LoIn K n) (hK24 : ∀ k ∈ K, k.size ≤ 24) (hKs : 3 + tot (fun k : ByteArray => k.size + 3) K ≤ 250) (hkp : ∀ n ∈ N, ∀ t sp, n = .kept t sp → placeB (t.place : Nat) = true) (fr : List Nat) (hl : (layTop N fr).2.length ≤ fr.length) (hp : ∀ p ∈ fr, placeB (p : Nat) = true) (Z : List Nat) (ha : ∀ n ∈ N, ∀ p ∈ n.pages0, p ∉ Z) :
    (∀ y ∈ (layTop N fr).2, y.2.encE = 0) ∧ Flat2 (layTop N fr).1 ∧ OTIn K (layTop N fr).1 ∧ ∀ fs', Laid fs fs' Z (layTop N fr).2 → Rooted fs' (rootOf (layTop N fr).1) (layTop N fr).1 ∧ (rootOf (layTop N fr).1 = 0 ∨ placeB (rootOf (layTop N fr).1 : Nat) = true) := by
  have h24 : ∀ m ∈ N, m.sp.lo.size ≤ 24 := fun m hm => by
    rcases (hK m hm).1 with h | h
    · rw [h]; decide
    · exact hK24 _ h
  have hsz := h.size hK
  unfold layTop at hl ⊢
  split
  · exact ⟨by simp, trivial, trivial, fun fs' L => ⟨rfl, .inl rfl⟩⟩
  · rename_i n
    refine ⟨layN_enc (h.ok n (by simp)) fr hl hp, Nat.zero_le _, layN_TIn (h.ok n (by simp)) (hK n (by simp)) fr, fun fs' L => ?_⟩
    have hpl := layN_place (h.ok n (by simp)) (hkp n (by simp)) fr hl hp
    have hst : Stands fs' 0 (layN n fr).1 ⟨⟨#[]⟩, ⟨#[]⟩⟩ := by
      rcases layN_stands L (h.ok n (by simp)) (fun p h => h) hl hp (fun y h => h) (ha n (by simp)) ⟨⟨#[]⟩, ⟨#[]⟩⟩ (fun x _ => sp_all _) with h | h
      · exact h.1
      · exact h.1
    exact ⟨⟨by have := placeB_pos hpl; show 0 < (layN n fr).1.place; omega, rfl, hst⟩, .inr hpl⟩
  · rename_i n m r
    refine ⟨layB_enc h (by simp) h24 hkp (by omega) fr hl hp, Nat.le_refl _, ⟨?_, ?_⟩, fun fs' L => ?_⟩
    · intro k hk
      simp only [List.tail_cons] at hk
      obtain ⟨q, hq, rfl⟩ := List.mem_map.1 hk
      rcases (hK q (by simp only [List.mem_cons] at hq ⊢; exact .inr hq)).1 with h0 | h0
      · have := h.tail_los.2 _ (List.mem_map.2 ⟨q, hq, rfl⟩)
        simp only [h0, lt_irrefl] at this
        cases this
      · exact h0
    · intro t ht
      simp only [layB, List.length_append, List.length_singleton] at hl
      obtain ⟨j, hj, rfl⟩ := List.getElem_of_mem ht
      rw [layNs_length] at hj
      obtain ⟨f, h1, h2, h3, _⟩ := layNs_at _ fr j hj (by omega)
      obtain ⟨h5, h6⟩ := List.getElem?_eq_some_iff.1 h3
      rw [h6]
      exact layN_TIn (h.ok _ (List.getElem_mem _)) (hK _ (List.getElem_mem _)) f
    · obtain ⟨h1, h2⟩ := layB_stands h (by simp) L hl hp ha
      exact ⟨⟨by have := placeB_pos h2; show 0 < (layB (n :: m :: r) fr).1.place; omega, rfl, h1⟩, .inr h2⟩
theorem chain_len {fs : Fs} : ∀ {l : List (Nat × Pg)} {p r k : Nat}, ChainAt fs p r l → r ≤ 240 * k → l.length ≤ k
  | [], _, _, _, _, _ => Nat.zero_le _
  | x :: l, p, r, k, h, hk => by
    obtain ⟨a1, a2, a3, a4, a5, nx, a6, a7, a8⟩ := h
    cases k with
    | zero => omega
    | succ k =>
      have := chain_len (k := k) a8 (by rw [a5]; omega)
      rw [List.length_cons]; omega
theorem en_pages_len {fs : Fs} {x : En} (h : x.ok fs) : x.pages.length ≤ 2 := by
  obtain ⟨sz, ov, _, _, h3, h | ⟨_, h⟩⟩ := h
  · simp [En.pages, h.2]
  · simp only [En.pages, List.length_map]; exact chain_len h (by omega)
theorem flat_len2 {α : Type} (f : α → List Nat) (b : Nat) : ∀ (l : List α), (∀ x ∈ l, (f x).length ≤ b) → (l.flatMap f).length ≤ b * l.length
  | [], _ => by simp
  | x :: l, h => by
    have h1 := h x (by simp)
    have h2 := flat_len2 f b l (fun y hy => h y (by simp [hy]))
    rw [List.flatMap_cons, List.length_append, List.length_cons, Nat.mul_succ]; omega
theorem leaf_pages_len {fs : Fs} {p : Nat} {es : List En} {s : Sp} (h : Stands fs 0 (.leaf p es) s) : (T.pages 0 (.leaf p es)).length ≤ 1 + 2 * es.length := by
  obtain ⟨g, _, _, _, _, _, h6⟩ := h
  have := flat_len2 En.pages 2 es (fun x hx => en_pages_len (h6 x hx))
  simp only [T.pages, List.length_cons]; omega
theorem opages_len {fs : Fs} {K : List ByteArray} {root : Nat} {o : Option (Nat × T)} (hro : Rooted fs root o) (hf : Flat2 o) (hK : OTIn K o) : (opages o).length ≤ 1 + 3 * K.length := by
  rcases flat_cases hro hf with rfl | ⟨p, es, rfl, hs⟩ | ⟨p, ks, kids, rfl, hs⟩
  · simp [opages]
  · have h1 := leaf_pages_len hs
    have hre : RiseE es := rise_ents (h := 0) hs
    have h2 := len_sub (l := es.map (fun x => x.e.key)) (m := K) (rise_nodup (by rw [List.pairwise_map]; exact hre)) (fun x hx => by
      obtain ⟨y, hy, rfl⟩ := List.mem_map.1 hx
      exact hK y hy)
    rw [List.length_map] at h2
    show (T.pages 0 _).length ≤ _
    omega
  · have hre := rise_ents hs
    obtain ⟨hl, hp, hb, _, hall⟩ := branch_keys hs
    have hst : ∀ t ∈ kids, ∃ s', Stands fs 0 t s' := fun t ht => by
      obtain ⟨s', hs'⟩ := part_mem (s := ⟨⟨#[]⟩, ⟨#[]⟩⟩) (ks := ks) ht
      exact ⟨s', hall _ hs'⟩
    have h2 := len_sub (l := (kids.flatMap (T.ents 0)).map (fun x => x.e.key)) (m := K) (rise_nodup (by rw [List.pairwise_map]; exact hre)) (fun x hx => by
      obtain ⟨y, hy, rfl⟩ := List.mem_map.1 hx
      obtain ⟨t, ht, hy⟩ := List.mem_flatMap.1 hy
      have h3 := hK.2 t ht
      cases t with
      | leaf => exact h3 y hy
      | branch => exact h3.elim)
    rw [List.length_map] at h2
    have key : ∀ (l : List T), (∀ t ∈ l, ∃ s', Stands fs 0 t s') → (l.flatMap (T.pages 0)).length ≤ 3 * (l.flatMap (T.ents 0)).length := by
      intro l
      induction l with
      | nil => simp
      | cons t l ih =>
        intro h
        have h1 := ih (fun t ht => h t (by simp [ht]))
        obtain ⟨s', hs'⟩ := h t (by simp)
        cases t with
        | branch => exact hs'.elim
        | leaf q es =>
          have h4 := leaf_pages_len hs'
          obtain ⟨g, _, _, _, hne, _⟩ := hs'
          have h5 : 0 < es.length := List.length_pos_iff.2 hne
          rw [List.flatMap_cons, List.flatMap_cons, List.length_append, List.length_append]
          have e : (T.ents 0 (.leaf q es)).length = es.length := rfl
          omega
    have h3 := key kids hst
    simp only [opages, T.pages, List.length_cons]
    omega
end Go.Proofs.YtngpplmndpmgiaaGreat.Tree
namespace Go.Proofs.YtngpplmndpmgiaaGreat.Tree
open Go.RowKit Go.Proofs.YtngpplmndpmgiaaGreat.Pages
set_option linter.unusedSimpArgs false
set_option linter.unusedVariables false
theorem chain_ge {fs : Fs} : ∀ {l : List (Nat × Pg)} {p r : Nat}, ChainAt fs p r l → 2 ≤ p → ∀ x ∈ l, 2 ≤ x.1
  | [], _, _, _, _, x, hx => by simp at hx
  | y :: l, p, r, h, hp, x, hx => by
    obtain ⟨a1, a2, a3, a4, a5, nx, a6, a7, a8⟩ := h
    rcases List.mem_cons.1 hx with rfl | hx
    · omega
    · rcases has_over a3 a4 with h0 | h0
      · have : nx = 0 := by omega
        subst this
        have h1 := a7.1 rfl
        rw [h1] at a8
        cases l with
        | nil => simp at hx
        | cons z l => obtain ⟨_, b2, _⟩ := a8; omega
      · rw [a6] at h0
        exact chain_ge a8 (placeB_pos h0).1 x hx
theorem leaf_ge {fs : Fs} {p : Nat} {es : List En} {s : Sp} (h : Stands fs 0 (.leaf p es) s) (hp : 2 ≤ p) : ∀ q ∈ T.pages 0 (.leaf p es), 2 ≤ q := by
  intro q hq
  simp only [T.pages, List.mem_cons, List.mem_flatMap] at hq
  rcases hq with rfl | ⟨x, hx, hq⟩
  · exact hp
  · obtain ⟨y, hy, rfl⟩ := List.mem_map.1 hq
    obtain ⟨_, _, ⟨_, h2, _⟩ | ⟨h1, h2, sz, ov, h3, h4, h5, h6, h7⟩⟩ := stands_good h x hx
    · rw [h2] at hy; simp at hy
    · rw [h4] at h2
      exact chain_ge h7 (placeB_pos h2).1 y hy
theorem opages_ge {fs : Fs} {root : Nat} {o : Option (Nat × T)} (hro : Rooted fs root o) (hf : Flat2 o) (hr : root = 0 ∨ placeB (root : Nat) = true) : ∀ q ∈ opages o, 2 ≤ q := by
  rcases flat_cases hro hf with rfl | ⟨p, es, rfl, hs⟩ | ⟨p, ks, kids, rfl, hs⟩
  · simp [opages]
  · obtain ⟨h1, h2, _⟩ := hro
    have h2' : p = root := h2
    exact leaf_ge hs (by rcases hr with h | h; omega; have := placeB_pos h; omega)
  · obtain ⟨h1, h2, _⟩ := hro
    have h2' : p = root := h2
    intro q hq
    simp only [opages, T.pages, List.mem_cons, List.mem_flatMap] at hq
    rcases hq with rfl | ⟨t, ht, hq⟩
    · rcases hr with h | h
      · omega
      · have := placeB_pos h; omega
    · obtain ⟨hl, hp, hb, _, hall⟩ := branch_keys hs
      obtain ⟨s', hs'⟩ := part_mem (s := ⟨⟨#[]⟩, ⟨#[]⟩⟩) (ks := ks) ht
      have hst := hall _ hs'
      have hpl : placeB (t.place : Nat) = true := by
        obtain ⟨g, hg, hk2, _, hkd, _⟩ := hs
        refine has_kids hg hk2 _ ?_
        rw [hkd]
        exact List.mem_map.2 ⟨t, ht, rfl⟩
      cases t with
      | branch => exact hst.elim
      | leaf r es => exact leaf_ge hst (placeB_pos hpl).1 q hq
def freeP (n : Nat) (u : List Bool) : List Nat := (List.range' 2 (n - 2)).filter (fun p => !(u.getD p true))
theorem freeP_mem {n : Nat} {u : List Bool} {p : Nat} (h : p ∈ freeP n u) : 2 ≤ p ∧ p < n ∧ ¬ on u p := by
  simp only [freeP, List.mem_filter, List.mem_range'_1] at h
  obtain ⟨h1, h2⟩ := h
  refine ⟨by omega, by omega, fun h3 => ?_⟩
  unfold on at h3
  rw [List.getD_eq_getElem?_getD, h3] at h2
  simp at h2
theorem freeP_nodup (n : Nat) (u : List Bool) : (freeP n u).Nodup := List.Pairwise.filter _ (List.nodup_range' (s := 2) (n := n - 2))
theorem freeP_many {n : Nat} {u : List Bool} {ps : List Nat} (hu : n ≤ u.length) (hps : ∀ p, on u p → p ∈ ps) : n - 2 ≤ (freeP n u).length + ps.length := by
  have h := len_sub (l := List.range' 2 (n - 2)) (m := freeP n u ++ ps) (List.nodup_range') (fun p hp => by
    rw [List.mem_range'_1] at hp
    simp only [List.mem_append]
    by_cases h : on u p
    · exact .inr (hps p h)
    · refine .inl ?_
      simp only [freeP, List.mem_filter, List.mem_range'_1]
      refine ⟨hp, ?_⟩
      have hl : p < u.length := by omega
      rw [List.getD_eq_getElem?_getD, List.getElem?_eq_getElem hl]
      unfold on at h
      rw [List.getElem?_eq_getElem hl] at h
      cases hv : u[p] with
      | false => rfl
      | true => rw [hv] at h; exact absurd rfl h)
  rw [List.length_range', List.length_append] at h
  exact h
end Go.Proofs.YtngpplmndpmgiaaGreat.Tree
namespace Go.Proofs.YtngpplmndpmgiaaGreat.Tree
open Go.RowKit Go.Proofs.YtngpplmndpmgiaaGreat.Pages
set_option linter.unusedSimpArgs false
set_option linter.unusedVariables false
theorem snoc_ind {α : Type} {P : List α → Prop} (h0 : P []) (h1 : ∀ l x, P l → P (l ++ [x])) (l : List α) : P l := by
  have key : ∀ m : List α, P m.reverse := by
    intro m
    induction m with
    | nil => exact h0
    | cons x m ih => rw [List.reverse_cons]; exact h1 _ _ ih
  have := key l.reverse
  rwa [List.reverse_reverse] at this
theorem lastW_snoc (l : List (Nat × ByteArray)) (x : Nat × ByteArray) (p : Nat) : lastW (l ++ [x]) p = if x.1 = p then some x.2 else lastW l p := by
  unfold lastW
  rw [List.reverse_append]
  simp only [List.reverse_singleton, List.singleton_append, List.find?_cons]
  by_cases h : x.1 = p
  · simp [h]
  · have : (x.1 == p) = false := by simpa using h
    rw [this, if_neg h]
theorem laid_at : ∀ (l : List (Nat × ByteArray)) (s : List ByteArray) (p : Nat), (∀ x ∈ l, x.1 < s.length) → (laid s l).getD p ⟨#[]⟩ = (lastW l p).getD (s.getD p ⟨#[]⟩) := by
  intro l
  induction l using snoc_ind with
  | h0 => intro s p _; rfl
  | h1 l x ih =>
    intro s p h
    have e : laid s (l ++ [x]) = (laid s l).set x.1 x.2 := by simp [laid]
    rw [e, lastW_snoc, List.getD_eq_getElem?_getD, List.getElem?_set]
    have hx := h x (by simp)
    by_cases hp : x.1 = p
    · rw [if_pos hp, if_pos hp, if_pos (by rw [laid_length]; omega)]; rfl
    · rw [if_neg hp, if_neg hp, ← List.getD_eq_getElem?_getD]
      exact ih s p (fun y hy => h y (by simp [hy]))
theorem synced_at (fs : Fs) (h : fs.fits) (p : Nat) : fs.synced.at p = fs.at p := laid_at fs.late fs.safe p h
theorem synced_has {fs : Fs} (h : fs.fits) {p : Nat} {g : Pg} : fs.synced.has p g ↔ fs.has p g := by
  unfold Fs.has
  rw [synced_at fs h]
  show p < (laid fs.safe fs.late).length ∧ _ ↔ _
  rw [laid_length]
theorem put_at (fs : Fs) (q : Nat) (d : ByteArray) (p : Nat) : (fs.put q d).at p = if q = p then d else fs.at p := by
  unfold Fs.at Fs.put
  simp only [lastW_snoc]
  split <;> rfl
def Fs.puts (fs : Fs) (l : List (Nat × Pg)) : Fs := { fs with late := fs.late ++ l.map (fun y => (y.1, y.2.encS)) }
theorem puts_nil (fs : Fs) : fs.puts [] = fs := by simp [Fs.puts]
theorem puts_snoc (fs : Fs) (l : List (Nat × Pg)) (y : Nat × Pg) : fs.puts (l ++ [y]) = (fs.puts l).put y.1 y.2.encS := by simp [Fs.puts, Fs.put]
theorem puts_at : ∀ (l : List (Nat × Pg)) (fs : Fs) (p : Nat), (p ∉ l.map (·.1) → (fs.puts l).at p = fs.at p) ∧ ((l.map (·.1)).Nodup → ∀ y ∈ l, y.1 = p → (fs.puts l).at p = y.2.encS) := by
  intro l
  induction l using snoc_ind with
  | h0 => intro fs p; rw [puts_nil]; exact ⟨fun _ => rfl, fun _ y hy => by simp at hy⟩
  | h1 l x ih =>
    intro fs p
    rw [puts_snoc, put_at]
    obtain ⟨i1, i2⟩ := ih fs p
    constructor
    · intro h
      rw [List.map_append, List.mem_append] at h
      rw [if_neg (fun e => h (.inr (by simp [e])))]
      exact i1 (fun h' => h (.inl h'))
    · intro hn y hy hyp
      rw [List.map_append] at hn
      obtain ⟨n1, n2, n3⟩ := List.nodup_append.1 hn
      rcases List.mem_append.1 hy with hy | hy
      · have : x.1 ≠ p := fun e => n3 y.1 (List.mem_map.2 ⟨y, hy, rfl⟩) x.1 (by simp) (by rw [hyp, e])
        rw [if_neg this]
        exact i2 n1 y hy hyp
      · rw [List.mem_singleton] at hy
        subst hy
        rw [if_pos hyp]
theorem puts_has {fs : Fs} {l : List (Nat × Pg)} (hn : (l.map (·.1)).Nodup) (hE : ∀ y ∈ l, y.2.encE = 0) (hv : ∀ y ∈ l, y.2.ver = 0) (hl : ∀ y ∈ l, y.1 < fs.safe.length) : ∀ y ∈ l, (fs.puts l).has y.1 y.2 := by
  intro y hy
  refine ⟨hl y hy, ?_⟩
  rw [(puts_at l fs y.1).2 hn y hy rfl]
  exact enc_isPg y.2 (by rw [hv y hy]; decide) (hE y hy)
theorem puts_keep {fs : Fs} {l : List (Nat × Pg)} {p : Nat} {g : Pg} (hp : p ∉ l.map (·.1)) (h : fs.has p g) : (fs.puts l).has p g := by
  refine ⟨h.1, ?_⟩
  rw [(puts_at l fs p).1 hp]
  exact h.2
theorem put_keep {fs : Fs} {q p : Nat} {d : ByteArray} {g : Pg} (hp : q ≠ p) (h : fs.has p g) : (fs.put q d).has p g := by
  refine ⟨h.1, ?_⟩
  rw [put_at, if_neg hp]
  exact h.2
def Fs.made (fs : Fs) (l : List (Nat × Pg)) (m : Nat) (mt : Pg) : Fs := (((fs.puts l).synced).put m mt.encS).synced
theorem made_laid {fs : Fs} {l : List (Nat × Pg)} {m : Nat} {mt : Pg} {Z : List Nat} (hf : fs.fits) (hn : (l.map (·.1)).Nodup) (hE : ∀ y ∈ l, y.2.encE = 0) (hv : ∀ y ∈ l, y.2.ver = 0) (hl : ∀ y ∈ l, y.1 < fs.safe.length ∧ y.1 ≠ m) (hm : m < fs.safe.length) (hZ : ∀ y ∈ l, y.1 ∈ Z) (hmZ : m ∈ Z) :
    Laid fs (fs.made l m mt) Z l ∧ (fs.made l m mt).at m = mt.encS ∧ (fs.made l m mt).late = [] ∧ (fs.made l m mt).safe.length = fs.safe.length ∧ ∀ p, p ∉ Z → (fs.made l m mt).at p = fs.at p := by
  have f1 : (fs.puts l).fits := by
    intro x hx
    simp only [Fs.puts, List.mem_append, List.mem_map] at hx
    rcases hx with hx | ⟨y, hy, rfl⟩
    · exact hf x hx
    · exact (hl y hy).1
  have e1 : (fs.puts l).synced.safe.length = fs.safe.length := laid_length _ _
  have f2 : (((fs.puts l).synced).put m mt.encS).fits := by
    intro x hx
    simp only [Fs.put, Fs.synced, List.nil_append, List.mem_singleton] at hx
    subst hx
    show m < (laid _ _).length
    rw [laid_length]; exact hm
  refine ⟨⟨fun y hy => ?_, fun p g hp h => ?_⟩, ?_, rfl, ?_, fun p hp => ?_⟩
  · exact (synced_has f2).2 (put_keep (hl y hy).2.symm ((synced_has f1).2 (puts_has hn hE hv (fun y hy => (hl y hy).1) y hy)))
  · have h1 : p ∉ l.map (·.1) := fun hm => by
      obtain ⟨y, hy, rfl⟩ := List.mem_map.1 hm
      exact hp (hZ y hy)
    exact (synced_has f2).2 (put_keep (fun e : m = p => hp (e ▸ hmZ)) ((synced_has f1).2 (puts_keep h1 h)))
  · show (Fs.synced _).at m = _
    rw [synced_at _ f2, put_at, if_pos rfl]
  · show (laid _ _).length = _
    rw [laid_length]; exact e1
  · show (Fs.synced _).at p = _
    have h1 : p ∉ l.map (·.1) := fun hm => by
      obtain ⟨y, hy, rfl⟩ := List.mem_map.1 hm
      exact hp (hZ y hy)
    rw [synced_at _ f2, put_at, if_neg (fun e : m = p => hp (e ▸ hmZ)), synced_at _ f1, (puts_at l fs p).1 h1]
end Go.Proofs.YtngpplmndpmgiaaGreat.Tree
namespace Go.Proofs.YtngpplmndpmgiaaGreat.Tree
open Go.RowKit Go.Proofs.YtngpplmndpmgiaaGreat.Pages
set_option linter.unusedSimpArgs false
set_option linter.unusedVariables false
theorem stays_o {fs fs' : Fs} {root : Nat} {o : Option (Nat × T)} (hro : Rooted fs root o) (hf : Flat2 o) (hk : ∀ p ∈ opages o, ∀ g, fs.has p g → fs'.has p g) : Rooted fs' root o := by
  rcases flat_cases hro hf with rfl | ⟨p, es, rfl, hs⟩ | ⟨p, ks, kids, rfl, hs⟩
  · exact hro
  · exact ⟨hro.1, hro.2.1, stays0 hs hk⟩
  · refine ⟨hro.1, hro.2.1, ?_⟩
    obtain ⟨g, a1, a2, a3, a4, a5, a6, a7⟩ := hs
    refine ⟨g, hk p (by simp [opages, T.pages]) g a1, a2, a3, a4, a5, a6, fun x hx => ?_⟩
    have hm : x.1 ∈ kids := by
      have : x.1 ∈ (parts ⟨⟨#[]⟩, ⟨#[]⟩⟩ ks kids).map (·.1) := List.mem_map.2 ⟨x, hx, rfl⟩
      rwa [parts_fst] at this
    refine stays0 (a7 x hx) (fun q hq => hk q ?_)
    simp only [opages, T.pages, List.mem_cons, List.mem_flatMap]
    exact .inr ⟨_, hm, hq⟩
structure Tr (K : List ByteArray) (fs : Fs) (o : Option (Nat × T)) : Prop where
  rooted : Rooted fs (rootOf o) o
  flat : Flat2 o
  keys : OTIn K o
  root : rootOf o = 0 ∨ placeB (rootOf o : Nat) = true
theorem Tr.stays {K : List ByteArray} {fs fs' : Fs} {o : Option (Nat × T)} (h : Tr K fs o) (hk : ∀ p ∈ opages o, ∀ g, fs.has p g → fs'.has p g) : Tr K fs' o := ⟨stays_o h.rooted h.flat hk, h.flat, h.keys, h.root⟩
def MetaAt (fs : Fs) (p ver root : Nat) : Prop := (fs.at p = zerosB 256 ∧ ver = 0 ∧ root = 0) ∨ IsPg (fs.at p) (metaPg ver root)
structure Store (K : List ByteArray) (n : Nat) (fs : Fs) (v : Nat) (o ao : Option (Nat × T)) : Prop where
  late : fs.late = []
  len : fs.safe.length = n
  meta0 : MetaAt fs (v % 2) v (rootOf o)
  meta1 : ∃ v', MetaAt fs ((v + 1) % 2) v' (rootOf ao) ∧ (v' < v ∨ (v = 0 ∧ v' = 0))
  sure : Tr K fs o
  ahead : Tr K fs ao
theorem layV_ver : ∀ (k : Nat) (v : ByteArray) (fr : List Nat), ∀ y ∈ layV k v fr, y.2.ver = 0
  | 0, _, _, y, hy => by simp [layV] at hy
  | k + 1, v, fr, y, hy => by
    by_cases h : v.size = 0
    · rw [layV_zero _ _ _ h] at hy; simp at hy
    · rw [layV_succ _ _ _ h] at hy
      rcases List.mem_cons.1 hy with rfl | hy
      · rfl
      · exact layV_ver k _ fr y hy
theorem layEs_ver : ∀ (es : List En) (fr : List Nat), ∀ y ∈ (layEs es fr).2, y.2.ver = 0
  | [], _, y, hy => by simp [layEs] at hy
  | x :: es, fr, y, hy => by
    simp only [layEs, List.mem_append, List.mem_reverse] at hy
    rcases hy with hy | hy
    · unfold newCh at hy
      split at hy
      · exact layV_ver 2 _ fr y hy
      · simp at hy
    · exact layEs_ver es _ y hy
theorem layN_ver (n : NT) (fr : List Nat) : ∀ y ∈ (layN n fr).2, y.2.ver = 0 := by
  cases n with
  | kept => simp [layN]
  | bran => simp [layN]
  | leaf s es =>
    intro y hy
    simp only [layN, List.mem_append, List.mem_singleton] at hy
    rcases hy with hy | rfl
    · exact layEs_ver es fr y hy
    · rfl
theorem layNs_ver : ∀ (ns : List NT) (fr : List Nat), ∀ y ∈ (layNs ns fr).2, y.2.ver = 0
  | [], _, y, hy => by simp [layNs] at hy
  | n :: ns, fr, y, hy => by
    simp only [layNs, List.mem_append] at hy
    rcases hy with hy | hy
    · exact layN_ver n fr y hy
    · exact layNs_ver ns _ y hy
theorem layTop_ver (N : List NT) (fr : List Nat) : ∀ y ∈ (layTop N fr).2, y.2.ver = 0 := by
  unfold layTop
  split
  · simp
  · exact layN_ver _ fr
  · intro y hy
    simp only [layB, List.mem_append, List.mem_singleton] at hy
    rcases hy with hy | rfl
    · exact layNs_ver _ fr y hy
    · rfl
def planP (o : Option (Nat × T)) (cs : List Ch) (fr : List Nat) : Option (Nat × T) × List (Nat × Pg) := layTop (level0 o cs) fr
structure Plan (K : List ByteArray) (n : Nat) (fs : Fs) (o : Option (Nat × T)) (cs : List Ch) (fr : List Nat) : Prop where
  tree : Tr K fs o
  rise : Rise cs
  good : ∀ c ∈ cs, c.good
  keys : ∀ c ∈ cs, c.key ∈ K
  k24 : ∀ k ∈ K, k.size ≤ 24
  ksum : 3 + tot (fun k : ByteArray => k.size + 3) K ≤ 250
  free : ∀ p ∈ fr, 2 ≤ p ∧ p < n
  small : n ≤ 4096
  len : fs.safe.length = n
  nodup : fr.Nodup
  away : ∀ p ∈ opages o, p ∉ fr
  room : 1 + 3 * K.length ≤ fr.length
theorem Plan.place {K : List ByteArray} {n : Nat} {fs : Fs} {o : Option (Nat × T)} {cs : List Ch} {fr : List Nat} (h : Plan K n fs o cs fr) : ∀ p ∈ fr, placeB (p : Nat) = true := fun p hp => by
  have := h.free p hp
  have := h.small
  simp only [placeB, Bool.and_eq_true, decide_eq_true_eq]; omega
theorem Plan.enough {K : List ByteArray} {n : Nat} {fs : Fs} {o : Option (Nat × T)} {cs : List Ch} {fr : List Nat} (h : Plan K n fs o cs fr) : (planP o cs fr).2.length ≤ 1 + 3 * K.length := by
  obtain ⟨h1, _⟩ := level0_lst h.tree.rooted h.tree.flat h.rise h.good
  have h2 := level0_loIn h.tree.rooted h.tree.flat h.rise h.good h.keys h.tree.keys
  have h3 := layTop_count (level0 o cs) fr
  have h4 := h1.many h2
  have h5 := h1.count
  unfold planP; omega
theorem commit_store {K : List ByteArray} {n : Nat} {fs : Fs} {v : Nat} {o ao : Option (Nat × T)} {cs : List Ch} {fr : List Nat} (S : Store K n fs v o ao) (P : Plan K n fs o cs fr) (hv : v + 1 < 9223372036854775808) (hn : 2 ≤ n) :
    Store K n (fs.made (planP o cs fr).2 ((v + 1) % 2) (metaPg (v + 1 : Nat) (rootOf (planP o cs fr).1))) (v + 1) (planP o cs fr).1 o ∧
    (∀ y ∈ (planP o cs fr).2, y.2.encE = 0) ∧ (planP o cs fr).2.map (·.1) = fr.take (planP o cs fr).2.length ∧
    (oents (planP o cs fr).1).map En.kv = (overE (oents o) cs).map En.kv ∧
    ∀ o', Tr K fs o' → (∀ p ∈ opages o', p ∉ fr) → Tr K (fs.made (planP o cs fr).2 ((v + 1) % 2) (metaPg (v + 1 : Nat) (rootOf (planP o cs fr).1))) o' := by
  obtain ⟨h1, h1'⟩ := level0_lst P.tree.rooted P.tree.flat P.rise P.good
  have h2 := level0_loIn P.tree.rooted P.tree.flat P.rise P.good P.keys P.tree.keys
  obtain ⟨h3, h4⟩ := level0_from P.tree.rooted P.tree.flat P.rise P.good
  have hen := P.enough
  unfold planP at hen ⊢
  have hl : (layTop (level0 o cs) fr).2.length ≤ fr.length := Nat.le_trans hen P.room
  have hp := P.place
  have hge := opages_ge P.tree.rooted P.tree.flat P.tree.root
  have hm : (v + 1) % 2 < 2 := Nat.mod_lt _ (by decide)
  have hZ : ∀ (o' : Option (Nat × T)), Tr K fs o' → (∀ p ∈ opages o', p ∉ fr) → ∀ p ∈ opages o', p ∉ (v + 1) % 2 :: fr := fun o' t a p hpp hz => by
    have hge := opages_ge t.rooted t.flat t.root p hpp
    rcases List.mem_cons.1 hz with h | h
    · omega
    · exact a p hpp h
  obtain ⟨k1, k2, k3, k4⟩ := layTop_ok h1 h2 P.k24 P.ksum h4 fr hl hp ((v + 1) % 2 :: fr) (fun m hm p hpp => hZ o P.tree P.away p ((h3 m hm).1 p hpp))
  have hpl := layTop_places (level0 o cs) fr hl
  have hmem : ∀ y ∈ (layTop (level0 o cs) fr).2, y.1 ∈ fr := take_mem hpl
  have hfits : fs.fits := fun x hx => by rw [S.late] at hx; simp at hx
  obtain ⟨L, m1, m2, m3, m4⟩ := made_laid (fs := fs) (l := (layTop (level0 o cs) fr).2) (m := (v + 1) % 2) (mt := metaPg (v + 1 : Nat) (rootOf (layTop (level0 o cs) fr).1)) (Z := (v + 1) % 2 :: fr) hfits
    (by rw [hpl]; exact P.nodup.sublist (List.take_sublist _ _)) k1 (layTop_ver _ _) (fun y hy => by have := P.free _ (hmem y hy); rw [P.len]; omega) (by rw [P.len]; omega) (fun y hy => List.mem_cons_of_mem _ (hmem y hy)) (by simp)
  obtain ⟨r1, r2⟩ := k4 _ L
  have hstay : ∀ o', Tr K fs o' → (∀ p ∈ opages o', p ∉ fr) → Tr K (fs.made (layTop (level0 o cs) fr).2 ((v + 1) % 2) (metaPg (v + 1 : Nat) (rootOf (layTop (level0 o cs) fr).1))) o' := fun o' t a => t.stays (fun p hp g hg => L.keep p g (hZ o' t a p hp) hg)
  refine ⟨⟨m2, m3.trans P.len, ?_, ⟨v, ?_, .inl (by omega)⟩, ⟨r1, k2, k3, r2⟩, hstay o P.tree P.away⟩, k1, hpl, ?_, hstay⟩
  · refine .inr ?_
    show IsPg (Fs.at _ _) _
    rw [m1]
    have hE := enc_meta (v + 1 : Nat) (rootOf (layTop (level0 o cs) fr).1) (by omega) (r2.imp (fun h => by rw [h]; rfl) id)
    exact enc_isPg _ (by show ((v + 1 : Nat) : Int) < _; omega) hE
  · have hv2 : (v + 1 + 1) % 2 = v % 2 := by omega
    rw [hv2]
    have hnz : v % 2 ∉ (v + 1) % 2 :: fr := by
      intro hz
      rcases List.mem_cons.1 hz with h | h
      · omega
      · have := P.free _ h; omega
    unfold MetaAt
    rw [m4 _ hnz]
    exact S.meta0
  · rw [← h1']
    exact layTop_kv h1.ok fr hl hp
end Go.Proofs.YtngpplmndpmgiaaGreat.Tree
namespace Go.Proofs.YtngpplmndpmgiaaGreat.Tree
open Go.RowKit Go.Proofs.YtngpplmndpmgiaaGreat.Pages
set_option linter.unusedSimpArgs false
set_option linter.unusedVariables false
def withC (cs : List Ch) (c : Ch) : List Ch := if fnd cs c.key = true then cs.set (srch cs c.key) c else cs.take (srch cs c.key) ++ c :: cs.drop (srch cs c.key)
theorem fnd_at {cs : List Ch} {k : ByteArray} (h : fnd cs k = true) (hr : Rise cs) : ∃ h0 : srch cs k < cs.length, (cs[srch cs k]).key = k := by
  unfold fnd at h
  split at h
  · rename_i c hc
    obtain ⟨h0, e⟩ := List.getElem?_eq_some_iff.1 hc
    refine ⟨h0, ?_⟩
    have h1 : lt k c.key = false := by simpa using h
    have h2 : lt (cs[srch cs k]).key k = false := srch_ge hr (Nat.le_refl _) h0
    rw [e] at h2 ⊢
    exact lt_total h2 h1
  · simp at h
theorem with_split {cs : List Ch} (hr : Rise cs) (c : Ch) : withC cs c = cs.take (srch cs c.key) ++ c :: cs.drop (srch cs c.key + if fnd cs c.key = true then 1 else 0) := by
  unfold withC
  by_cases h : fnd cs c.key = true
  · rw [if_pos h, if_pos h]
    obtain ⟨h0, _⟩ := fnd_at h hr
    rw [List.set_eq_take_append_cons_drop, if_pos h0]
  · rw [if_neg h, if_neg h]; rfl
theorem drop_gt {cs : List Ch} (hr : Rise cs) (k : ByteArray) : ∀ c ∈ cs.drop (srch cs k + if fnd cs k = true then 1 else 0), lt k c.key = true := by
  intro c hc
  by_cases h : fnd cs k = true
  · rw [if_pos h] at hc
    obtain ⟨h0, e0⟩ := fnd_at h hr
    obtain ⟨i, hi, e⟩ := List.getElem_of_mem hc
    rw [List.getElem_drop] at e
    rw [List.length_drop] at hi
    have := (List.pairwise_iff_getElem.1 hr) (srch cs k) (srch cs k + 1 + i) h0 (by omega) (by omega)
    rw [e0] at this
    rw [← e]; exact this
  · rw [if_neg h] at hc
    obtain ⟨i, hi, e⟩ := List.getElem_of_mem hc
    rw [List.getElem_drop] at e
    rw [List.length_drop] at hi
    have h2 : lt (cs[srch cs k + 0 + i]'(by omega)).key k = false := srch_ge hr (by omega) (by omega)
    rw [e] at h2
    rcases le_or_lt c.key k with h3 | h3
    · exfalso
      have h4 : c.key = k := le_antisymm h3 (not_lt.1 h2)
      exact h ((fnd_iff hr k).2 ⟨c, List.mem_of_mem_drop hc, h4⟩)
    · exact h3
theorem with_rise {cs : List Ch} (hr : Rise cs) (c : Ch) : Rise (withC cs c) := by
  rw [with_split hr]
  refine List.pairwise_append.2 ⟨hr.sublist (List.take_sublist _ _), List.pairwise_cons.2 ⟨drop_gt hr c.key, hr.sublist (List.drop_sublist _ _)⟩, ?_⟩
  intro a ha b hb
  have h1 := take_lt ha
  rcases List.mem_cons.1 hb with rfl | hb
  · exact h1
  · exact lt_trans h1 (drop_gt hr c.key b hb)
theorem with_mem {cs : List Ch} (hr : Rise cs) (c x : Ch) : x ∈ withC cs c ↔ x = c ∨ (x ∈ cs ∧ x.key ≠ c.key) := by
  rw [with_split hr]
  simp only [List.mem_append, List.mem_cons]
  constructor
  · rintro (h | h | h)
    · exact .inr ⟨List.mem_of_mem_take h, lt_ne (take_lt h)⟩
    · exact .inl h
    · exact .inr ⟨List.mem_of_mem_drop h, (lt_ne (drop_gt hr c.key x h)).symm⟩
  · rintro (h | ⟨h1, h2⟩)
    · exact .inr (.inl h)
    · rcases (mem_split (srch cs c.key)).1 h1 with h | h
      · exact .inl h
      · refine .inr (.inr ?_)
        by_cases hf : fnd cs c.key = true
        · rw [if_pos hf]
          obtain ⟨h0, e0⟩ := fnd_at hf hr
          rw [List.drop_eq_getElem_cons h0] at h
          rcases List.mem_cons.1 h with h | h
          · exact absurd (by rw [h]; exact e0) h2
          · exact h
        · rw [if_neg hf]; exact h
end Go.Proofs.YtngpplmndpmgiaaGreat.Tree
namespace Go.Proofs.YtngpplmndpmgiaaGreat.Tree
open Go.RowKit Go.Proofs.YtngpplmndpmgiaaGreat.Pages
set_option linter.unusedSimpArgs false
set_option linter.unusedVariables false
theorem off_false {n p : Nat} : ¬ on (List.replicate n false) p := by
  unfold on
  rw [List.getElem?_replicate]
  split <;> simp
theorem oshut_base (n : Nat) (o : Option (Nat × T)) : OShut (List.replicate n false) o := by
  cases o with
  | none => trivial
  | some x => exact fun y hy h => absurd h off_false
theorem oshut_after {fs : Fs} {r r' : Nat} {o o' : Option (Nat × T)} {u : List Bool} (h : Rooted fs r o) (h' : Rooted fs r' o') (hu : fs.safe.length ≤ u.length) (hs : OShut u o) : OShut (marks u (opages o')) o := by
  cases o' with
  | none => exact hs
  | some x' =>
    cases o with
    | none => trivial
    | some x => exact Shut.after h.2.2 h'.2.2 hu hs
def usedP (os : List (Option (Nat × T))) : List Bool := marks (List.replicate 4096 false) (os.flatMap opages)
theorem usedP_len (os : List (Option (Nat × T))) : (usedP os).length = 4096 := by unfold usedP; rw [marks_length, List.length_replicate]
theorem usedP_snoc (os : List (Option (Nat × T))) (o : Option (Nat × T)) : usedP (os ++ [o]) = marks (usedP os) (opages o) := by
  unfold usedP; rw [List.flatMap_append, marks_append, List.flatMap_cons, List.flatMap_nil, List.append_nil]
theorem usedP_shut {fs : Fs} (hn : fs.safe.length ≤ 4096) : ∀ (os : List (Option (Nat × T))), (∀ o ∈ os, Rooted fs (rootOf o) o) → ∀ o, Rooted fs (rootOf o) o → OShut (usedP os) o := by
  intro os
  induction os using snoc_ind with
  | h0 => intro _ o _; exact oshut_base 4096 o
  | h1 os x ih =>
    intro h o ho
    rw [usedP_snoc]
    exact oshut_after ho (h x (by simp)) (by rw [usedP_len]; exact hn) (ih (fun o' h' => h o' (by simp [h'])) o ho)
theorem usedP_on {os : List (Option (Nat × T))} {p : Nat} : on (usedP os) p ↔ p ∈ os.flatMap opages ∧ p < 4096 := by
  unfold usedP
  rw [on_marks]
  constructor
  · rintro (h | ⟨h1, h2⟩)
    · exact absurd h off_false
    · exact ⟨h1, by rwa [List.length_replicate] at h2⟩
  · rintro ⟨h1, h2⟩
    exact .inr ⟨h1, by rwa [List.length_replicate]⟩
theorem tr_pages_lt {K : List ByteArray} {fs : Fs} {o : Option (Nat × T)} (h : Tr K fs o) : ∀ p ∈ opages o, p < fs.safe.length := by
  cases o with
  | none => simp [opages]
  | some x => exact pages_lt h.rooted.2.2
theorem plan_of {K : List ByteArray} {n : Nat} {fs : Fs} {o : Option (Nat × T)} {cs : List Ch} {os : List (Option (Nat × T))} (hlen : fs.safe.length = n) (hn : n ≤ 4096) (hos : ∀ o' ∈ os, Tr K fs o') (ho : o ∈ os)
    (rise : Rise cs) (good : ∀ c ∈ cs, c.good) (keys : ∀ c ∈ cs, c.key ∈ K) (k24 : ∀ k ∈ K, k.size ≤ 24) (ksum : 3 + tot (fun k : ByteArray => k.size + 3) K ≤ 250) (hroom : (os.length + 1) * (1 + 3 * K.length) + 2 ≤ n) :
    Plan K n fs o cs (freeP n (usedP os)) ∧ ∀ o' ∈ os, ∀ p ∈ opages o', p ∉ freeP n (usedP os) := by
  have haway : ∀ o' ∈ os, ∀ p ∈ opages o', p ∉ freeP n (usedP os) := fun o' h' p hp hf => by
    have hlt := tr_pages_lt (hos o' h') p hp
    exact (freeP_mem hf).2.2 (usedP_on.2 ⟨List.mem_flatMap.2 ⟨o', h', hp⟩, by omega⟩)
  refine ⟨⟨hos o ho, rise, good, keys, k24, ksum, fun p hp => ⟨(freeP_mem hp).1, (freeP_mem hp).2.1⟩, hn, hlen, freeP_nodup _ _, haway o ho, ?_⟩, haway⟩
  have h1 := freeP_many (n := n) (u := usedP os) (ps := os.flatMap opages) (by rw [usedP_len]; exact hn) (fun p h => (usedP_on.1 h).1)
  have h2 := flat_len2 opages (1 + 3 * K.length) os (fun o' h' => opages_len (hos o' h').rooted (hos o' h').flat (hos o' h').keys)
  have h3 : (os.length + 1) * (1 + 3 * K.length) = (1 + 3 * K.length) * os.length + (1 + 3 * K.length) := by rw [Nat.add_mul, Nat.one_mul, Nat.mul_comm]
  omega
theorem tr_none (K : List ByteArray) (fs : Fs) : Tr K fs none := ⟨rfl, trivial, trivial, .inl rfl⟩
theorem store_new (K : List ByteArray) (n : Nat) (hn : 2 ≤ n) : Store K n ⟨List.replicate n (zerosB 256), [], -1, -1, 0⟩ 0 none none := by
  have h0 : ∀ p, p < n → (⟨List.replicate n (zerosB 256), [], -1, -1, 0⟩ : Fs).at p = zerosB 256 := fun p hp => by
    simp [Fs.at, lastW, List.getElem?_replicate, hp]
  exact ⟨rfl, by simp, .inl ⟨h0 _ (by omega), rfl, rfl⟩, ⟨0, .inl ⟨h0 _ (by omega), rfl, rfl⟩, .inr ⟨rfl, rfl⟩⟩, tr_none _ _, tr_none _ _⟩
end Go.Proofs.YtngpplmndpmgiaaGreat.Tree
namespace Go.Proofs.YtngpplmndpmgiaaGreat.Tree
open Go.RowKit Go.Proofs.YtngpplmndpmgiaaGreat.Pages
set_option linter.unusedSimpArgs false
set_option linter.unusedVariables false
theorem app_row {P : Program} (w : World) (T ty E : TypeId) (zero : Value) (z bytes : Nat) (hT : P.underlying T = some (.slice E)) (hi : (P.info? E).map (fun i => (i.zero, i.size, i.bytes)) = some (some zero, z, bytes)) (hzs : zero.cells.size = z) (hsz : 0 < z)
    (v : Value) (n : Nat) (xs : List Value) (hv : w.ownsRow 0 E z v n xs) (xa : Option Addr) (m c : Nat) (S : Bl) (news : List Value) (hl : news.length = m * z) (hR : RowOn w S xa news) (h1 : ∀ u ∈ news, u.oneCell' = true)
    (h63 : n + m ≤ 140737488355328) (hb : (n + m) * bytes ≤ 140737488355328) :
    ∃ v' w', (Builtin.append_ #[T, T] ty #[v, .slice xa m c]).run P w = .ok v' w' ∧ AppR E z v n xs news m w v' w' := by
  rcases hR with rfl | ⟨b, off, rfl, _, hc⟩
  · have hm : m = 0 := by
      rcases Nat.eq_zero_or_pos m with h | h
      · exact h
      · have := Nat.mul_pos h hsz; simp at hl; omega
    subst hm
    exact ⟨v, w, run_app0 w T ty E zero z bytes hT hi v n xs hv xa c, by simpa using hv, Fr.refl _ _, fun k hk => .inl hk⟩
  · refine app_run w T ty E zero z bytes hT hi hzs hsz v n xs hv ⟨b, off, none⟩ m c news hl (fun j u hu => ?_) h1 h63 hb
    have := hc j u hu
    rw [show (⟨b, off, none⟩ : Addr).add j = ⟨b, off + j, none⟩ by unfold Addr.add; split <;> simp_all]
    exact this
theorem step_appX {P : Program} {ops : Array Oper} {o : Oper} {a : Act} {K : Act → World → Prop} {Q : Exit → Act → World → Prop} {F : Prop} (w : World) (hgd : o.guard = none) (sl x : Operand) (T E : TypeId) (zero : Value) (z bytes : Nat) (ho : o.op = .call { callee := .builtin .append, args := #[sl, x], argTypes := #[T, T] }) (hT : P.underlying T = some (.slice E)) (hi : (P.info? E).map (fun i => (i.zero, i.size, i.bytes)) = some (some zero, z, bytes)) (hzs : zero.cells.size = z) (hsz : 0 < z)
    (v : Value) (n : Nat) (xs : List Value) (hs : a.eval sl = v) (hv : w.ownsRow 0 E z v n xs) (xa : Option Addr) (m c : Nat) (S : Bl) (news : List Value) (hx : a.eval x = .slice xa m c) (hl : news.length = m * z) (hR : RowOn w S xa news) (h1 : ∀ u ∈ news, u.oneCell' = true) (h63 : n + m ≤ 140737488355328) (hb : (n + m) * bytes ≤ 140737488355328)
    (h : ∀ v' w', AppR E z v n xs news m w v' w' → K (a.put o.dst v') w') :
    if Region.wanted o (yielded ops a.tmps) = true then Oper.wp P o a w K Q else F := by
  have hw : Region.wanted o (yielded ops a.tmps) = true := by simp [Region.wanted, hgd]
  rw [if_pos hw]
  obtain ⟨v', w', hr, A⟩ := app_row (P := P) w T o.type E zero z bytes hT hi hzs hsz v n xs hv xa m c S news hl hR h1 h63 hb
  unfold Oper.wp execOp
  simp only [ho, resolve, invoke, builtin, Sem.run_bind, Sem.run_pure, Result.andThen_ok, List.map_toArray, List.map_cons, List.map_nil, hs, hx, hr]
  exact h v' w' A
end Go.Proofs.YtngpplmndpmgiaaGreat.Tree
