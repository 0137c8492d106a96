/-
  Joined: POver, PEnts2, Within, PEnts3, Round, PEnc.
-/
import Derived.Test.YtngpplmndpmgiaaGreatJ12
import Derived.Test.YtngpplmndpmgiaaGreatJ11
import Derived.Test.YtngpplmndpmgiaaGreatJ9
import Derived.Test.YtngpplmndpmgiaaGreatJ5
namespace Go.Proofs.YtngpplmndpmgiaaGreat.Tree
open Go.RowKit Go.Proofs.YtngpplmndpmgiaaGreat.Pages
set_option linter.unusedSimpArgs false
set_option linter.unusedVariables false
def ovr : List En → List Ch → List En
  | [], cs => tellE cs
  | x :: es, cs => tellE (cs.take (srch cs x.e.key)) ++ ((if fnd cs x.e.key = true then [] else [x]) ++ ovr es (cs.drop (srch cs x.e.key)))
theorem foldl_ovr : ∀ (es : List En) (a : List En × List Ch), (es.foldl stepO a).1 ++ tellE (es.foldl stepO a).2 = a.1 ++ ovr es a.2
  | [], a => rfl
  | x :: es, a => by
    rw [List.foldl_cons, foldl_ovr es (stepO a x)]
    simp [stepO, ovr, List.append_assoc]
theorem overE_ovr (es : List En) (cs : List Ch) : overE es cs = ovr es cs := by
  have := foldl_ovr es ([], cs)
  simpa [overE, foldO] using this
def RiseE (es : List En) : Prop := es.Pairwise (fun a b => lt a.e.key b.e.key = true)
theorem mem_tell {cs : List Ch} {y : En} : y ∈ tellE cs ↔ ∃ c ∈ cs, c.gone = false ∧ y = chE c := by
  unfold tellE
  simp only [List.mem_map, List.mem_filter, Bool.not_eq_true']
  constructor
  · rintro ⟨c, ⟨h1, h2⟩, rfl⟩; exact ⟨c, h1, h2, rfl⟩
  · rintro ⟨c, h1, h2, rfl⟩; exact ⟨c, ⟨h1, h2⟩, rfl⟩
theorem take_lt {cs : List Ch} {k : ByteArray} {c : Ch} (h : c ∈ cs.take (srch cs k)) : lt c.key k = true := by
  obtain ⟨i, hi, rfl⟩ := List.getElem_of_mem h
  rw [List.length_take] at hi
  rw [List.getElem_take]
  obtain ⟨_, h'⟩ := srch_lt (cs := cs) (k := k) (i := i) (by omega)
  exact h'
theorem drop_le {cs : List Ch} (hr : Rise cs) {k : ByteArray} {c : Ch} (h : c ∈ cs.drop (srch cs k)) : lt c.key k = false := by
  obtain ⟨i, hi, rfl⟩ := List.getElem_of_mem h
  rw [List.length_drop] at hi
  rw [List.getElem_drop]
  exact srch_ge hr (by omega) (by omega)
theorem fnd_iff {cs : List Ch} (hr : Rise cs) (k : ByteArray) : fnd cs k = true ↔ ∃ c ∈ cs, c.key = k := by
  unfold fnd
  cases h : cs[srch cs k]? with
  | none =>
    simp only [Bool.false_eq_true, false_iff]
    rintro ⟨c, hc, rfl⟩
    rw [List.getElem?_eq_none_iff] at h
    obtain ⟨i, hi, rfl⟩ := List.getElem_of_mem hc
    obtain ⟨_, h'⟩ := srch_lt (cs := cs) (k := cs[i].key) (i := i) (by omega)
    rw [lt_irrefl] at h'; cases h'
  | some c =>
    obtain ⟨hi, hc⟩ := List.getElem?_eq_some_iff.1 h
    have hge : lt c.key k = false := by rw [← hc]; exact srch_ge hr (Nat.le_refl _) hi
    simp only [Bool.not_eq_true']
    constructor
    · intro hl
      exact ⟨c, hc ▸ List.getElem_mem hi, lt_total hge hl⟩
    · rintro ⟨d, hd, rfl⟩
      obtain ⟨j, hj, rfl⟩ := List.getElem_of_mem hd
      rcases Nat.lt_trichotomy j (srch cs cs[j].key) with h1 | h1 | h1
      · obtain ⟨_, h'⟩ := srch_lt h1
        rw [lt_irrefl] at h'; cases h'
      · have : cs[j] = c := by rw [← hc]; congr 1
        rw [← this]; exact lt_irrefl _
      · have hp := List.pairwise_iff_getElem.1 hr _ j hi hj h1
        rw [hc] at hp
        rw [hge] at hp; cases hp
theorem mem_split {cs : List Ch} (n : Nat) {c : Ch} : c ∈ cs ↔ c ∈ cs.take n ∨ c ∈ cs.drop n := by
  conv => lhs; rw [← List.take_append_drop n cs]
  exact List.mem_append
theorem mem_ovr : ∀ (es : List En) (cs : List Ch), RiseE es → Rise cs → ∀ y, y ∈ ovr es cs ↔ (∃ c ∈ cs, c.gone = false ∧ y = chE c) ∨ (y ∈ es ∧ ∀ c ∈ cs, c.key ≠ y.e.key)
  | [], cs, _, _, y => by simp only [ovr, mem_tell, List.not_mem_nil, false_and, or_false]
  | x :: es, cs, he, hr, y => by
    have hrd : Rise (cs.drop (srch cs x.e.key)) := List.Pairwise.sublist (List.drop_sublist _ _) hr
    obtain ⟨hx, he'⟩ := List.pairwise_cons.1 he
    simp only [ovr, List.mem_append, mem_tell, mem_ovr es _ he' hrd y]
    have hfi := fnd_iff hr x.e.key
    constructor
    · rintro (⟨c, hc, hg, rfl⟩ | hy | ⟨c, hc, hg, rfl⟩ | ⟨hy, hn⟩)
      · exact .inl ⟨c, List.mem_of_mem_take hc, hg, rfl⟩
      · split at hy
        · simp at hy
        · rename_i hf
          obtain rfl := List.mem_singleton.1 hy
          exact .inr ⟨by simp, fun c hc e => hf (hfi.2 ⟨c, hc, e⟩)⟩
      · exact .inl ⟨c, List.mem_of_mem_drop hc, hg, rfl⟩
      · refine .inr ⟨List.mem_cons_of_mem _ hy, fun c hc e => ?_⟩
        rcases (mem_split (srch cs x.e.key)).1 hc with h | h
        · have h1 := take_lt h
          have h2 := lt_trans h1 (hx y hy)
          rw [e, lt_irrefl] at h2; cases h2
        · exact hn c h e
    · rintro (⟨c, hc, hg, rfl⟩ | ⟨hy, hn⟩)
      · rcases (mem_split (srch cs x.e.key)).1 hc with h | h
        · exact .inl ⟨c, h, hg, rfl⟩
        · exact .inr (.inr (.inl ⟨c, h, hg, rfl⟩))
      · rcases List.mem_cons.1 hy with rfl | hy
        · refine .inr (.inl ?_)
          rw [if_neg (fun hf => by obtain ⟨c, hc, e⟩ := hfi.1 hf; exact hn c hc e)]
          simp
        · exact .inr (.inr (.inr ⟨hy, fun c hc => hn c (List.mem_of_mem_drop hc)⟩))
theorem rise_tell {cs : List Ch} (hr : Rise cs) : RiseE (tellE cs) := by
  unfold tellE RiseE
  rw [List.pairwise_map]
  exact List.Pairwise.filter _ hr
theorem rise_ovr : ∀ (es : List En) (cs : List Ch), RiseE es → Rise cs → RiseE (ovr es cs)
  | [], cs, _, hr => rise_tell hr
  | x :: es, cs, he, hr => by
    have hrd : Rise (cs.drop (srch cs x.e.key)) := List.Pairwise.sublist (List.drop_sublist _ _) hr
    obtain ⟨hx, he'⟩ := List.pairwise_cons.1 he
    have hrest : ∀ y ∈ ovr es (cs.drop (srch cs x.e.key)), lt y.e.key x.e.key = false ∧ (fnd cs x.e.key = false → lt x.e.key y.e.key = true) := by
      intro y hy
      rcases (mem_ovr es _ he' hrd y).1 hy with ⟨c, hc, _, rfl⟩ | ⟨hy, _⟩
      · have h1 := drop_le hr hc
        refine ⟨h1, fun hf => ?_⟩
        cases h2 : lt x.e.key c.key with
        | true => exact h2
        | false =>
          have := (fnd_iff hr x.e.key).2 ⟨c, List.mem_of_mem_drop hc, lt_total h1 h2⟩
          rw [hf] at this; cases this
      · exact ⟨lt_asymm (hx y hy), fun _ => hx y hy⟩
    have htk : ∀ y ∈ tellE (cs.take (srch cs x.e.key)), lt y.e.key x.e.key = true := by
      intro y hy
      obtain ⟨c, hc, _, rfl⟩ := mem_tell.1 hy
      exact take_lt hc
    have ih := rise_ovr es _ he' hrd
    simp only [ovr]
    refine List.pairwise_append.2 ⟨rise_tell (List.Pairwise.sublist (List.take_sublist _ _) hr), List.pairwise_append.2 ⟨?_, ih, ?_⟩, ?_⟩
    · split <;> simp
    · intro a ha b hb
      split at ha
      · simp at ha
      · rename_i hf
        obtain rfl := List.mem_singleton.1 ha
        exact (hrest b hb).2 (by simpa using hf)
    · intro a ha b hb
      rcases List.mem_append.1 hb with hb | hb
      · split at hb
        · simp at hb
        · obtain rfl := List.mem_singleton.1 hb
          exact htk a ha
      · exact lt_of_lt_of_le (htk a ha) (not_lt.1 (hrest b hb).1)
end Go.Proofs.YtngpplmndpmgiaaGreat.Tree
namespace Go.Proofs.YtngpplmndpmgiaaGreat.Tree
open Go.RowKit Go.Proofs.YtngpplmndpmgiaaGreat.Pages
set_option linter.unusedSimpArgs false
set_option linter.unusedVariables false
theorem parts_pair {α : Type} : ∀ (s : Sp) (ks : List ByteArray) (kids : List α), kids.length = ks.length + 1 → ks.Pairwise (fun a b => lt a b = true) → (∀ k ∈ ks, lt s.lo k = true ∧ Sp.below s.hi k = true) → (parts s ks kids).Pairwise (fun x y => x.2.hi ≠ ⟨#[]⟩ ∧ le x.2.hi y.2.lo = true)
  | s, _, [], hl, _, _ => by simp at hl
  | s, [], k :: kids, hl, _, _ => by
    have : kids = [] := List.eq_nil_of_length_eq_zero (by simpa using hl)
    subst this
    simp [parts]
  | s, q :: ks, k :: kids, hl, hp, hb => by
    obtain ⟨hq, hp'⟩ := List.pairwise_cons.1 hp
    obtain ⟨b1, b2⟩ := hb q (by simp)
    have hl' : kids.length = ks.length + 1 := by simpa using hl
    have hb' : ∀ x ∈ ks, lt q x = true ∧ Sp.below s.hi x = true := fun x hx => ⟨hq x hx, (hb x (by simp [hx])).2⟩
    simp only [parts]
    refine List.pairwise_cons.2 ⟨fun y hy => ⟨fun e => ?_, (parts_in ⟨q, s.hi⟩ ks kids hl' hp' hb' y hy).1⟩, parts_pair ⟨q, s.hi⟩ ks kids hl' hp' hb'⟩
    have e' : q = ⟨#[]⟩ := e
    rw [e', lt_nil] at b1; cases b1
theorem rise_ents {fs : Fs} : ∀ {h : Nat} {t : T} {s : Sp}, Stands fs h t s → RiseE (T.ents h t)
  | 0, .leaf p es, s, ht => by
    obtain ⟨g, hg, hk, he, _⟩ := ht
    have := (has_leaf hg hk).1
    rw [he, List.pairwise_map] at this
    exact this
  | 0, .branch _ _ _, s, ht => by simp [T.ents, RiseE]
  | h + 1, .leaf _ _, s, ht => by simp [Stands] at ht
  | h + 1, .branch p ks kids, s, ht => by
    obtain ⟨hl, hp, hb, _, hall⟩ := branch_keys ht
    have hpp := parts_pair s ks kids hl hp hb
    have key : ∀ (l : List (T × Sp)), (∀ x ∈ l, Stands fs h x.1 x.2) → l.Pairwise (fun x y => x.2.hi ≠ ⟨#[]⟩ ∧ le x.2.hi y.2.lo = true) → RiseE ((l.map (·.1)).flatMap (T.ents h)) := by
      intro l hl hp
      induction l with
      | nil => exact .nil
      | cons x l ih =>
        obtain ⟨hx, hp'⟩ := List.pairwise_cons.1 hp
        rw [List.map_cons, List.flatMap_cons]
        refine List.pairwise_append.2 ⟨rise_ents (hl x (by simp)), ih (fun y hy => hl y (by simp [hy])) hp', ?_⟩
        intro a ha b hb
        obtain ⟨k, hk, hb⟩ := List.mem_flatMap.1 hb
        obtain ⟨y, hy, rfl⟩ := List.mem_map.1 hk
        obtain ⟨n1, n2⟩ := hx y hy
        have ia := ents_in (hl x (by simp)) a ha
        have ib := ents_in (hl y (by simp [hy])) b hb
        unfold Sp.has at ia ib
        rw [Bool.and_eq_true] at ia ib
        have la : lt a.e.key x.2.hi = true := by
          rcases below_iff.1 ia.2 with h | h
          · exact absurd h n1
          · exact h
        exact lt_of_lt_of_le (lt_of_lt_of_le la n2) ib.1
    have := key _ hall hpp
    rw [parts_fst] at this
    simpa only [T.ents] using this
def oents : Option (Nat × T) → List En
  | none => []
  | some (h, t) => T.ents h t
theorem ostored_eq {fs : Fs} {root : Nat} {o : Option (Nat × T)} (hro : Rooted fs root o) (q : Sp) : ostored q o = (oents o).filter (fun x => q.has x.e.key) := by
  cases o with
  | none => rfl
  | some x => exact pick_lvs q hro.2.2
theorem oents_rise {fs : Fs} {root : Nat} {o : Option (Nat × T)} (hro : Rooted fs root o) : RiseE (oents o) := by
  cases o with
  | none => exact .nil
  | some x => exact rise_ents hro.2.2
end Go.Proofs.YtngpplmndpmgiaaGreat.Tree
namespace Go.Proofs.YtngpplmndpmgiaaGreat.Tree
open Go.RowKit Go.Proofs.YtngpplmndpmgiaaGreat.Pages
set_option linter.unusedSimpArgs false
set_option linter.unusedVariables false
theorem filter_range {α : Type} (p : α → Bool) : ∀ (l : List α) (a b : Nat), (∀ m (h : m < l.length), p l[m] = (decide (a ≤ m) && decide (m < b))) → l.filter p = (l.take b).drop a
  | [], _, _, _ => by simp
  | x :: l, a, 0, h => by
    rw [List.take_zero, List.drop_nil, List.filter_eq_nil_iff]
    intro y hy
    obtain ⟨m, hm, rfl⟩ := List.getElem_of_mem hy
    rw [h m hm]; simp
  | x :: l, 0, b + 1, h => by
    have h0 := h 0 (by simp)
    simp only [List.getElem_cons_zero] at h0
    have hx : p x = true := by rw [h0]; simp
    rw [List.filter_cons_of_pos hx, List.take_succ_cons, List.drop_zero, filter_range p l 0 b (fun m hm => by
      have := h (m + 1) (by simpa using hm)
      simp only [List.getElem_cons_succ] at this
      rw [this]; simp), List.drop_zero]
  | x :: l, a + 1, b + 1, h => by
    have h0 := h 0 (by simp)
    simp only [List.getElem_cons_zero] at h0
    have hx : ¬ p x = true := by rw [h0]; simp
    rw [List.filter_cons_of_neg hx, List.take_succ_cons, List.drop_succ_cons, filter_range p l a b (fun m hm => by
      have := h (m + 1) (by simpa using hm)
      simp only [List.getElem_cons_succ] at this
      rw [this]; simp)]
theorem srch_at {cs : List Ch} (hr : Rise cs) (k : ByteArray) (m : Nat) (hm : m < cs.length) : lt cs[m].key k = decide (m < srch cs k) := by
  by_cases h : m < srch cs k
  · obtain ⟨_, h'⟩ := srch_lt h
    rw [h']; simp [h]
  · rw [srch_ge hr (by omega) hm]; simp [h]
def ownC (cs : List Ch) (q : Sp) : List Ch := cs.filter (fun c => q.has c.key)
theorem ownC_eq {cs : List Ch} (hr : Rise cs) (q : Sp) (b : Nat) (hb : b = if isNil q.hi = true then cs.length else srch cs q.hi) : ownC cs q = (cs.take (max (srch cs q.lo) b)).drop (srch cs q.lo) := by
  refine filter_range _ cs _ _ (fun m hm => ?_)
  have h1 : lt cs[m].key q.lo = decide (m < srch cs q.lo) := srch_at hr q.lo m hm
  have h2 : Sp.below q.hi cs[m].key = decide (m < b) := by
    unfold Sp.below
    cases hn : isNil q.hi
    · rw [hn] at hb
      simp only [Bool.false_or]
      simp only [Bool.false_eq_true, if_false] at hb
      rw [hb]; exact srch_at hr q.hi m hm
    · rw [hn] at hb
      simp only [if_true] at hb
      rw [hb]; simp [hm]
  unfold Sp.has le
  rw [h1, h2]
  by_cases ha : m < srch cs q.lo
  · have : ¬ srch cs q.lo ≤ m := by omega
    simp [ha, this]
  · have h3 : srch cs q.lo ≤ m := by omega
    simp only [ha, h3, decide_false, decide_true, Bool.not_false, Bool.true_and]
    congr 1
    apply propext
    omega
def CutC (S : Bl) (ca : Option Addr) (cs : List Ch) (a : Option Addr) (c : Nat) (own : List Ch) : Prop :=
  own.length ≤ c ∧ (∀ Wx, RowOn Wx S ca (cs.flatMap Ch.cells) → RowOn Wx S a (own.flatMap Ch.cells)) ∧ ((a = none ∧ c = 0) ∨ ∃ b off, a = some ⟨b, off, none⟩)
theorem cutC_of {S : Bl} {b off cc : Nat} {cs own : List Ch} (n t : Nat) (hcc : cs.length ≤ cc) (hn : n ≤ t) (ht : t ≤ cs.length) (ho : own = (cs.take t).drop n) : CutC S (some ⟨b, off, none⟩) cs (if cc = n then some ⟨b, off, none⟩ else some ⟨b, off + n * 3, none⟩) (cc - n) own := by
  have hl : own.length = t - n := by rw [ho, List.length_drop, List.length_take]; omega
  refine ⟨by omega, fun Wx h => ?_, ?_⟩
  · by_cases hc : cc = n
    · exact .inl (by rw [List.eq_nil_of_length_eq_zero (by omega : own.length = 0)]; rfl)
    · rw [if_neg hc, ho]
      exact (h.takeZ (z := 3) t).dropZ n (fun x _ => rfl) (by rw [List.length_take]; omega)
  · by_cases hc : cc = n
    · exact .inr ⟨b, off, by rw [if_pos hc]⟩
    · exact .inr ⟨b, off + n * 3, by rw [if_neg hc]⟩
theorem str_ne (a : ByteArray) : (a.toList == ([] : List UInt8)) = isNil a := by
  unfold isNil; cases a.toList <;> rfl
set_option maxRecDepth 100000 in
set_option maxHeartbeats 2000000 in
theorem within_any (ca : Option Addr) (cc : Nat) (cs : List Ch) (q : Sp) (S : Bl) (w : World) (hR : RowOn w S ca (cs.flatMap Ch.cells)) (hS : ∀ b, S b → b < w.heap.size) (hr : Rise cs) (hn : cs.length ≤ 1000000) (hc : cs.length ≤ cc) (hca : (ca = none ∧ cc = 0) ∨ ∃ b off, ca = some ⟨b, off, none⟩) :
    Calls Tryz.prog 137 #[.slice ca cs.length cc, .agg #[.string q.lo, .string q.hi]] w fun e w' => ∃ a c, e = .returned (.slice a (ownC cs q).length c) ∧ CutC S ca cs a c (ownC cs q) ∧ Below w.heap.size w w' := by
  obtain ⟨W1, hW1⟩ : ∃ W1, w.alloc (.cells #[.string q.lo, .string q.hi] 128) = W1 := ⟨_, rfl⟩
  have b1 : Below w.heap.size w W1 := hW1 ▸ (Below.refl _ _).alloc (Nat.le_refl _) _
  have x1 : W1.heap[w.heap.size]? = some (.cells #[.string q.lo, .string q.hi] 128) := hW1 ▸ heap_new w _
  obtain ⟨m0, m1⟩ := box2 x1
  have z1 := (Array.getElem?_eq_some_iff.1 x1).1
  have hsr : ∀ W k, Below w.heap.size w W → Calls Tryz.prog 66 #[.slice ca cs.length cc, .string k] W fun e w' => e = .returned (.tuple #[.int .i64 (srch cs k), .bool (fnd cs k)]) ∧ Below W.heap.size W w' := fun W k h => search_any ca cc cs k S W (hR.on (On.of_below h hS)) (fun b hb => Nat.lt_of_lt_of_le (hS b hb) h.size) hr hn hc
  have hle := srch_le cs q.lo
  have hle2 := srch_le cs q.hi
  have hE := fun b hb => ownC_eq hr q b hb
  obtain ⟨n, hn'⟩ : ∃ n, srch cs q.lo = n := ⟨_, rfl⟩
  obtain ⟨t, ht'⟩ : ∃ t, srch cs q.hi = t := ⟨_, rfl⟩
  have hs1 := hsr W1 q.lo b1
  rw [hn'] at hle hs1
  simp only [hn', ht'] at hE
  rw [ht'] at hle2
  have hs2 := fun W h => hsr W q.hi h
  simp only [ht'] at hs2
  clear hn' ht' hsr
  go_enter Tryz.func137, Tryz.ntmps137
  cases hnil : isNil q.hi
  · have hne : (q.hi.toList == ([] : List UInt8)) = false := by rw [str_ne, hnil]
    have hO : Hid (ownC cs q = (cs.take (max n t)).drop n) := hE t (by simp [hnil])
    have hOl : Hid ((ownC cs q).length = max n t - n) := by show _ = _; rw [hO.out, List.length_drop, List.length_take]; omega
    clear hE
    rcases hca with ⟨rfl, rfl⟩ | ⟨rb, ro, rfl⟩
    · obtain rfl : cs = [] := List.eq_nil_of_length_eq_zero (by omega)
      obtain rfl : n = 0 := by simpa using hle
      obtain rfl : t = 0 := by simpa using hle2
      go_wp2_with (go_at_call 66; first | (refine hs1.mono ?_; clear hs1; rintro e w2 ⟨rfl, hb2⟩; have b2 : Below w.heap.size w w2 := b1.trans (hb2.mono b1.size); obtain ⟨e0, e1⟩ := box2 ((hb2.block w.heap.size z1).trans x1)) | (refine (hs2 _ b2).mono ?_; rintro e w3 ⟨rfl, hb3⟩; have b3 : Below w.heap.size w w3 := b2.trans (hb3.mono b2.size)))
      go_ret
      exact ⟨none, 0, by rw [hOl.out]; rfl, ⟨by rw [hOl.out]; simp, fun _ _ => .inl (by rw [List.eq_nil_of_length_eq_zero (by rw [hOl.out]; rfl : (ownC [] q).length = 0)]; rfl), .inl ⟨rfl, rfl⟩⟩, b3⟩
    · skip
      have key : CutC S (some ⟨rb, ro, none⟩) cs (if cc = n then some ⟨rb, ro, none⟩ else some ⟨rb, ro + n * 3, none⟩) (cc - n) (ownC cs q) := cutC_of n (max n t) hc (by omega) (by omega) hO.out
      by_cases hcn : cc = n
      · subst cc
        have HOL : Hid ((ownC cs q).length = 0) := by show _ = _; rw [hOl.out]; omega
        have KEY : Hid (CutC S (some ⟨rb, ro, none⟩) cs (some ⟨rb, ro, none⟩) 0 (ownC cs q)) := by rw [if_pos rfl, Nat.sub_self] at key; exact key
        have hts : (t : Int) ≤ (n : Int) := by omega
        clear hO hOl key
        go_wp2_with (go_at_call 66; first | (refine hs1.mono ?_; clear hs1; rintro e w2 ⟨rfl, hb2⟩; have b2 : Below w.heap.size w w2 := b1.trans (hb2.mono b1.size); obtain ⟨e0, e1⟩ := box2 ((hb2.block w.heap.size z1).trans x1)) | (refine (hs2 _ b2).mono ?_; rintro e w3 ⟨rfl, hb3⟩; have b3 : Below w.heap.size w w3 := b2.trans (hb3.mono b2.size)))
        all_goals go_ret
        all_goals exact ⟨_, _, by rw [HOL.out]; first | rfl | (simp; done) | (simp; omega), KEY.out, b3⟩
      · have KEY : Hid (CutC S (some ⟨rb, ro, none⟩) cs (some ⟨rb, ro + n * 3, none⟩) (cc - n) (ownC cs q)) := by rw [if_neg hcn] at key; exact key
        clear key
        by_cases hnt : n ≤ t
        · have HOL : Hid ((ownC cs q).length = t - n) := by show _ = _; rw [hOl.out]; omega
          have hnti : (n : Int) ≤ (t : Int) := by omega
          clear hO hOl
          go_wp2_with (go_at_call 66; first | (refine hs1.mono ?_; clear hs1; rintro e w2 ⟨rfl, hb2⟩; have b2 : Below w.heap.size w w2 := b1.trans (hb2.mono b1.size); obtain ⟨e0, e1⟩ := box2 ((hb2.block w.heap.size z1).trans x1)) | (refine (hs2 _ b2).mono ?_; rintro e w3 ⟨rfl, hb3⟩; have b3 : Below w.heap.size w w3 := b2.trans (hb3.mono b2.size)))
          all_goals go_ret
          all_goals exact ⟨_, _, by rw [HOL.out]; first | rfl | (simp; done) | (simp; omega), KEY.out, b3⟩
        · have HOL : Hid ((ownC cs q).length = n - n) := by show _ = _; rw [hOl.out]; omega
          have hnti : (t : Int) < (n : Int) := by omega
          clear hO hOl
          go_wp2_with (go_at_call 66; first | (refine hs1.mono ?_; clear hs1; rintro e w2 ⟨rfl, hb2⟩; have b2 : Below w.heap.size w w2 := b1.trans (hb2.mono b1.size); obtain ⟨e0, e1⟩ := box2 ((hb2.block w.heap.size z1).trans x1)) | (refine (hs2 _ b2).mono ?_; rintro e w3 ⟨rfl, hb3⟩; have b3 : Below w.heap.size w w3 := b2.trans (hb3.mono b2.size)))
          all_goals go_ret
          all_goals exact ⟨_, _, by rw [HOL.out]; first | rfl | (simp; done) | (simp; omega), KEY.out, b3⟩
  · have hne : (q.hi.toList == ([] : List UInt8)) = true := by rw [str_ne, hnil]
    have hO : Hid (ownC cs q = (cs.take (max n cs.length)).drop n) := hE cs.length (by simp [hnil])
    have hOl : Hid ((ownC cs q).length = max n cs.length - n) := by show _ = _; rw [hO.out, List.length_drop, List.length_take]; omega
    clear hE
    rcases hca with ⟨rfl, rfl⟩ | ⟨rb, ro, rfl⟩
    · obtain rfl : cs = [] := List.eq_nil_of_length_eq_zero (by omega)
      obtain rfl : n = 0 := by simpa using hle
      go_wp2_with (go_at_call 66; refine hs1.mono ?_; clear hs1; rintro e w2 ⟨rfl, hb2⟩; have b2 : Below w.heap.size w w2 := b1.trans (hb2.mono b1.size); obtain ⟨e0, e1⟩ := box2 ((hb2.block w.heap.size z1).trans x1))
      go_ret
      exact ⟨none, 0, by rw [hOl.out]; rfl, ⟨by rw [hOl.out]; simp, fun _ _ => .inl (by rw [List.eq_nil_of_length_eq_zero (by rw [hOl.out]; rfl : (ownC [] q).length = 0)]; rfl), .inl ⟨rfl, rfl⟩⟩, b2⟩
    · skip
      have key : CutC S (some ⟨rb, ro, none⟩) cs (if cc = n then some ⟨rb, ro, none⟩ else some ⟨rb, ro + n * 3, none⟩) (cc - n) (ownC cs q) := cutC_of n (max n cs.length) hc (by omega) (by omega) hO.out
      by_cases hcn : cc = n
      · subst cc
        have HOL : Hid ((ownC cs q).length = 0) := by show _ = _; rw [hOl.out]; omega
        have KEY : Hid (CutC S (some ⟨rb, ro, none⟩) cs (some ⟨rb, ro, none⟩) 0 (ownC cs q)) := by rw [if_pos rfl, Nat.sub_self] at key; exact key
        have hts : (cs.length : Int) ≤ (n : Int) := by omega
        clear hO hOl key
        go_wp2_with (go_at_call 66; refine hs1.mono ?_; clear hs1; rintro e w2 ⟨rfl, hb2⟩; have b2 : Below w.heap.size w w2 := b1.trans (hb2.mono b1.size); obtain ⟨e0, e1⟩ := box2 ((hb2.block w.heap.size z1).trans x1))
        all_goals go_ret
        all_goals exact ⟨_, _, by rw [HOL.out]; first | rfl | (simp; done) | (simp; omega), KEY.out, b2⟩
      · have KEY : Hid (CutC S (some ⟨rb, ro, none⟩) cs (some ⟨rb, ro + n * 3, none⟩) (cc - n) (ownC cs q)) := by rw [if_neg hcn] at key; exact key
        clear key
        by_cases hnt : n ≤ cs.length
        · have HOL : Hid ((ownC cs q).length = cs.length - n) := by show _ = _; rw [hOl.out]; omega
          have hnti : (n : Int) ≤ (cs.length : Int) := by omega
          clear hO hOl
          go_wp2_with (go_at_call 66; refine hs1.mono ?_; clear hs1; rintro e w2 ⟨rfl, hb2⟩; have b2 : Below w.heap.size w w2 := b1.trans (hb2.mono b1.size); obtain ⟨e0, e1⟩ := box2 ((hb2.block w.heap.size z1).trans x1))
          all_goals go_ret
          all_goals exact ⟨_, _, by rw [HOL.out]; first | rfl | (simp; done) | (simp; omega), KEY.out, b2⟩
        · exact absurd hle hnt
end Go.Proofs.YtngpplmndpmgiaaGreat.Tree
namespace Go.Proofs.YtngpplmndpmgiaaGreat.Tree
open Go.RowKit Go.Proofs.YtngpplmndpmgiaaGreat.Pages
set_option linter.unusedSimpArgs false
set_option linter.unusedVariables false
theorem rise_ext : ∀ {l m : List En}, RiseE l → RiseE m → (∀ y, y ∈ l ↔ y ∈ m) → l = m
  | [], [], _, _, _ => rfl
  | [], y :: m, _, _, h => absurd ((h y).2 (by simp)) (by simp)
  | x :: l, [], _, _, h => absurd ((h x).1 (by simp)) (by simp)
  | x :: l, y :: m, hl, hm, h => by
    obtain ⟨hx, hl'⟩ := List.pairwise_cons.1 hl
    obtain ⟨hy, hm'⟩ := List.pairwise_cons.1 hm
    have exy : x = y := by
      rcases List.mem_cons.1 ((h x).1 (by simp)) with e | e
      · exact e
      · rcases List.mem_cons.1 ((h y).2 (by simp)) with e' | e'
        · exact e'.symm
        · have := lt_trans (hx y e') (hy x e)
          rw [lt_irrefl] at this; cases this
    subst exy
    rw [rise_ext hl' hm' (fun z => ?_)]
    constructor
    · intro hz
      rcases List.mem_cons.1 ((h z).1 (by simp [hz])) with rfl | hz'
      · have := hx z hz; rw [lt_irrefl] at this; cases this
      · exact hz'
    · intro hz
      rcases List.mem_cons.1 ((h z).2 (by simp [hz])) with rfl | hz'
      · have := hy z hz; rw [lt_irrefl] at this; cases this
      · exact hz'
theorem entries_eq {es : List En} {cs : List Ch} (he : RiseE es) (hr : Rise cs) (q : Sp) : overE (es.filter (fun x => q.has x.e.key)) (ownC cs q) = (overE es cs).filter (fun x => q.has x.e.key) := by
  rw [overE_ovr, overE_ovr]
  have hro : Rise (ownC cs q) := List.Pairwise.filter _ hr
  have hef : RiseE (es.filter (fun x => q.has x.e.key)) := List.Pairwise.filter _ he
  refine rise_ext (rise_ovr _ _ hef hro) (List.Pairwise.filter _ (rise_ovr _ _ he hr)) (fun y => ?_)
  rw [mem_ovr _ _ hef hro, List.mem_filter, List.mem_filter, mem_ovr _ _ he hr]
  unfold ownC
  constructor
  · rintro (⟨c, hc, hg, rfl⟩ | ⟨hy, hn⟩)
    · obtain ⟨h1, h2⟩ := List.mem_filter.1 hc
      exact ⟨.inl ⟨c, h1, hg, rfl⟩, h2⟩
    · obtain ⟨h1, h2⟩ := hy
      refine ⟨.inr ⟨h1, fun c hc e => hn c (List.mem_filter.2 ⟨hc, ?_⟩) e⟩, h2⟩
      rw [e]; exact h2
  · rintro ⟨⟨c, hc, hg, rfl⟩ | ⟨hy, hn⟩, hq⟩
    · exact .inl ⟨c, List.mem_filter.2 ⟨hc, hq⟩, hg, rfl⟩
    · exact .inr ⟨⟨hy, hq⟩, fun c hc => hn c (List.mem_filter.1 hc).1⟩
end Go.Proofs.YtngpplmndpmgiaaGreat.Tree
namespace Go.Proofs.YtngpplmndpmgiaaGreat.Pages
open Go.RowKit
set_option linter.unusedSimpArgs false
set_option linter.unusedVariables false
def Has (bs : List UInt8) (a : Nat) (l : List UInt8) : Prop := ∃ p r, bs = p ++ (l ++ r) ∧ p.length = a
theorem Has.le {bs : List UInt8} {a : Nat} {l : List UInt8} (h : Has bs a l) : a + l.length ≤ bs.length := by
  obtain ⟨p, r, rfl, rfl⟩ := h; simp
theorem Has.left {bs : List UInt8} {a : Nat} {l m : List UInt8} (h : Has bs a (l ++ m)) : Has bs a l := by
  obtain ⟨p, r, rfl, rfl⟩ := h; exact ⟨p, m ++ r, by simp, rfl⟩
theorem Has.right {bs : List UInt8} {a : Nat} {l m : List UInt8} (h : Has bs a (l ++ m)) : Has bs (a + l.length) m := by
  obtain ⟨p, r, rfl, rfl⟩ := h; exact ⟨p ++ l, r, by simp, by simp⟩
theorem Has.pos {bs : List UInt8} {a : Nat} {l : List UInt8} (h : Has bs a l) {k : Nat} (hk : k ≤ l.length) : posB bs a k = a + k := by
  have := h.le; unfold posB; omega
theorem Has.getD {bs : List UInt8} {a : Nat} {l : List UInt8} (h : Has bs a l) {k : Nat} (hk : k < l.length) : bs.getD (a + k) 0 = l[k] := by
  obtain ⟨p, r, rfl, rfl⟩ := h
  simp [List.getD, List.getElem?_append_right, List.getElem?_append_left hk, List.getElem?_eq_getElem hk]
theorem Has.head {bs : List UInt8} {a : Nat} {b : UInt8} {l : List UInt8} (h : Has bs a (b :: l)) : bs.getD a 0 = b := by
  have := h.getD (k := 0) (by simp); simpa using this
theorem Has.tail {bs : List UInt8} {a : Nat} {b : UInt8} {l : List UInt8} (h : Has bs a (b :: l)) : Has bs (a + 1) l :=
  Has.right (l := [b]) h
theorem Has.slice {bs : List UInt8} {a : Nat} {l : List UInt8} (h : Has bs a l) : (bs.drop a).take l.length = l := by
  obtain ⟨p, r, rfl, rfl⟩ := h; simp
theorem byte_of (m : Int) (h0 : 0 ≤ m) (h1 : m < 256) : ((UInt8.ofNat m.toNat).toNat : Int) = m := by
  rw [UInt8.toNat_ofNat_of_lt' (by simp [UInt8.size]; omega)]; omega
theorem byteI (n : Int) (m : Nat) : ((UInt8.ofNat ((n / 2 ^ m % 256).toNat)).toNat : Int) = n / 2 ^ m % 256 := byte_of _ (by omega) (by omega)
theorem num_one {bs : List UInt8} {a : Nat} {n : Int} (h : Has bs a (beB 1 n)) (h0 : 0 ≤ n) (h1 : n < 256) : ((bs.getD a 0).toNat : Int) = n := by
  have e := h.head
  rw [e, byteI]
  simp only [Nat.mul_zero, Int.pow_zero]
  omega
theorem num_two {bs : List UInt8} {a : Nat} {n : Int} (h : Has bs a (beB 2 n)) (h0 : 0 ≤ n) (h1 : n < 65536) : (numV bs a 2 : Int) = n := by
  have e0 := h.head
  have e1 := h.tail.head
  simp only [numV, Nat.add_zero, e0, e1, Nat.zero_mul, Nat.zero_add]
  rw [Int.natCast_add, Int.natCast_mul, byteI, byteI]
  simp only [Nat.mul_zero, Int.pow_zero, Nat.mul_one]
  omega
theorem num_eight {bs : List UInt8} {a : Nat} {n : Int} (h : Has bs a (beB 8 n)) (h0 : 0 ≤ n) (h1 : n < 9223372036854775808) : (numV bs a 8 : Int) = n := by
  have e0 := h.head
  have e1 := h.tail.head
  have e2 := h.tail.tail.head
  have e3 := h.tail.tail.tail.head
  have e4 := h.tail.tail.tail.tail.head
  have e5 := h.tail.tail.tail.tail.tail.head
  have e6 := h.tail.tail.tail.tail.tail.tail.head
  have e7 := h.tail.tail.tail.tail.tail.tail.tail.head
  simp only [Nat.add_assoc] at e0 e1 e2 e3 e4 e5 e6 e7
  simp only [Nat.reduceAdd] at e0 e1 e2 e3 e4 e5 e6 e7
  simp only [numV, Nat.add_zero, e0, e1, e2, e3, e4, e5, e6, e7, Nat.zero_mul, Nat.zero_add]
  simp only [Int.natCast_add, Int.natCast_mul, byteI]
  simp only [Nat.mul_zero, Int.pow_zero, Nat.mul_one, Nat.reduceMul, Int.reducePow]
  omega
theorem arr_back (s : ByteArray) : (⟨s.data.toList.toArray⟩ : ByteArray) = s := by cases s; simp
theorem txt_of {bs : List UInt8} {a : Nat} {s : ByteArray} (h : Has bs a (textB s)) (hs : s.size < 256) : (⟨(txtB bs a).toArray⟩ : ByteArray) = s ∧ (txtB bs a).length = s.size ∧ txtA bs a = a + (textB s).length := by
  have e0 : (bs.getD a 0).toNat = s.size := by
    rw [Has.head (l := s.data.toList) h, UInt8.toNat_ofNat_of_lt' (by simpa [UInt8.size] using hs)]
  have hp : posB bs a 1 = a + 1 := h.pos (by simp [textB])
  have h2 : Has bs (a + 1) s.data.toList := Has.tail (b := UInt8.ofNat s.size) h
  have hl : s.data.toList.length = s.size := data_length s
  have e1 : txtB bs a = s.data.toList := by
    unfold txtB
    rw [hp, e0, ← hl]
    exact h2.slice
  refine ⟨by rw [e1, arr_back], by rw [e1, hl], ?_⟩
  have := h2.le
  unfold txtA
  rw [hp, e0]
  simp only [textB, List.length_append, List.length_cons, List.length_nil]
  omega
theorem empty_of {s : ByteArray} (h : s.toList.isEmpty = true) : s = ⟨#[]⟩ := by
  rw [ByteArray.toList_eq] at h
  have h2 : s.data.toList = [] := List.isEmpty_iff.1 h
  rw [← arr_back s, h2]
theorem ent_of {bs : List UInt8} {a : Nat} {e : Ent} (h : Has bs a e.bytes) (hk : e.key.size ≤ 24) (hv : valB e.val e.size e.over = true) : entR bs a = e ∧ entA bs a = a + e.bytes.length := by
  obtain ⟨k, v, n, o⟩ := e
  simp only [Ent.bytes, entBytes] at h hk hv ⊢
  obtain ⟨t1, t2, t3⟩ := txt_of h.left (by omega)
  have hr := h.right
  by_cases ho : (o == 0) = true
  · rw [if_pos ho] at hr ⊢
    have hb : bs.getD (a + (textB k).length) 0 = 0 := hr.head
    have hp : posB bs (a + (textB k).length) 1 = a + (textB k).length + 1 := hr.pos (by simp)
    obtain rfl : o = 0 := by simpa using ho
    simp [valB, placeB_zero] at hv
    obtain ⟨s1, s2, s3⟩ := txt_of (Has.tail (b := 0) hr) (by omega)
    unfold entR entA
    rw [t3, if_pos hb, if_pos hb, hp, t1, s1, s2, s3]
    refine ⟨?_, by simp; omega⟩
    rw [hv.2]
  · rw [if_neg ho] at hr ⊢
    have hb : ¬ bs.getD (a + (textB k).length) 0 = 0 := by rw [Has.head (b := 1) (l := beB 2 n ++ beB 2 o) (by simpa using hr)]; decide
    have hp : posB bs (a + (textB k).length) 1 = a + (textB k).length + 1 := hr.pos (by simp)
    have ho' : o ≠ 0 := by simpa using ho
    simp only [valB, ho', placeB, Bool.or_eq_true, Bool.and_eq_true, decide_eq_true_eq, beq_iff_eq, false_and, false_or] at hv
    have hr2 : Has bs (a + (textB k).length + 1) (beB 2 n ++ beB 2 o) := Has.tail (b := 1) (by simpa using hr)
    have n1 := num_two hr2.left (by omega) (by omega)
    have hp2 : posB bs (a + (textB k).length + 1) 2 = a + (textB k).length + 1 + 2 := hr2.pos (by simp [beB_length])
    have hr3 := hr2.right
    rw [beB_length] at hr3
    have n2 := num_two hr3 (by omega) (by omega)
    have hp3 : posB bs (a + (textB k).length + 1 + 2) 2 = a + (textB k).length + 1 + 2 + 2 := hr3.pos (by simp [beB_length])
    unfold entR entA
    rw [t3, if_neg hb, if_neg hb, hp, hp2, hp3, t1, n1, n2]
    refine ⟨?_, by simp [beB_length]; omega⟩
    rw [empty_of hv.1.1.2]
theorem keysR_cons (bs : List UInt8) (a n : Nat) : keysR bs a (n + 1) = (⟨(txtB bs a).toArray⟩ : ByteArray) :: keysR bs (txtA bs a) n := by
  have hk : ∀ j, keyPos bs a (j + 1) = keyPos bs (txtA bs a) j := fun j => by
    induction j with
    | zero => rfl
    | succ j ih => rw [keyPos, ih, ← keyPos]
  simp only [keysR, List.range_succ_eq_map, List.map_cons, List.map_map]
  refine congrArg (List.cons _) (List.map_congr_left fun j _ => ?_)
  simp only [Function.comp, Nat.succ_eq_add_one, hk]
theorem kidsR_cons (bs : List UInt8) (a n : Nat) : kidsR bs a (n + 1) = (numV bs (posB bs a 0) 2 : Int) :: kidsR bs (posB bs a 2) n := by
  simp only [kidsR, List.range_succ_eq_map, List.map_cons, List.map_map]
  refine congrArg (List.cons _) (List.map_congr_left fun j _ => ?_)
  simp only [Function.comp, Nat.succ_eq_add_one, posB_posB]
  rw [show 2 * (j + 1) = 2 + 2 * j by omega]
theorem entsR_cons (bs : List UInt8) (a n : Nat) : entsR bs a (n + 1) = entR bs a :: entsR bs (entA bs a) n := by
  have hk : ∀ j, entPos bs a (j + 1) = entPos bs (entA bs a) j := fun j => by
    induction j with
    | zero => rfl
    | succ j ih => rw [entPos, ih, ← entPos]
  simp only [entsR, List.range_succ_eq_map, List.map_cons, List.map_map]
  refine congrArg (List.cons _) (List.map_congr_left fun j _ => ?_)
  simp only [Function.comp, Nat.succ_eq_add_one, hk]
theorem keys_of {bs : List UInt8} : ∀ {keys : List ByteArray} {a : Nat}, Has bs a (keys.flatMap textB) → (∀ k ∈ keys, k.size < 256) → keysR bs a keys.length = keys
  | [], _, _, _ => rfl
  | k :: l, a, h, hs => by
    rw [List.flatMap_cons] at h
    obtain ⟨t1, t2, t3⟩ := txt_of h.left (hs k (by simp))
    rw [List.length_cons, keysR_cons, t1, t3, keys_of h.right (fun x hx => hs x (by simp [hx]))]
theorem kids_of {bs : List UInt8} : ∀ {kids : List Int} {a : Nat}, Has bs a (kids.flatMap (beB 2)) → (∀ k ∈ kids, 0 ≤ k ∧ k < 65536) → kidsR bs a kids.length = kids
  | [], _, _, _ => rfl
  | k :: l, a, h, hs => by
    rw [List.flatMap_cons] at h
    have t1 := num_two h.left (hs k (by simp)).1 (hs k (by simp)).2
    have h0 : posB bs a 0 = a := h.pos (Nat.zero_le _)
    have h2 : posB bs a 2 = a + 2 := h.pos (by simp [beB_length])
    have hr := h.right
    rw [beB_length] at hr
    rw [List.length_cons, kidsR_cons, h0, t1, h2, kids_of hr (fun x hx => hs x (by simp [hx]))]
theorem ents_of {bs : List UInt8} : ∀ {ents : List Ent} {a : Nat}, Has bs a (ents.flatMap Ent.bytes) → (∀ e ∈ ents, e.key.size ≤ 24 ∧ valB e.val e.size e.over = true) → entsR bs a ents.length = ents
  | [], _, _, _ => rfl
  | e :: l, a, h, hs => by
    rw [List.flatMap_cons] at h
    obtain ⟨t1, t2⟩ := ent_of h.left (hs e (by simp)).1 (hs e (by simp)).2
    rw [List.length_cons, entsR_cons, t1, t2, ents_of h.right (fun x hx => hs x (by simp [hx]))]
theorem flat_two : ∀ (kids : List Int), (kids.flatMap (beB 2)).length = 2 * kids.length
  | [] => rfl
  | k :: l => by rw [List.flatMap_cons, List.length_append, beB_length, flat_two l, List.length_cons]; omega
theorem rising_all : ∀ {keys : List ByteArray} {l : ByteArray}, risingB l keys = true → ∀ k ∈ keys, k.size ≤ 24
  | [], _, _ => by simp
  | k :: r, l, h => by
    simp only [risingB, followsB, Bool.and_eq_true, decide_eq_true_eq] at h
    intro x hx
    rcases List.mem_cons.1 hx with rfl | hx
    · exact h.1.2
    · exact rising_all h.2 x hx
theorem leaf_all : ∀ {ents : List Ent} {l : ByteArray}, leafOk l ents = true → ∀ e ∈ ents, e.key.size ≤ 24 ∧ valB e.val e.size e.over = true
  | [], _, _ => by simp
  | k :: r, l, h => by
    simp only [leafOk, followsB, Bool.and_eq_true, decide_eq_true_eq] at h
    intro x hx
    rcases List.mem_cons.1 hx with rfl | hx
    · exact ⟨h.1.1.2, h.1.2⟩
    · exact leaf_all h.2 x hx
theorem nil_of {α : Type} {l : List α} (h : ((l.length : Int) == 0) = true) : l = [] := List.eq_nil_of_length_eq_zero (by simpa using h)
theorem flat_ge {α : Type} (f : α → List UInt8) : ∀ (l : List α), (∀ x ∈ l, 1 ≤ (f x).length) → l.length ≤ (l.flatMap f).length
  | [], _ => by simp
  | x :: l, h => by
    have h1 := h x (by simp)
    have h2 := flat_ge f l (fun y hy => h y (by simp [hy]))
    rw [List.flatMap_cons, List.length_append, List.length_cons]
    omega
theorem textB_pos (s : ByteArray) : 1 ≤ (textB s).length := by simp [textB]
theorem bytes_pos (e : Ent) : 1 ≤ e.bytes.length := by
  have := textB_pos e.key
  simp only [Ent.bytes, entBytes, List.length_append]; omega
theorem wrap64_small {n : Int} (h0 : 0 ≤ n) (h1 : n < 9223372036854775808) : wrap64 n = n := by unfold wrap64; omega
theorem round_trip (g : Pg) (hver : g.ver < 9223372036854775808) (hE : g.encE = 0) : readP g.encS.data.toList = g := by
  obtain ⟨kind, ver, root, next, keys, kids, ents, data⟩ := g
  simp only [Pg.encE, Pg.encS, Pages.encE, Pages.encS] at hE hver ⊢
  split at hE
  case isFalse => simp at hE
  case isTrue hT =>
  rw [if_pos hT]
  simp only [Bool.and_eq_true, decide_eq_true_eq] at hT
  obtain ⟨hR, hL⟩ := hT
  have hAll : Has (fullB (fieldsB kind ver root next keys kids ents data)) 0 (fieldsB kind ver root next keys kids ents data) :=
    ⟨[], _, by rw [fullB, padB, List.append_assoc]; rfl, rfl⟩
  have hdata : ((⟨(fullB (fieldsB kind ver root next keys kids ents data)).toArray⟩ : ByteArray)).data.toList = fullB (fieldsB kind ver root next keys kids ents data) := by simp
  rw [hdata]
  clear hdata
  generalize fullB (fieldsB kind ver root next keys kids ents data) = bs at hAll ⊢
  unfold readP
  unfold rightB at hR
  by_cases h1 : kind = 1
  · subst h1
    rw [if_pos rfl] at hR
    simp only [noBranch, noLeaf, noOver, metaB, Bool.and_eq_true, decide_eq_true_eq, Bool.or_eq_true, placeB] at hR
    obtain ⟨⟨⟨⟨k1, k2⟩, k3⟩, k4, k5⟩, k6, k7⟩ := hR
    rw [fieldsB, if_pos rfl] at hAll
    have hk : bs.getD 0 0 = 1 := hAll.left.left.head
    have hp1 : posB bs 0 1 = 1 := hAll.pos (by simp [beB_length])
    have hv := hAll.left.right
    rw [beB_length] at hv
    have hp2 : posB bs 1 8 = 9 := hv.pos (by simp [beB_length])
    have hr := hAll.right
    rw [List.length_append, beB_length, beB_length] at hr
    have hroot : 0 ≤ root ∧ root < 65536 := by
      rcases k7 with k7 | k7
      · have := beq_iff_eq.1 k7; omega
      · omega
    rw [hk, show readK bs (1 : UInt8).toNat = _ from if_pos rfl, hp1, hp2, num_two hr hroot.1 hroot.2]
    rw [num_eight hv k6 hver, wrap64_small k6 hver, nil_of k1, nil_of k2, nil_of k3, empty_of k5, beq_iff_eq.1 k4]
  by_cases h2 : kind = 2
  · subst h2
    rw [if_neg h1, if_pos rfl] at hR
    simp only [noMeta, noLeaf, noOver, branchOk, Bool.and_eq_true, decide_eq_true_eq] at hR
    obtain ⟨⟨⟨⟨k1, k2⟩, k3⟩, k4, k5⟩, ⟨⟨k6, k7⟩, k8⟩, k9⟩ := hR
    rw [fieldsB, if_neg h1, if_pos rfl] at hAll hL
    have hkn : keys.length < 256 := by
      have := flat_ge textB keys (fun x _ => textB_pos x)
      rw [branchB] at hL
      simp only [List.length_append] at hL
      omega
    have hk : bs.getD 0 0 = 2 := hAll.left.head
    have hp1 : posB bs 0 1 = 1 := hAll.pos (by simp [beB_length])
    have hB := hAll.right
    rw [beB_length, branchB] at hB
    have hn := num_one hB.left.left (by omega) (by omega)
    have hn' : (bs.getD 1 0).toNat = keys.length := by have h : ((bs.getD 1 0).toNat : Int) = keys.length := hn; omega
    have hp2 : posB bs 1 1 = 2 := hB.pos (by simp [beB_length])
    have hI := hB.left.right
    rw [beB_length] at hI
    have hp3 : posB bs 2 (2 * (keys.length + 1)) = 2 + 2 * (keys.length + 1) := hI.pos (by rw [flat_two, k7]; omega)
    have hK := hB.right
    rw [List.length_append, beB_length, flat_two, k7] at hK
    have e1 := keys_of hK (fun k hk => by have := rising_all k9 k hk; omega)
    have e2 := kids_of hI (fun k hk => by have := List.all_eq_true.1 k8 k hk; simp [placeB] at this; omega)
    rw [hk, show readK bs (2 : UInt8).toNat = _ from (if_neg (by decide)).trans (if_pos rfl), hp1, hn', hp2, hp3, ← k7, e2, k7]
    rw [show 2 + 2 * (keys.length + 1) = 0 + 1 + (1 + 2 * (keys.length + 1)) by omega, e1]
    rw [beq_iff_eq.1 k1, beq_iff_eq.1 k2, nil_of k3, beq_iff_eq.1 k4, empty_of k5]
  by_cases h3 : kind = 3
  · subst h3
    rw [if_neg h1, if_neg h2, if_pos rfl] at hR
    simp only [noMeta, noBranch, noOver, Bool.and_eq_true, decide_eq_true_eq] at hR
    obtain ⟨⟨⟨⟨k1, k2⟩, k3, k3b⟩, k4, k5⟩, k6, k7⟩ := hR
    rw [fieldsB, if_neg h1, if_neg h2, if_pos rfl] at hAll hL
    have hkn : ents.length < 256 := by
      have := flat_ge Ent.bytes ents (fun x _ => bytes_pos x)
      rw [leafB] at hL
      simp only [List.length_append] at hL
      omega
    have hk : bs.getD 0 0 = 3 := hAll.left.head
    have hp1 : posB bs 0 1 = 1 := hAll.pos (by simp [beB_length])
    have hB := hAll.right
    rw [beB_length, leafB] at hB
    have hn := num_one hB.left (by omega) (by omega)
    have hn' : (bs.getD 1 0).toNat = ents.length := by have h : ((bs.getD 1 0).toNat : Int) = ents.length := hn; omega
    have hp2 : posB bs 1 1 = 2 := hB.pos (by simp [beB_length])
    have hI := hB.right
    rw [beB_length] at hI
    have e1 := ents_of hI (leaf_all k7)
    rw [hk, show readK bs (3 : UInt8).toNat = _ from (if_neg (by decide)).trans ((if_neg (by decide)).trans (if_pos rfl)), hp1, hn', hp2]
    rw [show 2 = 0 + 1 + 1 from rfl, e1]
    rw [beq_iff_eq.1 k1, beq_iff_eq.1 k2, nil_of k3, nil_of k3b, beq_iff_eq.1 k4, empty_of k5]
  by_cases h4 : kind = 4
  · subst h4
    rw [if_neg h1, if_neg h2, if_neg h3, if_pos rfl] at hR
    simp only [noMeta, noBranch, noLeaf, overB, Bool.and_eq_true, decide_eq_true_eq, Bool.or_eq_true, placeB] at hR
    obtain ⟨⟨⟨⟨k1, k2⟩, k3, k3b⟩, k4⟩, k5, k6, k7⟩ := hR
    rw [fieldsB, if_neg h1, if_neg h2, if_neg h3] at hAll
    have hk : bs.getD 0 0 = 4 := hAll.left.left.head
    have hp1 : posB bs 0 1 = 1 := hAll.pos (by simp [beB_length])
    have hv := hAll.left.right
    rw [beB_length] at hv
    have hp2 : posB bs 1 2 = 3 := hv.pos (by simp [beB_length])
    have hr := hAll.right
    rw [List.length_append, beB_length, beB_length] at hr
    have hnext : 0 ≤ next ∧ next < 65536 := by
      rcases k5 with k5 | k5
      · have := beq_iff_eq.1 k5; omega
      · omega
    obtain ⟨t1, t2, t3⟩ := txt_of hr (by omega)
    rw [hk, show readK bs (4 : UInt8).toNat = _ from (if_neg (by decide)).trans ((if_neg (by decide)).trans ((if_neg (by decide)).trans (if_pos rfl))), hp1, hp2, num_two hv hnext.1 hnext.2]
    rw [show 3 = 0 + (1 + 2) from rfl, t1, beq_iff_eq.1 k1, beq_iff_eq.1 k2, nil_of k3, nil_of k3b, nil_of k4]
  · simp [h1, h2, h3, h4] at hR
end Go.Proofs.YtngpplmndpmgiaaGreat.Pages
namespace Go.Proofs.YtngpplmndpmgiaaGreat.Tree
open Go.RowKit Go.Proofs.YtngpplmndpmgiaaGreat.Pages
set_option linter.unusedSimpArgs false
set_option linter.unusedVariables false
def overPg (next : Nat) (d : ByteArray) : Pg := ⟨4, 0, 0, next, [], [], [], d⟩
def leafPg (es : List En) : Pg := ⟨3, 0, 0, 0, [], [], es.map (·.e), ⟨#[]⟩⟩
def branPg (los : List ByteArray) (pls : List Nat) : Pg := ⟨2, 0, 0, 0, los, pls.map (fun n : Nat => (n : Int)), [], ⟨#[]⟩⟩
def metaPg (ver root : Int) : Pg := ⟨1, ver, root, 0, [], [], [], ⟨#[]⟩⟩
theorem enc_right (G : Pg) (hr : rightB G.kind G.ver G.root G.next G.keys G.kids G.ents G.data = true) (hl : (fieldsB G.kind G.ver G.root G.next G.keys G.kids G.ents G.data).length ≤ 252) : G.encE = 0 := by
  unfold Pg.encE Pages.encE
  rw [if_pos (by rw [hr]; simpa using hl)]
theorem nil_empty : (⟨#[]⟩ : ByteArray).toList.isEmpty = true := by rw [ByteArray.toList_eq]; rfl
theorem text_len (s : ByteArray) : (textB s).length = s.size + 1 := by
  unfold textB
  rw [List.length_append, Array.length_toList]
  show 1 + s.size = _
  omega
theorem enc_meta (ver root : Int) (h0 : 0 ≤ ver) (h1 : root = 0 ∨ placeB root = true) : (metaPg ver root).encE = 0 := by
  refine enc_right _ ?_ ?_
  · rcases h1 with h | h <;> simp [metaPg, rightB, noBranch, noLeaf, noOver, metaB, h0, h, nil_empty]
  · simp [metaPg, fieldsB, beB_length]
theorem enc_over (next : Nat) (d : ByteArray) (h1 : next = 0 ∨ placeB next = true) (h2 : 1 ≤ d.size) (h3 : d.size ≤ 240) : (overPg next d).encE = 0 := by
  refine enc_right _ ?_ ?_
  · rcases h1 with h | h <;> simp [overPg, rightB, noBranch, noLeaf, noMeta, overB, h, h2, h3]
  · have := text_len d
    simp [overPg, fieldsB, beB_length]
    omega
theorem leafOk_of : ∀ (es : List Ent) (last : ByteArray), es.Pairwise (fun a b => lt a.key b.key = true) → (∀ e ∈ es, lt last e.key = true ∧ e.key.size ≤ 24 ∧ valB e.val e.size e.over = true) → leafOk last es = true
  | [], _, _, _ => rfl
  | e :: r, last, hp, h => by
    obtain ⟨h1, h2⟩ := List.pairwise_cons.1 hp
    obtain ⟨a1, a2, a3⟩ := h e (by simp)
    simp only [leafOk, Bool.and_eq_true, followsB]
    refine ⟨⟨⟨a1, by simpa using a2⟩, a3⟩, leafOk_of r e.key h2 (fun x hx => ?_)⟩
    obtain ⟨_, b2, b3⟩ := h x (by simp [hx])
    exact ⟨h1 x hx, b2, b3⟩
theorem risingB_of : ∀ (ks : List ByteArray) (last : ByteArray), ks.Pairwise (fun a b => lt a b = true) → (∀ k ∈ ks, lt last k = true ∧ k.size ≤ 24) → risingB last ks = true
  | [], _, _, _ => rfl
  | k :: r, last, hp, h => by
    obtain ⟨h1, h2⟩ := List.pairwise_cons.1 hp
    obtain ⟨a1, a2⟩ := h k (by simp)
    simp only [risingB, Bool.and_eq_true, followsB]
    exact ⟨⟨a1, by simpa using a2⟩, risingB_of r k h2 (fun x hx => ⟨h1 x hx, (h x (by simp [hx])).2⟩)⟩
theorem ent_len (x : En) (h : valB x.e.val x.e.size x.e.over = true) : (Ent.bytes x.e).length = esz x := by
  unfold Ent.bytes entBytes esz
  rw [List.length_append, text_len]
  simp only [valB, Bool.or_eq_true, Bool.and_eq_true, beq_iff_eq, decide_eq_true_eq] at h
  rcases h with ⟨⟨h1, h2⟩, h3⟩ | ⟨⟨⟨h1, h2⟩, h3⟩, h4⟩
  · rw [if_pos (by simp [h1]), if_neg (by omega), List.length_append, text_len]
    simp; omega
  · have h0 : ¬ (x.e.over == 0) = true := by
      intro e
      rw [beq_iff_eq.1 e] at h1
      simp [placeB] at h1
    rw [if_neg h0, if_pos h3, List.length_append, List.length_append, beB_length, beB_length]
    simp
theorem ents_len : ∀ (es : List En), (∀ x ∈ es, valB x.e.val x.e.size x.e.over = true) → ((es.map (·.e)).flatMap Ent.bytes).length = tot esz es
  | [], _ => rfl
  | x :: es, h => by
    rw [List.map_cons, List.flatMap_cons, List.length_append, tot_cons, ent_len x (h x (by simp)), ents_len es (fun y hy => h y (by simp [hy]))]
theorem enc_leaf (es : List En) (hne : es ≠ []) (hr : RiseE es) (hk : ∀ x ∈ es, lt ⟨#[]⟩ x.e.key = true ∧ x.e.key.size ≤ 24 ∧ valB x.e.val x.e.size x.e.over = true) (hs : tot esz es ≤ 250) : (leafPg es).encE = 0 := by
  have hok : leafOk ⟨#[]⟩ (es.map (·.e)) = true := leafOk_of _ _ (by rw [List.pairwise_map]; exact hr) (fun e he => by
    obtain ⟨x, hx, rfl⟩ := List.mem_map.1 he
    exact hk x hx)
  refine enc_right _ ?_ ?_
  · have hne' : es.map (·.e) ≠ [] := by simpa using hne
    simp [leafPg, rightB, noMeta, noBranch, noOver, hok, hne, nil_empty]
  · have h2 := ents_len es (fun x hx => (hk x hx).2.2)
    simp only [leafPg, fieldsB, leafB, List.length_append, beB_length, if_neg (show ¬ (3 : Int) = 1 by decide), if_neg (show ¬ (3 : Int) = 2 by decide), if_pos]
    omega
theorem kids_len : ∀ (l : List Int), (l.flatMap (beB 2)).length = 2 * l.length
  | [] => rfl
  | x :: l => by rw [List.flatMap_cons, List.length_append, beB_length, kids_len l, List.length_cons]; omega
theorem keys_len : ∀ (l : List ByteArray), (l.flatMap textB).length = tot (fun k : ByteArray => k.size + 1) l
  | [] => rfl
  | x :: l => by rw [List.flatMap_cons, List.length_append, text_len, keys_len l, tot_cons]
theorem enc_bran (los : List ByteArray) (pls : List Nat) (hne : los ≠ []) (hl : pls.length = los.length + 1) (hr : los.Pairwise (fun a b => lt a b = true)) (hk : ∀ k ∈ los, lt ⟨#[]⟩ k = true ∧ k.size ≤ 24) (hp : ∀ p ∈ pls, placeB (p : Nat) = true) (hs : 2 * pls.length + tot (fun k : ByteArray => k.size + 1) los ≤ 250) : (branPg los pls).encE = 0 := by
  refine enc_right _ ?_ ?_
  · have h1 := risingB_of los ⟨#[]⟩ hr hk
    have h2 : (pls.map (fun n : Nat => (n : Int))).all placeB = true := by
      rw [List.all_eq_true]
      intro x hx
      obtain ⟨p, hpp, rfl⟩ := List.mem_map.1 hx
      exact hp p hpp
    simp only [branPg, rightB, noMeta, noLeaf, noOver, branchOk, h1, h2, nil_empty, if_neg (show ¬ (2 : Int) = 1 by decide), if_pos, List.length_map, hl]
    simp [hne]
  · simp only [branPg, fieldsB, branchB, List.length_append, beB_length, if_neg (show ¬ (2 : Int) = 1 by decide), if_pos, kids_len, keys_len, List.length_map]
    omega
theorem has_kids {fs : Fs} {p : Nat} {g : Pg} (h : fs.has p g) (hk : g.kind = 2) : ∀ k ∈ g.kids, placeB k = true := by
  have := has_right h
  rw [hk] at this
  simp only [rightB, if_neg (show ¬ (2 : Int) = 1 by decide), if_pos, Bool.and_eq_true, branchOk, List.all_eq_true] at this
  exact this.2.1.2
theorem has_over {fs : Fs} {p : Nat} {g : Pg} (h : fs.has p g) (hk : g.kind = 4) : g.next = 0 ∨ placeB g.next = true := by
  have := has_right h
  rw [hk] at this
  simp only [rightB, if_neg (show ¬ (4 : Int) = 1 by decide), if_neg (show ¬ (4 : Int) = 2 by decide), if_neg (show ¬ (4 : Int) = 3 by decide), if_pos, Bool.and_eq_true, overB, Bool.or_eq_true, beq_iff_eq] at this
  exact this.2.1
theorem enc_size (g : Pg) (hE : g.encE = 0) : g.encS.size = 256 := by
  unfold Pg.encE Pages.encE at hE
  split at hE
  · rename_i hT
    unfold Pg.encS Pages.encS
    rw [if_pos hT]
    simp only [Bool.and_eq_true, decide_eq_true_eq] at hT
    show (fullB _).toArray.size = 256
    simp only [List.size_toArray, fullB, padB, List.length_append, List.length_replicate, beB_length]
    omega
  · simp at hE
theorem enc_isPg (g : Pg) (hv : g.ver < 9223372036854775808) (hE : g.encE = 0) : IsPg g.encS g := by
  have h := round_trip g hv hE
  exact ⟨enc_size g hE, by rw [h]; exact hE, by rw [h], h.symm⟩
end Go.Proofs.YtngpplmndpmgiaaGreat.Tree
