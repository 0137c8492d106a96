/-
  Joined: PNt, Tog.
-/
import Derived.Test.YtngpplmndpmgiaaGreatJ13
import Derived.Test.YtngpplmndpmgiaaGreatJ10
import Derived.Test.YtngpplmndpmgiaaGreatJ12
import Derived.Deep.RegionHeld3
namespace Go.Proofs.YtngpplmndpmgiaaGreat.Tree
open Go.RowKit Go.Proofs.YtngpplmndpmgiaaGreat.Pages
set_option linter.unusedSimpArgs false
set_option linter.unusedVariables false
inductive NT where
  | kept (t : T) (s : Sp)
  | leaf (s : Sp) (es : List En)
  | bran (s : Sp) (ks : List NT)
def NT.sp : NT → Sp
  | .kept _ s => s
  | .leaf s _ => s
  | .bran s _ => s
def kszT (n : NT) : Nat := n.sp.lo.size + 3
def firstLoT : List NT → ByteArray
  | [] => ⟨#[]⟩
  | n :: _ => n.sp.lo
def leafT (p : List En) : NT := .leaf ⟨firstKey p, ⟨#[]⟩⟩ p
def branT (p : List NT) : NT := .bran ⟨firstLoT p, ⟨#[]⟩⟩ p
def leavesP (es : List En) : List NT := (cuts esz es).map leafT
def bransP (ns : List NT) : List NT := (cuts kszT ns).map branT
def smallT : NT → Bool
  | .kept _ _ => false
  | .leaf _ es => decide (tot esz es < 62)
  | .bran _ ks => decide (tot kszT ks < 62)
def NT.ents0 : NT → List En
  | .kept (.leaf _ es) _ => es
  | .kept (.branch _ _ _) _ => []
  | .leaf _ es => es
  | .bran _ _ => []
def joinS (tog : NT → NT → List NT) (acc : List NT) (n : NT) : List NT :=
  match acc.getLast? with
  | none => [n]
  | some l => if smallT l = true ∨ smallT n = true then acc.dropLast ++ tog l n else acc ++ [n]
def joinP (tog : NT → NT → List NT) (ns : List NT) : List NT := ns.foldl (joinS tog) []
def tog0 (a b : NT) : List NT := leavesP (a.ents0 ++ b.ents0)
def entsL (ns : List NT) : List En := ns.flatMap NT.ents0
def En.good (fs : Fs) (x : En) : Prop := lt ⟨#[]⟩ x.e.key = true ∧ x.e.key.size ≤ 24 ∧
  ((x.e.over = 0 ∧ x.ch = [] ∧ x.e.size = (x.e.val.size : Int) ∧ x.e.val.size ≤ 400) ∨
   (x.e.val = ⟨#[]⟩ ∧ placeB x.e.over = true ∧ ∃ size over : Nat, x.e.size = size ∧ x.e.over = over ∧ 60 < size ∧ size ≤ 400 ∧ ChainAt fs over size x.ch))
theorem good_esz {fs : Fs} {x : En} (h : x.good fs) : esz x ≤ 87 := by
  obtain ⟨_, hk, h | ⟨hv, _, sz, ov, h1, _, h2, _⟩⟩ := h
  · obtain ⟨_, _, h1, h2⟩ := h
    unfold esz; split <;> omega
  · unfold esz; rw [h1, if_pos (by omega)]; omega
theorem good_fits {fs : Fs} {x : En} (h : x.good fs) : x.fits := by
  obtain ⟨_, hk, h | ⟨hv, _⟩⟩ := h
  · exact ⟨hk, h.2.2.2⟩
  · refine ⟨hk, ?_⟩; rw [hv]; decide
def Ok0 (fs : Fs) : NT → Prop
  | .kept (.leaf p es) s => Stands fs 0 (.leaf p es) s
  | .kept (.branch _ _ _) _ => False
  | .leaf s es => es ≠ [] ∧ s.lo = firstKey es ∧ RiseE es ∧ tot esz es ≤ 250 ∧ ∀ x ∈ es, x.good fs
  | .bran _ _ => False
def Ahead (a b : NT) : Prop := ∀ x ∈ a.ents0, lt x.e.key b.sp.lo = true
structure Lst (fs : Fs) (ns : List NT) : Prop where
  ok : ∀ n ∈ ns, Ok0 fs n
  lo : ∀ n ∈ ns, ∀ x ∈ n.ents0, le n.sp.lo x.e.key = true
  sep : ns.Pairwise Ahead
theorem rise_cons {x : En} {l : List En} : RiseE (x :: l) ↔ (∀ y ∈ l, lt x.e.key y.e.key = true) ∧ RiseE l := List.pairwise_cons
theorem rise_append {l m : List En} : RiseE (l ++ m) ↔ RiseE l ∧ RiseE m ∧ ∀ x ∈ l, ∀ y ∈ m, lt x.e.key y.e.key = true := List.pairwise_append
theorem firstKey_le {es : List En} (h : RiseE es) : ∀ x ∈ es, le (firstKey es) x.e.key = true := by
  intro x hx
  cases es with
  | nil => simp at hx
  | cons y l =>
    rcases List.mem_cons.1 hx with rfl | hx
    · exact le_refl _
    · exact le_of_lt ((rise_cons.1 h).1 x hx)
theorem firstKey_mem {es : List En} (h : es ≠ []) : ∃ x ∈ es, firstKey es = x.e.key := by
  cases es with
  | nil => exact absurd rfl h
  | cons y l => exact ⟨y, by simp, rfl⟩
theorem pieces_lst {fs : Fs} : ∀ {ps : List (List En)}, RiseE ps.flatten → (∀ x ∈ ps.flatten, x.good fs) → (∀ p ∈ ps, p ≠ []) → (∀ p ∈ ps, tot esz p ≤ 250) → Lst fs (ps.map leafT)
  | [], _, _, _, _ => ⟨by simp, by simp, by simp⟩
  | p :: ps, hr, hg, hne, hf => by
    rw [List.flatten_cons] at hr hg
    obtain ⟨h1, h2, h3⟩ := rise_append.1 hr
    have ih := pieces_lst h2 (fun x hx => hg x (by simp only [List.mem_append]; exact .inr hx)) (fun q hq => hne q (by simp [hq])) (fun q hq => hf q (by simp [hq]))
    have hp : Ok0 fs (leafT p) := ⟨hne p (by simp), rfl, h1, hf p (by simp), fun x hx => hg x (by simp [hx])⟩
    refine ⟨?_, ?_, ?_⟩
    · rw [List.map_cons]; intro n hn
      rcases List.mem_cons.1 hn with rfl | hn
      · exact hp
      · exact ih.ok n hn
    · rw [List.map_cons]; intro n hn
      rcases List.mem_cons.1 hn with rfl | hn
      · exact firstKey_le h1
      · exact ih.lo n hn
    · rw [List.map_cons]
      refine List.pairwise_cons.2 ⟨fun n hn x hx => ?_, ih.sep⟩
      obtain ⟨q, hq, rfl⟩ := List.mem_map.1 hn
      obtain ⟨y, hy, e⟩ := firstKey_mem (hne q (by simp [hq]))
      show lt x.e.key (firstKey q) = true
      rw [e]
      exact h3 x hx y (List.mem_flatten.2 ⟨q, hq, hy⟩)
theorem esz_250 {fs : Fs} {es : List En} (hg : ∀ x ∈ es, x.good fs) : ∀ x ∈ es, esz x ≤ 250 := fun x hx => by have := good_esz (hg x hx); omega
theorem leavesP_lst {fs : Fs} {es : List En} (hr : RiseE es) (hg : ∀ x ∈ es, x.good fs) : Lst fs (leavesP es) := by
  have h := cuts_flat esz es (esz_250 hg)
  exact pieces_lst (by rw [h]; exact hr) (by rw [h]; exact hg) (cuts_ne esz es (esz_250 hg)) (cuts_fit esz es)
theorem entsL_leaves (ps : List (List En)) : entsL (ps.map leafT) = ps.flatten := by
  induction ps with
  | nil => rfl
  | cons p ps ih => simp only [entsL, List.map_cons, List.flatMap_cons, List.flatten_cons] at ih ⊢; rw [ih]; rfl
theorem leavesP_ents {fs : Fs} {es : List En} (hg : ∀ x ∈ es, x.good fs) : entsL (leavesP es) = es := by
  rw [leavesP, entsL_leaves, cuts_flat esz es (esz_250 hg)]
theorem leavesP_lo {fs : Fs} {es : List En} (hg : ∀ x ∈ es, x.good fs) : ∀ n ∈ leavesP es, ∃ x ∈ es, n.sp.lo = x.e.key := by
  intro n hn
  obtain ⟨p, hp, rfl⟩ := List.mem_map.1 hn
  obtain ⟨x, hx, e⟩ := firstKey_mem (cuts_ne esz es (esz_250 hg) p hp)
  refine ⟨x, ?_, e⟩
  rw [← cuts_flat esz es (esz_250 hg)]
  exact List.mem_flatten.2 ⟨p, hp, hx⟩
theorem leavesP_in {fs : Fs} {es : List En} (hg : ∀ x ∈ es, x.good fs) : ∀ n ∈ leavesP es, ∀ x ∈ n.ents0, x ∈ es := by
  intro n hn x hx
  rw [← leavesP_ents hg]
  exact List.mem_flatMap.2 ⟨n, hn, hx⟩
theorem stands_good {fs : Fs} {p : Nat} {es : List En} {s : Sp} (h : Stands fs 0 (.leaf p es) s) : ∀ x ∈ es, x.good fs := by
  obtain ⟨g, hg, hk, he, _, _, hok⟩ := h
  intro x hx
  obtain ⟨_, hl⟩ := has_leaf hg hk
  obtain ⟨h1, h2, h3⟩ := hl x.e (by rw [he]; exact List.mem_map.2 ⟨x, hx, rfl⟩)
  refine ⟨h1, h2, ?_⟩
  obtain ⟨sz, ov, o1, o2, o3, o4⟩ := hok x hx
  simp only [valB, Bool.or_eq_true, Bool.and_eq_true, beq_iff_eq, decide_eq_true_eq] at h3
  rcases h3 with ⟨⟨a1, a2⟩, a3⟩ | ⟨⟨⟨a1, a2⟩, a3⟩, a4⟩
  · rcases o4 with ⟨_, hc⟩ | ⟨hp, _⟩
    · exact .inl ⟨a1, hc, a3, by omega⟩
    · omega
  · have : ov ≠ 0 := by
      intro e
      rw [o2, e] at a1
      simp [placeB] at a1
    rcases o4 with ⟨h0, _⟩ | ⟨_, hc⟩
    · exact absurd h0 this
    · exact .inr ⟨by exact isNil_iff.1 a2, a1, sz, ov, o1, o2, by omega, o3, hc⟩
theorem ok0_ents {fs : Fs} {n : NT} (h : Ok0 fs n) : n.ents0 ≠ [] ∧ RiseE n.ents0 ∧ ∀ x ∈ n.ents0, x.good fs := by
  cases n with
  | kept t s =>
    cases t with
    | leaf p es => exact ⟨by obtain ⟨g, _, _, _, hne, _⟩ := h; exact hne, rise_ents (h := 0) h, stands_good h⟩
    | branch => exact h.elim
  | leaf s es => exact ⟨h.1, h.2.2.1, h.2.2.2.2⟩
  | bran => exact h.elim
theorem Lst.rise {fs : Fs} : ∀ {ns : List NT}, Lst fs ns → RiseE (entsL ns)
  | [], _ => .nil
  | n :: ns, h => by
    obtain ⟨h1, h2⟩ := List.pairwise_cons.1 h.sep
    have ih := Lst.rise (ns := ns) ⟨fun m hm => h.ok m (by simp [hm]), fun m hm => h.lo m (by simp [hm]), h2⟩
    rw [entsL, List.flatMap_cons]
    refine rise_append.2 ⟨(ok0_ents (h.ok n (by simp))).2.1, ih, fun x hx y hy => ?_⟩
    obtain ⟨m, hm, hy⟩ := List.mem_flatMap.1 hy
    exact lt_of_lt_of_le (h1 m hm x hx) (h.lo m (by simp [hm]) y hy)
theorem Lst.good {fs : Fs} {ns : List NT} (h : Lst fs ns) : ∀ x ∈ entsL ns, x.good fs := by
  intro x hx
  obtain ⟨m, hm, hx⟩ := List.mem_flatMap.1 hx
  exact (ok0_ents (h.ok m hm)).2.2 x hx
theorem entsL_append (a b : List NT) : entsL (a ++ b) = entsL a ++ entsL b := by simp [entsL]
theorem Lst.tog {fs : Fs} {A B : List NT} {l n : NT} (h : Lst fs (A ++ l :: n :: B)) : Lst fs (A ++ (tog0 l n ++ B)) ∧ entsL (A ++ (tog0 l n ++ B)) = entsL (A ++ l :: n :: B) := by
  obtain ⟨sA, sB, sAB⟩ := List.pairwise_append.1 h.sep
  obtain ⟨sl, sB⟩ := List.pairwise_cons.1 sB
  obtain ⟨sn, sB⟩ := List.pairwise_cons.1 sB
  obtain ⟨l1, l2, l3⟩ := ok0_ents (h.ok l (by simp))
  obtain ⟨n1, n2, n3⟩ := ok0_ents (h.ok n (by simp))
  have hrise : RiseE (l.ents0 ++ n.ents0) := rise_append.2 ⟨l2, n2, fun x hx y hy => lt_of_lt_of_le (sl n (by simp) x hx) (h.lo n (by simp) y hy)⟩
  have hgood : ∀ x ∈ l.ents0 ++ n.ents0, x.good fs := fun x hx => (List.mem_append.1 hx).elim (l3 x) (n3 x)
  have hM := leavesP_lst hrise hgood
  refine ⟨⟨?_, ?_, ?_⟩, ?_⟩
  · intro m hm
    simp only [List.mem_append] at hm
    rcases hm with hm | hm | hm
    · exact h.ok m (by simp [hm])
    · exact hM.ok m hm
    · exact h.ok m (by simp [hm])
  · intro m hm
    simp only [List.mem_append] at hm
    rcases hm with hm | hm | hm
    · exact h.lo m (by simp [hm])
    · exact hM.lo m hm
    · exact h.lo m (by simp [hm])
  · refine List.pairwise_append.2 ⟨sA, List.pairwise_append.2 ⟨hM.sep, sB, fun m hm b hb x hx => ?_⟩, fun a ha m hm x hx => ?_⟩
    · rcases List.mem_append.1 (leavesP_in hgood m hm x hx) with hx | hx
      · exact sl b (by simp [hb]) x hx
      · exact sn b hb x hx
    · rcases List.mem_append.1 hm with hm | hm
      · obtain ⟨y, hy, e⟩ := leavesP_lo hgood m hm
        rw [e]
        rcases List.mem_append.1 hy with hy | hy
        · exact lt_of_lt_of_le (sAB a ha l (by simp) x hx) (h.lo l (by simp) y hy)
        · exact lt_of_lt_of_le (sAB a ha n (by simp) x hx) (h.lo n (by simp) y hy)
      · exact sAB a ha m (by simp [hm]) x hx
  · rw [entsL_append, entsL_append, entsL_append]
    show _ ++ (entsL (leavesP _) ++ _) = _
    rw [leavesP_ents hgood]
    simp [entsL]
theorem joinS_lst {fs : Fs} {acc : List NT} {n : NT} {B : List NT} (h : Lst fs (acc ++ n :: B)) : Lst fs (joinS tog0 acc n ++ B) ∧ entsL (joinS tog0 acc n ++ B) = entsL (acc ++ n :: B) := by
  unfold joinS
  rcases List.eq_nil_or_concat acc with rfl | ⟨A, l, rfl⟩
  · simpa using h
  · simp only [List.concat_eq_append] at h ⊢
    rw [List.getLast?_append]
    simp only [List.getLast?_singleton, Option.some_or]
    split
    · rw [List.dropLast_concat, List.append_assoc]
      have h' : Lst fs (A ++ l :: n :: B) := by simpa using h
      have := h'.tog
      simpa using this
    · simpa using h
theorem join_lst {fs : Fs} : ∀ {ns acc : List NT}, Lst fs (acc ++ ns) → Lst fs (ns.foldl (joinS tog0) acc) ∧ entsL (ns.foldl (joinS tog0) acc) = entsL (acc ++ ns)
  | [], acc, h => by simpa using h
  | n :: ns, acc, h => by
    obtain ⟨h1, h2⟩ := joinS_lst h
    obtain ⟨h3, h4⟩ := join_lst h1
    exact ⟨h3, h4.trans h2⟩
theorem joinP_lst {fs : Fs} {ns : List NT} (h : Lst fs ns) : Lst fs (joinP tog0 ns) ∧ entsL (joinP tog0 ns) = entsL ns := by
  exact join_lst (ns := ns) (acc := []) h
end Go.Proofs.YtngpplmndpmgiaaGreat.Tree
namespace Go.Proofs.YtngpplmndpmgiaaGreat.Tree
open Go.RowKit Go.Proofs.YtngpplmndpmgiaaGreat.Pages
set_option linter.unusedSimpArgs false
set_option linter.unusedVariables false
def nd0 : NT → Nd
  | .kept t s => .mk s t.place [] []
  | .leaf s es => .mk s 0 es []
  | .bran s _ => .mk s 0 [] []
theorem nd0_leaves (es : List En) : (leavesP es).map nd0 = (cuts esz es).map leafNd := by rw [leavesP, List.map_map]; rfl
def Placed (n : NT) : Prop := ∀ t s, n = .kept t s → 0 < t.place
def Or2 (A B : Bl) : Bl := fun k => A k ∨ B k
theorem loose0 (β : Nat) (sv lv : Value) (fs : Fs) (hl : (fs.life == 0) = false) (root : Int) (ca : Option Addr) (cn cc : Nat) (n : NT) (hn : Ok0 fs n) (hp : Placed n) (m : MN) (S : Bl) (w : World) (hf : FileAt w β sv lv fs) (hm : NdOn w S (nd0 n) m) (hS : ∀ b, S b → b < w.heap.size) :
    Calls Tryz.prog 184 #[.agg #[.pointer (some ⟨β, 0, none⟩), .int .i64 root, .slice ca cn cc], .agg #[.string m.lo, .string m.hi, .int .i64 m.place, .slice m.ea m.en m.ec, .slice m.ka m.kn m.kc]] w fun e w' =>
      ∃ lo hi ea ec ka kc, e = .returned (.agg #[.string lo, .string hi, .int .i64 0, .slice ea n.ents0.length ec, .slice ka 0 kc]) ∧ RowOn w' (Or2 S (New w w')) ea (ecells n.ents0) ∧ n.ents0.length ≤ ec ∧ Below w.heap.size w w' := by
  cases n with
  | bran => exact hn.elim
  | leaf s es =>
    obtain ⟨_, _, _, _, _, ms, h1, h2, h3, h4, h5, h6, h7, h8, h9, h10, h11⟩ := hm
    refine (loose_zero β root ca cn cc m (by simp [h3]) w).mono ?_
    rintro e w' ⟨rfl, hb⟩
    refine ⟨m.lo, m.hi, m.ea, m.ec, m.ka, m.kc, ?_, (h8.on (On.of_below hb hS)).mono (fun k hk => .inl hk), h6, hb⟩
    rw [h3, h4, h5]; rfl
  | kept t s =>
    cases t with
    | branch => exact hn.elim
    | leaf p es =>
      obtain ⟨_, _, _, _, _, ms, h1, h2, h3, h4, h5, h6, h7, h8, h9, h10, h11⟩ := hm
      have hp0 : 0 < p := hp _ _ rfl
      have h3' : m.place = p := h3
      have hst : Stands fs 0 (.leaf m.place es) ⟨m.lo, m.hi⟩ := by rw [h3', h1, h2]; exact hn
      refine (loose_leaf β sv lv fs hl root ca cn cc m (by simp [h3']; omega) es w hst hf).mono ?_
      rintro e w' ⟨ea, ec, rfl, hr, hc, hb⟩
      exact ⟨m.lo, m.hi, ea, ec, none, 0, rfl, hr.mono (fun k hk => .inr hk), hc, hb⟩
theorem own_row0 {w : World} {e : TypeId} {z : Nat} {v : Value} {n : Nat} {xs : List Value} (h : w.ownsRow 0 e z v n xs) : ∃ a c, v = .slice a n c ∧ n ≤ c ∧ RowOn w (fun k => v.ownBlock = some k) a xs := by
  obtain ⟨a, c, rfl⟩ := own_shape h
  have h0 := h
  obtain ⟨h1, h2⟩ := h
  rcases h2 with ⟨h3, h4⟩ | ⟨g, cap, cur, h3, hb, hg, hnc, hcm, hcs, htake⟩
  · simp only [Value.slice.injEq] at h3
    refine ⟨a, c, rfl, by omega, .inl ?_⟩
    have : xs.length = 0 := by rw [h1, h4]; simp
    exact List.eq_nil_of_length_eq_zero this
  · simp only [Value.slice.injEq, true_and] at h3
    obtain ⟨rfl, rfl⟩ := h3
    refine ⟨_, c, rfl, hnc, .inr ⟨g, 0, rfl, rfl, fun i u hu => ?_⟩⟩
    obtain ⟨g', e1, _, _, e2⟩ := own_at h0 hu
    simp only [Option.some.injEq, Addr.mk.injEq, and_true] at e1
    subst e1
    simpa using e2
def Past3 (n : Nat) (w : World) : Bl := fun k => k < w.heap.size ∧ (k < n ∨ n + 3 ≤ k)
theorem RowOn.past {w W wn : World} {S : Bl} {a : Option Addr} {vs : List Value} (h : RowOn wn (Or2 S (New W wn)) a vs) (hS : ∀ b, S b → b < w.heap.size) (h1 : w.heap.size + 3 ≤ W.heap.size) (h2 : w.heap.size ≤ wn.heap.size) : RowOn wn (Past3 w.heap.size wn) a vs :=
  h.mono (fun k hk => by
    rcases hk with hk | hk
    · exact ⟨Nat.lt_of_lt_of_le (hS k hk) h2, .inl (hS k hk)⟩
    · exact ⟨hk.2, .inr (Nat.le_trans h1 hk.1)⟩)
theorem RowOn.step {n : Nat} {W wn : World} {a : Option Addr} {vs : List Value} (h : RowOn W (Past3 n W) a vs) (hb : Below W.heap.size W wn) : RowOn wn (Past3 n wn) a vs :=
  (h.on (On.of_below hb (fun k hk => hk.1))).mono (fun k hk => ⟨Nat.lt_of_lt_of_le hk.1 hb.size, hk.2⟩)
theorem cell_other {w : World} {b b' o o' : Nat} {v u : Value} (hne : b' ≠ b) (h : w.cell? ⟨b, o, none⟩ = some u) : (w.setCell ⟨b', o', none⟩ v).cell? ⟨b, o, none⟩ = some u := by
  rw [World.cell?_setCell_other _ _ _ _ (by simp [hne])]; exact h
abbrev set5 (w : World) (b : Nat) (v0 v1 v2 v3 v4 : Value) : World := ((((w.setCell ⟨b, 0, none⟩ v0).setCell ⟨b, 1, none⟩ v1).setCell ⟨b, 2, none⟩ v2).setCell ⟨b, 3, none⟩ v3).setCell ⟨b, 4, none⟩ v4
theorem set5_fr (w : World) (b : Nat) (v0 v1 v2 v3 v4 : Value) : Fr (Bl.one b) w (set5 w b v0 v1 v2 v3 v4) :=
  (((((Fr.refl (Bl.one b) w).setCell (p := ⟨b, 0, none⟩) (.inl rfl) _).setCell (p := ⟨b, 1, none⟩) (.inl rfl) _).setCell (p := ⟨b, 2, none⟩) (.inl rfl) _).setCell (p := ⟨b, 3, none⟩) (.inl rfl) _).setCell (p := ⟨b, 4, none⟩) (.inl rfl) _
theorem set5_box {w : World} {b : Nat} {x0 x1 x2 x3 x4 : Value} {t : TypeId} (h : w.heap[b]? = some (.cells #[x0, x1, x2, x3, x4] t)) (v0 v1 v2 v3 v4 : Value) : (set5 w b v0 v1 v2 v3 v4).heap[b]? = some (.cells #[v0, v1, v2, v3, v4] t) := by
  have := set_of (set_of (set_of (set_of (set_of h 0 v0) 1 v1) 2 v2) 3 v3) 4 v4
  simpa using this
set_option maxRecDepth 100000 in
set_option maxHeartbeats 2000000 in
theorem together0 (β : Nat) (sv lv : Value) (fs : Fs) (hl : (fs.life == 0) = false) (root : Int) (ca : Option Addr) (cn cc : Nat) (a b : NT) (ha : Ok0 fs a) (hb : Ok0 fs b) (hpa : Placed a) (hpb : Placed b) (ma mb : MN) (S : Bl) (w : World) (hf : FileAt w β sv lv fs) (hma : NdOn w S (nd0 a) ma) (hmb : NdOn w S (nd0 b) mb) (hS : ∀ b, S b → b < w.heap.size) (hna : a.ents0.length ≤ 1000) (hnb : b.ents0.length ≤ 1000) :
    Calls Tryz.prog 181 #[.agg #[.pointer (some ⟨β, 0, none⟩), .int .i64 root, .slice ca cn cc], ma.val, mb.val] w fun e w' =>
      ∃ v ms, e = .returned v ∧ w'.ownsRow 0 220 5 v ms.length (ncells ms) ∧ NdsOn w' (New w w') ((tog0 a b).map nd0) ms ∧ Below w.heap.size w w' ∧ ∀ k, v.ownBlock = some k → w.heap.size ≤ k := by
  obtain ⟨W1, hW1⟩ : ∃ W1, ((w.alloc (.cells #[.pointer (some ⟨β, 0, none⟩), .int .i64 root, .slice ca cn cc] 82)).alloc ma.obj).alloc mb.obj = W1 := ⟨_, rfl⟩
  have B1 : Below w.heap.size w W1 := hW1 ▸ (((Below.refl _ _).alloc (Nat.le_refl _) _).alloc (by simp) _).alloc (by simp; omega) _
  have t1 : W1.heap[w.heap.size]? = some (.cells #[.pointer (some ⟨β, 0, none⟩), .int .i64 root, .slice ca cn cc] 82) := hW1 ▸ heap_keep _ (heap_keep _ (heap_new w _))
  have a1 : W1.heap[w.heap.size + 1]? = some ma.obj := by
    rw [← hW1]; refine heap_keep _ ?_; have := heap_new (w.alloc (.cells #[.pointer (some ⟨β, 0, none⟩), .int .i64 root, .slice ca cn cc] 82)) ma.obj; simpa using this
  have b1 : W1.heap[w.heap.size + 1 + 1]? = some mb.obj := by
    rw [← hW1]; have := heap_new ((w.alloc (.cells #[.pointer (some ⟨β, 0, none⟩), .int .i64 root, .slice ca cn cc] 82)).alloc ma.obj) mb.obj; simpa using this
  have z1 : W1.heap.size = w.heap.size + 3 := by rw [← hW1]; simp
  have Z1 : Hid (W1.heap.size = w.heap.size + 3) := z1
  have hLd : ∀ (n : NT) (m : MN), Ok0 fs n → Placed n → NdOn w S (nd0 n) m → ∀ W, Below w.heap.size w W → Calls Tryz.prog 184 #[.agg #[.pointer (some ⟨β, 0, none⟩), .int .i64 root, .slice ca cn cc], .agg #[.string m.lo, .string m.hi, .int .i64 m.place, .slice m.ea m.en m.ec, .slice m.ka m.kn m.kc]] W fun e w' =>
      ∃ lo hi ea ec ka kc, e = .returned (.agg #[.string lo, .string hi, .int .i64 0, .slice ea n.ents0.length ec, .slice ka 0 kc]) ∧ RowOn w' (Or2 S (New W w')) ea (ecells n.ents0) ∧ n.ents0.length ≤ ec ∧ Below W.heap.size W w' := fun n m hn hp hm W hW =>
    loose0 β sv lv fs hl root ca cn cc n hn hp m S W (hf.on (On.of_below hW hf.lies)) (hm.on (On.of_below hW hS)) (fun b h => Nat.lt_of_lt_of_le (hS b h) hW.size)
  have hJw : ∀ W, Below (w.heap.size + 3) W1 W → Below w.heap.size w W := fun W h => B1.trans (h.mono (by omega))
  have hA := fun W h => hLd a ma ha hpa hma W (hJw W h)
  have hB := fun W h => hLd b mb hb hpb hmb W (hJw W h)
  have hgood : ∀ x ∈ a.ents0 ++ b.ents0, x.good fs := fun x hx => (List.mem_append.1 hx).elim ((ok0_ents ha).2.2 x) ((ok0_ents hb).2.2 x)
  have hJ : Below (w.heap.size + 3) W1 W1 := Below.refl _ _
  have hWz : w.heap.size + 3 ≤ W1.heap.size := by omega
  obtain ⟨tc0, tc1, tc2⟩ := box3 t1
  obtain ⟨ac0, ac1, ac2, ac3, ac4⟩ := box5 a1
  obtain ⟨bc0, bc1, bc2, bc3, bc4⟩ := box5 b1
  clear hLd hl z1
  go_enter Tryz.func181, Tryz.ntmps181
  go_wp2
  go_region_held3 (fun W => W.cell? ⟨w.heap.size, 0, none⟩ = some (.pointer (some ⟨β, 0, none⟩)) ∧ W.cell? ⟨w.heap.size, 1, none⟩ = some (.int .i64 root) ∧ W.cell? ⟨w.heap.size, 2, none⟩ = some (.slice ca cn cc))
    ((first | (with_reducible exact ⟨tc0, tc1, tc2⟩) | (refine ⟨?_, ?_, ?_⟩ <;> (repeat (with_reducible refine cell_other (by omega) ?_)) <;> (first | (with_reducible exact tc0) | (with_reducible exact tc1) | (with_reducible exact tc2))) | (simp [tc0, tc1, tc2])))
    (first
    | (go_at_call 184; (with_reducible refine Calls.mono (hA _ ?_) ?_); (first | exact hJ | exact hJ.drew); rintro e wn ⟨alo, ahi, aea, aec, aka, akc, rfl, aR, aC, hbn⟩; have hJ' := hJ; have hJ : Below (w.heap.size + 3) W1 wn := (by first | exact below_step hJ' hWz hbn | exact below_step hJ'.drew hWz hbn); have aR : RowOn wn (Past3 w.heap.size wn) aea (ecells a.ents0) := aR.past hS (by first | exact hWz | exact Nat.le_trans hWz hJ'.size) (hJw _ hJ).size; clear hJ'; obtain ⟨tc0, tc1, tc2⟩ := box3 ((hJ.block w.heap.size (by omega)).trans t1); have ab := (hJ.block (w.heap.size + 1) (by omega)).trans a1; have bb := (hJ.block (w.heap.size + 1 + 1) (by omega)).trans b1; obtain ⟨ac0, ac1, ac2, ac3, ac4⟩ := box5 ab; obtain ⟨bc0, bc1, bc2, bc3, bc4⟩ := box5 bb; have afr := free_of ab; have bfr := free_of bb)
    | (go_at_call 184; (with_reducible refine Calls.mono (hB _ ?_) ?_); (first | exact hJ | exact hJ.drew); rintro e wn ⟨blo, bhi, bea, bec, bka, bkc, rfl, bR, bC, hbn⟩; have hJ' := hJ; have hJ : Below (w.heap.size + 3) W1 wn := (by first | exact below_step hJ' hWz hbn | exact below_step hJ'.drew hWz hbn); have bR : RowOn wn (Past3 w.heap.size wn) bea (ecells b.ents0) := bR.past hS (by first | exact hWz | exact Nat.le_trans hWz hJ'.size) (hJw _ hJ).size; clear hJ'; obtain ⟨tc0, tc1, tc2⟩ := box3 ((hJ.block w.heap.size (by omega)).trans t1); have ab := (hJ.block (w.heap.size + 1) (by omega)).trans a1; have bb := (hJ.block (w.heap.size + 1 + 1) (by omega)).trans b1; obtain ⟨ac0, ac1, ac2, ac3, ac4⟩ := box5 ab; obtain ⟨bc0, bc1, bc2, bc3, bc4⟩ := box5 bb; have afr := free_of ab; have bfr := free_of bb))
  all_goals (first | (have aR2 := RowOn.step aR hbn; have bR2 := bR) | (have bR2 := RowOn.step bR hbn; have aR2 := aR))
  all_goals
    have xa5 := set5_box ab (.string alo) (.string ahi) (.int .i64 0) (.slice aea a.ents0.length aec) (.slice aka 0 akc)
    have fa5 := set5_fr wn (w.heap.size + 1) (.string alo) (.string ahi) (.int .i64 0) (.slice aea a.ents0.length aec) (.slice aka 0 akc)
    obtain ⟨w5, hw5⟩ : ∃ w5, set5 wn (w.heap.size + 1) (.string alo) (.string ahi) (.int .i64 0) (.slice aea a.ents0.length aec) (.slice aka 0 akc) = w5 := ⟨_, rfl⟩
    rw [hw5] at xa5 fa5
    have bb5 := fa5.heap bb (fun e => by simp only [Bl.one] at e; omega)
    have xbS := set5_box bb5 (.string blo) (.string bhi) (.int .i64 0) (.slice bea b.ents0.length bec) (.slice bka 0 bkc)
    have fbS := set5_fr w5 (w.heap.size + 1 + 1) (.string blo) (.string bhi) (.int .i64 0) (.slice bea b.ents0.length bec) (.slice bka 0 bkc)
    obtain ⟨wS, hwS⟩ : ∃ wS, set5 w5 (w.heap.size + 1 + 1) (.string blo) (.string bhi) (.int .i64 0) (.slice bea b.ents0.length bec) (.slice bka 0 bkc) = wS := ⟨_, rfl⟩
    rw [hwS] at xbS fbS
    have xaS := fbS.heap xa5 (fun e => by simp only [Bl.one] at e; omega)
    have FS : Fr (fun k => k = w.heap.size + 1 ∨ k = w.heap.size + 1 + 1) wn wS := (fa5.mono (fun k hk => .inl (.inl hk))).trans (fbS.mono (fun k hk => .inl (.inr hk)))
    have aRS : RowOn wS (Past3 w.heap.size wn) aea (ecells a.ents0) := aR2.on (FS.on (fun k hk => ⟨hk.1, fun e => by have := hk.2; omega⟩))
    have bRS : RowOn wS (Past3 w.heap.size wn) bea (ecells b.ents0) := bR2.on (FS.on (fun k hk => ⟨hk.1, fun e => by have := hk.2; omega⟩))
    have hwn := (hJw _ hJ).size
    have BS : Below w.heap.size w wS := (hJw _ hJ).trans (FS.below (by omega) (fun k hk => by omega))
    have hszS := FS.size
    obtain ⟨sa0, sa1, sa2, sa3, sa4⟩ := box5 xaS
    obtain ⟨sb0, sb1, sb2, sb3, sb4⟩ := box5 xbS
    obtain ⟨wA, hwA⟩ : ∃ wA, wS.alloc (.cells #[.slice aea a.ents0.length aec, .slice bea b.ents0.length bec] 70) = wA := ⟨_, rfl⟩
    have bA : Below wS.heap.size wS wA := hwA ▸ (Below.refl _ _).alloc (Nat.le_refl _) _
    have xA : wA.heap[wS.heap.size]? = some (.cells #[.slice aea a.ents0.length aec, .slice bea b.ents0.length bec] 70) := hwA ▸ heap_new wS _
    have zA := (Array.getElem?_eq_some_iff.1 xA).1
    have hCc := concatE_any [⟨aea, aec, a.ents0⟩, ⟨bea, bec, b.ents0⟩] (some ⟨wS.heap.size, 0, none⟩) 2 (fun k => k < wA.heap.size) wA
      (.inr ⟨wS.heap.size, 0, rfl, zA, fun i u hu => by
        rcases i with _ | _ | i
        · simp [Pc.val] at hu; subst hu; simp [World.cell?, xA]
        · simp [Pc.val] at hu; subst hu; simp [World.cell?, xA]
        · simp at hu⟩)
      (fun q hq => by
        simp only [List.mem_cons, List.not_mem_nil, or_false] at hq
        rcases hq with rfl | rfl
        · exact ⟨aC, (aRS.on (On.of_below bA (fun k hk => by have := hk.1; omega))).mono (fun k hk => by have := hk.1; have := bA.size; omega)⟩
        · exact ⟨bC, (bRS.on (On.of_below bA (fun k hk => by have := hk.1; omega))).mono (fun k hk => by have := hk.1; have := bA.size; omega)⟩)
      (fun k hk => hk) (by simp [lens]; omega) (by simp) (by simp)
    have hlens : lens [(⟨aea, aec, a.ents0⟩ : Pc En), ⟨bea, bec, b.ents0⟩] = (a.ents0 ++ b.ents0).length := by simp [lens]
    have hflat : [(⟨aea, aec, a.ents0⟩ : Pc En), ⟨bea, bec, b.ents0⟩].flatMap (·.l) = a.ents0 ++ b.ents0 := by simp
    rw [hlens, hflat] at hCc
    obtain ⟨ab0, hab0⟩ : ∃ ab0, a.ents0 ++ b.ents0 = ab0 := ⟨_, rfl⟩
    rw [hab0] at hCc
    have HG : Hid (∀ x ∈ ab0, x.good fs) := by rw [← hab0]; exact hgood
    have HLn : Hid (ab0.length ≤ 1000000) := by show _ ≤ _; rw [← hab0, List.length_append]; omega
    have HTG : Hid ((tog0 a b).map nd0 = (cuts esz ab0).map leafNd) := by show _ = _; rw [tog0, nd0_leaves, hab0]
    have hwAf : wA.heap.size = wS.heap.size + 1 := by rw [← hwA]; simp
    have BA : Below w.heap.size w wA := BS.trans (bA.mono (by have := BS.size; omega))
    clear xa5 fa5 bb5 fbS FS aR bR aR2 bR2 ac0 ac1 ac2 ac3 ac4 bc0 bc1 bc2 bc3 bc4 ab bb afr bfr tc0 tc1 tc2 hab0 hlens hflat hwAf
    unfold set5 at hw5 hwS
    rw [hw5, hwS]
    go_wp2_with (first
      | (go_at_call 185; (with_reducible refine Calls.mono hCc ?_); rintro e wC ⟨v, rfl, hown, hbC, hlies⟩; obtain ⟨va, vc, rfl, hvc, hrow⟩ := own_row0 hown; have hNL := newLeaves_any va vc ab0 (fun k => k < wC.heap.size ∧ wA.heap.size ≤ k) wC (hrow.mono (fun k hk => ⟨own_lt hown hk, hlies k hk⟩)) (fun k hk => hk.1) HLn.out hvc (fun x hx => good_fits (HG.out x hx)) (esz_250 HG.out))
      | (go_at_call 156; (with_reducible refine Calls.mono hNL ?_); rintro e wL ⟨vL, qs, rfl, hoL, hql, hqr, hbL, hlL⟩))
    go_ret
    have hsz1 := BA.size
    have hsz2 := hbC.size
    have hsz3 := hbL.size
    refine ⟨_, qs.map leafMN, rfl, by rw [List.length_map]; exact hoL, ?_, (BA.trans (hbC.mono hsz1)).trans (hbL.mono (by omega)), fun k hk => Nat.le_trans (by omega) (hlL k hk)⟩
    rw [HTG.out, ← hql]
    exact (leaves_on hqr).mono (fun k hk => ⟨by have := hk.2; omega, by have := hk.1; omega⟩)
end Go.Proofs.YtngpplmndpmgiaaGreat.Tree
