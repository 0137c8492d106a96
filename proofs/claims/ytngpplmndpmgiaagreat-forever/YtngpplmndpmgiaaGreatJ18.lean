/-
  Joined: PFs, PStore, Meta, Meta2, Meta3.
-/
import Derived.Test.YtngpplmndpmgiaaGreatJ17
import Derived.Test.YtngpplmndpmgiaaGreatJ4
import Derived.Test.YtngpplmndpmgiaaGreatJ16
import Derived.Test.YtngpplmndpmgiaaGreatJ5
import Derived.Test.YtngpplmndpmgiaaGreatJ14
import Derived.Deep.RegionHeld3
namespace Go.Proofs.YtngpplmndpmgiaaGreat.Tree
open Go.RowKit Go.Proofs.YtngpplmndpmgiaaGreat.Pages
set_option linter.unusedSimpArgs false
set_option linter.unusedVariables false
theorem snoc_ind {α : Type} {P : List α → Prop} (h0 : P []) (h1 : ∀ l x, P l → P (l ++ [x])) (l : List α) : P l := by
  have key : ∀ m : List α, P m.reverse := by
    intro m
    induction m with
    | nil => exact h0
    | cons x m ih => rw [List.reverse_cons]; exact h1 _ _ ih
  have := key l.reverse
  rwa [List.reverse_reverse] at this
theorem lastW_snoc (l : List (Nat × ByteArray)) (x : Nat × ByteArray) (p : Nat) : lastW (l ++ [x]) p = if x.1 = p then some x.2 else lastW l p := by
  unfold lastW
  rw [List.reverse_append]
  simp only [List.reverse_singleton, List.singleton_append, List.find?_cons]
  by_cases h : x.1 = p
  · simp [h]
  · have : (x.1 == p) = false := by simpa using h
    rw [this, if_neg h]
theorem laid_at : ∀ (l : List (Nat × ByteArray)) (s : List ByteArray) (p : Nat), (∀ x ∈ l, x.1 < s.length) → (laid s l).getD p ⟨#[]⟩ = (lastW l p).getD (s.getD p ⟨#[]⟩) := by
  intro l
  induction l using snoc_ind with
  | h0 => intro s p _; rfl
  | h1 l x ih =>
    intro s p h
    have e : laid s (l ++ [x]) = (laid s l).set x.1 x.2 := by simp [laid]
    rw [e, lastW_snoc, List.getD_eq_getElem?_getD, List.getElem?_set]
    have hx := h x (by simp)
    by_cases hp : x.1 = p
    · rw [if_pos hp, if_pos hp, if_pos (by rw [laid_length]; omega)]; rfl
    · rw [if_neg hp, if_neg hp, ← List.getD_eq_getElem?_getD]
      exact ih s p (fun y hy => h y (by simp [hy]))
theorem synced_at (fs : Fs) (h : fs.fits) (p : Nat) : fs.synced.at p = fs.at p := laid_at fs.late fs.safe p h
theorem synced_has {fs : Fs} (h : fs.fits) {p : Nat} {g : Pg} : fs.synced.has p g ↔ fs.has p g := by
  unfold Fs.has
  rw [synced_at fs h]
  show p < (laid fs.safe fs.late).length ∧ _ ↔ _
  rw [laid_length]
theorem put_at (fs : Fs) (q : Nat) (d : ByteArray) (p : Nat) : (fs.put q d).at p = if q = p then d else fs.at p := by
  unfold Fs.at Fs.put
  simp only [lastW_snoc]
  split <;> rfl
def Fs.puts (fs : Fs) (l : List (Nat × Pg)) : Fs := { fs with late := fs.late ++ l.map (fun y => (y.1, y.2.encS)) }
theorem puts_nil (fs : Fs) : fs.puts [] = fs := by simp [Fs.puts]
theorem puts_snoc (fs : Fs) (l : List (Nat × Pg)) (y : Nat × Pg) : fs.puts (l ++ [y]) = (fs.puts l).put y.1 y.2.encS := by simp [Fs.puts, Fs.put]
theorem puts_at : ∀ (l : List (Nat × Pg)) (fs : Fs) (p : Nat), (p ∉ l.map (·.1) → (fs.puts l).at p = fs.at p) ∧ ((l.map (·.1)).Nodup → ∀ y ∈ l, y.1 = p → (fs.puts l).at p = y.2.encS) := by
  intro l
  induction l using snoc_ind with
  | h0 => intro fs p; rw [puts_nil]; exact ⟨fun _ => rfl, fun _ y hy => by simp at hy⟩
  | h1 l x ih =>
    intro fs p
    rw [puts_snoc, put_at]
    obtain ⟨i1, i2⟩ := ih fs p
    constructor
    · intro h
      rw [List.map_append, List.mem_append] at h
      rw [if_neg (fun e => h (.inr (by simp [e])))]
      exact i1 (fun h' => h (.inl h'))
    · intro hn y hy hyp
      rw [List.map_append] at hn
      obtain ⟨n1, n2, n3⟩ := List.nodup_append.1 hn
      rcases List.mem_append.1 hy with hy | hy
      · have : x.1 ≠ p := fun e => n3 y.1 (List.mem_map.2 ⟨y, hy, rfl⟩) x.1 (by simp) (by rw [hyp, e])
        rw [if_neg this]
        exact i2 n1 y hy hyp
      · rw [List.mem_singleton] at hy
        subst hy
        rw [if_pos hyp]
theorem puts_has {fs : Fs} {l : List (Nat × Pg)} (hn : (l.map (·.1)).Nodup) (hE : ∀ y ∈ l, y.2.encE = 0) (hv : ∀ y ∈ l, y.2.ver = 0) (hl : ∀ y ∈ l, y.1 < fs.safe.length) : ∀ y ∈ l, (fs.puts l).has y.1 y.2 := by
  intro y hy
  refine ⟨hl y hy, ?_⟩
  rw [(puts_at l fs y.1).2 hn y hy rfl]
  exact enc_isPg y.2 (by rw [hv y hy]; decide) (hE y hy)
theorem puts_keep {fs : Fs} {l : List (Nat × Pg)} {p : Nat} {g : Pg} (hp : p ∉ l.map (·.1)) (h : fs.has p g) : (fs.puts l).has p g := by
  refine ⟨h.1, ?_⟩
  rw [(puts_at l fs p).1 hp]
  exact h.2
theorem put_keep {fs : Fs} {q p : Nat} {d : ByteArray} {g : Pg} (hp : q ≠ p) (h : fs.has p g) : (fs.put q d).has p g := by
  refine ⟨h.1, ?_⟩
  rw [put_at, if_neg hp]
  exact h.2
def Fs.made (fs : Fs) (l : List (Nat × Pg)) (m : Nat) (mt : Pg) : Fs := (((fs.puts l).synced).put m mt.encS).synced
theorem made_laid {fs : Fs} {l : List (Nat × Pg)} {m : Nat} {mt : Pg} {Z : List Nat} (hf : fs.fits) (hn : (l.map (·.1)).Nodup) (hE : ∀ y ∈ l, y.2.encE = 0) (hv : ∀ y ∈ l, y.2.ver = 0) (hl : ∀ y ∈ l, y.1 < fs.safe.length ∧ y.1 ≠ m) (hm : m < fs.safe.length) (hZ : ∀ y ∈ l, y.1 ∈ Z) (hmZ : m ∈ Z) :
    Laid fs (fs.made l m mt) Z l ∧ (fs.made l m mt).at m = mt.encS ∧ (fs.made l m mt).late = [] ∧ (fs.made l m mt).safe.length = fs.safe.length ∧ ∀ p, p ∉ Z → (fs.made l m mt).at p = fs.at p := by
  have f1 : (fs.puts l).fits := by
    intro x hx
    simp only [Fs.puts, List.mem_append, List.mem_map] at hx
    rcases hx with hx | ⟨y, hy, rfl⟩
    · exact hf x hx
    · exact (hl y hy).1
  have e1 : (fs.puts l).synced.safe.length = fs.safe.length := laid_length _ _
  have f2 : (((fs.puts l).synced).put m mt.encS).fits := by
    intro x hx
    simp only [Fs.put, Fs.synced, List.nil_append, List.mem_singleton] at hx
    subst hx
    show m < (laid _ _).length
    rw [laid_length]; exact hm
  refine ⟨⟨fun y hy => ?_, fun p g hp h => ?_⟩, ?_, rfl, ?_, fun p hp => ?_⟩
  · exact (synced_has f2).2 (put_keep (hl y hy).2.symm ((synced_has f1).2 (puts_has hn hE hv (fun y hy => (hl y hy).1) y hy)))
  · have h1 : p ∉ l.map (·.1) := fun hm => by
      obtain ⟨y, hy, rfl⟩ := List.mem_map.1 hm
      exact hp (hZ y hy)
    exact (synced_has f2).2 (put_keep (fun e : m = p => hp (e ▸ hmZ)) ((synced_has f1).2 (puts_keep h1 h)))
  · show (Fs.synced _).at m = _
    rw [synced_at _ f2, put_at, if_pos rfl]
  · show (laid _ _).length = _
    rw [laid_length]; exact e1
  · show (Fs.synced _).at p = _
    have h1 : p ∉ l.map (·.1) := fun hm => by
      obtain ⟨y, hy, rfl⟩ := List.mem_map.1 hm
      exact hp (hZ y hy)
    rw [synced_at _ f2, put_at, if_neg (fun e : m = p => hp (e ▸ hmZ)), synced_at _ f1, (puts_at l fs p).1 h1]
end Go.Proofs.YtngpplmndpmgiaaGreat.Tree
namespace Go.Proofs.YtngpplmndpmgiaaGreat.Tree
open Go.RowKit Go.Proofs.YtngpplmndpmgiaaGreat.Pages
set_option linter.unusedSimpArgs false
set_option linter.unusedVariables false
theorem stays_o {fs fs' : Fs} {root : Nat} {o : Option (Nat × T)} (hro : Rooted fs root o) (hf : Flat2 o) (hk : ∀ p ∈ opages o, ∀ g, fs.has p g → fs'.has p g) : Rooted fs' root o := by
  rcases flat_cases hro hf with rfl | ⟨p, es, rfl, hs⟩ | ⟨p, ks, kids, rfl, hs⟩
  · exact hro
  · exact ⟨hro.1, hro.2.1, stays0 hs hk⟩
  · refine ⟨hro.1, hro.2.1, ?_⟩
    obtain ⟨g, a1, a2, a3, a4, a5, a6, a7⟩ := hs
    refine ⟨g, hk p (by simp [opages, T.pages]) g a1, a2, a3, a4, a5, a6, fun x hx => ?_⟩
    have hm : x.1 ∈ kids := by
      have : x.1 ∈ (parts ⟨⟨#[]⟩, ⟨#[]⟩⟩ ks kids).map (·.1) := List.mem_map.2 ⟨x, hx, rfl⟩
      rwa [parts_fst] at this
    refine stays0 (a7 x hx) (fun q hq => hk q ?_)
    simp only [opages, T.pages, List.mem_cons, List.mem_flatMap]
    exact .inr ⟨_, hm, hq⟩
structure Tr (K : List ByteArray) (fs : Fs) (o : Option (Nat × T)) : Prop where
  rooted : Rooted fs (rootOf o) o
  flat : Flat2 o
  keys : OTIn K o
  root : rootOf o = 0 ∨ placeB (rootOf o : Nat) = true
theorem Tr.stays {K : List ByteArray} {fs fs' : Fs} {o : Option (Nat × T)} (h : Tr K fs o) (hk : ∀ p ∈ opages o, ∀ g, fs.has p g → fs'.has p g) : Tr K fs' o := ⟨stays_o h.rooted h.flat hk, h.flat, h.keys, h.root⟩
def MetaAt (fs : Fs) (p ver root : Nat) : Prop := (fs.at p = zerosB 256 ∧ ver = 0 ∧ root = 0) ∨ IsPg (fs.at p) (metaPg ver root)
structure Store (K : List ByteArray) (n : Nat) (fs : Fs) (v : Nat) (o ao : Option (Nat × T)) : Prop where
  late : fs.late = []
  len : fs.safe.length = n
  meta0 : MetaAt fs (v % 2) v (rootOf o)
  meta1 : ∃ v', MetaAt fs ((v + 1) % 2) v' (rootOf ao) ∧ (v' < v ∨ (v = 0 ∧ v' = 0))
  sure : Tr K fs o
  ahead : Tr K fs ao
theorem layV_ver : ∀ (k : Nat) (v : ByteArray) (fr : List Nat), ∀ y ∈ layV k v fr, y.2.ver = 0
  | 0, _, _, y, hy => by simp [layV] at hy
  | k + 1, v, fr, y, hy => by
    by_cases h : v.size = 0
    · rw [layV_zero _ _ _ h] at hy; simp at hy
    · rw [layV_succ _ _ _ h] at hy
      rcases List.mem_cons.1 hy with rfl | hy
      · rfl
      · exact layV_ver k _ fr y hy
theorem layEs_ver : ∀ (es : List En) (fr : List Nat), ∀ y ∈ (layEs es fr).2, y.2.ver = 0
  | [], _, y, hy => by simp [layEs] at hy
  | x :: es, fr, y, hy => by
    simp only [layEs, List.mem_append, List.mem_reverse] at hy
    rcases hy with hy | hy
    · unfold newCh at hy
      split at hy
      · exact layV_ver 2 _ fr y hy
      · simp at hy
    · exact layEs_ver es _ y hy
theorem layN_ver (n : NT) (fr : List Nat) : ∀ y ∈ (layN n fr).2, y.2.ver = 0 := by
  cases n with
  | kept => simp [layN]
  | bran => simp [layN]
  | leaf s es =>
    intro y hy
    simp only [layN, List.mem_append, List.mem_singleton] at hy
    rcases hy with hy | rfl
    · exact layEs_ver es fr y hy
    · rfl
theorem layNs_ver : ∀ (ns : List NT) (fr : List Nat), ∀ y ∈ (layNs ns fr).2, y.2.ver = 0
  | [], _, y, hy => by simp [layNs] at hy
  | n :: ns, fr, y, hy => by
    simp only [layNs, List.mem_append] at hy
    rcases hy with hy | hy
    · exact layN_ver n fr y hy
    · exact layNs_ver ns _ y hy
theorem layTop_ver (N : List NT) (fr : List Nat) : ∀ y ∈ (layTop N fr).2, y.2.ver = 0 := by
  unfold layTop
  split
  · simp
  · exact layN_ver _ fr
  · intro y hy
    simp only [layB, List.mem_append, List.mem_singleton] at hy
    rcases hy with hy | rfl
    · exact layNs_ver _ fr y hy
    · rfl
def planP (o : Option (Nat × T)) (cs : List Ch) (fr : List Nat) : Option (Nat × T) × List (Nat × Pg) := layTop (level0 o cs) fr
structure Plan (K : List ByteArray) (n : Nat) (fs : Fs) (o : Option (Nat × T)) (cs : List Ch) (fr : List Nat) : Prop where
  tree : Tr K fs o
  rise : Rise cs
  good : ∀ c ∈ cs, c.good
  keys : ∀ c ∈ cs, c.key ∈ K
  k24 : ∀ k ∈ K, k.size ≤ 24
  ksum : 3 + tot (fun k : ByteArray => k.size + 3) K ≤ 250
  free : ∀ p ∈ fr, 2 ≤ p ∧ p < n
  small : n ≤ 4096
  len : fs.safe.length = n
  nodup : fr.Nodup
  away : ∀ p ∈ opages o, p ∉ fr
  room : 1 + 3 * K.length ≤ fr.length
theorem Plan.place {K : List ByteArray} {n : Nat} {fs : Fs} {o : Option (Nat × T)} {cs : List Ch} {fr : List Nat} (h : Plan K n fs o cs fr) : ∀ p ∈ fr, placeB (p : Nat) = true := fun p hp => by
  have := h.free p hp
  have := h.small
  simp only [placeB, Bool.and_eq_true, decide_eq_true_eq]; omega
theorem Plan.enough {K : List ByteArray} {n : Nat} {fs : Fs} {o : Option (Nat × T)} {cs : List Ch} {fr : List Nat} (h : Plan K n fs o cs fr) : (planP o cs fr).2.length ≤ 1 + 3 * K.length := by
  obtain ⟨h1, _⟩ := level0_lst h.tree.rooted h.tree.flat h.rise h.good
  have h2 := level0_loIn h.tree.rooted h.tree.flat h.rise h.good h.keys h.tree.keys
  have h3 := layTop_count (level0 o cs) fr
  have h4 := h1.many h2
  have h5 := h1.count
  unfold planP; omega
theorem commit_store {K : List ByteArray} {n : Nat} {fs : Fs} {v : Nat} {o ao : Option (Nat × T)} {cs : List Ch} {fr : List Nat} (S : Store K n fs v o ao) (P : Plan K n fs o cs fr) (hv : v + 1 < 9223372036854775808) (hn : 2 ≤ n) :
    Store K n (fs.made (planP o cs fr).2 ((v + 1) % 2) (metaPg (v + 1 : Nat) (rootOf (planP o cs fr).1))) (v + 1) (planP o cs fr).1 o ∧
    (∀ y ∈ (planP o cs fr).2, y.2.encE = 0) ∧ (planP o cs fr).2.map (·.1) = fr.take (planP o cs fr).2.length ∧
    (oents (planP o cs fr).1).map En.kv = (overE (oents o) cs).map En.kv ∧
    ∀ o', Tr K fs o' → (∀ p ∈ opages o', p ∉ fr) → Tr K (fs.made (planP o cs fr).2 ((v + 1) % 2) (metaPg (v + 1 : Nat) (rootOf (planP o cs fr).1))) o' := by
  obtain ⟨h1, h1'⟩ := level0_lst P.tree.rooted P.tree.flat P.rise P.good
  have h2 := level0_loIn P.tree.rooted P.tree.flat P.rise P.good P.keys P.tree.keys
  obtain ⟨h3, h4⟩ := level0_from P.tree.rooted P.tree.flat P.rise P.good
  have hen := P.enough
  unfold planP at hen ⊢
  have hl : (layTop (level0 o cs) fr).2.length ≤ fr.length := Nat.le_trans hen P.room
  have hp := P.place
  have hge := opages_ge P.tree.rooted P.tree.flat P.tree.root
  have hm : (v + 1) % 2 < 2 := Nat.mod_lt _ (by decide)
  have hZ : ∀ (o' : Option (Nat × T)), Tr K fs o' → (∀ p ∈ opages o', p ∉ fr) → ∀ p ∈ opages o', p ∉ (v + 1) % 2 :: fr := fun o' t a p hpp hz => by
    have hge := opages_ge t.rooted t.flat t.root p hpp
    rcases List.mem_cons.1 hz with h | h
    · omega
    · exact a p hpp h
  obtain ⟨k1, k2, k3, k4⟩ := layTop_ok h1 h2 P.k24 P.ksum h4 fr hl hp ((v + 1) % 2 :: fr) (fun m hm p hpp => hZ o P.tree P.away p ((h3 m hm).1 p hpp))
  have hpl := layTop_places (level0 o cs) fr hl
  have hmem : ∀ y ∈ (layTop (level0 o cs) fr).2, y.1 ∈ fr := take_mem hpl
  have hfits : fs.fits := fun x hx => by rw [S.late] at hx; simp at hx
  obtain ⟨L, m1, m2, m3, m4⟩ := made_laid (fs := fs) (l := (layTop (level0 o cs) fr).2) (m := (v + 1) % 2) (mt := metaPg (v + 1 : Nat) (rootOf (layTop (level0 o cs) fr).1)) (Z := (v + 1) % 2 :: fr) hfits
    (by rw [hpl]; exact P.nodup.sublist (List.take_sublist _ _)) k1 (layTop_ver _ _) (fun y hy => by have := P.free _ (hmem y hy); rw [P.len]; omega) (by rw [P.len]; omega) (fun y hy => List.mem_cons_of_mem _ (hmem y hy)) (by simp)
  obtain ⟨r1, r2⟩ := k4 _ L
  have hstay : ∀ o', Tr K fs o' → (∀ p ∈ opages o', p ∉ fr) → Tr K (fs.made (layTop (level0 o cs) fr).2 ((v + 1) % 2) (metaPg (v + 1 : Nat) (rootOf (layTop (level0 o cs) fr).1))) o' := fun o' t a => t.stays (fun p hp g hg => L.keep p g (hZ o' t a p hp) hg)
  refine ⟨⟨m2, m3.trans P.len, ?_, ⟨v, ?_, .inl (by omega)⟩, ⟨r1, k2, k3, r2⟩, hstay o P.tree P.away⟩, k1, hpl, ?_, hstay⟩
  · refine .inr ?_
    show IsPg (Fs.at _ _) _
    rw [m1]
    have hE := enc_meta (v + 1 : Nat) (rootOf (layTop (level0 o cs) fr).1) (by omega) (r2.imp (fun h => by rw [h]; rfl) id)
    exact enc_isPg _ (by show ((v + 1 : Nat) : Int) < _; omega) hE
  · have hv2 : (v + 1 + 1) % 2 = v % 2 := by omega
    rw [hv2]
    have hnz : v % 2 ∉ (v + 1) % 2 :: fr := by
      intro hz
      rcases List.mem_cons.1 hz with h | h
      · omega
      · have := P.free _ h; omega
    unfold MetaAt
    rw [m4 _ hnz]
    exact S.meta0
  · rw [← h1']
    exact layTop_kv h1.ok fr hl hp
end Go.Proofs.YtngpplmndpmgiaaGreat.Tree
namespace Go.Proofs.YtngpplmndpmgiaaGreat.Tree
open Go.RowKit Go.Proofs.YtngpplmndpmgiaaGreat.Pages
set_option linter.unusedSimpArgs false
set_option linter.unusedVariables false
theorem zeros_kind : (readP (zerosB 256).data.toList).kind = 0 := by
  have h0 : ((zerosB 256).data.toList).getD 0 0 = 0 := by
    show ((List.replicate 256 (0 : UInt8)).toArray.toList).getD 0 0 = 0
    rfl
  unfold readP
  rw [h0]
  rfl
theorem meta_ne {s : ByteArray} {v r : Int} (h : IsPg s (metaPg v r)) : s ≠ zerosB 256 := by
  rintro rfl
  have := congrArg Pg.kind h.2.2.2
  rw [zeros_kind] at this
  simp [metaPg] at this
abbrev metaV (p : Int) (ver root : Int) (ka ia ea : Option Addr) (kc ic ec : Nat) : Array Value := #[.int .i64 p, .bool true, .int .i64 1, .int .i64 ver, .int .i64 root, .int .i64 0, .slice ka 0 kc, .slice ia 0 ic, .slice ea 0 ec, .string ⟨#[]⟩]
abbrev metaO (ver root : Nat) (ka ia ea : Option Addr) (kc ic ec : Nat) : Obj := .cells #[.int .i64 1, .int .i64 ver, .int .i64 root, .int .i64 0, .slice ka 0 kc, .slice ia 0 ic, .slice ea 0 ec, .string ⟨#[]⟩] 72
abbrev meta0 : Obj := .cells #[.int .i64 0, .bool false, .int .i64 0, .int .i64 0, .int .i64 0, .int .i64 0, .slice none 0 0, .slice none 0 0, .slice none 0 0, .string ⟨#[]⟩] 108
theorem set_same {w : World} {b i : Nat} {cs : Array Value} {t : TypeId} {v : Value} (h : w.heap[b]? = some (.cells cs t)) (hv : cs[i]? = some v) : w.setCell ⟨b, i, none⟩ v = w := by
  obtain ⟨hb, he⟩ := Array.getElem?_eq_some_iff.1 h
  have hc : cs.setIfInBounds i v = cs := by
    apply Array.ext_getElem?
    intro j
    rw [Array.getElem?_setIfInBounds]
    split
    · next e => subst e; rw [hv]; split <;> simp_all
    · rfl
  have : (w.setCell ⟨b, i, none⟩ v).heap = w.heap := by
    apply Array.ext_getElem?
    intro k
    by_cases hk : b = k
    · subst hk; rw [set_of h, hc, h]
    · simp only [World.setCell]; rw [Array.getElem?_modify, if_neg hk]
  cases w
  simp only [World.setCell] at this ⊢
  simp only [this]
theorem box10 {w : World} {β : Nat} {a0 a1 a2 a3 a4 a5 a6 a7 a8 a9 : Value} {t : TypeId} (h : w.heap[β]? = some (.cells #[a0, a1, a2, a3, a4, a5, a6, a7, a8, a9] t)) :
    w.cell? ⟨β, 0, none⟩ = some a0 ∧ w.cell? ⟨β, 1, none⟩ = some a1 ∧ w.cell? ⟨β, 2, none⟩ = some a2 ∧ w.cell? ⟨β, 3, none⟩ = some a3 ∧ w.cell? ⟨β, 4, none⟩ = some a4 ∧ w.cell? ⟨β, 5, none⟩ = some a5 ∧ w.cell? ⟨β, 6, none⟩ = some a6 ∧ w.cell? ⟨β, 7, none⟩ = some a7 ∧ w.cell? ⟨β, 8, none⟩ = some a8 ∧ w.cell? ⟨β, 9, none⟩ = some a9 := by
  simp [World.cell?, h]
abbrev set10 (w : World) (b : Nat) (v0 v1 v2 v3 v4 v5 v6 v7 v8 v9 : Value) : World := (((((((((w.setCell ⟨b, 0, none⟩ v0).setCell ⟨b, 1, none⟩ v1).setCell ⟨b, 2, none⟩ v2).setCell ⟨b, 3, none⟩ v3).setCell ⟨b, 4, none⟩ v4).setCell ⟨b, 5, none⟩ v5).setCell ⟨b, 6, none⟩ v6).setCell ⟨b, 7, none⟩ v7).setCell ⟨b, 8, none⟩ v8).setCell ⟨b, 9, none⟩ v9
theorem set10_fr (w : World) (b : Nat) (v0 v1 v2 v3 v4 v5 v6 v7 v8 v9 : Value) : Fr (Bl.one b) w (set10 w b v0 v1 v2 v3 v4 v5 v6 v7 v8 v9) :=
  ((((((((((Fr.refl (Bl.one b) w).setCell (p := ⟨b, 0, none⟩) (.inl rfl) _).setCell (p := ⟨b, 1, none⟩) (.inl rfl) _).setCell (p := ⟨b, 2, none⟩) (.inl rfl) _).setCell (p := ⟨b, 3, none⟩) (.inl rfl) _).setCell (p := ⟨b, 4, none⟩) (.inl rfl) _).setCell (p := ⟨b, 5, none⟩) (.inl rfl) _).setCell (p := ⟨b, 6, none⟩) (.inl rfl) _).setCell (p := ⟨b, 7, none⟩) (.inl rfl) _).setCell (p := ⟨b, 8, none⟩) (.inl rfl) _).setCell (p := ⟨b, 9, none⟩) (.inl rfl) _
theorem set10_box {w : World} {b : Nat} {x0 x1 x2 x3 x4 x5 x6 x7 x8 x9 : Value} {t : TypeId} (h : w.heap[b]? = some (.cells #[x0, x1, x2, x3, x4, x5, x6, x7, x8, x9] t)) (v0 v1 v2 v3 v4 v5 v6 v7 v8 v9 : Value) : (set10 w b v0 v1 v2 v3 v4 v5 v6 v7 v8 v9).heap[b]? = some (.cells #[v0, v1, v2, v3, v4, v5, v6, v7, v8, v9] t) := by
  have := set_of (set_of (set_of (set_of (set_of (set_of (set_of (set_of (set_of (set_of h 0 v0) 1 v1) 2 v2) 3 v3) 4 v4) 5 v5) 6 v6) 7 v7) 8 v8) 9 v9
  simpa using this
set_option maxRecDepth 100000 in
set_option maxHeartbeats 4000000 in
theorem metaAt_any (β : Nat) (sv lv : Value) (fs : Fs) (hl : (fs.life == 0) = false) (p ver root : Nat) (w : World) (hf : FileAt w β sv lv fs) (hp : p < fs.safe.length) (hm : MetaAt fs p ver root) :
    Calls Tryz.prog 74 #[.pointer (some ⟨β, 0, none⟩), .int .i64 p] w fun e w' => ∃ ka ia ea kc ic ec, e = .returned (.agg (metaV p ver root ka ia ea kc ic ec)) ∧ Below w.heap.size w w' := by
  obtain ⟨W1, hW1⟩ : ∃ W1, w.alloc meta0 = W1 := ⟨_, rfl⟩
  have b1 : Below w.heap.size w W1 := hW1 ▸ (Below.refl _ _).alloc (Nat.le_refl _) _
  have x1 : W1.heap[w.heap.size]? = some meta0 := hW1 ▸ heap_new w _
  have hf1 := hf.on (On.of_below b1 hf.lies)
  have hRd := read_any β sv lv fs p W1 hf1
  have hrs : fs.readS p = fs.at p := by unfold Fs.readS; simp [hp, hl]
  have hrb : (decide (p < fs.safe.length) && !(fs.life == 0)) = true := by simp [hp, hl]
  rw [hrs, hrb] at hRd
  clear hrs hrb
  obtain ⟨i0, hi, hz0, hz1, hz2⟩ := info_parts info8
  obtain ⟨w1, hmk, hown, hg⟩ := run_makeSlice_full (P := Tryz.prog) W1 0 115 5 i0 (.int .u8 0) 1 Tryz.underlying115 hi hz0 hz1 .i64 .i64 256 (by omega) (by rw [hz2]; omega) (by unfold maxLen; omega) (Nat.zero_le _)
  rw [made_zeros] at hown
  have hbf : Buf w1 0 (.slice (some ⟨W1.heap.size, 0, none⟩) 256 256) (List.replicate 256 0) := by
    unfold Buf; rw [List.length_replicate]; exact hown
  have hcv := Buf.string hbf
  have HB : Below W1.heap.size W1 w1 := ⟨hg.os, hg.tape, hg.output, hg.size, fun k hk => hg.block k hk (by simp)⟩
  have hmk' : (Instr.makeSlice 115 (.int .i64 256) (.int .i64 256)).run Tryz.prog W1 = .ok (.slice (some ⟨W1.heap.size, 0, none⟩) 256 256) w1 := hmk
  obtain ⟨z, hz'⟩ : ∃ z, zerosB 256 = z := ⟨_, rfl⟩
  have hcv' : (convert 115 9 (.slice (some ⟨W1.heap.size, 0, none⟩) 256 256)).run Tryz.prog w1 = .ok (.string z) w1 := by rw [← hz']; exact hcv
  have x2 := (HB.block _ (Array.getElem?_eq_some_iff.1 x1).1).trans x1
  obtain ⟨c0, c1, c2, c3, c4, c5, c6, c7, c8, c9⟩ := box10 x2
  have cfr := free_of x2
  have B2 : Below w.heap.size w w1 := b1.trans (HB.mono b1.size)
  clear hbf hown hg hcv hmk hi hz0 hz1 hz2
  rcases hm with ⟨hz, rfl, rfl⟩ | hm
  · rw [hz, hz'] at hRd
    clear hz hz'
    have xF := set10_box x2 (.int .i64 p) (.bool true) (.int .i64 1) (.int .i64 0) (.int .i64 0) (.int .i64 0) (.slice none 0 0) (.slice none 0 0) (.slice none 0 0) (.string ⟨#[]⟩)
    have fF := set10_fr w1 w.heap.size (.int .i64 p) (.bool true) (.int .i64 1) (.int .i64 0) (.int .i64 0) (.int .i64 0) (.slice none 0 0) (.slice none 0 0) (.slice none 0 0) (.string ⟨#[]⟩)
    have HXF : Hid _ := xF
    have HFF : Hid _ := fF
    clear xF fF
    go_enter Tryz.func74, Tryz.ntmps74
    go_wp2_with (go_at_call 103; (with_reducible refine Calls.mono hRd ?_); rintro e w2 ⟨rfl, hw2⟩; subst w2)
    refine bodyPost_ret (v := .agg (metaV p 0 0 none none none 0 0 0)) ?_ rfl ⟨none, none, none, 0, 0, 0, rfl, B2.trans (HFF.out.below (by have := B2.size; omega) (fun k hk => by simp only [Bl.one] at hk; omega))⟩
    exact results_cell_row (p := 4) rfl _ _ w.heap.size _ _ _ _ rfl HXF.out Tryz.underlying108 rfl (by kernel_rfl)
  · have hne : ((fs.at p).toList == z.toList) = false := by rw [← hz']; exact list_ne (meta_ne hm)
    obtain ⟨s, hsd⟩ : ∃ s, fs.at p = s := ⟨_, rfl⟩
    rw [hsd] at hRd hm hne
    clear hz' hsd
    have hDec := decode_ok hm w1
    simp only [metaPg, List.length_nil, Int.ofNat_zero] at hDec
    have lw := (Array.getElem?_eq_some_iff.1 x2).1
    go_enter Tryz.func74, Tryz.ntmps74
    go_wp2_with (first
      | (go_at_call 103; (with_reducible refine Calls.mono hRd ?_); rintro e w2 ⟨rfl, hw2⟩; subst w2)
      | (go_at_call 104; (with_reducible refine Calls.mono hDec ?_); rintro e W2 ⟨ka, ia, ea, kc, ic, ec, rfl, q1, q2, q3, qq, hb2⟩; clear q1 q2 q3 qq hRd hDec; obtain ⟨W3, hW3⟩ : ∃ W3, W2.alloc (.cells #[.int .i64 1, .int .i64 ver, .int .i64 root, .int .i64 0, .slice ka 0 kc, .slice ia 0 ic, .slice ea 0 ec, .string ⟨#[]⟩] 72) = W3 := ⟨_, rfl⟩; have x3 : W3.heap[W2.heap.size]? = some (metaO ver root ka ia ea kc ic ec) := hW3 ▸ heap_new W2 _; obtain ⟨m0, m1, m2, m3, m4, m5, m6, m7⟩ := box8 x3; have mfr := free_of x3; have m8 : W3.setCell ⟨W2.heap.size, 7, none⟩ (.string ⟨#[]⟩) = W3 := set_same x3 rfl; have b3 : Below w1.heap.size w1 W3 := hb2.trans (hW3 ▸ (Below.refl _ _).alloc hb2.size _); have r3 := (b3.block _ lw).trans x2; clear c0 c1 c2 c3 c4 c5 c6 c7 c8 c9 cfr; obtain ⟨c0, c1, c2, c3, c4, c5, c6, c7, c8, c9⟩ := box10 r3; have nfr := free_of r3; have HB3 : Hid _ := b3; have HR3 : Hid _ := r3; clear b3 r3 x3))
    have xF := set10_box HR3.out (.int .i64 p) (.bool true) (.int .i64 1) (.int .i64 ver) (.int .i64 root) (.int .i64 0) (.slice ka 0 kc) (.slice ia 0 ic) (.slice ea 0 ec) (.string ⟨#[]⟩)
    have fF := set10_fr W3 w.heap.size (.int .i64 p) (.bool true) (.int .i64 1) (.int .i64 ver) (.int .i64 root) (.int .i64 0) (.slice ka 0 kc) (.slice ia 0 ic) (.slice ea 0 ec) (.string ⟨#[]⟩)
    have b3 := B2.trans (HB3.out.mono (by omega))
    refine bodyPost_ret (v := .agg (metaV p ver root ka ia ea kc ic ec)) ?_ rfl ⟨ka, ia, ea, kc, ic, ec, rfl, b3.trans (fF.below (by have := b3.size; omega) (fun k hk => by simp only [Bl.one] at hk; omega))⟩
    exact results_cell_row (p := 4) rfl _ _ w.heap.size _ _ _ _ rfl xF Tryz.underlying108 rfl (by kernel_rfl)
end Go.Proofs.YtngpplmndpmgiaaGreat.Tree
namespace Go.Proofs.YtngpplmndpmgiaaGreat.Tree
open Go.RowKit Go.Proofs.YtngpplmndpmgiaaGreat.Pages
set_option linter.unusedSimpArgs false
set_option linter.unusedVariables false
structure MV where
  p : Nat
  ver : Nat
  root : Nat
  ka : Option Addr
  ia : Option Addr
  ea : Option Addr
  kc : Nat
  ic : Nat
  ec : Nat
abbrev MV.cells (m : MV) : Array Value := #[.int .i64 m.p, .bool true, .int .i64 1, .int .i64 m.ver, .int .i64 m.root, .int .i64 0, .slice m.ka 0 m.kc, .slice m.ia 0 m.ic, .slice m.ea 0 m.ec, .string ⟨#[]⟩]
abbrev MV.obj (m : MV) : Obj := .cells m.cells 108
set_option maxRecDepth 100000 in
set_option maxHeartbeats 1000000 in
theorem older_any (m m' : MV) (w : World) :
    Calls Tryz.prog 75 #[.agg m.cells, .agg m'.cells] w fun e w' => e = .returned (.bool (decide (m.ver < m'.ver))) ∧ Below w.heap.size w w' := by
  obtain ⟨W1, hW1⟩ : ∃ W1, (w.alloc m.obj).alloc m'.obj = W1 := ⟨_, rfl⟩
  have B1 : Below w.heap.size w W1 := hW1 ▸ ((Below.refl _ _).alloc (Nat.le_refl _) _).alloc (by simp) _
  have t1 : W1.heap[w.heap.size]? = some m.obj := hW1 ▸ heap_keep _ (heap_new w _)
  have r1 : W1.heap[w.heap.size + 1]? = some m'.obj := by
    rw [← hW1]; have := heap_new (w.alloc m.obj) m'.obj; simpa using this
  obtain ⟨c0, c1, c2, c3, c4, c5, c6, c7, c8, c9⟩ := box10 t1
  obtain ⟨d0, d1, d2, d3, d4, d5, d6, d7, d8, d9⟩ := box10 r1
  go_enter Tryz.func75, Tryz.ntmps75
  go_wp2
  refine bodyPost_ret (v := .bool (decide (m.ver < m'.ver))) ?_ rfl ⟨rfl, B1⟩
  simp [results, Tryz.results75, go_sem]
theorem older_lt (m m' : MV) (h : m.ver < m'.ver) (w : World) :
    Calls Tryz.prog 75 #[.agg m.cells, .agg m'.cells] w fun e w' => e = .returned (.bool true) ∧ Below w.heap.size w w' := by
  have := older_any m m' w
  rwa [decide_eq_true h] at this
theorem older_ge (m m' : MV) (h : ¬ m.ver < m'.ver) (w : World) :
    Calls Tryz.prog 75 #[.agg m.cells, .agg m'.cells] w fun e w' => e = .returned (.bool false) ∧ Below w.heap.size w w' := by
  have := older_any m m' w
  rwa [decide_eq_false h] at this
set_option maxRecDepth 100000 in
set_option maxHeartbeats 1000000 in
theorem placeOf_any (m : MV) (w : World) :
    Calls Tryz.prog 129 #[.agg #[.int .i64 1, .int .i64 m.ver, .int .i64 m.root, .int .i64 0, .slice m.ka 0 m.kc, .slice m.ia 0 m.ic, .slice m.ea 0 m.ec, .string ⟨#[]⟩]] w fun e w' => e = .returned (.int .i64 ((m.ver % 2 : Nat) : Int)) ∧ Below w.heap.size w w' := by
  obtain ⟨W1, hW1⟩ : ∃ W1, w.alloc (.cells #[.int .i64 1, .int .i64 m.ver, .int .i64 m.root, .int .i64 0, .slice m.ka 0 m.kc, .slice m.ia 0 m.ic, .slice m.ea 0 m.ec, .string ⟨#[]⟩] 72) = W1 := ⟨_, rfl⟩
  have B1 : Below w.heap.size w W1 := hW1 ▸ (Below.refl _ _).alloc (Nat.le_refl _) _
  have t1 : W1.heap[w.heap.size]? = some (.cells #[.int .i64 1, .int .i64 m.ver, .int .i64 m.root, .int .i64 0, .slice m.ka 0 m.kc, .slice m.ia 0 m.ic, .slice m.ea 0 m.ec, .string ⟨#[]⟩] 72) := hW1 ▸ heap_new w _
  obtain ⟨c0, c1, c2, c3, c4, c5, c6, c7⟩ := box8 t1
  go_enter Tryz.func129, Tryz.ntmps129
  go_wp2
  refine bodyPost_ret (v := .int .i64 ((m.ver : Int) % 2)) ?_ rfl ⟨by simp, B1⟩
  simp [results, Tryz.results129, go_sem]
theorem results_rows2 {P : Program} {fn : Func} {p q : Tmp} {ty : TypeId} (h : fn.results = #[.cell p ty, .cell q ty]) (tmps : Array Value) (w : World) (g g' : Nat) (t : TypeId) (cs cs' : Array Value) (fr : Nat × Nat) (d : TypeDesc)
    (hp : tmps.getD p undef = .pointer (some ⟨g, 0, none⟩)) (hq : tmps.getD q undef = .pointer (some ⟨g', 0, none⟩)) (hg : w.heap[g]? = some (.cells cs t fr)) (hg' : w.heap[g']? = some (.cells cs' t fr))
    (hu : P.underlying ty = some d) (hd : (match d with | .struct _ | .array _ _ => true | _ => false) = true) (hi : (P.info? ty).map (·.size) = some cs.size) (hi' : (P.info? ty).map (·.size) = some cs'.size) :
    (results fn tmps).run P w = .ok (.tuple #[.agg cs, .agg cs']) w := by
  have hp' : tmps[p]?.getD undef = .pointer (some ⟨g, 0, none⟩) := by simpa using hp
  have hq' : tmps[q]?.getD undef = .pointer (some ⟨g', 0, none⟩) := by simpa using hq
  simp [results, h, hp', hq', asAddr, run_loadVar_row w g t ty cs fr d hg hu hd hi, run_loadVar_row w g' t ty cs' fr d hg' hu hd hi']
theorem c10 {w : World} {b k i : Nat} {v0 v1 v2 v3 v4 v5 v6 v7 v8 v9 x : Value} (hk : b ≠ k) (h : w.cell? ⟨k, i, none⟩ = some x) : (set10 w b v0 v1 v2 v3 v4 v5 v6 v7 v8 v9).cell? ⟨k, i, none⟩ = some x :=
  cell_other hk (cell_other hk (cell_other hk (cell_other hk (cell_other hk (cell_other hk (cell_other hk (cell_other hk (cell_other hk (cell_other hk h)))))))))
theorem cell_drew (w : World) (a : Addr) : w.drew.cell? a = w.cell? a := rfl
theorem c10d {w : World} {b k i : Nat} {v0 v1 v2 v3 v4 v5 v6 v7 v8 v9 x : Value} (hk : b ≠ k) (h : w.cell? ⟨k, i, none⟩ = some x) : (set10 w b v0 v1 v2 v3 v4 v5 v6 v7 v8 v9).drew.cell? ⟨k, i, none⟩ = some x := by
  rw [cell_drew]; exact c10 hk h
theorem heap_drew (w : World) : w.drew.heap = w.heap := rfl
abbrev MV.put (m : MV) (w : World) (b : Nat) : World := set10 w b (.int .i64 m.p) (.bool true) (.int .i64 1) (.int .i64 m.ver) (.int .i64 m.root) (.int .i64 0) (.slice m.ka 0 m.kc) (.slice m.ia 0 m.ic) (.slice m.ea 0 m.ec) (.string ⟨#[]⟩)
theorem MV.put_box (m : MV) {w : World} {b : Nat} {x0 x1 x2 x3 x4 x5 x6 x7 x8 x9 : Value} {t : TypeId} (h : w.heap[b]? = some (.cells #[x0, x1, x2, x3, x4, x5, x6, x7, x8, x9] t)) : (m.put w b).heap[b]? = some (.cells m.cells t) := set10_box h _ _ _ _ _ _ _ _ _ _
theorem MV.put_fr (m : MV) (w : World) (b : Nat) : Fr (Bl.one b) w (m.put w b) := set10_fr w b _ _ _ _ _ _ _ _ _ _
set_option maxRecDepth 100000 in
set_option maxHeartbeats 4000000 in
theorem readMetas_any (β : Nat) (sv lv : Value) (fs : Fs) (hl : (fs.life == 0) = false) (v0 r0 v1 r1 : Nat) (w : World) (hf : FileAt w β sv lv fs) (hp : 1 < fs.safe.length) (hm0 : MetaAt fs 0 v0 r0) (hm1 : MetaAt fs 1 v1 r1) :
    Calls Tryz.prog 51 #[.pointer (some ⟨β, 0, none⟩)] w fun e w' => ∃ m m' : MV, e = .returned (.tuple #[.agg m.cells, .agg m'.cells]) ∧ Below w.heap.size w w' ∧ ((v0 < v1 ∧ m.p = 1 ∧ m.ver = v1 ∧ m.root = r1 ∧ m'.p = 0 ∧ m'.ver = v0 ∧ m'.root = r0) ∨ (¬ v0 < v1 ∧ m.p = 0 ∧ m.ver = v0 ∧ m.root = r0 ∧ m'.p = 1 ∧ m'.ver = v1 ∧ m'.root = r1)) := by
  obtain ⟨W1, hW1⟩ : ∃ W1, (w.alloc meta0).alloc meta0 = W1 := ⟨_, rfl⟩
  have B1 : Below w.heap.size w W1 := hW1 ▸ ((Below.refl _ _).alloc (Nat.le_refl _) _).alloc (by simp) _
  have t1 : W1.heap[w.heap.size]? = some meta0 := hW1 ▸ heap_keep _ (heap_new w _)
  have r1' : W1.heap[w.heap.size + 1]? = some meta0 := by
    rw [← hW1]; have := heap_new (w.alloc meta0) meta0; simpa using this
  have HA : Hid (∀ X, Below w.heap.size w X → Calls Tryz.prog 74 #[.pointer (some ⟨β, 0, none⟩), .int .i64 0] X fun e w' => ∃ m : MV, e = .returned (.agg m.cells) ∧ (m.p = 0 ∧ m.ver = v0 ∧ m.root = r0) ∧ Below X.heap.size X w') := fun X hX => (metaAt_any β sv lv fs hl 0 v0 r0 X (hf.on (On.of_below hX hf.lies)) (by omega) hm0).mono fun e w' ⟨ka, ia, ea, kc, ic, ec, he, hb⟩ => ⟨⟨0, v0, r0, ka, ia, ea, kc, ic, ec⟩, he, ⟨rfl, rfl, rfl⟩, hb⟩
  have HB : Hid (∀ X, Below w.heap.size w X → Calls Tryz.prog 74 #[.pointer (some ⟨β, 0, none⟩), .int .i64 1] X fun e w' => ∃ m : MV, e = .returned (.agg m.cells) ∧ (m.p = 1 ∧ m.ver = v1 ∧ m.root = r1) ∧ Below X.heap.size X w') := fun X hX => (metaAt_any β sv lv fs hl 1 v1 r1 X (hf.on (On.of_below hX hf.lies)) hp hm1).mono fun e w' ⟨ka, ia, ea, kc, ic, ec, he, hb⟩ => ⟨⟨1, v1, r1, ka, ia, ea, kc, ic, ec⟩, he, ⟨rfl, rfl, rfl⟩, hb⟩
  by_cases hv : v0 < v1
  · have hA1 := HA.out W1 B1
    have HV : Hid _ := hv
    clear hv
    go_enter Tryz.func51, Tryz.ntmps51
    go_wp2_with (first
      | (go_at_call 74; (with_reducible refine Calls.mono hA1 ?_); rintro e X1 ⟨a, rfl, ha, hX1⟩; have BX1 := B1.trans (hX1.mono B1.size); have hB1 := HB.out X1 BX1; have HAa : Hid _ := ha; clear ha)
      | (go_at_call 74; (with_reducible refine Calls.mono hB1 ?_); rintro e X2 ⟨b, rfl, hb, hX2⟩; have HBb : Hid _ := hb; clear hb; have hO := older_lt a b (by rw [HAa.out.2.1, HBb.out.2.1]; exact HV.out) ((X2.alloc a.obj).alloc b.obj))
      | (go_at_call 75; (with_reducible refine Calls.mono hO ?_); rintro e X3 ⟨rfl, hX3⟩; have BX2 := BX1.trans (hX2.mono BX1.size); have BY : Below w.heap.size w X3 := (((BX2.alloc BX2.size a.obj).alloc (by have := BX2.size; simp; omega) b.obj).trans (hX3.mono (by have := BX2.size; simp; omega))); have FX : Below W1.heap.size W1 X3 := ((((hX1.trans (hX2.mono hX1.size)).alloc (by have := hX1.size; have := hX2.size; omega) a.obj).alloc (by have := hX1.size; have := hX2.size; simp; omega) b.obj).trans (hX3.mono (by have := hX1.size; have := hX2.size; simp; omega))); have e1 := (hX3.block X2.heap.size (by simp; omega)).trans (heap_keep b.obj (heap_new X2 a.obj)); have e2 : X3.heap[X2.heap.size + 1]? = some b.obj := (by have h0 := heap_new (X2.alloc a.obj) b.obj; have h1 : (X2.alloc a.obj).heap.size = X2.heap.size + 1 := (by simp); rw [h1] at h0; exact (hX3.block _ (by simp)).trans h0); have e3 := (FX.block _ (Array.getElem?_eq_some_iff.1 t1).1).trans t1; have e4 := (FX.block _ (Array.getElem?_eq_some_iff.1 r1').1).trans r1'; obtain ⟨x0, x1, x2, x3, x4, x5, x6, x7, x8, x9⟩ := box10 e1; obtain ⟨y0, y1, y2, y3, y4, y5, y6, y7, y8, y9⟩ := box10 e2; obtain ⟨z0, z1, z2, z3, z4, z5, z6, z7, z8, z9⟩ := box10 e3; obtain ⟨u0, u1, u2, u3, u4, u5, u6, u7, u8, u9⟩ := box10 e4; have zfr := free_of e3; have ufr := free_of e4; have lt3 := BX2.size; have lt4 : w.heap.size + 1 < X2.heap.size := (by have h1 := (Array.getElem?_eq_some_iff.1 r1').1; have h2 := hX1.size; have h3 := hX2.size; omega)))
    clear hA1 hB1 hO hW1
    have HE1 : Hid ((a.put (b.put X3 w.heap.size) (w.heap.size + 1)).drew.heap[w.heap.size]? = some b.obj) := by
      show _ = _
      rw [heap_drew]
      exact (a.put_fr _ _).heap (b.put_box e3) (fun e => by simp only [Bl.one] at e; omega)
    have HE2 : Hid ((a.put (b.put X3 w.heap.size) (w.heap.size + 1)).drew.heap[w.heap.size + 1]? = some a.obj) := by
      show _ = _
      rw [heap_drew]
      exact a.put_box ((b.put_fr _ _).heap e4 (fun e => by simp only [Bl.one] at e; omega))
    have HBL : Hid (Below w.heap.size w (a.put (b.put X3 w.heap.size) (w.heap.size + 1)).drew) :=
      Below.drew ((BY.trans ((b.put_fr X3 w.heap.size).below (by have := BY.size; omega) (fun k hk => by simp only [Bl.one] at hk; omega))).trans ((a.put_fr _ _).below (by have := BY.size; have := (b.put_fr X3 w.heap.size).size; omega) (fun k hk => by simp only [Bl.one] at hk; omega)))
    go_region_held3 (fun X => X.cell? ⟨X2.heap.size, 0, none⟩ = some (.int .i64 a.p) ∧ X.cell? ⟨X2.heap.size, 1, none⟩ = some (.bool true) ∧ X.cell? ⟨X2.heap.size, 2, none⟩ = some (.int .i64 1) ∧ X.cell? ⟨X2.heap.size, 3, none⟩ = some (.int .i64 a.ver) ∧ X.cell? ⟨X2.heap.size, 4, none⟩ = some (.int .i64 a.root) ∧ X.cell? ⟨X2.heap.size, 5, none⟩ = some (.int .i64 0) ∧ X.cell? ⟨X2.heap.size, 6, none⟩ = some (.slice a.ka 0 a.kc) ∧ X.cell? ⟨X2.heap.size, 7, none⟩ = some (.slice a.ia 0 a.ic) ∧ X.cell? ⟨X2.heap.size, 8, none⟩ = some (.slice a.ea 0 a.ec) ∧ X.cell? ⟨X2.heap.size, 9, none⟩ = some (.string ⟨#[]⟩) ∧ X.cell? ⟨X2.heap.size + 1, 0, none⟩ = some (.int .i64 b.p) ∧ X.cell? ⟨X2.heap.size + 1, 1, none⟩ = some (.bool true) ∧ X.cell? ⟨X2.heap.size + 1, 2, none⟩ = some (.int .i64 1) ∧ X.cell? ⟨X2.heap.size + 1, 3, none⟩ = some (.int .i64 b.ver) ∧ X.cell? ⟨X2.heap.size + 1, 4, none⟩ = some (.int .i64 b.root) ∧ X.cell? ⟨X2.heap.size + 1, 5, none⟩ = some (.int .i64 0) ∧ X.cell? ⟨X2.heap.size + 1, 6, none⟩ = some (.slice b.ka 0 b.kc) ∧ X.cell? ⟨X2.heap.size + 1, 7, none⟩ = some (.slice b.ia 0 b.ic) ∧ X.cell? ⟨X2.heap.size + 1, 8, none⟩ = some (.slice b.ea 0 b.ec) ∧ X.cell? ⟨X2.heap.size + 1, 9, none⟩ = some (.string ⟨#[]⟩))
      ((first | (with_reducible exact ⟨x0, x1, x2, x3, x4, x5, x6, x7, x8, x9, y0, y1, y2, y3, y4, y5, y6, y7, y8, y9⟩) | (with_reducible exact ⟨c10d (by omega) x0, c10d (by omega) x1, c10d (by omega) x2, c10d (by omega) x3, c10d (by omega) x4, c10d (by omega) x5, c10d (by omega) x6, c10d (by omega) x7, c10d (by omega) x8, c10d (by omega) x9, c10d (by omega) y0, c10d (by omega) y1, c10d (by omega) y2, c10d (by omega) y3, c10d (by omega) y4, c10d (by omega) y5, c10d (by omega) y6, c10d (by omega) y7, c10d (by omega) y8, c10d (by omega) y9⟩) | (with_reducible exact ⟨c10 (by omega) x0, c10 (by omega) x1, c10 (by omega) x2, c10 (by omega) x3, c10 (by omega) x4, c10 (by omega) x5, c10 (by omega) x6, c10 (by omega) x7, c10 (by omega) x8, c10 (by omega) x9, c10 (by omega) y0, c10 (by omega) y1, c10 (by omega) y2, c10 (by omega) y3, c10 (by omega) y4, c10 (by omega) y5, c10 (by omega) y6, c10 (by omega) y7, c10 (by omega) y8, c10 (by omega) y9⟩) | (with_reducible exact ⟨c10d (by omega) (c10 (by omega) x0), c10d (by omega) (c10 (by omega) x1), c10d (by omega) (c10 (by omega) x2), c10d (by omega) (c10 (by omega) x3), c10d (by omega) (c10 (by omega) x4), c10d (by omega) (c10 (by omega) x5), c10d (by omega) (c10 (by omega) x6), c10d (by omega) (c10 (by omega) x7), c10d (by omega) (c10 (by omega) x8), c10d (by omega) (c10 (by omega) x9), c10d (by omega) (c10 (by omega) y0), c10d (by omega) (c10 (by omega) y1), c10d (by omega) (c10 (by omega) y2), c10d (by omega) (c10 (by omega) y3), c10d (by omega) (c10 (by omega) y4), c10d (by omega) (c10 (by omega) y5), c10d (by omega) (c10 (by omega) y6), c10d (by omega) (c10 (by omega) y7), c10d (by omega) (c10 (by omega) y8), c10d (by omega) (c10 (by omega) y9)⟩) | (with_reducible exact ⟨c10d (by omega) (c10d (by omega) x0), c10d (by omega) (c10d (by omega) x1), c10d (by omega) (c10d (by omega) x2), c10d (by omega) (c10d (by omega) x3), c10d (by omega) (c10d (by omega) x4), c10d (by omega) (c10d (by omega) x5), c10d (by omega) (c10d (by omega) x6), c10d (by omega) (c10d (by omega) x7), c10d (by omega) (c10d (by omega) x8), c10d (by omega) (c10d (by omega) x9), c10d (by omega) (c10d (by omega) y0), c10d (by omega) (c10d (by omega) y1), c10d (by omega) (c10d (by omega) y2), c10d (by omega) (c10d (by omega) y3), c10d (by omega) (c10d (by omega) y4), c10d (by omega) (c10d (by omega) y5), c10d (by omega) (c10d (by omega) y6), c10d (by omega) (c10d (by omega) y7), c10d (by omega) (c10d (by omega) y8), c10d (by omega) (c10d (by omega) y9)⟩) | (with_reducible exact ⟨c10 (by omega) (c10d (by omega) x0), c10 (by omega) (c10d (by omega) x1), c10 (by omega) (c10d (by omega) x2), c10 (by omega) (c10d (by omega) x3), c10 (by omega) (c10d (by omega) x4), c10 (by omega) (c10d (by omega) x5), c10 (by omega) (c10d (by omega) x6), c10 (by omega) (c10d (by omega) x7), c10 (by omega) (c10d (by omega) x8), c10 (by omega) (c10d (by omega) x9), c10 (by omega) (c10d (by omega) y0), c10 (by omega) (c10d (by omega) y1), c10 (by omega) (c10d (by omega) y2), c10 (by omega) (c10d (by omega) y3), c10 (by omega) (c10d (by omega) y4), c10 (by omega) (c10d (by omega) y5), c10 (by omega) (c10d (by omega) y6), c10 (by omega) (c10d (by omega) y7), c10 (by omega) (c10d (by omega) y8), c10 (by omega) (c10d (by omega) y9)⟩) | (simp [x0, x1, x2, x3, x4, x5, x6, x7, x8, x9, y0, y1, y2, y3, y4, y5, y6, y7, y8, y9])))
      (fail)
    all_goals go_wp2
    all_goals
      refine bodyPost_ret (v := .tuple #[.agg b.cells, .agg a.cells]) ?_ rfl ⟨b, a, rfl, HBL.out, (.inl ⟨HV.out, HBb.out.1, HBb.out.2.1, HBb.out.2.2, HAa.out.1, HAa.out.2.1, HAa.out.2.2⟩)⟩
      exact results_rows2 (p := 2) (q := 3) rfl _ _ w.heap.size (w.heap.size + 1) _ _ _ _ _ rfl rfl HE1.out HE2.out Tryz.underlying108 rfl (by kernel_rfl) (by kernel_rfl)
  · have hA1 := HA.out W1 B1
    have HV : Hid _ := hv
    clear hv
    go_enter Tryz.func51, Tryz.ntmps51
    go_wp2_with (first
      | (go_at_call 74; (with_reducible refine Calls.mono hA1 ?_); rintro e X1 ⟨a, rfl, ha, hX1⟩; have BX1 := B1.trans (hX1.mono B1.size); have hB1 := HB.out X1 BX1; have HAa : Hid _ := ha; clear ha)
      | (go_at_call 74; (with_reducible refine Calls.mono hB1 ?_); rintro e X2 ⟨b, rfl, hb, hX2⟩; have HBb : Hid _ := hb; clear hb; have hO := older_ge a b (by rw [HAa.out.2.1, HBb.out.2.1]; exact HV.out) ((X2.alloc a.obj).alloc b.obj))
      | (go_at_call 75; (with_reducible refine Calls.mono hO ?_); rintro e X3 ⟨rfl, hX3⟩; have BX2 := BX1.trans (hX2.mono BX1.size); have BY : Below w.heap.size w X3 := (((BX2.alloc BX2.size a.obj).alloc (by have := BX2.size; simp; omega) b.obj).trans (hX3.mono (by have := BX2.size; simp; omega))); have FX : Below W1.heap.size W1 X3 := ((((hX1.trans (hX2.mono hX1.size)).alloc (by have := hX1.size; have := hX2.size; omega) a.obj).alloc (by have := hX1.size; have := hX2.size; simp; omega) b.obj).trans (hX3.mono (by have := hX1.size; have := hX2.size; simp; omega))); have e1 := (hX3.block X2.heap.size (by simp; omega)).trans (heap_keep b.obj (heap_new X2 a.obj)); have e2 : X3.heap[X2.heap.size + 1]? = some b.obj := (by have h0 := heap_new (X2.alloc a.obj) b.obj; have h1 : (X2.alloc a.obj).heap.size = X2.heap.size + 1 := (by simp); rw [h1] at h0; exact (hX3.block _ (by simp)).trans h0); have e3 := (FX.block _ (Array.getElem?_eq_some_iff.1 t1).1).trans t1; have e4 := (FX.block _ (Array.getElem?_eq_some_iff.1 r1').1).trans r1'; obtain ⟨x0, x1, x2, x3, x4, x5, x6, x7, x8, x9⟩ := box10 e1; obtain ⟨y0, y1, y2, y3, y4, y5, y6, y7, y8, y9⟩ := box10 e2; obtain ⟨z0, z1, z2, z3, z4, z5, z6, z7, z8, z9⟩ := box10 e3; obtain ⟨u0, u1, u2, u3, u4, u5, u6, u7, u8, u9⟩ := box10 e4; have zfr := free_of e3; have ufr := free_of e4; have lt3 := BX2.size; have lt4 : w.heap.size + 1 < X2.heap.size := (by have h1 := (Array.getElem?_eq_some_iff.1 r1').1; have h2 := hX1.size; have h3 := hX2.size; omega)))
    clear hA1 hB1 hO hW1
    have HE1 : Hid ((b.put (a.put X3 w.heap.size) (w.heap.size + 1)).drew.heap[w.heap.size]? = some a.obj) := by
      show _ = _
      rw [heap_drew]
      exact (b.put_fr _ _).heap (a.put_box e3) (fun e => by simp only [Bl.one] at e; omega)
    have HE2 : Hid ((b.put (a.put X3 w.heap.size) (w.heap.size + 1)).drew.heap[w.heap.size + 1]? = some b.obj) := by
      show _ = _
      rw [heap_drew]
      exact b.put_box ((a.put_fr _ _).heap e4 (fun e => by simp only [Bl.one] at e; omega))
    have HBL : Hid (Below w.heap.size w (b.put (a.put X3 w.heap.size) (w.heap.size + 1)).drew) :=
      Below.drew ((BY.trans ((a.put_fr X3 w.heap.size).below (by have := BY.size; omega) (fun k hk => by simp only [Bl.one] at hk; omega))).trans ((b.put_fr _ _).below (by have := BY.size; have := (a.put_fr X3 w.heap.size).size; omega) (fun k hk => by simp only [Bl.one] at hk; omega)))
    go_region_held3 (fun X => X.cell? ⟨X2.heap.size, 0, none⟩ = some (.int .i64 a.p) ∧ X.cell? ⟨X2.heap.size, 1, none⟩ = some (.bool true) ∧ X.cell? ⟨X2.heap.size, 2, none⟩ = some (.int .i64 1) ∧ X.cell? ⟨X2.heap.size, 3, none⟩ = some (.int .i64 a.ver) ∧ X.cell? ⟨X2.heap.size, 4, none⟩ = some (.int .i64 a.root) ∧ X.cell? ⟨X2.heap.size, 5, none⟩ = some (.int .i64 0) ∧ X.cell? ⟨X2.heap.size, 6, none⟩ = some (.slice a.ka 0 a.kc) ∧ X.cell? ⟨X2.heap.size, 7, none⟩ = some (.slice a.ia 0 a.ic) ∧ X.cell? ⟨X2.heap.size, 8, none⟩ = some (.slice a.ea 0 a.ec) ∧ X.cell? ⟨X2.heap.size, 9, none⟩ = some (.string ⟨#[]⟩) ∧ X.cell? ⟨X2.heap.size + 1, 0, none⟩ = some (.int .i64 b.p) ∧ X.cell? ⟨X2.heap.size + 1, 1, none⟩ = some (.bool true) ∧ X.cell? ⟨X2.heap.size + 1, 2, none⟩ = some (.int .i64 1) ∧ X.cell? ⟨X2.heap.size + 1, 3, none⟩ = some (.int .i64 b.ver) ∧ X.cell? ⟨X2.heap.size + 1, 4, none⟩ = some (.int .i64 b.root) ∧ X.cell? ⟨X2.heap.size + 1, 5, none⟩ = some (.int .i64 0) ∧ X.cell? ⟨X2.heap.size + 1, 6, none⟩ = some (.slice b.ka 0 b.kc) ∧ X.cell? ⟨X2.heap.size + 1, 7, none⟩ = some (.slice b.ia 0 b.ic) ∧ X.cell? ⟨X2.heap.size + 1, 8, none⟩ = some (.slice b.ea 0 b.ec) ∧ X.cell? ⟨X2.heap.size + 1, 9, none⟩ = some (.string ⟨#[]⟩))
      ((first | (with_reducible exact ⟨x0, x1, x2, x3, x4, x5, x6, x7, x8, x9, y0, y1, y2, y3, y4, y5, y6, y7, y8, y9⟩) | (with_reducible exact ⟨c10d (by omega) x0, c10d (by omega) x1, c10d (by omega) x2, c10d (by omega) x3, c10d (by omega) x4, c10d (by omega) x5, c10d (by omega) x6, c10d (by omega) x7, c10d (by omega) x8, c10d (by omega) x9, c10d (by omega) y0, c10d (by omega) y1, c10d (by omega) y2, c10d (by omega) y3, c10d (by omega) y4, c10d (by omega) y5, c10d (by omega) y6, c10d (by omega) y7, c10d (by omega) y8, c10d (by omega) y9⟩) | (with_reducible exact ⟨c10 (by omega) x0, c10 (by omega) x1, c10 (by omega) x2, c10 (by omega) x3, c10 (by omega) x4, c10 (by omega) x5, c10 (by omega) x6, c10 (by omega) x7, c10 (by omega) x8, c10 (by omega) x9, c10 (by omega) y0, c10 (by omega) y1, c10 (by omega) y2, c10 (by omega) y3, c10 (by omega) y4, c10 (by omega) y5, c10 (by omega) y6, c10 (by omega) y7, c10 (by omega) y8, c10 (by omega) y9⟩) | (with_reducible exact ⟨c10d (by omega) (c10 (by omega) x0), c10d (by omega) (c10 (by omega) x1), c10d (by omega) (c10 (by omega) x2), c10d (by omega) (c10 (by omega) x3), c10d (by omega) (c10 (by omega) x4), c10d (by omega) (c10 (by omega) x5), c10d (by omega) (c10 (by omega) x6), c10d (by omega) (c10 (by omega) x7), c10d (by omega) (c10 (by omega) x8), c10d (by omega) (c10 (by omega) x9), c10d (by omega) (c10 (by omega) y0), c10d (by omega) (c10 (by omega) y1), c10d (by omega) (c10 (by omega) y2), c10d (by omega) (c10 (by omega) y3), c10d (by omega) (c10 (by omega) y4), c10d (by omega) (c10 (by omega) y5), c10d (by omega) (c10 (by omega) y6), c10d (by omega) (c10 (by omega) y7), c10d (by omega) (c10 (by omega) y8), c10d (by omega) (c10 (by omega) y9)⟩) | (with_reducible exact ⟨c10d (by omega) (c10d (by omega) x0), c10d (by omega) (c10d (by omega) x1), c10d (by omega) (c10d (by omega) x2), c10d (by omega) (c10d (by omega) x3), c10d (by omega) (c10d (by omega) x4), c10d (by omega) (c10d (by omega) x5), c10d (by omega) (c10d (by omega) x6), c10d (by omega) (c10d (by omega) x7), c10d (by omega) (c10d (by omega) x8), c10d (by omega) (c10d (by omega) x9), c10d (by omega) (c10d (by omega) y0), c10d (by omega) (c10d (by omega) y1), c10d (by omega) (c10d (by omega) y2), c10d (by omega) (c10d (by omega) y3), c10d (by omega) (c10d (by omega) y4), c10d (by omega) (c10d (by omega) y5), c10d (by omega) (c10d (by omega) y6), c10d (by omega) (c10d (by omega) y7), c10d (by omega) (c10d (by omega) y8), c10d (by omega) (c10d (by omega) y9)⟩) | (with_reducible exact ⟨c10 (by omega) (c10d (by omega) x0), c10 (by omega) (c10d (by omega) x1), c10 (by omega) (c10d (by omega) x2), c10 (by omega) (c10d (by omega) x3), c10 (by omega) (c10d (by omega) x4), c10 (by omega) (c10d (by omega) x5), c10 (by omega) (c10d (by omega) x6), c10 (by omega) (c10d (by omega) x7), c10 (by omega) (c10d (by omega) x8), c10 (by omega) (c10d (by omega) x9), c10 (by omega) (c10d (by omega) y0), c10 (by omega) (c10d (by omega) y1), c10 (by omega) (c10d (by omega) y2), c10 (by omega) (c10d (by omega) y3), c10 (by omega) (c10d (by omega) y4), c10 (by omega) (c10d (by omega) y5), c10 (by omega) (c10d (by omega) y6), c10 (by omega) (c10d (by omega) y7), c10 (by omega) (c10d (by omega) y8), c10 (by omega) (c10d (by omega) y9)⟩) | (simp [x0, x1, x2, x3, x4, x5, x6, x7, x8, x9, y0, y1, y2, y3, y4, y5, y6, y7, y8, y9])))
      (fail)
    all_goals go_wp2
    all_goals
      refine bodyPost_ret (v := .tuple #[.agg a.cells, .agg b.cells]) ?_ rfl ⟨a, b, rfl, HBL.out, (.inr ⟨HV.out, HAa.out.1, HAa.out.2.1, HAa.out.2.2, HBb.out.1, HBb.out.2.1, HBb.out.2.2⟩)⟩
      exact results_rows2 (p := 2) (q := 3) rfl _ _ w.heap.size (w.heap.size + 1) _ _ _ _ _ rfl rfl HE1.out HE2.out Tryz.underlying108 rfl (by kernel_rfl) (by kernel_rfl)
end Go.Proofs.YtngpplmndpmgiaaGreat.Tree
namespace Go.Proofs.YtngpplmndpmgiaaGreat.Tree
open Go.RowKit Go.Proofs.YtngpplmndpmgiaaGreat.Pages
set_option linter.unusedSimpArgs false
set_option linter.unusedVariables false
set_option maxRecDepth 100000 in
set_option maxHeartbeats 4000000 in
theorem checkMeta_any (D : Db) (st : Int) (ver : Nat) (w : World) (h : DbAt w st D) (hv : D.ver = ver) (hl : (D.fs.life == 0) = false) (hp : 1 < D.fs.safe.length) (hm : MetaAt D.fs (ver % 2) ver D.root) :
    Calls Tryz.prog 126 #[.pointer (some ⟨D.d, 0, none⟩)] w fun e w' => e = .returned (.tuple #[]) ∧ Below w.heap.size w w' := by
  have hbox : w.heap[D.d]? = some (.cells #[.int .i32 st, .int .u32 0, .pointer (some ⟨D.β, 0, none⟩), .int .i64 1, .int .i64 ver, .int .i64 D.root, .int .i64 0, .slice D.ka 0 D.kc, .slice D.ia 0 D.ic, .slice D.ea 0 D.ec, .string ⟨#[]⟩, .int .i64 D.aroot, .bool D.failed, .int .i64 D.last, D.ov] 75) := by
    have := h.box
    rw [dbO, dbC, hv] at this
    exact this
  obtain ⟨c0, c1, c2, c3, c4, c5, c6, c7, c8, c9, c10, c11, c12, c13, c14⟩ := box15 hbox
  have hmod : (((ver % 2 : Nat)) : Int) = (ver : Int) % 2 := by simp
  have HM0 : Hid (∀ X, Below w.heap.size w X → Calls Tryz.prog 74 #[.pointer (some ⟨D.β, 0, none⟩), .int .i64 ((ver % 2 : Nat) : Int)] X fun e w' => ∃ m : MV, e = .returned (.agg #[.int .i64 m.p, .bool true, .int .i64 1, .int .i64 m.ver, .int .i64 m.root, .int .i64 0, .slice m.ka 0 m.kc, .slice m.ia 0 m.ic, .slice m.ea 0 m.ec, .string ⟨#[]⟩]) ∧ Below X.heap.size X w') := fun X hX => (metaAt_any D.β D.sv D.lv D.fs hl (ver % 2) ver D.root X (h.file.on (On.of_below hX h.file.lies)) (by omega) hm).mono fun e w' ⟨ka, ia, ea, kc, ic, ec, he, hb⟩ => ⟨⟨ver % 2, ver, D.root, ka, ia, ea, kc, ic, ec⟩, he, hb⟩
  have HM : Hid (∀ X, Below w.heap.size w X → Calls Tryz.prog 74 #[.pointer (some ⟨D.β, 0, none⟩), .int .i64 ((ver : Int) % 2)] X fun e w' => ∃ m : MV, e = .returned (.agg #[.int .i64 m.p, .bool true, .int .i64 1, .int .i64 m.ver, .int .i64 m.root, .int .i64 0, .slice m.ka 0 m.kc, .slice m.ia 0 m.ic, .slice m.ea 0 m.ec, .string ⟨#[]⟩]) ∧ Below X.heap.size X w') := by
    have := HM0.out
    rw [hmod] at this
    exact this
  have HBX : Hid (∀ X, Below w.heap.size w X → X.heap[D.d]? = some (.cells #[.int .i32 st, .int .u32 0, .pointer (some ⟨D.β, 0, none⟩), .int .i64 1, .int .i64 ver, .int .i64 D.root, .int .i64 0, .slice D.ka 0 D.kc, .slice D.ia 0 D.ic, .slice D.ea 0 D.ec, .string ⟨#[]⟩, .int .i64 D.aroot, .bool D.failed, .int .i64 D.last, D.ov] 75)) := fun X hX => (hX.block _ (Array.getElem?_eq_some_iff.1 hbox).1).trans hbox
  have hP : ∀ X, Calls Tryz.prog 129 #[.agg #[.int .i64 1, .int .i64 ver, .int .i64 D.root, .int .i64 0, .slice D.ka 0 D.kc, .slice D.ia 0 D.ic, .slice D.ea 0 D.ec, .string ⟨#[]⟩]] X fun e w' => e = .returned (.int .i64 ((ver % 2 : Nat) : Int)) ∧ Below X.heap.size X w' := fun X => placeOf_any ⟨0, ver, D.root, D.ka, D.ia, D.ea, D.kc, D.ic, D.ec⟩ X
  rw [hmod] at hP
  have HP : Hid _ := hP
  clear hP hm hp hl hv hmod HM0
  have hfd : ∀ (m : MV) (W : World), (Instr.field 108 (.agg #[.int .i64 m.p, .bool true, .int .i64 1, .int .i64 m.ver, .int .i64 m.root, .int .i64 0, .slice m.ka 0 m.kc, .slice m.ia 0 m.ic, .slice m.ea 0 m.ec, .string ⟨#[]⟩]) 1).run Tryz.prog W = .ok (.bool true) W := fun m W => by kernel_rfl
  go_enter Tryz.func126, Tryz.ntmps126
  go_wp2
  go_region_held3 (fun X => X.cell? ⟨D.d, 2, none⟩ = some (.pointer (some ⟨D.β, 0, none⟩)) ∧ X.cell? ⟨D.d, 3, none⟩ = some (.int .i64 1) ∧ X.cell? ⟨D.d, 4, none⟩ = some (.int .i64 ver) ∧ X.cell? ⟨D.d, 5, none⟩ = some (.int .i64 D.root) ∧ X.cell? ⟨D.d, 6, none⟩ = some (.int .i64 0) ∧ X.cell? ⟨D.d, 7, none⟩ = some (.slice D.ka 0 D.kc) ∧ X.cell? ⟨D.d, 8, none⟩ = some (.slice D.ia 0 D.ic) ∧ X.cell? ⟨D.d, 9, none⟩ = some (.slice D.ea 0 D.ec) ∧ X.cell? ⟨D.d, 10, none⟩ = some (.string ⟨#[]⟩))
    ((first | (with_reducible exact ⟨c2, c3, c4, c5, c6, c7, c8, c9, c10⟩) | (simp [c2, c3, c4, c5, c6, c7, c8, c9, c10])))
    (first
      | (go_at_call 129; (with_reducible refine Calls.mono (HP.out _) ?_); rintro e X1 ⟨rfl, hX1⟩; have BX1 : Below w.heap.size w X1 := (Below.refl _ w).drew.trans hX1; obtain ⟨c0, c1, c2, c3, c4, c5, c6, c7, c8, c9, c10, c11, c12, c13, c14⟩ := box15 (HBX.out X1 BX1))
      | (go_at_call 74; (with_reducible refine Calls.mono (HM.out _ ?_) ?_); (first | exact BX1.drew | exact BX1); rintro e X2 ⟨m, rfl, hX2⟩; have BX2 : Below w.heap.size w X2 := (by first | exact BX1.trans (hX2.mono BX1.size) | exact BX1.drew.trans (hX2.mono BX1.size)); obtain ⟨c0, c1, c2, c3, c4, c5, c6, c7, c8, c9, c10, c11, c12, c13, c14⟩ := box15 (HBX.out X2 BX2)))
  all_goals go_wp2
  all_goals
    refine bodyPost_end (v := .tuple #[]) ?_ rfl ⟨rfl, BX2⟩
    simp [results, Tryz.results126]
end Go.Proofs.YtngpplmndpmgiaaGreat.Tree
