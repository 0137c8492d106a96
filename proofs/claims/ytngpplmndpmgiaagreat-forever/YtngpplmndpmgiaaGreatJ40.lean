/-
  Joined: Tog.
-/
import Derived.Test.YtngpplmndpmgiaaGreatJ32
import Derived.Test.YtngpplmndpmgiaaGreatJ34
import Derived.Deep.RegionHeld3
namespace Go.Proofs.YtngpplmndpmgiaaGreat.Tree
open Go.RowKit Go.Proofs.YtngpplmndpmgiaaGreat.Pages
set_option linter.unusedSimpArgs false
set_option linter.unusedVariables false
def nd0 : NT → Nd
  | .kept t s => .mk s t.place [] []
  | .leaf s es => .mk s 0 es []
  | .bran s _ => .mk s 0 [] []
theorem nd0_leaves (es : List En) : (leavesP es).map nd0 = (cuts esz es).map leafNd := by rw [leavesP, List.map_map]; rfl
def Placed (n : NT) : Prop := ∀ t s, n = .kept t s → 0 < t.place
def Or2 (A B : Bl) : Bl := fun k => A k ∨ B k
theorem loose0 (β : Nat) (sv lv : Value) (fs : Fs) (hl : (fs.life == 0) = false) (root : Int) (ca : Option Addr) (cn cc : Nat) (n : NT) (hn : Ok0 fs n) (hp : Placed n) (m : MN) (S : Bl) (w : World) (hf : FileAt w β sv lv fs) (hm : NdOn w S (nd0 n) m) (hS : ∀ b, S b → b < w.heap.size) :
    Calls Tryz.prog 184 #[.agg #[.pointer (some ⟨β, 0, none⟩), .int .i64 root, .slice ca cn cc], .agg #[.string m.lo, .string m.hi, .int .i64 m.place, .slice m.ea m.en m.ec, .slice m.ka m.kn m.kc]] w fun e w' =>
      ∃ lo hi ea ec ka kc, e = .returned (.agg #[.string lo, .string hi, .int .i64 0, .slice ea n.ents0.length ec, .slice ka 0 kc]) ∧ RowOn w' (Or2 S (New w w')) ea (ecells n.ents0) ∧ n.ents0.length ≤ ec ∧ Below w.heap.size w w' := by
  cases n with
  | bran => exact hn.elim
  | leaf s es =>
    obtain ⟨_, _, _, _, _, ms, h1, h2, h3, h4, h5, h6, h7, h8, h9, h10, h11⟩ := hm
    refine (loose_zero β root ca cn cc m (by simp [h3]) w).mono ?_
    rintro e w' ⟨rfl, hb⟩
    refine ⟨m.lo, m.hi, m.ea, m.ec, m.ka, m.kc, ?_, (h8.on (On.of_below hb hS)).mono (fun k hk => .inl hk), h6, hb⟩
    rw [h3, h4, h5]; rfl
  | kept t s =>
    cases t with
    | branch => exact hn.elim
    | leaf p es =>
      obtain ⟨_, _, _, _, _, ms, h1, h2, h3, h4, h5, h6, h7, h8, h9, h10, h11⟩ := hm
      have hp0 : 0 < p := hp _ _ rfl
      have h3' : m.place = p := h3
      have hst : Stands fs 0 (.leaf m.place es) ⟨m.lo, m.hi⟩ := by rw [h3', h1, h2]; exact hn
      refine (loose_leaf β sv lv fs hl root ca cn cc m (by simp [h3']; omega) es w hst hf).mono ?_
      rintro e w' ⟨ea, ec, rfl, hr, hc, hb⟩
      exact ⟨m.lo, m.hi, ea, ec, none, 0, rfl, hr.mono (fun k hk => .inr hk), hc, hb⟩
theorem own_row0 {w : World} {e : TypeId} {z : Nat} {v : Value} {n : Nat} {xs : List Value} (h : w.ownsRow 0 e z v n xs) : ∃ a c, v = .slice a n c ∧ n ≤ c ∧ RowOn w (fun k => v.ownBlock = some k) a xs := by
  obtain ⟨a, c, rfl⟩ := own_shape h
  have h0 := h
  obtain ⟨h1, h2⟩ := h
  rcases h2 with ⟨h3, h4⟩ | ⟨g, cap, cur, h3, hb, hg, hnc, hcm, hcs, htake⟩
  · simp only [Value.slice.injEq] at h3
    refine ⟨a, c, rfl, by omega, .inl ?_⟩
    have : xs.length = 0 := by rw [h1, h4]; simp
    exact List.eq_nil_of_length_eq_zero this
  · simp only [Value.slice.injEq, true_and] at h3
    obtain ⟨rfl, rfl⟩ := h3
    refine ⟨_, c, rfl, hnc, .inr ⟨g, 0, rfl, rfl, fun i u hu => ?_⟩⟩
    obtain ⟨g', e1, _, _, e2⟩ := own_at h0 hu
    simp only [Option.some.injEq, Addr.mk.injEq, and_true] at e1
    subst e1
    simpa using e2
def Past3 (n : Nat) (w : World) : Bl := fun k => k < w.heap.size ∧ (k < n ∨ n + 3 ≤ k)
theorem RowOn.past {w W wn : World} {S : Bl} {a : Option Addr} {vs : List Value} (h : RowOn wn (Or2 S (New W wn)) a vs) (hS : ∀ b, S b → b < w.heap.size) (h1 : w.heap.size + 3 ≤ W.heap.size) (h2 : w.heap.size ≤ wn.heap.size) : RowOn wn (Past3 w.heap.size wn) a vs :=
  h.mono (fun k hk => by
    rcases hk with hk | hk
    · exact ⟨Nat.lt_of_lt_of_le (hS k hk) h2, .inl (hS k hk)⟩
    · exact ⟨hk.2, .inr (Nat.le_trans h1 hk.1)⟩)
theorem RowOn.step {n : Nat} {W wn : World} {a : Option Addr} {vs : List Value} (h : RowOn W (Past3 n W) a vs) (hb : Below W.heap.size W wn) : RowOn wn (Past3 n wn) a vs :=
  (h.on (On.of_below hb (fun k hk => hk.1))).mono (fun k hk => ⟨Nat.lt_of_lt_of_le hk.1 hb.size, hk.2⟩)
theorem cell_other {w : World} {b b' o o' : Nat} {v u : Value} (hne : b' ≠ b) (h : w.cell? ⟨b, o, none⟩ = some u) : (w.setCell ⟨b', o', none⟩ v).cell? ⟨b, o, none⟩ = some u := by
  rw [World.cell?_setCell_other _ _ _ _ (by simp [hne])]; exact h
abbrev set5 (w : World) (b : Nat) (v0 v1 v2 v3 v4 : Value) : World := ((((w.setCell ⟨b, 0, none⟩ v0).setCell ⟨b, 1, none⟩ v1).setCell ⟨b, 2, none⟩ v2).setCell ⟨b, 3, none⟩ v3).setCell ⟨b, 4, none⟩ v4
theorem set5_fr (w : World) (b : Nat) (v0 v1 v2 v3 v4 : Value) : Fr (Bl.one b) w (set5 w b v0 v1 v2 v3 v4) :=
  (((((Fr.refl (Bl.one b) w).setCell (p := ⟨b, 0, none⟩) (.inl rfl) _).setCell (p := ⟨b, 1, none⟩) (.inl rfl) _).setCell (p := ⟨b, 2, none⟩) (.inl rfl) _).setCell (p := ⟨b, 3, none⟩) (.inl rfl) _).setCell (p := ⟨b, 4, none⟩) (.inl rfl) _
theorem set5_box {w : World} {b : Nat} {x0 x1 x2 x3 x4 : Value} {t : TypeId} (h : w.heap[b]? = some (.cells #[x0, x1, x2, x3, x4] t)) (v0 v1 v2 v3 v4 : Value) : (set5 w b v0 v1 v2 v3 v4).heap[b]? = some (.cells #[v0, v1, v2, v3, v4] t) := by
  have := set_of (set_of (set_of (set_of (set_of h 0 v0) 1 v1) 2 v2) 3 v3) 4 v4
  simpa using this
set_option maxRecDepth 100000 in
set_option maxHeartbeats 2000000 in
theorem together0 (β : Nat) (sv lv : Value) (fs : Fs) (hl : (fs.life == 0) = false) (root : Int) (ca : Option Addr) (cn cc : Nat) (a b : NT) (ha : Ok0 fs a) (hb : Ok0 fs b) (hpa : Placed a) (hpb : Placed b) (ma mb : MN) (S : Bl) (w : World) (hf : FileAt w β sv lv fs) (hma : NdOn w S (nd0 a) ma) (hmb : NdOn w S (nd0 b) mb) (hS : ∀ b, S b → b < w.heap.size) (hna : a.ents0.length ≤ 1000) (hnb : b.ents0.length ≤ 1000) :
    Calls Tryz.prog 181 #[.agg #[.pointer (some ⟨β, 0, none⟩), .int .i64 root, .slice ca cn cc], ma.val, mb.val] w fun e w' =>
      ∃ v ms, e = .returned v ∧ w'.ownsRow 0 220 5 v ms.length (ncells ms) ∧ NdsOn w' (New w w') ((tog0 a b).map nd0) ms ∧ Below w.heap.size w w' ∧ ∀ k, v.ownBlock = some k → w.heap.size ≤ k := by
  obtain ⟨W1, hW1⟩ : ∃ W1, ((w.alloc (.cells #[.pointer (some ⟨β, 0, none⟩), .int .i64 root, .slice ca cn cc] 82)).alloc ma.obj).alloc mb.obj = W1 := ⟨_, rfl⟩
  have B1 : Below w.heap.size w W1 := hW1 ▸ (((Below.refl _ _).alloc (Nat.le_refl _) _).alloc (by simp) _).alloc (by simp; omega) _
  have t1 : W1.heap[w.heap.size]? = some (.cells #[.pointer (some ⟨β, 0, none⟩), .int .i64 root, .slice ca cn cc] 82) := hW1 ▸ heap_keep _ (heap_keep _ (heap_new w _))
  have a1 : W1.heap[w.heap.size + 1]? = some ma.obj := by
    rw [← hW1]; refine heap_keep _ ?_; have := heap_new (w.alloc (.cells #[.pointer (some ⟨β, 0, none⟩), .int .i64 root, .slice ca cn cc] 82)) ma.obj; simpa using this
  have b1 : W1.heap[w.heap.size + 1 + 1]? = some mb.obj := by
    rw [← hW1]; have := heap_new ((w.alloc (.cells #[.pointer (some ⟨β, 0, none⟩), .int .i64 root, .slice ca cn cc] 82)).alloc ma.obj) mb.obj; simpa using this
  have z1 : W1.heap.size = w.heap.size + 3 := by rw [← hW1]; simp
  have Z1 : Hid (W1.heap.size = w.heap.size + 3) := z1
  have hLd : ∀ (n : NT) (m : MN), Ok0 fs n → Placed n → NdOn w S (nd0 n) m → ∀ W, Below w.heap.size w W → Calls Tryz.prog 184 #[.agg #[.pointer (some ⟨β, 0, none⟩), .int .i64 root, .slice ca cn cc], .agg #[.string m.lo, .string m.hi, .int .i64 m.place, .slice m.ea m.en m.ec, .slice m.ka m.kn m.kc]] W fun e w' =>
      ∃ lo hi ea ec ka kc, e = .returned (.agg #[.string lo, .string hi, .int .i64 0, .slice ea n.ents0.length ec, .slice ka 0 kc]) ∧ RowOn w' (Or2 S (New W w')) ea (ecells n.ents0) ∧ n.ents0.length ≤ ec ∧ Below W.heap.size W w' := fun n m hn hp hm W hW =>
    loose0 β sv lv fs hl root ca cn cc n hn hp m S W (hf.on (On.of_below hW hf.lies)) (hm.on (On.of_below hW hS)) (fun b h => Nat.lt_of_lt_of_le (hS b h) hW.size)
  have hJw : ∀ W, Below (w.heap.size + 3) W1 W → Below w.heap.size w W := fun W h => B1.trans (h.mono (by omega))
  have hA := fun W h => hLd a ma ha hpa hma W (hJw W h)
  have hB := fun W h => hLd b mb hb hpb hmb W (hJw W h)
  have hgood : ∀ x ∈ a.ents0 ++ b.ents0, x.good fs := fun x hx => (List.mem_append.1 hx).elim ((ok0_ents ha).2.2 x) ((ok0_ents hb).2.2 x)
  have hJ : Below (w.heap.size + 3) W1 W1 := Below.refl _ _
  have hWz : w.heap.size + 3 ≤ W1.heap.size := by omega
  obtain ⟨tc0, tc1, tc2⟩ := box3 t1
  obtain ⟨ac0, ac1, ac2, ac3, ac4⟩ := box5 a1
  obtain ⟨bc0, bc1, bc2, bc3, bc4⟩ := box5 b1
  clear hLd hl z1
  go_enter Tryz.func181, Tryz.ntmps181
  go_wp2
  refine wp_region_held_drew (S := (fun W => W.cell? ⟨w.heap.size, 0, none⟩ = some (.pointer (some ⟨β, 0, none⟩)) ∧ W.cell? ⟨w.heap.size, 1, none⟩ = some (.int .i64 root) ∧ W.cell? ⟨w.heap.size, 2, none⟩ = some (.slice ca cn cc))) (by kernel_rfl) (by first | (with_reducible exact ⟨tc0, tc1, tc2⟩) | exact ⟨tc0, tc1, tc2⟩ | (refine ⟨?_, ?_, ?_⟩ <;> (repeat (with_reducible refine cell_other (by omega) ?_)) <;> (first | (with_reducible exact tc0) | (with_reducible exact tc1) | (with_reducible exact tc2)))) (fun hHeld => ?_)
  refine wpAnyH_take (i := 0) (v := .agg #[.pointer (some ⟨β, 0, none⟩), .int .i64 root, .slice ca cn cc]) rfl (by kernel_rfl) (by kernel_rfl) (by kernel_rfl) (fun _ _ _ h => h) (Or.inl ⟨by rfl, fun w hSw => by (try dsimp only at hSw); go_simp⟩) (by assumption) ?_
  try simp only [Act.put, List.setIfInBounds_toArray, List.set_cons_zero, List.set_cons_succ]
  refine wpAnyH_take (i := 3) (v := .agg #[.pointer (some ⟨β, 0, none⟩), .int .i64 root, .slice ca cn cc]) rfl (by kernel_rfl) (by kernel_rfl) (by kernel_rfl) (fun _ _ _ h => h) (Or.inl ⟨by rfl, fun w hSw => by (try dsimp only at hSw); go_simp⟩) (by assumption) ?_
  try simp only [Act.put, List.setIfInBounds_toArray, List.set_cons_zero, List.set_cons_succ]
  refine wpAnyH_ready (rs := [1, 4]) (by kernel_rfl) (by simp) (AllReadyH.cons rfl (fun K hK => ?_) (AllReadyH.cons rfl (fun K hK => ?_) AllReadyH.nil))
  go_simp
  refine hK.out _ _ (by first | (with_reducible exact ⟨tc0, tc1, tc2⟩) | exact ⟨tc0, tc1, tc2⟩ | (refine ⟨?_, ?_, ?_⟩ <;> (repeat (with_reducible refine cell_other (by omega) ?_)) <;> (first | (with_reducible exact tc0) | (with_reducible exact tc1) | (with_reducible exact tc2)))) (fun hHeld => ?_)
  clear hK K
  try simp only [Act.put, List.setIfInBounds_toArray, List.set_cons_zero, List.set_cons_succ]
  refine wpAnyH_ready (rs := [2, 4]) (by kernel_rfl) (by simp) (AllReadyH.cons rfl (fun K hK => ?_) (AllReadyH.cons rfl (fun K hK => ?_) AllReadyH.nil))
  go_simp
  (go_at_call 184; (with_reducible refine Calls.mono (hA _ ?_) ?_); (first | exact hJ | exact hJ.drew); rintro e wn ⟨alo, ahi, aea, aec, aka, akc, rfl, aR, aC, hbn⟩; have hJ' := hJ; have hJ : Below (w.heap.size + 3) W1 wn := (by first | exact below_step hJ' hWz hbn | exact below_step hJ'.drew hWz hbn); have aR : RowOn wn (Past3 w.heap.size wn) aea (ecells a.ents0) := aR.past hS (by first | exact hWz | exact Nat.le_trans hWz hJ'.size) (hJw _ hJ).size; clear hJ'; obtain ⟨tc0, tc1, tc2⟩ := box3 ((hJ.block w.heap.size (by omega)).trans t1); have ab := (hJ.block (w.heap.size + 1) (by omega)).trans a1; have bb := (hJ.block (w.heap.size + 1 + 1) (by omega)).trans b1; obtain ⟨ac0, ac1, ac2, ac3, ac4⟩ := box5 ab; obtain ⟨bc0, bc1, bc2, bc3, bc4⟩ := box5 bb; have afr := free_of ab; have bfr := free_of bb)
  simp only []
  refine hK.out _ _ (by first | (with_reducible exact ⟨tc0, tc1, tc2⟩) | exact ⟨tc0, tc1, tc2⟩ | (refine ⟨?_, ?_, ?_⟩ <;> (repeat (with_reducible refine cell_other (by omega) ?_)) <;> (first | (with_reducible exact tc0) | (with_reducible exact tc1) | (with_reducible exact tc2)))) (fun hHeld => ?_)
  clear hK K
  try simp only [Act.put, List.setIfInBounds_toArray, List.set_cons_zero, List.set_cons_succ]
  refine wpAnyH_ready (rs := [4]) (by kernel_rfl) (by simp) (AllReadyH.cons rfl (fun K hK => ?_) AllReadyH.nil)
  go_simp
  refine hK.out _ _ (by first | (with_reducible exact ⟨tc0, tc1, tc2⟩) | exact ⟨tc0, tc1, tc2⟩ | (refine ⟨?_, ?_, ?_⟩ <;> (repeat (with_reducible refine cell_other (by omega) ?_)) <;> (first | (with_reducible exact tc0) | (with_reducible exact tc1) | (with_reducible exact tc2)))) (fun hHeld => ?_)
  clear hK K
  try simp only [Act.put, List.setIfInBounds_toArray, List.set_cons_zero, List.set_cons_succ]
  refine wpAnyH_ready (rs := [5]) (by kernel_rfl) (by simp) (AllReadyH.cons rfl (fun K hK => ?_) AllReadyH.nil)
  go_simp
  (go_at_call 184; (with_reducible refine Calls.mono (hB _ ?_) ?_); (first | exact hJ | exact hJ.drew); rintro e wn ⟨blo, bhi, bea, bec, bka, bkc, rfl, bR, bC, hbn⟩; have hJ' := hJ; have hJ : Below (w.heap.size + 3) W1 wn := (by first | exact below_step hJ' hWz hbn | exact below_step hJ'.drew hWz hbn); have bR : RowOn wn (Past3 w.heap.size wn) bea (ecells b.ents0) := bR.past hS (by first | exact hWz | exact Nat.le_trans hWz hJ'.size) (hJw _ hJ).size; clear hJ'; obtain ⟨tc0, tc1, tc2⟩ := box3 ((hJ.block w.heap.size (by omega)).trans t1); have ab := (hJ.block (w.heap.size + 1) (by omega)).trans a1; have bb := (hJ.block (w.heap.size + 1 + 1) (by omega)).trans b1; obtain ⟨ac0, ac1, ac2, ac3, ac4⟩ := box5 ab; obtain ⟨bc0, bc1, bc2, bc3, bc4⟩ := box5 bb; have afr := free_of ab; have bfr := free_of bb)
  simp only []
  refine hK.out _ _ (by first | (with_reducible exact ⟨tc0, tc1, tc2⟩) | exact ⟨tc0, tc1, tc2⟩ | (refine ⟨?_, ?_, ?_⟩ <;> (repeat (with_reducible refine cell_other (by omega) ?_)) <;> (first | (with_reducible exact tc0) | (with_reducible exact tc1) | (with_reducible exact tc2)))) (fun hHeld => ?_)
  clear hK K
  try simp only [Act.put, List.setIfInBounds_toArray, List.set_cons_zero, List.set_cons_succ]
  refine wpAnyH_ready (rs := [6]) (by kernel_rfl) (by simp) (AllReadyH.cons rfl (fun K hK => ?_) AllReadyH.nil)
  go_simp
  refine hK.out _ _ (by (refine ⟨?_, ?_, ?_⟩ <;> (repeat (with_reducible refine cell_other (by omega) ?_)) <;> (first | (with_reducible exact tc0) | (with_reducible exact tc1) | (with_reducible exact tc2)))) (fun hHeld => ?_)
  clear hK K
  try simp only [Act.put, List.setIfInBounds_toArray, List.set_cons_zero, List.set_cons_succ]
  refine wpAnyH_ready (rs := [7]) (by kernel_rfl) (by simp) (AllReadyH.cons rfl (fun K hK => ?_) AllReadyH.nil)
  go_simp
  refine hK.out _ _ (by (refine ⟨?_, ?_, ?_⟩ <;> (repeat (with_reducible refine cell_other (by omega) ?_)) <;> (first | (with_reducible exact tc0) | (with_reducible exact tc1) | (with_reducible exact tc2)))) (fun hHeld => ?_)
  clear hK K
  try simp only [Act.put, List.setIfInBounds_toArray, List.set_cons_zero, List.set_cons_succ]
  refine wpAnyH_done (by kernel_rfl) ?_ _
  rotate_left
  go_simp
  refine hK.out _ _ (by first | (with_reducible exact ⟨tc0, tc1, tc2⟩) | exact ⟨tc0, tc1, tc2⟩ | (refine ⟨?_, ?_, ?_⟩ <;> (repeat (with_reducible refine cell_other (by omega) ?_)) <;> (first | (with_reducible exact tc0) | (with_reducible exact tc1) | (with_reducible exact tc2)))) (fun hHeld => ?_)
  clear hK K
  try simp only [Act.put, List.setIfInBounds_toArray, List.set_cons_zero, List.set_cons_succ]
  refine wpAnyH_ready (rs := [2]) (by kernel_rfl) (by simp) (AllReadyH.cons rfl (fun K hK => ?_) AllReadyH.nil)
  go_simp
  (go_at_call 184; (with_reducible refine Calls.mono (hA _ ?_) ?_); (first | exact hJ | exact hJ.drew); rintro e wn ⟨alo, ahi, aea, aec, aka, akc, rfl, aR, aC, hbn⟩; have hJ' := hJ; have hJ : Below (w.heap.size + 3) W1 wn := (by first | exact below_step hJ' hWz hbn | exact below_step hJ'.drew hWz hbn); have aR : RowOn wn (Past3 w.heap.size wn) aea (ecells a.ents0) := aR.past hS (by first | exact hWz | exact Nat.le_trans hWz hJ'.size) (hJw _ hJ).size; clear hJ'; obtain ⟨tc0, tc1, tc2⟩ := box3 ((hJ.block w.heap.size (by omega)).trans t1); have ab := (hJ.block (w.heap.size + 1) (by omega)).trans a1; have bb := (hJ.block (w.heap.size + 1 + 1) (by omega)).trans b1; obtain ⟨ac0, ac1, ac2, ac3, ac4⟩ := box5 ab; obtain ⟨bc0, bc1, bc2, bc3, bc4⟩ := box5 bb; have afr := free_of ab; have bfr := free_of bb)
  simp only []
  refine hK.out _ _ (by first | (with_reducible exact ⟨tc0, tc1, tc2⟩) | exact ⟨tc0, tc1, tc2⟩ | (refine ⟨?_, ?_, ?_⟩ <;> (repeat (with_reducible refine cell_other (by omega) ?_)) <;> (first | (with_reducible exact tc0) | (with_reducible exact tc1) | (with_reducible exact tc2)))) (fun hHeld => ?_)
  clear hK K
  try simp only [Act.put, List.setIfInBounds_toArray, List.set_cons_zero, List.set_cons_succ]
  refine wpAnyH_ready (rs := [5]) (by kernel_rfl) (by simp) (AllReadyH.cons rfl (fun K hK => ?_) AllReadyH.nil)
  go_simp
  (go_at_call 184; (with_reducible refine Calls.mono (hB _ ?_) ?_); (first | exact hJ | exact hJ.drew); rintro e wn ⟨blo, bhi, bea, bec, bka, bkc, rfl, bR, bC, hbn⟩; have hJ' := hJ; have hJ : Below (w.heap.size + 3) W1 wn := (by first | exact below_step hJ' hWz hbn | exact below_step hJ'.drew hWz hbn); have bR : RowOn wn (Past3 w.heap.size wn) bea (ecells b.ents0) := bR.past hS (by first | exact hWz | exact Nat.le_trans hWz hJ'.size) (hJw _ hJ).size; clear hJ'; obtain ⟨tc0, tc1, tc2⟩ := box3 ((hJ.block w.heap.size (by omega)).trans t1); have ab := (hJ.block (w.heap.size + 1) (by omega)).trans a1; have bb := (hJ.block (w.heap.size + 1 + 1) (by omega)).trans b1; obtain ⟨ac0, ac1, ac2, ac3, ac4⟩ := box5 ab; obtain ⟨bc0, bc1, bc2, bc3, bc4⟩ := box5 bb; have afr := free_of ab; have bfr := free_of bb)
  simp only []
  refine hK.out _ _ (by first | (with_reducible exact ⟨tc0, tc1, tc2⟩) | exact ⟨tc0, tc1, tc2⟩ | (refine ⟨?_, ?_, ?_⟩ <;> (repeat (with_reducible refine cell_other (by omega) ?_)) <;> (first | (with_reducible exact tc0) | (with_reducible exact tc1) | (with_reducible exact tc2)))) (fun hHeld => ?_)
  clear hK K
  try simp only [Act.put, List.setIfInBounds_toArray, List.set_cons_zero, List.set_cons_succ]
  refine wpAnyH_ready (rs := [6]) (by kernel_rfl) (by simp) (AllReadyH.cons rfl (fun K hK => ?_) AllReadyH.nil)
  go_simp
  refine hK.out _ _ (by (refine ⟨?_, ?_, ?_⟩ <;> (repeat (with_reducible refine cell_other (by omega) ?_)) <;> (first | (with_reducible exact tc0) | (with_reducible exact tc1) | (with_reducible exact tc2)))) (fun hHeld => ?_)
  clear hK K
  try simp only [Act.put, List.setIfInBounds_toArray, List.set_cons_zero, List.set_cons_succ]
  refine wpAnyH_ready (rs := [7]) (by kernel_rfl) (by simp) (AllReadyH.cons rfl (fun K hK => ?_) AllReadyH.nil)
  go_simp
  refine hK.out _ _ (by (refine ⟨?_, ?_, ?_⟩ <;> (repeat (with_reducible refine cell_other (by omega) ?_)) <;> (first | (with_reducible exact tc0) | (with_reducible exact tc1) | (with_reducible exact tc2)))) (fun hHeld => ?_)
  clear hK K
  try simp only [Act.put, List.setIfInBounds_toArray, List.set_cons_zero, List.set_cons_succ]
  refine wpAnyH_done (by kernel_rfl) ?_ _
  rotate_left
  go_simp
  refine hK.out _ _ (by first | (with_reducible exact ⟨tc0, tc1, tc2⟩) | exact ⟨tc0, tc1, tc2⟩ | (refine ⟨?_, ?_, ?_⟩ <;> (repeat (with_reducible refine cell_other (by omega) ?_)) <;> (first | (with_reducible exact tc0) | (with_reducible exact tc1) | (with_reducible exact tc2)))) (fun hHeld => ?_)
  clear hK K
  try simp only [Act.put, List.setIfInBounds_toArray, List.set_cons_zero, List.set_cons_succ]
  refine wpAnyH_ready (rs := [1]) (by kernel_rfl) (by simp) (AllReadyH.cons rfl (fun K hK => ?_) AllReadyH.nil)
  go_simp
  refine hK.out _ _ (by first | (with_reducible exact ⟨tc0, tc1, tc2⟩) | exact ⟨tc0, tc1, tc2⟩ | (refine ⟨?_, ?_, ?_⟩ <;> (repeat (with_reducible refine cell_other (by omega) ?_)) <;> (first | (with_reducible exact tc0) | (with_reducible exact tc1) | (with_reducible exact tc2)))) (fun hHeld => ?_)
  clear hK K
  try simp only [Act.put, List.setIfInBounds_toArray, List.set_cons_zero, List.set_cons_succ]
  refine wpAnyH_ready (rs := [2]) (by kernel_rfl) (by simp) (AllReadyH.cons rfl (fun K hK => ?_) AllReadyH.nil)
  go_simp
  (go_at_call 184; (with_reducible refine Calls.mono (hA _ ?_) ?_); (first | exact hJ | exact hJ.drew); rintro e wn ⟨alo, ahi, aea, aec, aka, akc, rfl, aR, aC, hbn⟩; have hJ' := hJ; have hJ : Below (w.heap.size + 3) W1 wn := (by first | exact below_step hJ' hWz hbn | exact below_step hJ'.drew hWz hbn); have aR : RowOn wn (Past3 w.heap.size wn) aea (ecells a.ents0) := aR.past hS (by first | exact hWz | exact Nat.le_trans hWz hJ'.size) (hJw _ hJ).size; clear hJ'; obtain ⟨tc0, tc1, tc2⟩ := box3 ((hJ.block w.heap.size (by omega)).trans t1); have ab := (hJ.block (w.heap.size + 1) (by omega)).trans a1; have bb := (hJ.block (w.heap.size + 1 + 1) (by omega)).trans b1; obtain ⟨ac0, ac1, ac2, ac3, ac4⟩ := box5 ab; obtain ⟨bc0, bc1, bc2, bc3, bc4⟩ := box5 bb; have afr := free_of ab; have bfr := free_of bb)
  simp only []
  refine hK.out _ _ (by first | (with_reducible exact ⟨tc0, tc1, tc2⟩) | exact ⟨tc0, tc1, tc2⟩ | (refine ⟨?_, ?_, ?_⟩ <;> (repeat (with_reducible refine cell_other (by omega) ?_)) <;> (first | (with_reducible exact tc0) | (with_reducible exact tc1) | (with_reducible exact tc2)))) (fun hHeld => ?_)
  clear hK K
  try simp only [Act.put, List.setIfInBounds_toArray, List.set_cons_zero, List.set_cons_succ]
  refine wpAnyH_ready (rs := [5]) (by kernel_rfl) (by simp) (AllReadyH.cons rfl (fun K hK => ?_) AllReadyH.nil)
  go_simp
  (go_at_call 184; (with_reducible refine Calls.mono (hB _ ?_) ?_); (first | exact hJ | exact hJ.drew); rintro e wn ⟨blo, bhi, bea, bec, bka, bkc, rfl, bR, bC, hbn⟩; have hJ' := hJ; have hJ : Below (w.heap.size + 3) W1 wn := (by first | exact below_step hJ' hWz hbn | exact below_step hJ'.drew hWz hbn); have bR : RowOn wn (Past3 w.heap.size wn) bea (ecells b.ents0) := bR.past hS (by first | exact hWz | exact Nat.le_trans hWz hJ'.size) (hJw _ hJ).size; clear hJ'; obtain ⟨tc0, tc1, tc2⟩ := box3 ((hJ.block w.heap.size (by omega)).trans t1); have ab := (hJ.block (w.heap.size + 1) (by omega)).trans a1; have bb := (hJ.block (w.heap.size + 1 + 1) (by omega)).trans b1; obtain ⟨ac0, ac1, ac2, ac3, ac4⟩ := box5 ab; obtain ⟨bc0, bc1, bc2, bc3, bc4⟩ := box5 bb; have afr := free_of ab; have bfr := free_of bb)
  simp only []
  refine hK.out _ _ (by first | (with_reducible exact ⟨tc0, tc1, tc2⟩) | exact ⟨tc0, tc1, tc2⟩ | (refine ⟨?_, ?_, ?_⟩ <;> (repeat (with_reducible refine cell_other (by omega) ?_)) <;> (first | (with_reducible exact tc0) | (with_reducible exact tc1) | (with_reducible exact tc2)))) (fun hHeld => ?_)
  clear hK K
  try simp only [Act.put, List.setIfInBounds_toArray, List.set_cons_zero, List.set_cons_succ]
  refine wpAnyH_ready (rs := [6]) (by kernel_rfl) (by simp) (AllReadyH.cons rfl (fun K hK => ?_) AllReadyH.nil)
  go_simp
  refine hK.out _ _ (by (refine ⟨?_, ?_, ?_⟩ <;> (repeat (with_reducible refine cell_other (by omega) ?_)) <;> (first | (with_reducible exact tc0) | (with_reducible exact tc1) | (with_reducible exact tc2)))) (fun hHeld => ?_)
  clear hK K
  try simp only [Act.put, List.setIfInBounds_toArray, List.set_cons_zero, List.set_cons_succ]
  refine wpAnyH_ready (rs := [7]) (by kernel_rfl) (by simp) (AllReadyH.cons rfl (fun K hK => ?_) AllReadyH.nil)
  go_simp
  refine hK.out _ _ (by (refine ⟨?_, ?_, ?_⟩ <;> (repeat (with_reducible refine cell_other (by omega) ?_)) <;> (first | (with_reducible exact tc0) | (with_reducible exact tc1) | (with_reducible exact tc2)))) (fun hHeld => ?_)
  clear hK K
  try simp only [Act.put, List.setIfInBounds_toArray, List.set_cons_zero, List.set_cons_succ]
  refine wpAnyH_done (by kernel_rfl) ?_ _
  rotate_left
  all_goals (first | (have aR2 := RowOn.step aR hbn; have bR2 := bR) | (have bR2 := RowOn.step bR hbn; have aR2 := aR))
  all_goals
    have xa5 := set5_box ab (.string alo) (.string ahi) (.int .i64 0) (.slice aea a.ents0.length aec) (.slice aka 0 akc)
    have fa5 := set5_fr wn (w.heap.size + 1) (.string alo) (.string ahi) (.int .i64 0) (.slice aea a.ents0.length aec) (.slice aka 0 akc)
    obtain ⟨w5, hw5⟩ : ∃ w5, set5 wn (w.heap.size + 1) (.string alo) (.string ahi) (.int .i64 0) (.slice aea a.ents0.length aec) (.slice aka 0 akc) = w5 := ⟨_, rfl⟩
    rw [hw5] at xa5 fa5
    have bb5 := fa5.heap bb (fun e => by simp only [Bl.one] at e; omega)
    have xbS := set5_box bb5 (.string blo) (.string bhi) (.int .i64 0) (.slice bea b.ents0.length bec) (.slice bka 0 bkc)
    have fbS := set5_fr w5 (w.heap.size + 1 + 1) (.string blo) (.string bhi) (.int .i64 0) (.slice bea b.ents0.length bec) (.slice bka 0 bkc)
    obtain ⟨wS, hwS⟩ : ∃ wS, set5 w5 (w.heap.size + 1 + 1) (.string blo) (.string bhi) (.int .i64 0) (.slice bea b.ents0.length bec) (.slice bka 0 bkc) = wS := ⟨_, rfl⟩
    rw [hwS] at xbS fbS
    have xaS := fbS.heap xa5 (fun e => by simp only [Bl.one] at e; omega)
    have FS : Fr (fun k => k = w.heap.size + 1 ∨ k = w.heap.size + 1 + 1) wn wS := (fa5.mono (fun k hk => .inl (.inl hk))).trans (fbS.mono (fun k hk => .inl (.inr hk)))
    have aRS : RowOn wS (Past3 w.heap.size wn) aea (ecells a.ents0) := aR2.on (FS.on (fun k hk => ⟨hk.1, fun e => by have := hk.2; omega⟩))
    have bRS : RowOn wS (Past3 w.heap.size wn) bea (ecells b.ents0) := bR2.on (FS.on (fun k hk => ⟨hk.1, fun e => by have := hk.2; omega⟩))
    have hwn := (hJw _ hJ).size
    have BS : Below w.heap.size w wS := (hJw _ hJ).trans (FS.below (by omega) (fun k hk => by omega))
    have hszS := FS.size
    obtain ⟨sa0, sa1, sa2, sa3, sa4⟩ := box5 xaS
    obtain ⟨sb0, sb1, sb2, sb3, sb4⟩ := box5 xbS
    obtain ⟨wA, hwA⟩ : ∃ wA, wS.alloc (.cells #[.slice aea a.ents0.length aec, .slice bea b.ents0.length bec] 70) = wA := ⟨_, rfl⟩
    have bA : Below wS.heap.size wS wA := hwA ▸ (Below.refl _ _).alloc (Nat.le_refl _) _
    have xA : wA.heap[wS.heap.size]? = some (.cells #[.slice aea a.ents0.length aec, .slice bea b.ents0.length bec] 70) := hwA ▸ heap_new wS _
    have zA := (Array.getElem?_eq_some_iff.1 xA).1
    have hCc := concatE_any [⟨aea, aec, a.ents0⟩, ⟨bea, bec, b.ents0⟩] (some ⟨wS.heap.size, 0, none⟩) 2 (fun k => k < wA.heap.size) wA
      (.inr ⟨wS.heap.size, 0, rfl, zA, fun i u hu => by
        rcases i with _ | _ | i
        · simp [Pc.val] at hu; subst hu; simp [World.cell?, xA]
        · simp [Pc.val] at hu; subst hu; simp [World.cell?, xA]
        · simp at hu⟩)
      (fun q hq => by
        simp only [List.mem_cons, List.not_mem_nil, or_false] at hq
        rcases hq with rfl | rfl
        · exact ⟨aC, (aRS.on (On.of_below bA (fun k hk => by have := hk.1; omega))).mono (fun k hk => by have := hk.1; have := bA.size; omega)⟩
        · exact ⟨bC, (bRS.on (On.of_below bA (fun k hk => by have := hk.1; omega))).mono (fun k hk => by have := hk.1; have := bA.size; omega)⟩)
      (fun k hk => hk) (by simp [lens]; omega) (by simp) (by simp)
    have hlens : lens [(⟨aea, aec, a.ents0⟩ : Pc En), ⟨bea, bec, b.ents0⟩] = (a.ents0 ++ b.ents0).length := by simp [lens]
    have hflat : [(⟨aea, aec, a.ents0⟩ : Pc En), ⟨bea, bec, b.ents0⟩].flatMap (·.l) = a.ents0 ++ b.ents0 := by simp
    rw [hlens, hflat] at hCc
    obtain ⟨ab0, hab0⟩ : ∃ ab0, a.ents0 ++ b.ents0 = ab0 := ⟨_, rfl⟩
    rw [hab0] at hCc
    have HG : Hid (∀ x ∈ ab0, x.good fs) := by rw [← hab0]; exact hgood
    have HLn : Hid (ab0.length ≤ 1000000) := by show _ ≤ _; rw [← hab0, List.length_append]; omega
    have HTG : Hid ((tog0 a b).map nd0 = (cuts esz ab0).map leafNd) := by show _ = _; rw [tog0, nd0_leaves, hab0]
    have hwAf : wA.heap.size = wS.heap.size + 1 := by rw [← hwA]; simp
    have BA : Below w.heap.size w wA := BS.trans (bA.mono (by have := BS.size; omega))
    clear xa5 fa5 bb5 fbS FS aR bR aR2 bR2 ac0 ac1 ac2 ac3 ac4 bc0 bc1 bc2 bc3 bc4 ab bb afr bfr tc0 tc1 tc2 hab0 hlens hflat hwAf
    unfold set5 at hw5 hwS
    rw [hw5, hwS]
    go_wp2_with (first
      | (go_at_call 185; (with_reducible refine Calls.mono hCc ?_); rintro e wC ⟨v, rfl, hown, hbC, hlies⟩; obtain ⟨va, vc, rfl, hvc, hrow⟩ := own_row0 hown; have hNL := newLeaves_any va vc ab0 (fun k => k < wC.heap.size ∧ wA.heap.size ≤ k) wC (hrow.mono (fun k hk => ⟨own_lt hown hk, hlies k hk⟩)) (fun k hk => hk.1) HLn.out hvc (fun x hx => good_fits (HG.out x hx)) (esz_250 HG.out))
      | (go_at_call 156; (with_reducible refine Calls.mono hNL ?_); rintro e wL ⟨vL, qs, rfl, hoL, hql, hqr, hbL, hlL⟩))
    go_ret
    have hsz1 := BA.size
    have hsz2 := hbC.size
    have hsz3 := hbL.size
    refine ⟨_, qs.map leafMN, rfl, by rw [List.length_map]; exact hoL, ?_, (BA.trans (hbC.mono hsz1)).trans (hbL.mono (by omega)), fun k hk => Nat.le_trans (by omega) (hlL k hk)⟩
    rw [HTG.out, ← hql]
    exact (leaves_on hqr).mono (fun k hk => ⟨by have := hk.2; omega, by have := hk.1; omega⟩)
end Go.Proofs.YtngpplmndpmgiaaGreat.Tree
