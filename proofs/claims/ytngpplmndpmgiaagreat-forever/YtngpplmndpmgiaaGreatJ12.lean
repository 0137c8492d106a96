/-
  Joined: Loose2, PRise, PEnts, Over.
-/
import Derived.Test.YtngpplmndpmgiaaGreatJ11
import Derived.Test.YtngpplmndpmgiaaGreatJ7
import Derived.Test.YtngpplmndpmgiaaGreatJ6
import Derived.Test.YtngpplmndpmgiaaGreatJ8
namespace Go.Proofs.YtngpplmndpmgiaaGreat.Tree
open Go.RowKit Go.Shelf Go.Proofs.YtngpplmndpmgiaaGreat.Pages
set_option linter.unusedSimpArgs false
set_option linter.unusedVariables false
attribute [local go_sem] Oper.semAt_some
theorem Took.cell {w w' : World} {B b o : Nat} {u : Value} (ht : Took B w w') (h : w.cell? ⟨b, o, none⟩ = some u) : w'.cell? ⟨b, o, none⟩ = some u := by
  have : ∃ c e f, w.heap[b]? = some (.cells c e f) := by
    cases hb : w.heap[b]? with
    | none => simp [World.cell?, hb] at h
    | some x =>
      cases x with
      | cells c e f => exact ⟨c, e, f, rfl⟩
      | _ => simp [World.cell?, hb] at h
  obtain ⟨c, e, f, hb⟩ := this
  rw [World.cell?_of_block (w := w) ((ht.cells _ _ _ _ hb).trans hb.symm)]
  exact h
theorem RowOn.took {w w' : World} {S : Bl} {a : Option Addr} {vs : List Value} {B : Nat} (h : RowOn w S a vs) (ht : Took B w w') : RowOn w' S a vs := by
  rcases h with h | ⟨b, off, ha, hs, hc⟩
  · exact .inl h
  · exact .inr ⟨b, off, ha, hs, fun i u hu => ht.cell (hc i u hu)⟩
theorem ecells_ents {g : Pg} {es : List En} (h : g.ents = es.map (·.e)) : g.ents.flatMap Ent.cells = ecells es := by rw [ecells, h]
set_option maxRecDepth 100000 in
set_option maxHeartbeats 2000000 in
theorem loose_leaf (β : Nat) (sv lv : Value) (fs : Fs) (hl : (fs.life == 0) = false) (root : Int) (ca : Option Addr) (cn cc : Nat) (m : MN) (hpl : ((m.place : Int) == 0) = false) (es : List En) (w : World) (ht : Stands fs 0 (.leaf m.place es) ⟨m.lo, m.hi⟩) (hf : FileAt w β sv lv fs) :
    Calls Tryz.prog 184 #[.agg #[.pointer (some ⟨β, 0, none⟩), .int .i64 root, .slice ca cn cc], .agg #[.string m.lo, .string m.hi, .int .i64 m.place, .slice m.ea m.en m.ec, .slice m.ka m.kn m.kc]] w fun e w' =>
      ∃ ea ec, e = .returned (.agg #[.string m.lo, .string m.hi, .int .i64 0, .slice ea es.length ec, .slice none 0 0]) ∧ RowOn w' (New w w') ea (ecells es) ∧ es.length ≤ ec ∧ Below w.heap.size w w' := by
  obtain ⟨g, hg, hk3, hes, hne, hin, hok⟩ := ht
  obtain ⟨W1, hW1⟩ : ∃ W1, ((w.alloc (.cells #[.pointer (some ⟨β, 0, none⟩), .int .i64 root, .slice ca cn cc] 82)).alloc m.obj).alloc node00 = W1 := ⟨_, rfl⟩
  have B1 : Below w.heap.size w W1 := hW1 ▸ (((Below.refl _ _).alloc (Nat.le_refl _) _).alloc (by simp) _).alloc (by simp; omega) _
  have t1 : W1.heap[w.heap.size]? = some (.cells #[.pointer (some ⟨β, 0, none⟩), .int .i64 root, .slice ca cn cc] 82) := hW1 ▸ heap_keep _ (heap_keep _ (heap_new w _))
  have s1 : W1.heap[w.heap.size + 1]? = some m.obj := by
    rw [← hW1]; refine heap_keep _ ?_; have := heap_new (w.alloc (.cells #[.pointer (some ⟨β, 0, none⟩), .int .i64 root, .slice ca cn cc] 82)) m.obj; simpa using this
  have r1 : W1.heap[w.heap.size + 1 + 1]? = some node00 := by
    rw [← hW1]; have := heap_new ((w.alloc (.cells #[.pointer (some ⟨β, 0, none⟩), .int .i64 root, .slice ca cn cc] 82)).alloc m.obj) node00; simpa using this
  have z1 : W1.heap.size = w.heap.size + 3 := by rw [← hW1]; simp
  obtain ⟨tc0, tc1, tc2⟩ := box3 t1
  obtain ⟨sc0, sc1, sc2, sc3, sc4⟩ := box5 s1
  have hf1 : FileAt W1 β sv lv fs := hf.on (On.of_below B1 hf.lies)
  obtain ⟨sm1, sm2, sm3⟩ := read_small hg
  have he0 : 0 < g.ents.length := by rw [hes, List.length_map]; exact List.length_pos_iff.2 hne
  have hel : g.ents.length = es.length := by rw [hes, List.length_map]
  have hin' : ∀ e ∈ g.ents, (⟨m.lo, m.hi⟩ : Sp).has e.key = true := fun e he => by rw [hes, List.mem_map] at he; obtain ⟨x, hx, rfl⟩ := he; exact hin x hx
  have hNd := node_leaf β sv lv fs root ca cn cc m.place ⟨m.lo, m.hi⟩ g W1 hf1 hl hg (by simp [hk3]) (by simp [hk3]) he0 (hin' _ (List.getElem_mem _)) (hin' _ (List.getElem_mem _)) sm1 sm3
  obtain ⟨nk, nkd⟩ := read_leaf_kids hg hk3
  have HK : Hid (g.kids = []) := nkd
  have HE : Hid (g.ents = es.map (·.e)) := hes
  have HL : Hid (g.ents.length = es.length) := hel
  clear hk3 hes nk nkd hel
  refine (callsIn_wide (n := 0)).1 (callsIn_of_wp_marks Tryz.func184 rfl trivial ?_ rfl)
  simp only [Tryz.ntmps184, List.size_toArray, List.length_cons, List.length_nil, Nat.reduceAdd, Nat.reduceSub, Array.replicate_succ, Array.replicate_zero, List.push_toArray, List.append_toArray, List.nil_append, List.cons_append]
  gi_wp2_with (first
    | (refine ⟨trivial, rfl, ?_⟩; gi_at_call 105; refine (callsIn_wide.2 hNd).mono ?_; clear hNd; rintro e W3 ⟨vv, rfl, ⟨ka, ia, ea, kc, ic, ec, rfl, q1, q2, q3, qq⟩, hb3⟩; obtain ⟨W4, hW4⟩ : ∃ W4, W3.alloc (pgO g ka ia ea kc ic ec) = W4 := ⟨_, rfl⟩; have x4 : W4.heap[W3.heap.size]? = some (pgO g ka ia ea kc ic ec) := hW4 ▸ heap_new W3 _; obtain ⟨m0, m1, m2, m3, m4, m5, m6, m7⟩ := box8 x4; have f4 : Fr Bl.none W1 W4 := (Fr.of_below hb3).trans (hW4 ▸ (Fr.refl _ W3).alloc _); have s4 := f4.heap s1 (fun h => h); obtain ⟨sd0, sd1, sd2, sd3, sd4⟩ := box5 s4; have s5 := heap_keep (.cells #[.string m.lo, .string m.hi, .int .i64 0, .slice ea g.ents.length ec, .slice none 0 0] 220) s4; obtain ⟨se0, se1, se2, se3, se4⟩ := box5 s5; have x45 := heap_keep (.cells #[.string m.lo, .string m.hi, .int .i64 0, .slice ea g.ents.length ec, .slice none 0 0] 220) x4; obtain ⟨me0, me1, me2, me3, me4, me5, me6, me7⟩ := box8 x45; have hKc := kids_call g ⟨m.lo, m.hi⟩ ka ia ea kc ic ec (W4.alloc (.cells #[.string m.lo, .string m.hi, .int .i64 0, .slice ea g.ents.length ec, .slice none 0 0] 220)))
    | (refine ⟨trivial, rfl, ?_⟩; gi_at_call 106; refine (callsIn_wide.2 hKc).mono ?_; clear hKc; rintro e W6 ⟨rfl, y1, y2, hb6⟩))
  clear se0 se1 se2 se3 se4 me0 me1 me2 me3 me4 me5 me6 me7
  obtain ⟨W5, hW5⟩ : ∃ W5, W4.alloc (.cells #[.string m.lo, .string m.hi, .int .i64 0, .slice ea g.ents.length ec, .slice none 0 0] 220) = W5 := ⟨_, rfl⟩
  rw [hW5] at y1 y2 hb6 s5 x45
  have x5 : W5.heap[W4.heap.size]? = some (.cells #[.string m.lo, .string m.hi, .int .i64 0, .slice ea g.ents.length ec, .slice none 0 0] 220) := hW5 ▸ heap_new W4 _
  have f5 : Fr Bl.none W1 W5 := f4.trans (hW5 ▸ (Fr.refl _ W4).alloc _)
  have z55 : W5.heap.size = W4.heap.size + 1 := by rw [← hW5]; simp
  rw [z55] at y1 y2
  have f6 : Fr Bl.none W1 W6 := f5.trans (Fr.of_below hb6)
  have z4 : W3.heap.size < W4.heap.size := (Array.getElem?_eq_some_iff.1 x4).1
  have z45 : W4.heap.size < W5.heap.size := (Array.getElem?_eq_some_iff.1 x5).1
  have z3 := hb3.size
  have z6 : W4.heap.size + 1 + 1 < W6.heap.size := (Array.getElem?_eq_some_iff.1 y2).1
  have o36 : On (New W1 W3) W3 W6 := ((hW4 ▸ (On.refl _ W3).alloc (fun k hk => hk.2) _ : On (New W1 W3) W3 W4).trans (hW5 ▸ (On.refl _ W4).alloc (fun k hk => by have := hk.2; omega) _ : On (New W1 W3) W4 W5)).trans (On.of_below hb6 (fun k hk => by have := hk.2; omega))
  let Rd : Bl := fun k => k = W4.heap.size + 1 ∨ k = W4.heap.size + 1 + 1 ∨ New W1 W3 k
  have hseq := kids_iter (W4.heap.size + 1 + 1) (W4.heap.size + 1) ⟨m.lo, m.hi⟩ g.kind g.ver g.root g.next ka ia ea kc ic g.ents.length ec g.data g.keys g.kids Rd W6 y2 y1 ((q1.on o36).mono (fun k hk => .inr (.inr hk))) ((q2.on o36).mono (fun k hk => .inr (.inr hk))) (.inr (.inl rfl)) (.inl rfl) sm1 sm2 qq.1 qq.2.1
  have hxs : parts ⟨m.lo, m.hi⟩ g.keys g.kids = [] := by rw [HK.out]; cases g.keys <;> rfl
  have HXS : Hid (parts ⟨m.lo, m.hi⟩ g.keys g.kids = []) := hxs
  clear hxs
  let I : List (Int × Sp) → Bl → World → Prop := fun pre Y W => True ∧ Y = Bl.none
  refine wp_range (P := Tryz.prog) (Has := HasKid) (Rd := Rd) rfl (enters_of Tryz.func131 (by kernel_rfl) rfl) hseq (fun x args S W hH => by rw [hH]; rfl) I (fun _ _ _ _ => False) ?_ (fun _ _ _ _ _ h => h.elim) ?_ (fun _ _ _ _ h => h.elim) Bl.none ⟨trivial, rfl⟩ ?_ ?_ ?_ (fun _ _ _ _ _ _ _ _ _ h => h.elim)
  · rintro pre Y W W' ⟨_, rfl⟩ ho
    exact ⟨trivial, rfl⟩
  · rintro pre Y W ⟨_, rfl⟩ k hk
    exact hk.elim
  · rintro k (rfl | rfl | hk)
    · exact ⟨fun h => h, by omega⟩
    · exact ⟨fun h => h, by omega⟩
    · exact ⟨fun h => h, by have := hk.2; omega⟩
  · intro l pre x rest args S Y' W hx
    rw [HXS.out] at hx
    simp at hx
  · -- behind the loop
    rintro D Y' W hD hYD ⟨_, rfl⟩ hFW hGW hDW
    have xW := hFW.heap ((hb6.block _ z45).trans x5) (fun h => h)
    have rW := hFW.heap (f6.heap r1 (fun h => h)) (fun h => h)
    obtain ⟨n0, n1, n2, n3, n4⟩ := box5 xW
    obtain ⟨b0, b1, b2, b3, b4⟩ := box5 rW
    have bfr := free_of rW
    have hm : Marks w.heap.size [mk D] W := (Marks.nil w.heap.size W6).cons (fun D' _ h => hFW.heap h (fun e => e)) (by have := B1.size; omega) hDW hD
    have F0 : Fr Bl.none w W := (Fr.of_below B1).trans (f6.trans hFW)
    have zW : W6.heap.size ≤ W.heap.size := hFW.size
    have zW1 : W1.heap.size ≤ W6.heap.size := f6.size
    have qW : RowOn W (New W1 W3) ea (g.ents.flatMap Ent.cells) := (q3.on o36).on (hFW.on (fun k hk => ⟨by have := hk.2; omega, fun h => h⟩))
    have hec := qq.2.2
    have q3H : Hid (RowOn W3 (New W1 W3) ea (g.ents.flatMap Ent.cells)) := q3
    have HEC : Hid (es.length ≤ ec) := by have := HL.out; show _ ≤ _; omega
    have e3 := set_of (set_of (set_of (set_of (set_of rW 0 (.string m.lo)) 1 (.string m.hi)) 2 (.int .i64 0)) 3 (.slice ea g.ents.length ec)) 4 (.slice none 0 0)
    clear q1 q2 q3 qW hec qq
    gi_wp2
    obtain ⟨WF, hWF⟩ : ∃ WF, ((((W.setCell ⟨w.heap.size + 1 + 1, 0, none⟩ (.string m.lo)).setCell ⟨w.heap.size + 1 + 1, 1, none⟩ (.string m.hi)).setCell ⟨w.heap.size + 1 + 1, 2, none⟩ (.int .i64 0)).setCell ⟨w.heap.size + 1 + 1, 3, none⟩ (.slice ea g.ents.length ec)).setCell ⟨w.heap.size + 1 + 1, 4, none⟩ (.slice none 0 0) = WF := ⟨_, rfl⟩
    have FF : Fr (Bl.one (w.heap.size + 1 + 1)) W WF := by
      rw [← hWF]
      exact ((((((Fr.refl (Bl.one (w.heap.size + 1 + 1)) W).setCell (p := ⟨w.heap.size + 1 + 1, 0, none⟩) (.inl rfl) _).setCell (p := ⟨w.heap.size + 1 + 1, 1, none⟩) (.inl rfl) _).setCell (p := ⟨w.heap.size + 1 + 1, 2, none⟩) (.inl rfl) _).setCell (p := ⟨w.heap.size + 1 + 1, 3, none⟩) (.inl rfl) _).setCell (p := ⟨w.heap.size + 1 + 1, 4, none⟩) (.inl rfl) _)
    have xF : WF.heap[w.heap.size + 1 + 1]? = some (.cells #[.string m.lo, .string m.hi, .int .i64 0, .slice ea g.ents.length ec, .slice none 0 0] 220) := by rw [← hWF]; simpa using e3
    have hmF : Marks w.heap.size [mk D] WF := hm.on (fun D' _ h => FF.heap h (fun e => by simp only [Bl.one] at e; subst e; rw [rW] at h; simp at h))
    have F0F : Fr Bl.none w WF := F0.grow FF (fun k hk => .inr (by simp only [Bl.one] at hk; omega))
    have zr : w.heap.size + 1 + 1 < W1.heap.size := (Array.getElem?_eq_some_iff.1 r1).1
    have QF : RowOn WF (New w WF) ea (ecells es) := by
      have q := (q3H.out.on o36).on (hFW.on (fun k hk => ⟨by have := hk.2; omega, fun h => h⟩))
      have q' := q.on (FF.on (Z := New W1 W3) (fun k hk => ⟨by have := hk.2; omega, fun e => by simp only [Bl.one] at e; have := hk.1; omega⟩))
      rw [ecells_ents HE.out] at q'
      exact q'.mono (fun k hk => ⟨by have := hk.1; omega, by have := hk.2; have := FF.size; omega⟩)
    refine endsC (p := 4) rfl (w.heap.size + 1 + 1) _ _ _ rfl (hWF ▸ xF) Tryz.underlying220 rfl (by kernel_rfl) (hWF ▸ hmF) ?_
    intro w' ht'
    rw [hWF] at ht'
    refine ⟨ea, ec, by rw [← HL.out], ?_, HEC.out, (F0F.took ht' (Nat.le_refl _)).below0⟩
    have hsz := ht'.size
    exact RowOn.took (QF.mono (fun k hk => ⟨hk.1, by have := hk.2; omega⟩)) ht'
end Go.Proofs.YtngpplmndpmgiaaGreat.Tree
namespace Go.Proofs.YtngpplmndpmgiaaGreat.Tree
open Go.RowKit Go.Proofs.YtngpplmndpmgiaaGreat.Pages
set_option linter.unusedSimpArgs false
set_option linter.unusedVariables false
theorem follows_parts {last k : ByteArray} (h : followsB last k = true) : lt last k = true ∧ k.size ≤ 24 := by
  unfold followsB at h
  simpa [lt] using h
theorem rising_parts : ∀ {ks : List ByteArray} {last : ByteArray}, risingB last ks = true → ks.Pairwise (fun a b => lt a b = true) ∧ ∀ k ∈ ks, lt last k = true ∧ k.size ≤ 24
  | [], _, _ => ⟨.nil, by simp⟩
  | k :: r, last, h => by
    simp only [risingB, Bool.and_eq_true] at h
    obtain ⟨h1, h2⟩ := follows_parts h.1
    obtain ⟨r1, r2⟩ := rising_parts h.2
    refine ⟨List.pairwise_cons.2 ⟨fun x hx => (r2 x hx).1, r1⟩, fun x hx => ?_⟩
    rcases List.mem_cons.1 hx with rfl | hx
    · exact ⟨h1, h2⟩
    · exact ⟨lt_trans h1 (r2 x hx).1, (r2 x hx).2⟩
theorem leaf_parts : ∀ {es : List Ent} {last : ByteArray}, leafOk last es = true → es.Pairwise (fun a b => lt a.key b.key = true) ∧ ∀ e ∈ es, lt last e.key = true ∧ e.key.size ≤ 24 ∧ valB e.val e.size e.over = true
  | [], _, _ => ⟨.nil, by simp⟩
  | e :: r, last, h => by
    simp only [leafOk, Bool.and_eq_true] at h
    obtain ⟨h1, h2⟩ := follows_parts h.1.1
    obtain ⟨r1, r2⟩ := leaf_parts h.2
    refine ⟨List.pairwise_cons.2 ⟨fun x hx => (r2 x hx).1, r1⟩, fun x hx => ?_⟩
    rcases List.mem_cons.1 hx with rfl | hx
    · exact ⟨h1, h2, h.1.2⟩
    · exact ⟨lt_trans h1 (r2 x hx).1, (r2 x hx).2⟩
theorem has_right {fs : Fs} {p : Nat} {g : Pg} (h : fs.has p g) : rightB g.kind g.ver g.root g.next g.keys g.kids g.ents g.data = true := by
  obtain ⟨_, _, he, _, rfl⟩ := h
  unfold Pg.encE encE at he
  split at he
  · rename_i hr
    rw [Bool.and_eq_true] at hr
    exact hr.1
  · cases he
theorem has_branch {fs : Fs} {p : Nat} {g : Pg} (h : fs.has p g) (hk : g.kind = 2) : g.keys.Pairwise (fun a b => lt a b = true) ∧ ∀ k ∈ g.keys, lt ⟨#[]⟩ k = true ∧ k.size ≤ 24 := by
  have hr := has_right h
  unfold rightB at hr
  rw [hk] at hr
  simp only [show ¬ ((2 : Int) = 1) by decide, if_false, if_true, Bool.and_eq_true, branchOk] at hr
  exact rising_parts hr.2.2
theorem has_leaf {fs : Fs} {p : Nat} {g : Pg} (h : fs.has p g) (hk : g.kind = 3) : g.ents.Pairwise (fun a b => lt a.key b.key = true) ∧ ∀ e ∈ g.ents, lt ⟨#[]⟩ e.key = true ∧ e.key.size ≤ 24 ∧ valB e.val e.size e.over = true := by
  have hr := has_right h
  unfold rightB at hr
  rw [hk] at hr
  simp only [show ¬ ((3 : Int) = 1) by decide, show ¬ ((3 : Int) = 2) by decide, if_false, if_true, Bool.and_eq_true] at hr
  exact leaf_parts hr.2.2
end Go.Proofs.YtngpplmndpmgiaaGreat.Tree
namespace Go.Proofs.YtngpplmndpmgiaaGreat.Tree
open Go.RowKit Go.Proofs.YtngpplmndpmgiaaGreat.Pages
set_option linter.unusedSimpArgs false
set_option linter.unusedVariables false
def T.ents : Nat → T → List En
  | _, .leaf _ es => es
  | 0, .branch _ _ _ => []
  | h + 1, .branch _ _ kids => kids.flatMap (T.ents h)
theorem has_mono {s x : Sp} (h1 : le s.lo x.lo = true) (h2 : hiLe x.hi s.hi = true) {k : ByteArray} (h : x.has k = true) : s.has k = true := by
  unfold Sp.has at *
  rw [Bool.and_eq_true] at *
  exact ⟨le_trans h1 h.1, below_mono h2 h.2⟩
theorem parts_in {α : Type} : ∀ (s : Sp) (ks : List ByteArray) (kids : List α), kids.length = ks.length + 1 → ks.Pairwise (fun a b => lt a b = true) → (∀ k ∈ ks, lt s.lo k = true ∧ Sp.below s.hi k = true) → ∀ x ∈ parts s ks kids, le s.lo x.2.lo = true ∧ hiLe x.2.hi s.hi = true
  | s, _, [], hl, _, _ => by simp at hl
  | s, [], k :: kids, hl, _, _ => by
    have : kids = [] := List.eq_nil_of_length_eq_zero (by simpa using hl)
    subst this
    simp only [parts, List.mem_singleton]
    rintro x rfl
    exact ⟨le_refl _, hiLe_refl _⟩
  | s, q :: ks, k :: kids, hl, hp, hb => by
    obtain ⟨hq, hp'⟩ := List.pairwise_cons.1 hp
    obtain ⟨b1, b2⟩ := hb q (by simp)
    simp only [parts, List.mem_cons]
    rintro x (rfl | hx)
    · exact ⟨le_refl _, hiLe_of_below (k := q) b2 (fun e => by rw [e, lt_nil] at b1; cases b1)⟩
    · obtain ⟨r1, r2⟩ := parts_in ⟨q, s.hi⟩ ks kids (by simpa using hl) hp' (fun x hx => ⟨hq x hx, (hb x (by simp [hx])).2⟩) x hx
      exact ⟨le_trans (le_of_lt b1) r1, r2⟩
theorem parts_fst {α : Type} : ∀ (s : Sp) (ks : List ByteArray) (kids : List α), (parts s ks kids).map (·.1) = kids
  | _, _, [] => by simp [parts]
  | s, [], k :: kids => by simp [parts, parts_fst ⟨s.hi, s.hi⟩ [] kids]
  | s, q :: ks, k :: kids => by simp [parts, parts_fst ⟨q, s.hi⟩ ks kids]
theorem branch_keys {fs : Fs} {h p : Nat} {ks : List ByteArray} {kids : List T} {s : Sp} (ht : Stands fs (h + 1) (.branch p ks kids) s) : kids.length = ks.length + 1 ∧ ks.Pairwise (fun a b => lt a b = true) ∧ (∀ k ∈ ks, lt s.lo k = true ∧ Sp.below s.hi k = true) ∧ (∀ k ∈ ks, k.size ≤ 24) ∧ ∀ x ∈ parts s ks kids, Stands fs h x.1 x.2 := by
  obtain ⟨g, hg, hk, hks, _, hlen, ⟨h0, c1, c2⟩, hall⟩ := ht
  obtain ⟨r1, r2⟩ := has_branch hg hk
  rw [hks] at r1 r2
  refine ⟨hlen, r1, fun k hkm => ?_, fun k hkm => (r2 k hkm).2, hall⟩
  obtain ⟨i, hi, rfl⟩ := List.getElem_of_mem hkm
  have hp := List.pairwise_iff_getElem.1 r1
  constructor
  · rcases Nat.eq_zero_or_pos i with rfl | hi0
    · exact c1
    · exact lt_trans c1 (hp 0 i h0 hi hi0)
  · unfold Sp.has at c2
    rw [Bool.and_eq_true] at c2
    by_cases hl : i = ks.length - 1
    · subst hl; exact c2.2
    · exact below_le (le_of_lt (hp i (ks.length - 1) hi (by omega) (by omega))) c2.2
theorem ents_in {fs : Fs} : ∀ {h : Nat} {t : T} {s : Sp}, Stands fs h t s → ∀ e ∈ T.ents h t, s.has e.e.key = true
  | 0, .leaf p es, s, ht, e, he => by obtain ⟨g, _, _, _, _, h5, _⟩ := ht; exact h5 e he
  | 0, .branch _ _ _, s, ht, e, he => by simp [T.ents] at he
  | h + 1, .leaf _ _, s, ht, e, he => by simp [Stands] at ht
  | h + 1, .branch p ks kids, s, ht, e, he => by
    obtain ⟨hl, hp, hb, _, hall⟩ := branch_keys ht
    simp only [T.ents, List.mem_flatMap] at he
    obtain ⟨k, hk, he⟩ := he
    have : k ∈ (parts s ks kids).map (·.1) := by rw [parts_fst]; exact hk
    obtain ⟨x, hx, rfl⟩ := List.mem_map.1 this
    obtain ⟨r1, r2⟩ := parts_in s ks kids hl hp hb x hx
    exact has_mono r1 r2 (ents_in (hall x hx) e he)
theorem meets_of {x q : Sp} {k : ByteArray} (h1 : x.has k = true) (h2 : q.has k = true) : x.meets q = true := by
  unfold Sp.has at h1 h2
  unfold Sp.meets
  rw [Bool.and_eq_true] at *
  exact ⟨below_le h2.1 h1.2, below_le h1.1 h2.2⟩
theorem pick_lvs {fs : Fs} (q : Sp) : ∀ {h : Nat} {t : T} {s : Sp}, Stands fs h t s → pickE q (lvs h t s q) = (T.ents h t).filter (fun x => q.has x.e.key)
  | 0, .leaf p es, s, ht => by simp [pickE, lvs, T.ents]
  | 0, .branch _ _ _, s, ht => by simp [pickE, lvs, T.ents]
  | h + 1, .leaf _ _, s, ht => by simp [Stands] at ht
  | h + 1, .branch p ks kids, s, ht => by
    obtain ⟨hl, hp, hb, _, hall⟩ := branch_keys ht
    have key : ∀ (l : List (T × Sp)), (∀ x ∈ l, Stands fs h x.1 x.2) → pickE q (l.flatMap (fun x => if x.2.meets q = true then lvs h x.1 x.2 q else [])) = ((l.map (·.1)).flatMap (T.ents h)).filter (fun x => q.has x.e.key) := by
      intro l hl
      induction l with
      | nil => rfl
      | cons x l ih =>
        have hx := hl x (by simp)
        have e1 : pickE q (if x.2.meets q = true then lvs h x.1 x.2 q else []) = (T.ents h x.1).filter (fun x => q.has x.e.key) := by
          split
          · exact pick_lvs q hx
          · rename_i hm
            symm
            rw [show pickE q [] = [] from rfl, List.filter_eq_nil_iff]
            intro e he hq
            exact hm (meets_of (ents_in hx e he) hq)
        rw [List.map_cons, List.flatMap_cons, List.flatMap_cons, List.filter_append, ← ih (fun y hy => hl y (by simp [hy])), ← e1]
        unfold pickE
        rw [List.flatMap_append]
    simp only [lvs, T.ents]
    rw [key _ hall, parts_fst]
end Go.Proofs.YtngpplmndpmgiaaGreat.Tree
namespace Go.Proofs.YtngpplmndpmgiaaGreat.Tree
open Go.RowKit Go.Shelf Go.Proofs.YtngpplmndpmgiaaGreat.Pages
set_option linter.unusedSimpArgs false
set_option linter.unusedVariables false
attribute [local go_sem] Oper.semAt_some
def stepO (a : List En × List Ch) (x : En) : List En × List Ch :=
  (a.1 ++ (tellE (a.2.take (srch a.2 x.e.key)) ++ if fnd a.2 x.e.key = true then [] else [x]), a.2.drop (srch a.2 x.e.key))
def foldO (es : List En) (cs : List Ch) : List En × List Ch := es.foldl stepO ([], cs)
def overE (es : List En) (cs : List Ch) : List En := (foldO es cs).1 ++ tellE (foldO es cs).2
theorem foldO_snoc (es : List En) (x : En) (cs : List Ch) : foldO (es ++ [x]) cs = stepO (foldO es cs) x := by simp [foldO]
theorem foldl_stepO_pre : ∀ (es : List En) (a : List En × List Ch), ∃ t, (es.foldl stepO a).1 = a.1 ++ t
  | [], a => ⟨[], by simp⟩
  | x :: es, a => by
    obtain ⟨t, ht⟩ := foldl_stepO_pre es (stepO a x)
    exact ⟨_, by rw [List.foldl_cons, ht, stepO, List.append_assoc]⟩
theorem overE_pre (pre post : List En) (cs : List Ch) : ∃ t, overE (pre ++ post) cs = (foldO pre cs).1 ++ t := by
  obtain ⟨t, ht⟩ := foldl_stepO_pre post (foldO pre cs)
  refine ⟨t ++ tellE (foldO (pre ++ post) cs).2, ?_⟩
  unfold overE
  have e : foldO (pre ++ post) cs = post.foldl stepO (foldO pre cs) := by simp [foldO]
  rw [← List.append_assoc, ← ht, e]
theorem foldO_rise {cs : List Ch} (hr : Rise cs) : ∀ (es : List En), Rise (foldO es cs).2 ∧ (foldO es cs).2.length ≤ cs.length := by
  intro es
  have : ∀ (es : List En) (a : List En × List Ch), Rise a.2 → Rise (es.foldl stepO a).2 ∧ (es.foldl stepO a).2.length ≤ a.2.length := by
    intro es
    induction es with
    | nil => intro a h; exact ⟨h, Nat.le_refl _⟩
    | cons x es ih =>
      intro a h
      obtain ⟨h1, h2⟩ := ih (stepO a x) (List.Pairwise.sublist (List.drop_sublist _ _) h)
      refine ⟨h1, Nat.le_trans h2 ?_⟩
      simp [stepO]
  exact this es ([], cs) hr
theorem Iter.on {α : Type} {P : Program} {g : Nat} {lb : Array Value} {Has : α → Array Value → Bl → World → Prop} {xs : List α} {Rd : Bl} {w w' : World} (h : Iter P g lb Has xs Rd w) (ho : On Rd w w') : Iter P g lb Has xs Rd w' :=
  fun l J Jx Y W hon => h l J Jx Y W (ho.trans hon)
theorem RowOn.cut {w : World} {S : Bl} {b off : Nat} {cs : List Ch} {i : Nat} {a : Option Addr} (h : RowOn w S (some ⟨b, off, none⟩) (cs.flatMap Ch.cells)) (ha : i < cs.length → a = some ⟨b, off + i * 3, none⟩) : RowOn w S a ((cs.drop i).flatMap Ch.cells) := by
  by_cases hi : i < cs.length
  · rw [ha hi]
    rcases h with h | ⟨b', off', hb, hs, hc⟩
    · have : cs = [] := by
        cases cs with
        | nil => rfl
        | cons c cs => simp [Ch.cells] at h
      subst this
      simp at hi
    · simp only [Option.some.injEq, Addr.mk.injEq, and_true] at hb
      obtain ⟨rfl, rfl⟩ := hb
      refine .inr ⟨b, off + i * 3, rfl, hs, fun j u hu => ?_⟩
      have e : (cs.flatMap Ch.cells)[i * 3 + j]? = some u := by
        have h3 : ((cs.take i).flatMap Ch.cells).length = i * 3 := by
          have : ∀ (l : List Ch), (l.flatMap Ch.cells).length = l.length * 3 := by
            intro l
            induction l with
            | nil => rfl
            | cons c l ih => rw [List.flatMap_cons, List.length_append, ih, List.length_cons]; simp [Ch.cells]; omega
          rw [this, List.length_take, Nat.min_eq_left (by omega)]
        rw [← List.take_append_drop i cs, List.flatMap_append, List.getElem?_append_right (by omega), h3]
        simpa using hu
      have := hc _ _ e
      rw [Nat.add_assoc]
      exact this
  · exact .inl (by rw [List.drop_eq_nil_of_le (by omega)]; rfl)
theorem RowOn.head {w : World} {S : Bl} {a : Option Addr} {cs : List Ch} {i : Nat} (h : RowOn w S a (cs.flatMap Ch.cells)) : RowOn w S a ((cs.take i).flatMap Ch.cells) := by
  rcases h with h | ⟨b, off, hb, hs, hc⟩
  · left
    have : cs = [] := by
      cases cs with
      | nil => rfl
      | cons c cs => simp [Ch.cells] at h
    subst this; simp
  · refine .inr ⟨b, off, hb, hs, fun j u hu => hc j u ?_⟩
    rw [← List.take_append_drop i cs, List.flatMap_append, List.getElem?_append_left (List.getElem?_eq_some_iff.1 hu).1]
    exact hu
set_option maxRecDepth 100000 in
set_option maxHeartbeats 12000000 in
theorem over_iter (gf : Nat) (lb : Array Value) (eg : ∀ args w, (callFunc gf args).run Tryz.prog w = .ok (.enter gf args) w) (es : List En) (Re : Bl) (bc be : Nat) (ca : Option Addr) (cc : Nat) (cs : List Ch) (S Rd : Bl) (w : World)
    (hseq : Iter Tryz.prog gf lb HasEn es Re w) (xc : w.heap[bc]? = some (.cells #[.slice ca cs.length cc] 80)) (xe : w.heap[be]? = some (.cells #[.func (.func gf) #[] lb] 125)) (hR : RowOn w S ca (cs.flatMap Ch.cells)) (hr : Rise cs) (hn : cs.length ≤ 1000000) (hcc : cs.length ≤ cc) (hca : (ca = none ∧ cc = 0) ∨ ∃ b off, ca = some ⟨b, off, none⟩)
    (rc : Rd bc) (re : Rd be) (rs : ∀ k, S k → Rd k) (rr : ∀ k, Re k → Rd k) :
    Iter Tryz.prog 153 #[.pointer (some ⟨bc, 0, none⟩), .pointer (some ⟨be, 0, none⟩)] HasEn (overE es cs) Rd w := by
  intro l J Jx Y W hon hRd sJ lJ sJx lJx hY h0
  refine callsIn_of_wp_marks Tryz.func153 rfl trivial ?_ rfl
  simp only [Tryz.ntmps153, List.size_toArray, List.length_cons, List.length_nil, Nat.reduceAdd, Nat.reduceSub, Array.replicate_succ, Array.replicate_zero, List.push_toArray, List.append_toArray, List.nil_append, List.cons_append]
  have lY := lJ [] Y W h0
  have l1 := (hRd bc rc).2
  have l2 := (hRd be re).2
  obtain ⟨W1, hW1⟩ : ∃ W1, W.alloc (.cells #[.func (.yield l) #[] #[]] 167) = W1 := ⟨_, rfl⟩
  have f1 : Fr Bl.none W W1 := hW1 ▸ (Fr.refl _ W).alloc _
  have y1 : W1.heap[W.heap.size]? = some (.cells #[.func (.yield l) #[] #[]] 167) := hW1 ▸ heap_new W _
  have o1 : On Rd w W1 := hon.trans (f1.on (fun k hk => ⟨(hRd k hk).2, fun h => h⟩))
  have c0 : W1.cell? ⟨bc, 0, none⟩ = some (.slice ca cs.length cc) := by simp [World.cell?, o1.heap xc rc]
  obtain ⟨W2, hW2⟩ : ∃ W2, W1.alloc (.cells #[.slice ca cs.length cc] 80) = W2 := ⟨_, rfl⟩
  have f2 : Fr Bl.none W W2 := f1.trans (hW2 ▸ (Fr.refl _ W1).alloc _)
  have x2 : W2.heap[W1.heap.size]? = some (.cells #[.slice ca cs.length cc] 80) := hW2 ▸ heap_new W1 _
  have o2 : On Rd w W2 := hon.trans (f2.on (fun k hk => ⟨(hRd k hk).2, fun h => h⟩))
  have e0 : W2.cell? ⟨be, 0, none⟩ = some (.func (.func gf) #[] lb) := by simp [World.cell?, o2.heap xe re]
  have z1 : W.heap.size < W1.heap.size := (Array.getElem?_eq_some_iff.1 y1).1
  have z2 : W1.heap.size < W2.heap.size := (Array.getElem?_eq_some_iff.1 x2).1
  have y2 : W2.heap[W.heap.size]? = some (.cells #[.func (.yield l) #[] #[]] 167) := hW2 ▸ heap_keep _ y1
  have hJ2 := sJ _ _ _ _ h0 (f2.on (fun k hk => ⟨lY k hk, fun h => h⟩))
  have F2 : Fr Y W W2 := f2.mono (fun _ h => h.elim)
  have R2 := hR.on (o2.mono rs)
  have hseq2 := hseq.on (o2.mono rr)
  gi_wp2
  let br := W1.heap.size
  let I : List En → Bl → World → Prop := fun pre Y' W' => ∃ (Yj : Bl) (a : Option Addr) (c : Nat), J (foldO pre cs).1 Yj W' ∧ (∀ k, Y' k ↔ Yj k ∨ k = br) ∧ ¬ Yj br ∧ W'.heap[br]? = some (.cells #[.slice a (foldO pre cs).2.length c] 80) ∧ (foldO pre cs).2.length ≤ c ∧ (∀ Wx, RowOn Wx S ca (cs.flatMap Ch.cells) → RowOn Wx S a ((foldO pre cs).2.flatMap Ch.cells)) ∧ ((a = none ∧ c = 0) ∨ ∃ b off, a = some ⟨b, off, none⟩)
  let Ix : Code → List En → Bl → World → Prop := fun c pre Y' W' => c = .ret ∧ ∃ Yj pp, pp <+: overE es cs ∧ pp ≠ [] ∧ Jx pp Yj W' ∧ (∀ k, Yj k → Y' k) ∧ (∀ k, Y' k → k < W'.heap.size)
  have hRb : ∀ k, Rd k → k ≠ br := fun k hk => by have := (hRd k hk).2; show k ≠ W1.heap.size; omega
  refine wp_range (P := Tryz.prog) (Has := HasEn) (Rd := Re) rfl eg hseq2 (fun x args S W hH => by rw [show args = _ from hH]; rfl) I Ix ?_ ?_ ?_ ?_ (fun k => Y k ∨ k = br) ⟨Y, ca, cc, by simpa [foldO] using hJ2, fun k => Iff.rfl, fun h => by have := lY _ h; show False; simp only [br] at this; omega, by simpa [foldO] using x2, by simpa [foldO] using hcc, fun Wx h => by simpa [foldO] using h, hca⟩ ?_ ?_ ?_ ?_
  · rintro pre Y' A B ⟨Yj, a, c, h1, h2, h3, h4, h5, h6, h7⟩ ho
    exact ⟨Yj, a, c, sJ _ _ _ _ h1 (ho.mono (fun k hk => (h2 k).2 (.inl hk))), h2, h3, ho.heap h4 ((h2 _).2 (.inr rfl)), h5, h6, h7⟩
  · rintro c pre Y' A B ⟨rfl, Yj, pp, h1, h2, h3, h4, h5⟩ ho
    exact ⟨rfl, Yj, pp, h1, h2, sJx _ _ _ _ h3 (ho.mono h4), h4, fun k hk => Nat.lt_of_lt_of_le (h5 k hk) ho.size⟩
  · rintro pre Y' A ⟨Yj, a, c, h1, h2, h3, h4, h5, h6, h7⟩ k hk
    rcases (h2 k).1 hk with h | rfl
    · exact lJ _ _ _ h1 k h
    · exact (Array.getElem?_eq_some_iff.1 h4).1
  · rintro c pre Y' A ⟨rfl, Yj, pp, h1, h2, h3, h4, h5⟩
    exact h5
  · intro k hk
    have hk' := rr k hk
    exact ⟨fun h => h.elim (hRd k hk').1 (hRb k hk'), by have := (hRd k hk').2; omega⟩
  · -- an entry
    rintro lk pre x rest args S' Y2 Wd hx ⟨Yj, a, c, hJd, hYi, hnb, xb, hlc, hrow, hsh⟩ hH hS hFd hGd hl0 hl1 hl2 ⟨r', hr'⟩
    have hH' : args = #[.agg #[.string x.e.key, .string x.e.val, .int .i64 x.e.size, .int .i64 x.e.over]] := hH
    subst hH'
    obtain ⟨hrise, hrl⟩ := foldO_rise hr pre
    obtain ⟨t, ht⟩ := overE_pre (pre ++ [x]) rest cs
    have hes : es = (pre ++ [x]) ++ rest := by rw [hx]; simp
    rw [← hes, foldO_snoc] at ht
    have hsn := foldO_snoc pre x cs
    obtain ⟨dn, hdn⟩ : ∃ dn, (foldO pre cs).1 = dn := ⟨_, rfl⟩
    obtain ⟨rs', hrs⟩ : ∃ rs', (foldO pre cs).2 = rs' := ⟨_, rfl⟩
    simp only [stepO, hdn, hrs] at ht hsn
    rw [hdn] at hJd
    rw [hrs] at xb hlc hrow hrise hrl
    obtain ⟨i, hi⟩ : ∃ i, srch rs' x.e.key = i := ⟨_, rfl⟩
    have hile : i ≤ rs'.length := by rw [← hi]; exact srch_le _ _
    obtain ⟨fb, hfb⟩ : ∃ fb, fnd rs' x.e.key = fb := ⟨_, rfl⟩
    rw [hi, hfb] at ht hsn
    have HT : Hid (overE es cs = dn ++ (tellE (rs'.take i) ++ ((if fb = true then [] else [x]) ++ t))) := by show _ = _; rw [ht]; simp
    have HS : Hid (foldO (pre ++ [x]) cs = (dn ++ (tellE (rs'.take i) ++ if fb = true then [] else [x]), rs'.drop i)) := hsn
    have zd : W2.heap.size ≤ Wd.heap.size := hFd.size
    have Fd : Fr Y W Wd := F2.grow hFd (fun k hk => hk.elim .inl (fun h => .inr (by subst h; show W.heap.size ≤ W1.heap.size; omega)))
    have Gd : Grows W Y Yj := fun k hk => by
      rcases hGd k ((hYi k).2 (.inl hk)) with (h | h) | h
      · exact .inl h
      · exact .inr (by subst h; show W.heap.size ≤ W1.heap.size; omega)
      · exact .inr (by omega)
    have od : On Rd w Wd := o2.trans (hFd.on (fun k hk => ⟨by have := (hRd k hk).2; omega, fun h => h.elim (hRd k hk).1 (hRb k hk)⟩))
    have yd := hFd.heap y2 (fun h => h.elim (fun h => by have := lY _ h; omega) (fun h => by simp only [br] at h; omega))
    have lYj := lJ _ _ _ hJd
    have hSearch := fun Wx (h : RowOn Wx S ca (cs.flatMap Ch.cells)) (h2 : ∀ b, S b → b < Wx.heap.size) => search_any a c rs' x.e.key S Wx (hrow Wx h) h2 hrise (by omega) hlc
    rw [hi, hfb] at hSearch
    clear ht hsn hdn hrs hi hfb hes hx
    unfold RoundW
    gi_wp2
    refine ⟨(Fr.refl _ Wd).alloc _, ?_⟩
    intro We hTe
    have x3 := hTe.heap (k := Wd.heap.size) (heap_new Wd (.cells #[.string x.e.key, .string x.e.val, .int .i64 x.e.size, .int .i64 x.e.over] 102)) (Nat.ne_of_gt hl1)
    obtain ⟨m0, m1, m2, m3⟩ := box4 x3
    have aE : Fr Bl.none Wd (Wd.alloc (.cells #[.string x.e.key, .string x.e.val, .int .i64 x.e.size, .int .i64 x.e.over] 102)) := (Fr.refl _ Wd).alloc _
    have fE : Fr (Bl.one lk) Wd We := (aE.mono (fun _ h => h.elim)).trans hTe.fr
    have zE : Wd.heap.size < We.heap.size := (Array.getElem?_eq_some_iff.1 x3).1
    have hbr : br < Wd.heap.size := (Array.getElem?_eq_some_iff.1 xb).1
    have xbE := fE.heap xb (fun h => by simp only [Bl.one] at h; subst h; exact hl2 ((hYi _).2 (.inr rfl)))
    have yE := fE.heap yd (fun h => by simp only [Bl.one] at h; omega)
    have hJe := sJ _ _ _ _ hJd (fE.on (fun k hk => ⟨lYj k hk, fun h => by simp only [Bl.one] at h; subst h; exact hl2 ((hYi _).2 (.inl hk))⟩))
    have oE : On Rd w We := od.trans (fE.on (fun k hk => ⟨by have := (hRd k hk).2; omega, fun h => by simp only [Bl.one] at h; have := (hRd k hk).2; omega⟩))
    have Fe : Fr Y W We := Fd.grow fE (fun k hk => .inr (by simp only [Bl.one] at hk; omega))
    have cE : We.cell? ⟨W1.heap.size, 0, none⟩ = some (.slice a rs'.length c) := by
      have : We.heap[W1.heap.size]? = _ := xbE
      simp [World.cell?, this]
    have hSe := hSearch We (hR.on (oE.mono rs)) (fun b hb => by have := (hRd b (rs b hb)).2; omega)
    have hmix : Tryz.prog.follows .mixedOrders = true := by kernel_rfl
    gi_wp2_with (refine ⟨trivial, rfl, ?_⟩; gi_at_call 66; refine (CallsIn.inRound lk (callsIn_wide.2 hSe)).mono ?_; clear hSe hSearch; rintro e Wf ⟨rfl, hbf⟩; have fF : Fr Bl.none We Wf := Fr.of_below hbf; have xbF := fF.heap xbE (fun h => h); have yF := fF.heap yE (fun h => h); have x3F := fF.heap x3 (fun h => h))
    have cF : Wf.cell? ⟨W1.heap.size, 0, none⟩ = some (.slice a rs'.length c) := by
      have : Wf.heap[W1.heap.size]? = _ := xbF
      simp [World.cell?, this]
    have yF0 : Wf.cell? ⟨W.heap.size, 0, none⟩ = some (.func (.yield l) #[] #[]) := by simp [World.cell?, yF]
    have zF := fF.size
    have hYjR : ∀ k, Rd k → ¬ Yj k := fun k hk h => (Gd k h).elim (hRd k hk).1 (fun h' => by have := (hRd k hk).2; omega)
    have fD : Fr Bl.none We Wf.drew := fF.drew
    have oF : On Rd w Wf.drew := oE.trans (fD.on (fun k hk => ⟨by have := (hRd k hk).2; omega, fun h => h⟩))
    have hJf := sJ _ _ _ _ hJe (fD.on (fun k hk => ⟨lJ _ _ _ hJe k hk, fun h => h⟩))
    have Ff : Fr Y W Wf.drew := Fe.trans (fD.mono (fun _ h => h.elim))
    have hlen : (rs'.take i).length = i := by rw [List.length_take]; omega
    have hTl := tell_any l (overE es cs) J Jx sJ lJ Y W hY a c (rs'.take i) S dn ((if fb = true then [] else [x]) ++ t) Yj Wf.drew HT.out ((hrow _ (hR.on (oF.mono rs))).head) (fun b hb => ⟨hYjR b (rs b hb), by have := (hRd b (rs b hb)).2; have := fD.size; omega⟩) (by omega) (by omega) hJf Ff Gd
    rw [hlen] at hTl
    have hTl2 : CallsIn Fence.wide 0 Tryz.prog 154 #[.slice a i c, .func (.yield l) #[] #[]] Wf.drew (fun e W' => ∃ b, e = .returned (.bool b) ∧ Hid (TellR J Jx (overE es cs) dn (tellE (rs'.take i)) Yj Wf.drew (.returned (.bool b)) W')) := by
      refine hTl.mono ?_
      rintro e W' hT
      rcases id hT with ⟨rfl, _⟩ | ⟨rfl, _⟩
      · exact ⟨true, rfl, hT⟩
      · exact ⟨false, rfl, hT⟩
    have hil : (i : Int) ≤ (c : Int) := by omega
    have hil2 : (i : Int) ≤ (rs'.length : Int) := by omega
    clear hTl hlen m0 m1 m2 m3
    gi_region_with_o (refine ⟨trivial, rfl, ?_⟩; gi_at_call 154; refine (CallsIn.inRound lk hTl2).mono ?_; clear hTl2; rintro e Wg ⟨b, rfl, HTL⟩)
    all_goals
      have hgrow : ∀ Y5, Grows Wf.drew Yj Y5 → Grows We Y2 (fun k => Y5 k ∨ k = br) := fun Y5 hG5 k hk => by
        rcases hk with hk | rfl
        · rcases hG5 k hk with h | h
          · exact .inl ((hYi k).2 (.inl h))
          · exact .inr (Nat.le_trans fD.size h)
        · exact .inl ((hYi _).2 (.inr rfl))
      have hfr2 : ∀ Wx, Fr Yj Wf.drew Wx → Fr Y2 We Wx := fun Wx h => (fD.mono (fun _ h => h.elim)).trans (h.mono (fun k hk => .inl ((hYi k).2 (.inl hk))))
      cases b
      · rcases HTL.out with ⟨hb, _⟩ | ⟨_, Y5, pp, hp, hne, hJ5, hF5, hG5⟩
        · simp at hb
        · clear HTL
          have xg := hF5.heap (show Wf.drew.heap[br]? = _ from xbF) hnb
          gi_wp2
          refine ⟨fun k => Y5 k ∨ k = br, ⟨rfl, Y5, pp, hp, hne, hJ5, fun k h => .inl h, ?_⟩, hfr2 _ hF5, hgrow _ hG5⟩
          rintro k (hk | rfl)
          · exact lJx _ _ _ hJ5 k hk
          · exact (Array.getElem?_eq_some_iff.1 xg).1
      · rcases HTL.out with ⟨_, Y5, hJ5, hF5, hG5⟩ | ⟨hb, _⟩
        · clear HTL
          have xg := hF5.heap (show Wf.drew.heap[br]? = _ from xbF) hnb
          have cg : Wg.cell? ⟨W1.heap.size, 0, none⟩ = some (.slice a rs'.length c) := by
            have : Wg.heap[W1.heap.size]? = _ := xg
            simp [World.cell?, this]
          have gfr : ∀ k, Wg.frozen? ⟨W1.heap.size, k, none⟩ = false := free_of (show Wg.heap[W1.heap.size]? = _ from xg)
          have hn5 : ¬ Y5 br := fun h => (hG5 _ h).elim hnb (fun h' => by have h1 : Wf.heap.size ≤ W1.heap.size := h'; have h2 : W1.heap.size < Wd.heap.size := hbr; omega)
          have hYw : ¬ Yj W.heap.size := fun h => (hGd _ ((hYi _).2 (.inl h))).elim (fun h' => h'.elim (fun h' => by have := lY _ h'; omega) (fun h' => by have h'' : W.heap.size = W1.heap.size := h'; omega)) (fun h' => by omega)
          have hYd : ¬ Yj Wd.heap.size := fun h => by have := lYj _ h; omega
          rcases hsh with ⟨rfl, rfl⟩ | ⟨rb, ro, rfl⟩
          · obtain rfl : rs' = [] := List.eq_nil_of_length_eq_zero (by omega)
            obtain rfl : i = 0 := by simpa using hile
            obtain ⟨Wh, hWh⟩ : ∃ Wh, Wg.setCell ⟨W1.heap.size, 0, none⟩ (.slice none (0) (0)) = Wh := ⟨_, rfl⟩
            have fh : Fr (Bl.one br) Wg Wh := hWh ▸ (Fr.refl (Bl.one br) Wg).setCell (p := ⟨W1.heap.size, 0, none⟩) (.inl rfl) _
            have xh : Wh.heap[br]? = some (.cells #[.slice none (0) (0)] 80) := (by rw [← hWh]; simpa using set_of (show Wg.heap[W1.heap.size]? = _ from xg) 0 (.slice none (0) (0)))
            have yg := hF5.heap (show Wf.drew.heap[W.heap.size]? = _ from yF) hYw
            have yh := fh.heap yg (fun h => by have h' : W.heap.size = W1.heap.size := h; omega)
            have yh0 : Wh.cell? ⟨W.heap.size, 0, none⟩ = some (.func (.yield l) #[] #[]) := (by simp [World.cell?, yh])
            have x3g := hF5.heap (show Wf.drew.heap[Wd.heap.size]? = _ from x3F) hYd
            have x3h := fh.heap x3g (fun h => by have h' : Wd.heap.size = W1.heap.size := h; have h2 : W1.heap.size < Wd.heap.size := hbr; omega)
            obtain ⟨n0, n1, n2, n3⟩ := box4 x3h
            have hJh := sJ _ _ _ _ hJ5 (fh.on (fun k hk => ⟨lJ _ _ _ hJ5 k hk, fun h => by have h' : k = br := h; rw [h'] at hk; exact hn5 hk⟩))
            have Fgh : Fr Y2 We Wh := (hfr2 _ hF5).trans (fh.mono (fun k hk => .inl ((hYi k).2 (.inr hk))))
            have hrow' : ∀ Wx, RowOn Wx S ca (cs.flatMap Ch.cells) → RowOn Wx S none ((([] : List Ch).drop 0).flatMap Ch.cells) := (fun Wx _ => .inl rfl)
            have HN : Hid ((0) = (([] : List Ch).drop 0).length) := (by show _ = _; simp)
            have HC : Hid ((0) ≤ (0)) := (by show _ ≤ _; omega)
            cases fb
            · have heq : overE es cs = (dn ++ tellE (([] : List Ch).take 0)) ++ x :: t := (by rw [HT.out]; simp)
              have HEQ : Hid (overE es cs = (dn ++ tellE (([] : List Ch).take 0)) ++ x :: t) := heq
              clear heq
              have FWh : Fr Y W Wh := (Ff.grow hF5 Gd).grow fh (fun k hk => .inr (by have h' : k = W1.heap.size := hk; omega))
              have GW5 : Grows W Y Y5 := Gd.trans Ff.size hG5
              obtain ⟨fn, tmps, assign, body, hy, hRr⟩ := hY _ x _ #[.agg #[.string x.e.key, .string x.e.val, .int .i64 x.e.size, .int .i64 x.e.over]] Bl.none Y5 Wh HEQ.out hJh rfl (fun _ h => h.elim) FWh GW5
              gi_wp2
              refine ⟨rfl, (roundIn_in lk (roundIn_any hRr)).mono ?_⟩
              clear hy hRr
              rintro e Wi (⟨rfl, Y6, hJ6, hF6, hG6⟩ | ⟨rfl, Y6, hJ6, hF6, hG6⟩)
              · have xi := hF6.heap xh hn5
                have hn6 : ¬ Y6 br := fun h => (hG6 _ h).elim hn5 (fun h' => by have h1 : Wh.heap.size ≤ W1.heap.size := h'; have := (Array.getElem?_eq_some_iff.1 xh).1; have h2 : W1.heap.size < Wh.heap.size := this; omega)
                gi_wp2
                refine ⟨fun k => Y6 k ∨ k = br, ⟨Y6, none, 0, ?_, fun k => Iff.rfl, hn6, ?_, ?_, ?_, ?_⟩, ?_, ?_⟩
                · rw [HS.out]; simpa using hJ6
                · rw [HS.out]; refine xi.trans ?_; exact congrArg (fun n => some (Obj.cells #[Value.slice _ n _] 80)) HN.out
                · rw [HS.out, ← HN.out]; exact HC.out
                · rw [HS.out]; exact hrow'
                · exact .inl ⟨rfl, rfl⟩
                · exact Fgh.grow hF6 (fun k hk => hgrow _ hG5 k (.inl hk))
                · intro k hk
                  rcases hk with hk | rfl
                  · rcases hG6 k hk with h | h
                    · exact hgrow _ hG5 k (.inl h)
                    · exact .inr (Nat.le_trans Fgh.size h)
                  · exact .inl ((hYi _).2 (.inr rfl))
              · have xi := hF6.heap xh hn5
                gi_wp2
                refine ⟨fun k => Y6 k ∨ k = br, ⟨rfl, Y6, _, by rw [HEQ.out]; exact ⟨t, by simp⟩, by simp, hJ6, fun k h => .inl h, ?_⟩, Fgh.grow hF6 (fun k hk => hgrow _ hG5 k (.inl hk)), ?_⟩
                · rintro k (hk | rfl)
                  · exact lJx _ _ _ hJ6 k hk
                  · exact (Array.getElem?_eq_some_iff.1 xi).1
                · intro k hk
                  rcases hk with hk | rfl
                  · rcases hG6 k hk with h | h
                    · exact hgrow _ hG5 k (.inl h)
                    · exact .inr (Nat.le_trans Fgh.size h)
                  · exact .inl ((hYi _).2 (.inr rfl))
            · gi_wp2
              refine ⟨fun _ h => (by cases h), ?_⟩
              gi_wp2
              refine ⟨fun k => Y5 k ∨ k = br, ⟨Y5, none, 0, ?_, fun k => Iff.rfl, hn5, ?_, ?_, ?_, ?_⟩, Fgh, hgrow _ hG5⟩
              · rw [HS.out]; simpa using hJh
              · rw [HS.out]; refine xh.trans ?_; exact congrArg (fun n => some (Obj.cells #[Value.slice _ n _] 80)) HN.out
              · rw [HS.out, ← HN.out]; exact HC.out
              · rw [HS.out]; exact hrow'
              · exact .inl ⟨rfl, rfl⟩
          · by_cases hci : c = i
            · subst hci
              obtain ⟨Wh, hWh⟩ : ∃ Wh, Wg.setCell ⟨W1.heap.size, 0, none⟩ (.slice (some ⟨rb, ro, none⟩) (0) (0)) = Wh := ⟨_, rfl⟩
              have fh : Fr (Bl.one br) Wg Wh := hWh ▸ (Fr.refl (Bl.one br) Wg).setCell (p := ⟨W1.heap.size, 0, none⟩) (.inl rfl) _
              have xh : Wh.heap[br]? = some (.cells #[.slice (some ⟨rb, ro, none⟩) (0) (0)] 80) := (by rw [← hWh]; simpa using set_of (show Wg.heap[W1.heap.size]? = _ from xg) 0 (.slice (some ⟨rb, ro, none⟩) (0) (0)))
              have yg := hF5.heap (show Wf.drew.heap[W.heap.size]? = _ from yF) hYw
              have yh := fh.heap yg (fun h => by have h' : W.heap.size = W1.heap.size := h; omega)
              have yh0 : Wh.cell? ⟨W.heap.size, 0, none⟩ = some (.func (.yield l) #[] #[]) := (by simp [World.cell?, yh])
              have x3g := hF5.heap (show Wf.drew.heap[Wd.heap.size]? = _ from x3F) hYd
              have x3h := fh.heap x3g (fun h => by have h' : Wd.heap.size = W1.heap.size := h; have h2 : W1.heap.size < Wd.heap.size := hbr; omega)
              obtain ⟨n0, n1, n2, n3⟩ := box4 x3h
              have hJh := sJ _ _ _ _ hJ5 (fh.on (fun k hk => ⟨lJ _ _ _ hJ5 k hk, fun h => by have h' : k = br := h; rw [h'] at hk; exact hn5 hk⟩))
              have Fgh : Fr Y2 We Wh := (hfr2 _ hF5).trans (fh.mono (fun k hk => .inl ((hYi k).2 (.inr hk))))
              have hrow' : ∀ Wx, RowOn Wx S ca (cs.flatMap Ch.cells) → RowOn Wx S (some ⟨rb, ro, none⟩) ((rs'.drop c).flatMap Ch.cells) := (fun Wx h => .inl (by rw [List.drop_eq_nil_of_le (by omega)]; rfl))
              have HN : Hid ((0) = (rs'.drop c).length) := (by show _ = _; simp; omega)
              have HC : Hid ((0) ≤ (0)) := (by show _ ≤ _; omega)
              cases fb
              · have heq : overE es cs = (dn ++ tellE (rs'.take c)) ++ x :: t := (by rw [HT.out]; simp)
                have HEQ : Hid (overE es cs = (dn ++ tellE (rs'.take c)) ++ x :: t) := heq
                clear heq
                have FWh : Fr Y W Wh := (Ff.grow hF5 Gd).grow fh (fun k hk => .inr (by have h' : k = W1.heap.size := hk; omega))
                have GW5 : Grows W Y Y5 := Gd.trans Ff.size hG5
                obtain ⟨fn, tmps, assign, body, hy, hRr⟩ := hY _ x _ #[.agg #[.string x.e.key, .string x.e.val, .int .i64 x.e.size, .int .i64 x.e.over]] Bl.none Y5 Wh HEQ.out hJh rfl (fun _ h => h.elim) FWh GW5
                gi_wp2
                refine ⟨rfl, (roundIn_in lk (roundIn_any hRr)).mono ?_⟩
                clear hy hRr
                rintro e Wi (⟨rfl, Y6, hJ6, hF6, hG6⟩ | ⟨rfl, Y6, hJ6, hF6, hG6⟩)
                · have xi := hF6.heap xh hn5
                  have hn6 : ¬ Y6 br := fun h => (hG6 _ h).elim hn5 (fun h' => by have h1 : Wh.heap.size ≤ W1.heap.size := h'; have := (Array.getElem?_eq_some_iff.1 xh).1; have h2 : W1.heap.size < Wh.heap.size := this; omega)
                  gi_wp2
                  refine ⟨fun k => Y6 k ∨ k = br, ⟨Y6, (some ⟨rb, ro, none⟩), 0, ?_, fun k => Iff.rfl, hn6, ?_, ?_, ?_, ?_⟩, ?_, ?_⟩
                  · rw [HS.out]; simpa using hJ6
                  · rw [HS.out]; refine xi.trans ?_; exact congrArg (fun n => some (Obj.cells #[Value.slice _ n _] 80)) HN.out
                  · rw [HS.out, ← HN.out]; exact HC.out
                  · rw [HS.out]; exact hrow'
                  · exact .inr ⟨_, _, rfl⟩
                  · exact Fgh.grow hF6 (fun k hk => hgrow _ hG5 k (.inl hk))
                  · intro k hk
                    rcases hk with hk | rfl
                    · rcases hG6 k hk with h | h
                      · exact hgrow _ hG5 k (.inl h)
                      · exact .inr (Nat.le_trans Fgh.size h)
                    · exact .inl ((hYi _).2 (.inr rfl))
                · have xi := hF6.heap xh hn5
                  gi_wp2
                  refine ⟨fun k => Y6 k ∨ k = br, ⟨rfl, Y6, _, by rw [HEQ.out]; exact ⟨t, by simp⟩, by simp, hJ6, fun k h => .inl h, ?_⟩, Fgh.grow hF6 (fun k hk => hgrow _ hG5 k (.inl hk)), ?_⟩
                  · rintro k (hk | rfl)
                    · exact lJx _ _ _ hJ6 k hk
                    · exact (Array.getElem?_eq_some_iff.1 xi).1
                  · intro k hk
                    rcases hk with hk | rfl
                    · rcases hG6 k hk with h | h
                      · exact hgrow _ hG5 k (.inl h)
                      · exact .inr (Nat.le_trans Fgh.size h)
                    · exact .inl ((hYi _).2 (.inr rfl))
              · gi_wp2
                refine ⟨fun _ h => (by cases h), ?_⟩
                gi_wp2
                refine ⟨fun k => Y5 k ∨ k = br, ⟨Y5, (some ⟨rb, ro, none⟩), 0, ?_, fun k => Iff.rfl, hn5, ?_, ?_, ?_, ?_⟩, Fgh, hgrow _ hG5⟩
                · rw [HS.out]; simpa using hJh
                · rw [HS.out]; refine xh.trans ?_; exact congrArg (fun n => some (Obj.cells #[Value.slice _ n _] 80)) HN.out
                · rw [HS.out, ← HN.out]; exact HC.out
                · rw [HS.out]; exact hrow'
                · exact .inr ⟨_, _, rfl⟩
            · have hci' : ¬ (i : Int) = (c : Int) := by omega
              obtain ⟨Wh, hWh⟩ : ∃ Wh, Wg.setCell ⟨W1.heap.size, 0, none⟩ (.slice (some ⟨rb, ro + i * 3, none⟩) (rs'.length - i) (c - i)) = Wh := ⟨_, rfl⟩
              have fh : Fr (Bl.one br) Wg Wh := hWh ▸ (Fr.refl (Bl.one br) Wg).setCell (p := ⟨W1.heap.size, 0, none⟩) (.inl rfl) _
              have xh : Wh.heap[br]? = some (.cells #[.slice (some ⟨rb, ro + i * 3, none⟩) (rs'.length - i) (c - i)] 80) := (by rw [← hWh]; simpa using set_of (show Wg.heap[W1.heap.size]? = _ from xg) 0 (.slice (some ⟨rb, ro + i * 3, none⟩) (rs'.length - i) (c - i)))
              have yg := hF5.heap (show Wf.drew.heap[W.heap.size]? = _ from yF) hYw
              have yh := fh.heap yg (fun h => by have h' : W.heap.size = W1.heap.size := h; omega)
              have yh0 : Wh.cell? ⟨W.heap.size, 0, none⟩ = some (.func (.yield l) #[] #[]) := (by simp [World.cell?, yh])
              have x3g := hF5.heap (show Wf.drew.heap[Wd.heap.size]? = _ from x3F) hYd
              have x3h := fh.heap x3g (fun h => by have h' : Wd.heap.size = W1.heap.size := h; have h2 : W1.heap.size < Wd.heap.size := hbr; omega)
              obtain ⟨n0, n1, n2, n3⟩ := box4 x3h
              have hJh := sJ _ _ _ _ hJ5 (fh.on (fun k hk => ⟨lJ _ _ _ hJ5 k hk, fun h => by have h' : k = br := h; rw [h'] at hk; exact hn5 hk⟩))
              have Fgh : Fr Y2 We Wh := (hfr2 _ hF5).trans (fh.mono (fun k hk => .inl ((hYi k).2 (.inr hk))))
              have hrow' : ∀ Wx, RowOn Wx S ca (cs.flatMap Ch.cells) → RowOn Wx S (some ⟨rb, ro + i * 3, none⟩) ((rs'.drop i).flatMap Ch.cells) := (fun Wx h => (hrow Wx h).cut (fun _ => rfl))
              have HN : Hid ((rs'.length - i) = (rs'.drop i).length) := (by show _ = _; simp)
              have HC : Hid ((rs'.length - i) ≤ (c - i)) := (by show _ ≤ _; omega)
              cases fb
              · have heq : overE es cs = (dn ++ tellE (rs'.take i)) ++ x :: t := (by rw [HT.out]; simp)
                have HEQ : Hid (overE es cs = (dn ++ tellE (rs'.take i)) ++ x :: t) := heq
                clear heq
                have FWh : Fr Y W Wh := (Ff.grow hF5 Gd).grow fh (fun k hk => .inr (by have h' : k = W1.heap.size := hk; omega))
                have GW5 : Grows W Y Y5 := Gd.trans Ff.size hG5
                obtain ⟨fn, tmps, assign, body, hy, hRr⟩ := hY _ x _ #[.agg #[.string x.e.key, .string x.e.val, .int .i64 x.e.size, .int .i64 x.e.over]] Bl.none Y5 Wh HEQ.out hJh rfl (fun _ h => h.elim) FWh GW5
                gi_wp2
                refine ⟨rfl, (roundIn_in lk (roundIn_any hRr)).mono ?_⟩
                clear hy hRr
                rintro e Wi (⟨rfl, Y6, hJ6, hF6, hG6⟩ | ⟨rfl, Y6, hJ6, hF6, hG6⟩)
                · have xi := hF6.heap xh hn5
                  have hn6 : ¬ Y6 br := fun h => (hG6 _ h).elim hn5 (fun h' => by have h1 : Wh.heap.size ≤ W1.heap.size := h'; have := (Array.getElem?_eq_some_iff.1 xh).1; have h2 : W1.heap.size < Wh.heap.size := this; omega)
                  gi_wp2
                  refine ⟨fun k => Y6 k ∨ k = br, ⟨Y6, (some ⟨rb, ro + i * 3, none⟩), c - i, ?_, fun k => Iff.rfl, hn6, ?_, ?_, ?_, ?_⟩, ?_, ?_⟩
                  · rw [HS.out]; simpa using hJ6
                  · rw [HS.out]; refine xi.trans ?_; exact congrArg (fun n => some (Obj.cells #[Value.slice _ n _] 80)) HN.out
                  · rw [HS.out, ← HN.out]; exact HC.out
                  · rw [HS.out]; exact hrow'
                  · exact .inr ⟨_, _, rfl⟩
                  · exact Fgh.grow hF6 (fun k hk => hgrow _ hG5 k (.inl hk))
                  · intro k hk
                    rcases hk with hk | rfl
                    · rcases hG6 k hk with h | h
                      · exact hgrow _ hG5 k (.inl h)
                      · exact .inr (Nat.le_trans Fgh.size h)
                    · exact .inl ((hYi _).2 (.inr rfl))
                · have xi := hF6.heap xh hn5
                  gi_wp2
                  refine ⟨fun k => Y6 k ∨ k = br, ⟨rfl, Y6, _, by rw [HEQ.out]; exact ⟨t, by simp⟩, by simp, hJ6, fun k h => .inl h, ?_⟩, Fgh.grow hF6 (fun k hk => hgrow _ hG5 k (.inl hk)), ?_⟩
                  · rintro k (hk | rfl)
                    · exact lJx _ _ _ hJ6 k hk
                    · exact (Array.getElem?_eq_some_iff.1 xi).1
                  · intro k hk
                    rcases hk with hk | rfl
                    · rcases hG6 k hk with h | h
                      · exact hgrow _ hG5 k (.inl h)
                      · exact .inr (Nat.le_trans Fgh.size h)
                    · exact .inl ((hYi _).2 (.inr rfl))
              · gi_wp2
                refine ⟨fun _ h => (by cases h), ?_⟩
                gi_wp2
                refine ⟨fun k => Y5 k ∨ k = br, ⟨Y5, (some ⟨rb, ro + i * 3, none⟩), c - i, ?_, fun k => Iff.rfl, hn5, ?_, ?_, ?_, ?_⟩, Fgh, hgrow _ hG5⟩
                · rw [HS.out]; simpa using hJh
                · rw [HS.out]; refine xh.trans ?_; exact congrArg (fun n => some (Obj.cells #[Value.slice _ n _] 80)) HN.out
                · rw [HS.out, ← HN.out]; exact HC.out
                · rw [HS.out]; exact hrow'
                · exact .inr ⟨_, _, rfl⟩
        · simp at hb
  · rintro D Y2 Wg hD hYD ⟨Yj, a, c, hJg, hYi, hnb, xb, hlc, hrow, hsh⟩ hFg hGg hDW
    have xbg : Wg.heap[W1.heap.size]? = _ := xb
    have cg : Wg.cell? ⟨W1.heap.size, 0, none⟩ = some (.slice a (foldO es cs).2.length c) := by simp [World.cell?, xbg]
    have yg := hFg.heap y2 (fun h => h.elim (fun h => by have := lY _ h; omega) (fun h => by simp only [br] at h; omega))
    have yg0 : Wg.cell? ⟨W.heap.size, 0, none⟩ = some (.func (.yield l) #[] #[]) := by simp [World.cell?, yg]
    have FW : Fr Y W Wg := F2.grow hFg (fun k hk => hk.elim .inl (fun h => .inr (by subst h; show W.heap.size ≤ W1.heap.size; omega)))
    have GW : Grows W Y Yj := fun k hk => by
      rcases hGg k ((hYi k).2 (.inl hk)) with (h | h) | h
      · exact .inl h
      · exact .inr (by subst h; show W.heap.size ≤ W1.heap.size; omega)
      · exact .inr (by omega)
    have og : On Rd w Wg := o2.trans (hFg.on (fun k hk => ⟨by have := (hRd k hk).2; omega, fun h => h.elim (hRd k hk).1 (hRb k hk)⟩))
    obtain ⟨hrise, hrl⟩ := foldO_rise hr es
    have hYjR : ∀ k, Rd k → ¬ Yj k := fun k hk h => (GW k h).elim (hRd k hk).1 (fun h' => by have := (hRd k hk).2; omega)
    have hTl := tell_any l (overE es cs) J Jx sJ lJ Y W hY a c (foldO es cs).2 S (foldO es cs).1 [] Yj Wg (by simp [overE]) (hrow Wg (hR.on (og.mono rs))) (fun b hb => ⟨hYjR b (rs b hb), by have := (hRd b (rs b hb)).2; have := FW.size; omega⟩) (by omega) hlc hJg FW GW
    have hDY : ¬ Yj D := fun h => hYD ((hYi D).2 (.inl h))
    gi_wp2_with (refine ⟨trivial, rfl, ?_⟩; gi_at_call 154; refine hTl.mono ?_; clear hTl; rintro e Wh (⟨rfl, Y5, hJ5, hF5, hG5⟩ | ⟨rfl, Y5, pp, hp, hne, hJ5, hF5, hG5⟩))
    all_goals
      have hDh := hF5.heap hDW hDY
      have hD5 : ¬ Y5 D := fun h => (hG5 _ h).elim hDY (fun h' => by have := (Array.getElem?_eq_some_iff.1 hDW).1; omega)
      have FF : Fr Y W (Wh.putObj D (.deferred none)) := (FW.grow hF5 GW).putObj (.inr (by omega)) _
      have GG : Grows W Y Y5 := GW.trans FW.size hG5
      have oo : On Y5 Wh (Wh.putObj D (.deferred none)) := (On.refl _ _).putObj hD5 _
    · gi_wp2
      exact ends0_1 rfl hDh ⟨⟨_, rfl⟩, Y5, FF, GG, .inl (sJ _ _ _ _ hJ5 oo)⟩
    · gi_wp2
      exact ends0_1 rfl hDh ⟨⟨_, rfl⟩, Y5, FF, GG, .inr ⟨pp, hp, hne, sJx _ _ _ _ hJ5 oo⟩⟩
  · rintro D c pre Y2 Wg hD hYD hpre hne ⟨rfl, Yj, pp, h1, h2, h3, h4, h5⟩ hFg hGg hDW
    gi_wp2
    refine ends0_1 rfl hDW ⟨⟨_, rfl⟩, Yj, ?_, ?_, .inr ⟨pp, h1, h2, sJx _ _ _ _ h3 ((On.refl _ _).putObj (fun h => hYD (h4 _ h)) _)⟩⟩
    · exact (F2.grow hFg (fun k hk => hk.elim .inl (fun h => .inr (by subst h; show W.heap.size ≤ W1.heap.size; omega)))).putObj (.inr (by omega)) _
    · intro k hk
      rcases hGg k (h4 k hk) with (h | h) | h
      · exact .inl h
      · exact .inr (by subst h; show W.heap.size ≤ W1.heap.size; omega)
      · exact .inr (by omega)
end Go.Proofs.YtngpplmndpmgiaaGreat.Tree
