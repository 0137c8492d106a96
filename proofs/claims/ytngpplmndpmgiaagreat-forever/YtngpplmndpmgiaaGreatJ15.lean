/-
  Joined: Joined, Seqs, PKids.
-/
import Derived.Test.YtngpplmndpmgiaaGreatJ14
import Derived.Test.YtngpplmndpmgiaaGreatJ12
import Derived.Test.YtngpplmndpmgiaaGreatJ9
import Derived.Test.YtngpplmndpmgiaaGreatJ13
namespace Go.Proofs.YtngpplmndpmgiaaGreat.Tree
open Go.RowKit Go.Proofs.YtngpplmndpmgiaaGreat.Pages
set_option linter.unusedSimpArgs false
set_option linter.unusedVariables false
theorem small0 {fs : Fs} {n : NT} (hn : Ok0 fs n) (hp : Placed n) {m : MN} {S : Bl} {w : World} (hm : NdOn w S (nd0 n) m) (hS : ∀ b, S b → b < w.heap.size) (hlen : n.ents0.length ≤ 1000) :
    Calls Tryz.prog 180 #[.agg #[.string m.lo, .string m.hi, .int .i64 m.place, .slice m.ea m.en m.ec, .slice m.ka m.kn m.kc]] w fun e w' => e = .returned (.bool (smallT n)) ∧ Below w.heap.size w w' := by
  cases n with
  | bran => exact hn.elim
  | leaf s es =>
    obtain ⟨_, _, _, _, _, ms, h1, h2, h3, h4, h5, h6, h7, h8, h9, h10, h11⟩ := hm
    have e0 : ms = [] := List.eq_nil_of_length_eq_zero h10
    subst e0
    refine (tooSmall_any m es [] S w h4 h5 h6 h7 h8 h9 hS (by have : es.length ≤ 1000 := hlen; omega) (by simp) (fun x hx => good_fits (hn.2.2.2.2 x hx)) (by simp)).mono ?_
    rintro e w' ⟨rfl, hb⟩
    refine ⟨?_, hb⟩
    refine congrArg (fun b => Ending.returned (.bool b)) ?_
    rw [h3, Bool.eq_iff_iff]; simp [smallT, tot_nil]; exact decide_eq_true_iff
  | kept t s =>
    obtain ⟨_, _, _, _, _, ms, h1, h2, h3, h4, h5, h6, h7, h8, h9, h10, h11⟩ := hm
    have e0 : ms = [] := List.eq_nil_of_length_eq_zero h10
    subst e0
    refine (tooSmall_any m [] [] S w h4 h5 h6 h7 h8 h9 hS (by simp) (by simp) (by simp) (by simp)).mono ?_
    rintro e w' ⟨rfl, hb⟩
    refine ⟨?_, hb⟩
    have h0 : 0 < t.place := hp t s rfl
    have h3' : m.place = t.place := h3
    have : (m.place == 0) = false := by rw [h3']; simp; omega
    rw [this]; rfl
theorem foldl_take1 {α β : Type} (f : β → α → β) (b : β) (l : List α) (j : Nat) (h : j < l.length) : (l.take (j + 1)).foldl f b = f ((l.take j).foldl f b) l[j] := by
  rw [List.take_succ_eq_append_getElem h, List.foldl_append]; rfl
abbrev accP (ns : List NT) (j : Nat) : List NT := (ns.take j).foldl (joinS tog0) []
def Apart (S : Bl) (n : Nat) (v : Value) (w : World) : Bl := fun k => (S k ∨ (n ≤ k ∧ k < w.heap.size)) ∧ v.ownBlock ≠ some k
theorem nds_app {S : Bl} {n0 : Nat} {wr wX w3 : World} {va vb v3 : Value} {E : TypeId} {z n m : Nat} {xs news : List Value} {acc new : List Nd} {rs msn : List MN} {Q : Bl} (hS : ∀ b, S b → b < wr.heap.size) (hN : NdsOn wr (Apart S n0 va wr) acc rs) (hon : Below wr.heap.size wr wX) (hnew : NdsOn wX Q new msn) (hQ : ∀ k, Q k → (S k ∨ n0 ≤ k) ∧ k < wX.heap.size ∧ va.ownBlock ≠ some k) (hvb : vb.ownBlock = va.ownBlock) (A : AppR E z vb n xs news m wX v3 w3) :
    NdsOn w3 (Apart S n0 v3 w3) (acc ++ new) (rs ++ msn) := by
  have hsz := hon.size
  have hsz3 := A.fr.size
  have key : ∀ k, k < wX.heap.size → va.ownBlock ≠ some k → v3.ownBlock ≠ some k := fun k h1 h2 h3 => by
    rcases A.lies k h3 with h | h
    · exact h2 (hvb ▸ h)
    · omega
  have hApL : ∀ b, Apart S n0 va wr b → b < wr.heap.size := fun b h => h.1.elim (hS b) (fun h => h.2)
  refine NdsOn.append ?_ ?_
  · have h1 := hN.on (On.of_below hon hApL)
    have h2 := h1.on (A.fr.on (fun k hk => ⟨Nat.lt_of_lt_of_le (hApL k hk) hsz, fun e => hk.2 (hvb ▸ e)⟩))
    refine h2.mono (fun k hk => ⟨hk.1.imp id (fun h => ⟨h.1, by have := h.2; omega⟩), key k (Nat.lt_of_lt_of_le (hApL k hk) hsz) hk.2⟩)
  · have h2 := hnew.on (A.fr.on (fun k hk => ⟨(hQ k hk).2.1, fun e => (hQ k hk).2.2 (hvb ▸ e)⟩))
    refine h2.mono (fun k hk => ⟨(hQ k hk).1.imp id (fun h => ⟨h, by have := (hQ k hk).2.1; omega⟩), key k (hQ k hk).2.1 (hQ k hk).2.2⟩)
theorem own_some {w : World} {e : TypeId} {z : Nat} {v : Value} {n : Nat} {xs : List Value} (h : w.ownsRow 0 e z v n xs) (hn : 0 < n) : ∃ g c, v = .slice (some ⟨g, 0, none⟩) n c ∧ g < w.heap.size ∧ ∀ j u, xs[j]? = some u → w.cell? ((⟨g, 0, none⟩ : Addr).add j) = some u := by
  have h0 := h
  obtain ⟨h1, h2⟩ := h
  rcases h2 with ⟨_, h4⟩ | ⟨g, cap, cur, h3, hb, hg, hnc, hcm, hcs, htake⟩
  · omega
  · refine ⟨g, cap, h3, (Array.getElem?_eq_some_iff.1 hg).1, fun j u hu => ?_⟩
    subst h3
    obtain ⟨g', e1, _, _, e2⟩ := own_at h0 hu
    simp only [Option.some.injEq, Addr.mk.injEq, and_true] at e1
    subst e1
    have e : (⟨g, 0, none⟩ : Addr).add j = ⟨g, j, none⟩ := by unfold Addr.add; split <;> simp_all
    rw [e]; exact e2
theorem tog0_ne {fs : Fs} {a b : NT} (ha : Ok0 fs a) (hb : Ok0 fs b) : tog0 a b ≠ [] := by
  intro h
  have hg : ∀ x ∈ a.ents0 ++ b.ents0, x.good fs := fun x hx => (List.mem_append.1 hx).elim ((ok0_ents ha).2.2 x) ((ok0_ents hb).2.2 x)
  have := leavesP_ents hg
  rw [tog0] at h
  rw [h] at this
  have h0 : a.ents0 ++ b.ents0 = [] := this.symm
  exact (ok0_ents ha).1 (List.append_eq_nil_iff.1 h0).1
set_option maxRecDepth 100000 in
set_option maxHeartbeats 4000000 in
theorem joined0 (β : Nat) (sv lv : Value) (fs : Fs) (hl : (fs.life == 0) = false) (root : Int) (ca : Option Addr) (cn cc : Nat) (ns : List NT) (ms : List MN) (na : Option Addr) (nc : Nat) (S : Bl) (w : World) (hf : FileAt w β sv lv fs) (hns : ∀ j, j ≤ ns.length → ∀ n ∈ accP ns j ++ ns.drop j, Ok0 fs n ∧ Placed n ∧ n.ents0.length ≤ 1000) (hcount : ∀ j, j ≤ ns.length → (accP ns j).length ≤ 1000000)
    (hR : RowOn w S na (ncells ms)) (hm : NdsOn w S (ns.map nd0) ms) (hS : ∀ b, S b → b < w.heap.size) (hn : ns.length ≤ 1000000) (hnc : ns.length ≤ nc) :
    Calls Tryz.prog 171 #[.agg #[.pointer (some ⟨β, 0, none⟩), .int .i64 root, .slice ca cn cc], .slice na ns.length nc] w fun e w' =>
      ∃ v rs, e = .returned v ∧ w'.ownsRow 0 220 5 v rs.length (ncells rs) ∧ NdsOn w' (Apart S w.heap.size v w') ((joinP tog0 ns).map nd0) rs ∧ Below w.heap.size w w' ∧ ∀ k, v.ownBlock = some k → w.heap.size ≤ k := by
  have hml : ms.length = ns.length := by rw [hm.1, List.length_map]
  obtain ⟨W1, hW1⟩ : ∃ W1, w.alloc (.cells #[.pointer (some ⟨β, 0, none⟩), .int .i64 root, .slice ca cn cc] 82) = W1 := ⟨_, rfl⟩
  have B1 : Below w.heap.size w W1 := hW1 ▸ (Below.refl _ _).alloc (Nat.le_refl _) _
  have t1 : W1.heap[w.heap.size]? = some (.cells #[.pointer (some ⟨β, 0, none⟩), .int .i64 root, .slice ca cn cc] 82) := hW1 ▸ heap_new w _
  have z1 := (Array.getElem?_eq_some_iff.1 t1).1
  go_enter Tryz.func171, Tryz.ntmps171
  go_wp2
  go_loopw [5, 11] (fun a b wr => ∃ (j : Nat) (rs : List MN), b = .int .i64 j ∧ j ≤ ns.length ∧ wr.ownsRow 0 220 5 a rs.length (ncells rs) ∧ NdsOn wr (Apart S w.heap.size a wr) ((accP ns j).map nd0) rs ∧ Below (w.heap.size + 1) W1 wr ∧ ∀ k, a.ownBlock = some k → w.heap.size + 1 ≤ k) (fun _ b _ => ns.length - (intOf b).toNat)
  case atStart => exact ⟨0, [], rfl, Nat.zero_le _, World.ownsRow_nil _ _ _ _, NdsOn.nil _ _, hW1 ▸ Below.refl _ _, by simp [Value.ownBlock]⟩
  case round =>
    obtain ⟨j, rs, rfl, hj, ho, hN, hB, hk⟩ := hrel
    obtain ⟨aa, ac, rfl⟩ := own_shape ho
    have zwr := hB.size
    have hwrw : Below w.heap.size w wr := B1.trans (hB.mono (by omega))
    by_cases hlt : j < ns.length
    · obtain ⟨n, hnj⟩ : ∃ n, ns[j] = n := ⟨_, rfl⟩
      obtain ⟨m, hmj⟩ : ∃ m, ms[j]'(by omega) = m := ⟨_, rfl⟩
      have hlt2 : j < ms.length := by omega
      obtain ⟨rb, ro, hna, hrb, n0, n1, n2, n3, n4⟩ := (hR.on (On.of_below hwrw hS)).nod hlt2
      rw [hmj] at n0 n1 n2 n3 n4
      subst hna
      have hnm : NdOn wr S (nd0 n) m := (hm.2 j (nd0 n) m (by rw [List.getElem?_map, List.getElem?_eq_getElem hlt, hnj]; rfl) (by rw [List.getElem?_eq_getElem hlt2, hmj])).on (On.of_below hwrw hS)
      have hnn := hns j hj n (by rw [List.mem_append]; exact .inr (by rw [List.drop_eq_getElem_cons hlt, hnj]; simp))
      obtain ⟨lo, hi, pl, ea, en, ec, ka, kn, kc⟩ := m
      dsimp only at n0 n1 n2 n3 n4
      have hstep : accP ns (j + 1) = joinS tog0 (accP ns j) n := by rw [accP, foldl_take1 _ _ _ _ hlt, hnj]
      have nB := heap_new wr (.cells #[.string lo, .string hi, .int .i64 pl, .slice ea en ec, .slice ka kn kc] 220)
      obtain ⟨q0, q1, q2, q3, q4⟩ := box5 nB
      have hoB := World.ownsRow.alloc (w := wr) ho (.cells #[.string lo, .string hi, .int .i64 pl, .slice ea en ec, .slice ka kn kc] 220)
      have bB : Below wr.heap.size wr (wr.alloc (.cells #[.string lo, .string hi, .int .i64 pl, .slice ea en ec, .slice ka kn kc] 220)) := (Below.refl _ _).alloc (Nat.le_refl _) _
      have hk1 : ∀ k, (Value.slice aa rs.length ac).ownBlock = some k → w.heap.size + 1 ≤ k := hk
      have hSw : ∀ b, S b → b < wr.heap.size := fun b h => Nat.lt_of_lt_of_le (hS b h) hwrw.size
      have hApL : ∀ b, Apart S w.heap.size (.slice aa rs.length ac) wr b → b < wr.heap.size := fun b h => h.1.elim (hSw b) (fun h => h.2)
      rcases List.eq_nil_or_concat rs with rfl | ⟨rs', ml, rfl⟩
      · -- the first
        have hacc : accP ns j = [] := by
          have := hN.1
          rw [List.length_map] at this
          exact List.eq_nil_of_length_eq_zero this.symm
        have HS1 : Hid (accP ns (j + 1) = [n]) := by show _ = _; rw [hstep, hacc]; rfl
        have h01 : IntKind.i64.wrap (((([] : List MN).length : Nat) : Int) - 1) = -1 := by rw [IntKind.wrap_i64]; rfl
        have HA0 : Hid (accP ns j = []) := hacc
        clear hstep hacc
        go_wp2_with (at_builtin; refine wp_app1 (wr.alloc (.cells #[.string lo, .string hi, .int .i64 pl, .slice ea en ec, .slice ka kn kc] 220)) rfl (.tmp 33) (.tmp 35) 217 220 _ 5 88 rfl Tryz.underlying217 infoNode rfl (by decide) (.slice aa 0 ac) 0 (ncells []) rfl hoB [.string lo, .string hi, .int .i64 pl, .slice ea en ec, .slice ka kn kc] (by simp [Act.eval]) rfl (by simp [Value.oneCell']) (by omega) (by omega) ?_; intro v3 w3 A3; obtain ⟨g3, k3, rfl⟩ := A3.shape (by decide))
        have hND := nds_app (new := [nd0 n]) (msn := [⟨lo, hi, pl, ea, en, ec, ka, kn, kc⟩]) hSw hN bB ((NdsOn.one hnm).on (On.of_below bB hSw)) (fun k hk => ⟨.inl hk, by have := hSw k hk; simp; omega, fun e => by have h1 := hk1 k e; have h2 := hS k hk; omega⟩) rfl A3
        refine ⟨⟨j + 1, [⟨lo, hi, pl, ea, en, ec, ka, kn, kc⟩], by go_num, by omega, A3.row, ?_, (hB.trans (bB.mono (by omega))).trans (A3.fr.below (by simp; omega) hk), ?_⟩, by simp [intOf]; omega⟩
        · rw [HS1.out]
          rw [HA0.out] at hND
          exact hND
        · intro k h
          rcases A3.lies k h with h | h
          · exact hk k h
          · simp at h; omega
      · simp only [List.concat_eq_append] at ho hN hoB hk hk1 hApL ⊢
        obtain ⟨L, hL⟩ : ∃ L, rs'.length = L := ⟨_, rfl⟩
        have hLr : (rs' ++ [ml]).length = L + 1 := by simp [hL]
        rw [hLr] at ho hN hoB hk hk1 hApL
        simp only [hLr]
        have hal := hN.1
        rw [List.length_map, hLr] at hal
        obtain ⟨acc', l, hacc⟩ : ∃ acc' l, accP ns j = acc' ++ [l] := by
          rcases List.eq_nil_or_concat (accP ns j) with h | ⟨a, b, h⟩
          · rw [h] at hal; simp at hal
          · exact ⟨a, b, by rw [h, List.concat_eq_append]⟩
        have hac' : acc'.length = L := by rw [hacc] at hal; simp at hal; omega
        have hll := hns j hj l (by rw [List.mem_append, hacc]; exact .inl (by simp))
        have hlm : NdOn wr (Apart S w.heap.size (.slice aa (L + 1) ac) wr) (nd0 l) ml := hN.2 L (nd0 l) ml (by rw [hacc, List.map_append, List.getElem?_append_right (by simp; omega)]; simp [hac']) (by rw [List.getElem?_append_right (by omega)]; simp [hL])
        have hN' : NdsOn wr (Apart S w.heap.size (.slice aa (L + 1) ac) wr) (acc'.map nd0) rs' := by
          have := hN.take L
          rw [hacc, List.map_append, List.take_append_of_le_length (by simp [hac']), List.take_append_of_le_length (by omega), List.take_of_length_le (by simp [hac']), List.take_of_length_le (by omega)] at this
          exact this
        obtain ⟨mlo, mhi, mpl, mea, men, mec, mka, mkn, mkc⟩ := ml
        have hcell : ∀ i (u : Value), i < 5 → (MN.cells ⟨mlo, mhi, mpl, mea, men, mec, mka, mkn, mkc⟩)[i]? = some u → (ncells (rs' ++ [⟨mlo, mhi, mpl, mea, men, mec, mka, mkn, mkc⟩]))[L * 5 + i]? = some u := fun i u hi5 hu => by
          rw [ncells_at (by omega) hi5]
          have : (rs' ++ [(⟨mlo, mhi, mpl, mea, men, mec, mka, mkn, mkc⟩ : MN)])[L]'(by omega) = ⟨mlo, mhi, mpl, mea, men, mec, mka, mkn, mkc⟩ := by
            rw [List.getElem_append_right (by omega)]; simp
          rw [this]; exact hu
        obtain ⟨g, hg, hgl, hgc, e0⟩ := own_get ho (hcell 0 (.string mlo) (by decide) rfl)
        subst hg
        have e1 : wr.cell? ⟨g, L * 5 + 1, none⟩ = some (.string mhi) := by obtain ⟨g', hg', _, _, e⟩ := own_get ho (hcell 1 (.string mhi) (by decide) rfl); simp at hg'; rw [hg']; exact e
        have e2 : wr.cell? ⟨g, L * 5 + 2, none⟩ = some (.int .i64 mpl) := by obtain ⟨g', hg', _, _, e⟩ := own_get ho (hcell 2 (.int .i64 mpl) (by decide) rfl); simp at hg'; rw [hg']; exact e
        have e3 : wr.cell? ⟨g, L * 5 + 3, none⟩ = some (.slice mea men mec) := by obtain ⟨g', hg', _, _, e⟩ := own_get ho (hcell 3 (.slice mea men mec) (by decide) rfl); simp at hg'; rw [hg']; exact e
        have e4 : wr.cell? ⟨g, L * 5 + 4, none⟩ = some (.slice mka mkn mkc) := by obtain ⟨g', hg', _, _, e⟩ := own_get ho (hcell 4 (.slice mka mkn mkc) (by decide) rfl); simp at hg'; rw [hg']; exact e
        obtain ⟨WB, hWB⟩ : ∃ WB, wr.alloc (.cells #[.string lo, .string hi, .int .i64 pl, .slice ea en ec, .slice ka kn kc] 220) = WB := ⟨_, rfl⟩
        rw [hWB] at nB q0 q1 q2 q3 q4 hoB bB
        have cB : ∀ {o : Nat} {u : Value}, wr.cell? ⟨g, o, none⟩ = some u → WB.cell? ⟨g, o, none⟩ = some u := fun h => by rw [World.cell?_of_block (w := wr) (bB.block g hgl)]; exact h
        have f0 : WB.cell? ⟨g, L * 5, none⟩ = some (.string mlo) := cB e0
        have f1 := cB e1
        have f2 := cB e2
        have f3 := cB e3
        have f4 := cB e4
        have hLlt : L < 1000001 := by have := hcount j hj; omega
        have hw1 : IntKind.i64.wrap (((L + 1 : Nat) : Int) - 1) = (L : Int) := by rw [IntKind.wrap_i64]; omega
        have hnneg : ¬ (L : Int) < 0 := by omega
        have hTL := small0 hll.1 hll.2.1 (hlm.on (On.of_below bB hApL)) (fun b h => Nat.lt_of_lt_of_le (hApL b h) bB.size) hll.2.2
        have hTN : ∀ W, Below WB.heap.size WB W → _ := fun W hW => small0 hnn.1 hnn.2.1 ((hnm.on (On.of_below bB hSw)).on (On.of_below hW (fun b h => Nat.lt_of_lt_of_le (hSw b h) bB.size))) (fun b h => Nat.lt_of_lt_of_le (Nat.lt_of_lt_of_le (hSw b h) bB.size) hW.size) hnn.2.2
        dsimp only at hTL hTN
        clear hcell e0 e1 e2 e3 e4
        rw [← hWB] at f0 f1 f2 f3 f4 q0 q1 q2 q3 q4
        have HWB : Hid (wr.alloc (.cells #[.string lo, .string hi, .int .i64 pl, .slice ea en ec, .slice ka kn kc] 220) = WB) := hWB
        have HST : Hid (accP ns (j + 1) = joinS tog0 (acc' ++ [l]) n) := by rw [← hacc]; exact hstep
        have HAC : Hid (accP ns j = acc' ++ [l]) := hacc
        have HLL : Hid (rs'.length = L) := hL
        have HTN : Hid (∀ W, Below WB.heap.size WB W → Calls Tryz.prog 180 #[.agg #[.string lo, .string hi, .int .i64 pl, .slice ea en ec, .slice ka kn kc]] W fun e w' => e = .returned (.bool (smallT n)) ∧ Below W.heap.size W w') := hTN
        have tB : WB.heap[w.heap.size]? = some (.cells #[.pointer (some ⟨β, 0, none⟩), .int .i64 root, .slice ca cn cc] 82) := (bB.block _ (by omega)).trans ((hB.block _ (by omega)).trans t1)
        have HMK : Hid (∀ X, Below WB.heap.size WB X → X.heap[wr.heap.size]? = some (.cells #[.string lo, .string hi, .int .i64 pl, .slice ea en ec, .slice ka kn kc] 220) ∧ X.heap[w.heap.size]? = some (.cells #[.pointer (some ⟨β, 0, none⟩), .int .i64 root, .slice ca cn cc] 82) ∧ X.ownsRow 0 220 5 (.slice (some ⟨g, 0, none⟩) (L + 1) ac) (L + 1) (ncells (rs' ++ [⟨mlo, mhi, mpl, mea, men, mec, mka, mkn, mkc⟩])) ∧ X.cell? ⟨g, L * 5, none⟩ = some (.string mlo) ∧ X.cell? ⟨g, L * 5 + 1, none⟩ = some (.string mhi) ∧ X.cell? ⟨g, L * 5 + 2, none⟩ = some (.int .i64 mpl) ∧ X.cell? ⟨g, L * 5 + 3, none⟩ = some (.slice mea men mec) ∧ X.cell? ⟨g, L * 5 + 4, none⟩ = some (.slice mka mkn mkc)) := by
          intro X hX
          have hz : g < WB.heap.size := Nat.lt_of_lt_of_le hgl bB.size
          have cX : ∀ {o : Nat} {u : Value}, WB.cell? ⟨g, o, none⟩ = some u → X.cell? ⟨g, o, none⟩ = some u := fun h => by rw [World.cell?_of_block (w := WB) (hX.block g hz)]; exact h
          rw [hWB] at f0 f1 f2 f3 f4
          exact ⟨(hX.block _ (Array.getElem?_eq_some_iff.1 nB).1).trans nB, (hX.block _ (Array.getElem?_eq_some_iff.1 tB).1).trans tB, own_on hoB (On.of_below (Y := fun k => k < WB.heap.size) hX (fun k h => h)) (fun k hk => own_lt hoB hk), cX f0, cX f1, cX f2, cX f3, cX f4⟩
        have hWBz : WB.heap.size = wr.heap.size + 1 := by rw [← hWB]; simp
        have HWZ : Hid (WB.heap.size = wr.heap.size + 1) := hWBz
        rw [← hWB] at hTL
        clear hWB cB hstep hacc hal hac' hLr hL hTN hnj hmj hWBz tB
        cases hsl : smallT l
        · rw [hsl] at hTL
          cases hsn : smallT n
          · -- neither is small
            have HST2 : Hid (accP ns (j + 1) = (acc' ++ [l]) ++ [n]) := by
              show _ = _
              rw [HST.out, joinS, List.getLast?_append]
              simp [hsl, hsn]
            have HTN2 : Hid (∀ W, Below WB.heap.size WB W → Calls Tryz.prog 180 #[.agg #[.string lo, .string hi, .int .i64 pl, .slice ea en ec, .slice ka kn kc]] W fun e w' => e = .returned (.bool false) ∧ Below W.heap.size W w') := by rw [← hsn]; exact HTN.out
            clear HTN hsl hsn
            go_wp2_with (first
              | (go_at_call 180; (with_reducible refine Calls.mono hTL ?_); rintro e wt ⟨rfl, hb1⟩; rw [HWB.out] at hb1; obtain ⟨x1, x2, x3, x4, x5, x6, x7, x8⟩ := HMK.out wt hb1; obtain ⟨y0, y1, y2, y3, y4⟩ := box5 x1; have hTN3 := HTN2.out wt hb1)
              | (go_at_call 180; (with_reducible refine Calls.mono hTN3 ?_); rintro e wu ⟨rfl, hb2⟩; have hb3 : Below WB.heap.size WB wu := hb1.trans (hb2.mono hb1.size); obtain ⟨x1, x2, x3, x4, x5, x6, x7, x8⟩ := HMK.out wu hb3; obtain ⟨y0, y1, y2, y3, y4⟩ := box5 x1)
              | (at_builtin; refine wp_app1 wu rfl (.tmp 33) (.tmp 35) 217 220 _ 5 88 rfl Tryz.underlying217 infoNode rfl (by decide) (.slice (some ⟨g, 0, none⟩) (L + 1) ac) (L + 1) (ncells (rs' ++ [⟨mlo, mhi, mpl, mea, men, mec, mka, mkn, mkc⟩])) rfl x3 [.string lo, .string hi, .int .i64 pl, .slice ea en ec, .slice ka kn kc] (by simp [Act.eval]) rfl (by simp [Value.oneCell']) (by omega) (by omega) ?_; intro v3 w3 A3; obtain ⟨g3, k3, rfl⟩ := A3.shape (by decide)))
            have hwrX : Below wr.heap.size wr wu := bB.trans (hb3.mono (by have := HWZ.out; omega))
            have hND := nds_app (new := [nd0 n]) (msn := [⟨lo, hi, pl, ea, en, ec, ka, kn, kc⟩]) hSw hN hwrX ((NdsOn.one hnm).on (On.of_below hwrX hSw)) (fun k hk => ⟨.inl hk, Nat.lt_of_lt_of_le (hSw k hk) hwrX.size, fun e => by have h1 := hk1 k e; have h2 := hS k hk; omega⟩) rfl A3
            refine ⟨⟨j + 1, (rs' ++ [⟨mlo, mhi, mpl, mea, men, mec, mka, mkn, mkc⟩]) ++ [⟨lo, hi, pl, ea, en, ec, ka, kn, kc⟩], by go_num, by omega, ?_, ?_, (hB.trans (hwrX.mono (by omega))).trans (A3.fr.below (by have := hwrX.size; omega) hk), ?_⟩, by simp [intOf]; omega⟩
            · have hr := A3.row
              rw [List.length_append, List.length_append, List.length_singleton, List.length_singleton, HLL.out, ncells_append]
              exact hr
            · rw [HST2.out, List.map_append, ← HAC.out]
              exact hND
            · intro k h
              rcases A3.lies k h with h | h
              · exact hk k h
              · have := hwrX.size; omega
          · -- the second is small
            have HST2 : Hid (accP ns (j + 1) = acc' ++ tog0 l n) := by
              show _ = _
              rw [HST.out, joinS, List.getLast?_append]
              simp [hsl, hsn]
            have HTG : Hid (∀ X, Below WB.heap.size WB X → Calls Tryz.prog 181 #[.agg #[.pointer (some ⟨β, 0, none⟩), .int .i64 root, .slice ca cn cc], .agg #[.string mlo, .string mhi, .int .i64 mpl, .slice mea men mec, .slice mka mkn mkc], .agg #[.string lo, .string hi, .int .i64 pl, .slice ea en ec, .slice ka kn kc]] X fun e w' => ∃ v ms, e = .returned v ∧ w'.ownsRow 0 220 5 v ms.length (ncells ms) ∧ NdsOn w' (New X w') ((tog0 l n).map nd0) ms ∧ Below X.heap.size X w' ∧ ∀ k, v.ownBlock = some k → X.heap.size ≤ k) := by
              intro X hX
              have hwX : Below wr.heap.size wr X := bB.trans (hX.mono (by have := HWZ.out; omega))
              exact together0 β sv lv fs hl root ca cn cc l n hll.1 hnn.1 hll.2.1 hnn.2.1 ⟨mlo, mhi, mpl, mea, men, mec, mka, mkn, mkc⟩ ⟨lo, hi, pl, ea, en, ec, ka, kn, kc⟩ (fun k => k < wr.heap.size) X ((hf.on (On.of_below hwrw hf.lies)).on (On.of_below hwX (fun k hk => (hf.on (On.of_below hwrw hf.lies)).lies k hk))) ((hlm.mono hApL).on (On.of_below hwX (fun k h => h))) ((hnm.mono hSw).on (On.of_below hwX (fun k h => h))) (fun k h => Nat.lt_of_lt_of_le h hwX.size) hll.2.2 hnn.2.2
            have HNE : Hid (tog0 l n ≠ []) := tog0_ne hll.1 hnn.1
            have HCB : Hid (L + (tog0 l n).length ≤ 1000000) := by
              have h1 := hcount (j + 1) (by omega)
              rw [HST2.out, List.length_append] at h1
              have h2 := hN'.1
              rw [List.length_map, HLL.out] at h2
              show _ ≤ _; omega
            have HCUT : Hid (∀ {X : World}, X.ownsRow 0 220 5 (.slice (some ⟨g, 0, none⟩) L ac) L ((ncells (rs' ++ [⟨mlo, mhi, mpl, mea, men, mec, mka, mkn, mkc⟩])).take (L * 5)) → X.ownsRow 0 220 5 (.slice (some ⟨g, 0, none⟩) L ac) L (ncells rs')) := by
              intro X hX
              rw [ncells_append, List.take_append_of_le_length (by rw [ncells_len, HLL.out]; omega), List.take_of_length_le (by rw [ncells_len, HLL.out]; omega)] at hX
              exact hX
            have HTN2 : Hid (∀ W, Below WB.heap.size WB W → Calls Tryz.prog 180 #[.agg #[.string lo, .string hi, .int .i64 pl, .slice ea en ec, .slice ka kn kc]] W fun e w' => e = .returned (.bool true) ∧ Below W.heap.size W w') := by rw [← hsn]; exact HTN.out
            clear HTN hsl hsn
            go_wp2_with (first
              | (go_at_call 180; (with_reducible refine Calls.mono hTL ?_); rintro e wt ⟨rfl, hb1⟩; rw [HWB.out] at hb1; obtain ⟨x1, x2, x3, x4, x5, x6, x7, x8⟩ := HMK.out wt hb1; obtain ⟨y0, y1, y2, y3, y4⟩ := box5 x1; have hTN3 := HTN2.out wt hb1)
              | (go_at_call 180; (with_reducible refine Calls.mono hTN3 ?_); rintro e wu ⟨rfl, hb2⟩; have hb3 : Below WB.heap.size WB wu := hb1.trans (hb2.mono hb1.size); obtain ⟨x1, x2, x3, x4, x5, x6, x7, x8⟩ := HMK.out wu hb3; obtain ⟨y0, y1, y2, y3, y4⟩ := box5 x1))
            obtain ⟨tz0, tz1, tz2⟩ := box3 x2
            go_region_held3 (fun X => X.cell? ⟨w.heap.size, 0, none⟩ = some (.pointer (some ⟨β, 0, none⟩)) ∧ X.cell? ⟨w.heap.size, 1, none⟩ = some (.int .i64 root) ∧ X.cell? ⟨w.heap.size, 2, none⟩ = some (.slice ca cn cc) ∧ X.cell? ⟨wr.heap.size, 0, none⟩ = some (.string lo) ∧ X.cell? ⟨wr.heap.size, 1, none⟩ = some (.string hi) ∧ X.cell? ⟨wr.heap.size, 2, none⟩ = some (.int .i64 pl) ∧ X.cell? ⟨wr.heap.size, 3, none⟩ = some (.slice ea en ec) ∧ X.cell? ⟨wr.heap.size, 4, none⟩ = some (.slice ka kn kc))
              ((first | (with_reducible exact ⟨tz0, tz1, tz2, y0, y1, y2, y3, y4⟩) | (simp [tz0, tz1, tz2, y0, y1, y2, y3, y4])))
              (first
                | (go_at_call 181; (with_reducible refine Calls.mono (HTG.out _ ?_) ?_); exact hb3.drew; rintro e wT ⟨vT, msT, rfl, hoT, hNT, hbT, hlT⟩; have hbXT : Below WB.heap.size WB wT := hb3.drew.trans (hbT.mono hb3.size); obtain ⟨x1, x2, x3, x4, x5, x6, x7, x8⟩ := HMK.out wT hbXT; obtain ⟨y0, y1, y2, y3, y4⟩ := box5 x1; obtain ⟨tz0, tz1, tz2⟩ := box3 x2; have HmT : Hid (msT.length = (tog0 l n).length) := (by show _ = _; rw [hNT.1, List.length_map]); have hmp : 0 < msT.length := (by rw [HmT.out]; exact List.length_pos_iff.2 HNE.out); obtain ⟨gT, cT, rfl, hrT, hcT⟩ := own_some hoT hmp; have hcb : L + msT.length ≤ 1000000 := (by rw [HmT.out]; exact HCB.out); have hcutT := own_cut x3 (Nat.le_succ L))
                | (refine step_app wT rfl (.tmp 39) (.tmp 46) 217 220 _ 5 88 rfl Tryz.underlying217 infoNode rfl (by decide) (.slice (some ⟨g, 0, none⟩) L ac) L (ncells rs') (by simp [Act.eval, Act.put]) (HCUT.out hcutT) ⟨gT, 0, none⟩ msT.length cT (ncells msT) (by simp [Act.eval, Act.put]) (by rw [ncells_len]) hcT (ncells_one msT) (by omega) (by omega) ?_; intro v3 w3 A3; obtain ⟨g3, k3, rfl⟩ := A3.shape hmp; have hgne : ∀ k, w.heap.size ≤ k → k = w.heap.size ∨ k = wr.heap.size → ¬ ((Value.slice (some ⟨g, 0, none⟩) L ac).ownBlock = some k) := (fun k _ hk' e => (by simp [Value.ownBlock] at e; have h1 := hk g rfl; rcases hk' with h | h <;> omega)); obtain ⟨y0, y1, y2, y3, y4⟩ := box5 (A3.fr.heap x1 (hgne _ (by have := hwrw.size; omega) (.inr rfl))); obtain ⟨tz0, tz1, tz2⟩ := box3 (A3.fr.heap x2 (hgne _ (Nat.le_refl _) (.inl rfl)))))
            all_goals go_wp2
            all_goals
              have hwrX : Below wr.heap.size wr wT := bB.trans (hbXT.mono (by have := HWZ.out; omega))
              have hbz := hb3.size
              have hwz := HWZ.out
              have hND := nds_app (vb := .slice (some ⟨g, 0, none⟩) L ac) (new := (tog0 l n).map nd0) (msn := msT) hSw hN' hwrX hNT (fun k hk => ⟨.inr (by have h1 : _ ≤ k := hk.1; simp at h1; have := hwrw.size; omega), hk.2, fun e => by simp [Value.ownBlock] at e; have h1 : _ ≤ k := hk.1; simp at h1; omega⟩) rfl A3
              refine ⟨⟨j + 1, rs' ++ msT, by go_num, by omega, ?_, ?_, (hB.trans (hwrX.mono (by omega))).trans (A3.fr.below (by have := hwrX.size; omega) hk), ?_⟩, by simp [intOf]; omega⟩
              · have hr := A3.row
                rw [List.length_append, HLL.out, ncells_append]
                exact hr
              · rw [HST2.out, List.map_append]
                exact hND
              · intro k h
                rcases A3.lies k h with h | h
                · exact hk k h
                · have := hwrX.size; omega
        · -- the first is small
          rw [hsl] at hTL
          have HST2 : Hid (accP ns (j + 1) = acc' ++ tog0 l n) := by
            show _ = _
            rw [HST.out, joinS, List.getLast?_append]
            simp [hsl]
          have HTG : Hid (∀ X, Below WB.heap.size WB X → Calls Tryz.prog 181 #[.agg #[.pointer (some ⟨β, 0, none⟩), .int .i64 root, .slice ca cn cc], .agg #[.string mlo, .string mhi, .int .i64 mpl, .slice mea men mec, .slice mka mkn mkc], .agg #[.string lo, .string hi, .int .i64 pl, .slice ea en ec, .slice ka kn kc]] X fun e w' => ∃ v ms, e = .returned v ∧ w'.ownsRow 0 220 5 v ms.length (ncells ms) ∧ NdsOn w' (New X w') ((tog0 l n).map nd0) ms ∧ Below X.heap.size X w' ∧ ∀ k, v.ownBlock = some k → X.heap.size ≤ k) := by
            intro X hX
            have hwX : Below wr.heap.size wr X := bB.trans (hX.mono (by have := HWZ.out; omega))
            exact together0 β sv lv fs hl root ca cn cc l n hll.1 hnn.1 hll.2.1 hnn.2.1 ⟨mlo, mhi, mpl, mea, men, mec, mka, mkn, mkc⟩ ⟨lo, hi, pl, ea, en, ec, ka, kn, kc⟩ (fun k => k < wr.heap.size) X ((hf.on (On.of_below hwrw hf.lies)).on (On.of_below hwX (fun k hk => (hf.on (On.of_below hwrw hf.lies)).lies k hk))) ((hlm.mono hApL).on (On.of_below hwX (fun k h => h))) ((hnm.mono hSw).on (On.of_below hwX (fun k h => h))) (fun k h => Nat.lt_of_lt_of_le h hwX.size) hll.2.2 hnn.2.2
          have HNE : Hid (tog0 l n ≠ []) := tog0_ne hll.1 hnn.1
          have HCB : Hid (L + (tog0 l n).length ≤ 1000000) := by
            have h1 := hcount (j + 1) (by omega)
            rw [HST2.out, List.length_append] at h1
            have h2 := hN'.1
            rw [List.length_map, HLL.out] at h2
            show _ ≤ _; omega
          have HCUT : Hid (∀ {X : World}, X.ownsRow 0 220 5 (.slice (some ⟨g, 0, none⟩) L ac) L ((ncells (rs' ++ [⟨mlo, mhi, mpl, mea, men, mec, mka, mkn, mkc⟩])).take (L * 5)) → X.ownsRow 0 220 5 (.slice (some ⟨g, 0, none⟩) L ac) L (ncells rs')) := by
            intro X hX
            rw [ncells_append, List.take_append_of_le_length (by rw [ncells_len, HLL.out]; omega), List.take_of_length_le (by rw [ncells_len, HLL.out]; omega)] at hX
            exact hX
          clear HTN hsl
          go_wp2_with (first
              | (go_at_call 180; (with_reducible refine Calls.mono hTL ?_); rintro e wt ⟨rfl, hb1⟩; rw [HWB.out] at hb1; obtain ⟨x1, x2, x3, x4, x5, x6, x7, x8⟩ := HMK.out wt hb1; obtain ⟨y0, y1, y2, y3, y4⟩ := box5 x1))
          obtain ⟨tz0, tz1, tz2⟩ := box3 x2
          go_region_held3 (fun X => X.cell? ⟨w.heap.size, 0, none⟩ = some (.pointer (some ⟨β, 0, none⟩)) ∧ X.cell? ⟨w.heap.size, 1, none⟩ = some (.int .i64 root) ∧ X.cell? ⟨w.heap.size, 2, none⟩ = some (.slice ca cn cc) ∧ X.cell? ⟨wr.heap.size, 0, none⟩ = some (.string lo) ∧ X.cell? ⟨wr.heap.size, 1, none⟩ = some (.string hi) ∧ X.cell? ⟨wr.heap.size, 2, none⟩ = some (.int .i64 pl) ∧ X.cell? ⟨wr.heap.size, 3, none⟩ = some (.slice ea en ec) ∧ X.cell? ⟨wr.heap.size, 4, none⟩ = some (.slice ka kn kc))
            ((first | (with_reducible exact ⟨tz0, tz1, tz2, y0, y1, y2, y3, y4⟩) | (simp [tz0, tz1, tz2, y0, y1, y2, y3, y4])))
            (first
              | (go_at_call 181; (with_reducible refine Calls.mono (HTG.out _ ?_) ?_); exact hb1.drew; rintro e wT ⟨vT, msT, rfl, hoT, hNT, hbT, hlT⟩; have hbXT : Below WB.heap.size WB wT := hb1.drew.trans (hbT.mono hb1.size); obtain ⟨x1, x2, x3, x4, x5, x6, x7, x8⟩ := HMK.out wT hbXT; obtain ⟨y0, y1, y2, y3, y4⟩ := box5 x1; obtain ⟨tz0, tz1, tz2⟩ := box3 x2; have HmT : Hid (msT.length = (tog0 l n).length) := (by show _ = _; rw [hNT.1, List.length_map]); have hmp : 0 < msT.length := (by rw [HmT.out]; exact List.length_pos_iff.2 HNE.out); obtain ⟨gT, cT, rfl, hrT, hcT⟩ := own_some hoT hmp; have hcb : L + msT.length ≤ 1000000 := (by rw [HmT.out]; exact HCB.out); have hcutT := own_cut x3 (Nat.le_succ L))
              | (refine step_app wT rfl (.tmp 39) (.tmp 46) 217 220 _ 5 88 rfl Tryz.underlying217 infoNode rfl (by decide) (.slice (some ⟨g, 0, none⟩) L ac) L (ncells rs') (by simp [Act.eval, Act.put]) (HCUT.out hcutT) ⟨gT, 0, none⟩ msT.length cT (ncells msT) (by simp [Act.eval, Act.put]) (by rw [ncells_len]) hcT (ncells_one msT) (by omega) (by omega) ?_; intro v3 w3 A3; obtain ⟨g3, k3, rfl⟩ := A3.shape hmp; have hgne : ∀ k, w.heap.size ≤ k → k = w.heap.size ∨ k = wr.heap.size → ¬ ((Value.slice (some ⟨g, 0, none⟩) L ac).ownBlock = some k) := (fun k _ hk' e => (by simp [Value.ownBlock] at e; have h1 := hk g rfl; rcases hk' with h | h <;> omega)); obtain ⟨y0, y1, y2, y3, y4⟩ := box5 (A3.fr.heap x1 (hgne _ (by have := hwrw.size; omega) (.inr rfl))); obtain ⟨tz0, tz1, tz2⟩ := box3 (A3.fr.heap x2 (hgne _ (Nat.le_refl _) (.inl rfl)))))
          all_goals go_wp2
          all_goals
            have hwrX : Below wr.heap.size wr wT := bB.trans (hbXT.mono (by have := HWZ.out; omega))
            have hbz := hb1.size
            have hwz := HWZ.out
            have hND := nds_app (vb := .slice (some ⟨g, 0, none⟩) L ac) (new := (tog0 l n).map nd0) (msn := msT) hSw hN' hwrX hNT (fun k hk => ⟨.inr (by have h1 : _ ≤ k := hk.1; simp at h1; have := hwrw.size; omega), hk.2, fun e => by simp [Value.ownBlock] at e; have h1 : _ ≤ k := hk.1; simp at h1; omega⟩) rfl A3
            refine ⟨⟨j + 1, rs' ++ msT, by go_num, by omega, ?_, ?_, (hB.trans (hwrX.mono (by omega))).trans (A3.fr.below (by have := hwrX.size; omega) hk), ?_⟩, by simp [intOf]; omega⟩
            · have hr := A3.row
              rw [List.length_append, HLL.out, ncells_append]
              exact hr
            · rw [HST2.out, List.map_append]
              exact hND
            · intro k h
              rcases A3.lies k h with h | h
              · exact hk k h
              · have := hwrX.size; omega
    · obtain rfl : j = ns.length := by omega
      go_wp2
      go_ret
      refine ⟨_, rs, rfl, ho, ?_, B1.trans (hB.mono (by omega)), fun k h => Nat.le_trans (Nat.le_succ _) (hk k h)⟩
      have e : accP ns ns.length = joinP tog0 ns := by rw [accP, List.take_length]; rfl
      rw [e] at hN
      exact hN
end Go.Proofs.YtngpplmndpmgiaaGreat.Tree
namespace Go.Proofs.YtngpplmndpmgiaaGreat.Tree
open Go.RowKit Go.Proofs.YtngpplmndpmgiaaGreat.Pages
set_option linter.unusedSimpArgs false
set_option linter.unusedVariables false
theorem two_new {w : World} {o1 o2 : Obj} : ((w.alloc o1).alloc o2).heap[w.heap.size]? = some o1 ∧ ((w.alloc o1).alloc o2).heap[w.heap.size + 1]? = some o2 ∧ Below w.heap.size w ((w.alloc o1).alloc o2) :=
  ⟨heap_keep _ (heap_new _ _), heap_new2 _ _ _ (by simp), ((Below.refl _ _).alloc (Nat.le_refl _) _).alloc (by simp) _⟩
theorem stored_call (root : Int) (β : Nat) (ca : Option Addr) (cn cc : Nat) (q : Sp) (w : World) :
    Calls Tryz.prog 68 #[.agg #[.pointer (some ⟨β, 0, none⟩), .int .i64 root, .slice ca cn cc], .agg #[.string q.lo, .string q.hi]] w fun e w' =>
      e = .returned (.func (.func 98) #[] #[.pointer (some ⟨w.heap.size, 0, none⟩), .pointer (some ⟨w.heap.size + 1, 0, none⟩)]) ∧
      w'.heap[w.heap.size]? = some (.cells #[.pointer (some ⟨β, 0, none⟩), .int .i64 root, .slice ca cn cc] 82) ∧ w'.heap[w.heap.size + 1]? = some (.cells #[.string q.lo, .string q.hi] 128) ∧ Below w.heap.size w w' := by
  have HR : ∀ W4, W4 = ((w.alloc (.cells #[.pointer (some ⟨β, 0, none⟩), .int .i64 root, .slice ca cn cc] 82)).alloc (.cells #[.string q.lo, .string q.hi] 128)) →
      (W4.heap[w.heap.size]? = some (.cells #[.pointer (some ⟨β, 0, none⟩), .int .i64 root, .slice ca cn cc] 82) ∧ W4.heap[w.heap.size + 1]? = some (.cells #[.string q.lo, .string q.hi] 128) ∧ Below w.heap.size w W4) := by
    rintro W4 rfl; exact two_new
  go_enter Tryz.func68, Tryz.ntmps68
  go_wp2
  go_ret
  exact ⟨rfl, HR _ rfl⟩
theorem overlaid_call (gf : Nat) (lb : Array Value) (ca : Option Addr) (cn cc : Nat) (w : World) :
    Calls Tryz.prog 136 #[.func (.func gf) #[] lb, .slice ca cn cc] w fun e w' =>
      e = .returned (.func (.func 153) #[] #[.pointer (some ⟨w.heap.size + 1, 0, none⟩), .pointer (some ⟨w.heap.size, 0, none⟩)]) ∧
      w'.heap[w.heap.size]? = some (.cells #[.func (.func gf) #[] lb] 125) ∧ w'.heap[w.heap.size + 1]? = some (.cells #[.slice ca cn cc] 80) ∧ Below w.heap.size w w' := by
  have HR : ∀ W4, W4 = ((w.alloc (.cells #[.func (.func gf) #[] lb] 125)).alloc (.cells #[.slice ca cn cc] 80)) →
      (W4.heap[w.heap.size]? = some (.cells #[.func (.func gf) #[] lb] 125) ∧ W4.heap[w.heap.size + 1]? = some (.cells #[.slice ca cn cc] 80) ∧ Below w.heap.size w W4) := by
    rintro W4 rfl; exact two_new
  go_enter Tryz.func136, Tryz.ntmps136
  go_wp2
  go_ret
  exact ⟨rfl, HR _ rfl⟩
theorem values_call (ea : Option Addr) (en ec : Nat) (w : World) :
    Calls Tryz.prog 170 #[.slice ea en ec] w fun e w' =>
      e = .returned (.func (.func 179) #[] #[.pointer (some ⟨w.heap.size, 0, none⟩)]) ∧
      w'.heap[w.heap.size]? = some (.cells #[.slice ea en ec] 70) ∧ Below w.heap.size w w' := by
  have HR : ∀ W4, W4 = (w.alloc (.cells #[.slice ea en ec] 70)) → (W4.heap[w.heap.size]? = some (.cells #[.slice ea en ec] 70) ∧ Below w.heap.size w W4) := by
    rintro W4 rfl; exact ⟨heap_new _ _, (Below.refl _ _).alloc (Nat.le_refl _) _⟩
  go_enter Tryz.func170, Tryz.ntmps170
  go_wp2
  go_ret
  exact ⟨rfl, HR _ rfl⟩
theorem rise_own {cs : List Ch} (h : Rise cs) (q : Sp) : Rise (ownC cs q) := List.Pairwise.filter _ h
theorem own_le (cs : List Ch) (q : Sp) : (ownC cs q).length ≤ cs.length := List.length_filter_le _ _
def RdE (S : Bl) (β : Nat) (sv lv : Value) (w w' : World) : Bl := fun k => S k ∨ fpF β sv lv k ∨ (w.heap.size ≤ k ∧ k < w'.heap.size)
theorem entries_close (β : Nat) (sv lv : Value) (fs : Fs) (hl : (fs.life == 0) = false) (root : Nat) (ca : Option Addr) (cc : Nat) (cs : List Ch) (q : Sp) (o : Option (Nat × T)) (hro : Rooted fs root o) (S : Bl) (w wa wz : World) (hf : FileAt w β sv lv fs) (hR : RowOn w S ca (cs.flatMap Ch.cells)) (hS : ∀ b, S b → b < w.heap.size) (hr : Rise cs) (hn : cs.length ≤ 1000000)
    (bt be : Nat) (xt : wa.heap[bt]? = some (.cells #[.pointer (some ⟨β, 0, none⟩), .int .i64 root, .slice ca cs.length cc] 82)) (xq : wa.heap[bt + 1]? = some (.cells #[.string q.lo, .string q.hi] 128)) (KA : Below wa.heap.size wa wz)
    (a : Option Addr) (c : Nat) (hcut : CutC S ca cs a c (ownC cs q))
    (xe : wz.heap[be]? = some (.cells #[.func (.func 98) #[] #[.pointer (some ⟨bt, 0, none⟩), .pointer (some ⟨bt + 1, 0, none⟩)]] 125)) (xc : wz.heap[be + 1]? = some (.cells #[.slice a (ownC cs q).length c] 80))
    (Kw : Below w.heap.size w wz) (hbt : w.heap.size ≤ bt) (hbe : w.heap.size ≤ be) :
    Iter Tryz.prog 153 #[.pointer (some ⟨be + 1, 0, none⟩), .pointer (some ⟨be, 0, none⟩)] HasEn (overE (ostored q o) (ownC cs q)) (RdE S β sv lv w wz) wz := by
  have xt' := (KA.block bt (Array.getElem?_eq_some_iff.1 xt).1).trans xt
  have xq' := (KA.block (bt + 1) (Array.getElem?_eq_some_iff.1 xq).1).trans xq
  have hf' := hf.on (On.of_below Kw (fun k hk => hf.lies k hk))
  have l1 := (Array.getElem?_eq_some_iff.1 xt').1
  have l2 := (Array.getElem?_eq_some_iff.1 xq').1
  have l3 := (Array.getElem?_eq_some_iff.1 xe).1
  have l4 := (Array.getElem?_eq_some_iff.1 xc).1
  have h1 := stored_iter β sv lv fs hl root ca cs.length cc q o hro bt (bt + 1) (RdE S β sv lv w wz) wz xt' xq' hf' (.inr (.inr ⟨hbt, l1⟩)) (.inr (.inr ⟨by omega, l2⟩)) (fun k hk => .inr (.inl hk))
  exact over_iter _ _ (enters_of Tryz.func98 (by kernel_rfl) rfl) _ _ (be + 1) be a c (ownC cs q) S (RdE S β sv lv w wz) wz h1 xc xe (hcut.2.1 _ (hR.on (On.of_below Kw hS))) (rise_own hr q) (Nat.le_trans (own_le cs q) hn) hcut.1 hcut.2.2 (.inr (.inr ⟨by omega, l4⟩)) (.inr (.inr ⟨hbe, l3⟩)) (fun k hk => .inl hk) (fun k hk => hk)
theorem below_stp {B : Nat} {W a wn : World} (hJ : Below B W a) (hW : B ≤ W.heap.size) (hbn : Below a.heap.size a wn) : Below B W wn := hJ.trans (hbn.mono (Nat.le_trans hW hJ.size))
set_option maxRecDepth 100000 in
set_option maxHeartbeats 2000000 in
theorem entries_call (β : Nat) (sv lv : Value) (fs : Fs) (hl : (fs.life == 0) = false) (root : Nat) (ca : Option Addr) (cc : Nat) (cs : List Ch) (q : Sp) (o : Option (Nat × T)) (hro : Rooted fs root o) (S : Bl) (w : World) (hf : FileAt w β sv lv fs) (hR : RowOn w S ca (cs.flatMap Ch.cells)) (hS : ∀ b, S b → b < w.heap.size) (hr : Rise cs) (hn : cs.length ≤ 1000000) (hc : cs.length ≤ cc) (hca : (ca = none ∧ cc = 0) ∨ ∃ b off, ca = some ⟨b, off, none⟩) :
    Calls Tryz.prog 117 #[.agg #[.pointer (some ⟨β, 0, none⟩), .int .i64 root, .slice ca cs.length cc], .string q.lo, .string q.hi] w fun e w' => ∃ lb, e = .returned (.func (.func 153) #[] lb) ∧ Iter Tryz.prog 153 lb HasEn (overE (ostored q o) (ownC cs q)) (RdE S β sv lv w w') w' ∧ Below w.heap.size w w' := by
  obtain ⟨W1, hW1⟩ : ∃ W1, w.alloc (.cells #[.pointer (some ⟨β, 0, none⟩), .int .i64 root, .slice ca cs.length cc] 82) = W1 := ⟨_, rfl⟩
  have b1 : Below w.heap.size w W1 := hW1 ▸ (Below.refl _ _).alloc (Nat.le_refl _) _
  have x1 : W1.heap[w.heap.size]? = some (.cells #[.pointer (some ⟨β, 0, none⟩), .int .i64 root, .slice ca cs.length cc] 82) := hW1 ▸ heap_new w _
  obtain ⟨m0, m1, m2⟩ := box3 x1
  have hWz : w.heap.size + 1 ≤ W1.heap.size := (Array.getElem?_eq_some_iff.1 x1).1
  have hJw : ∀ W, Below (w.heap.size + 1) W1 W → Below w.heap.size w W := fun W h => b1.trans (h.mono (Nat.le_succ _))
  have hA := fun W => stored_call root β ca cs.length cc q W
  have hB := fun W (h : Below (w.heap.size + 1) W1 W) => within_any ca cc cs q S W (hR.on (On.of_below (hJw W h) hS)) (fun b hb => Nat.lt_of_lt_of_le (hS b hb) (hJw W h).size) hr hn hc hca
  have hC := fun bt a n c W => overlaid_call 98 #[.pointer (some ⟨bt, 0, none⟩), .pointer (some ⟨bt + 1, 0, none⟩)] a n c W
  have HCL := fun wa wz => entries_close β sv lv fs hl root ca cc cs q o hro S w wa wz hf hR hS hr hn
  have hJ : Below (w.heap.size + 1) W1 W1 := Below.refl _ _
  clear hf hro hR hl
  go_enter Tryz.func117, Tryz.ntmps117
  go_wp2
  go_region_with (first
    | (go_at_call 68; refine (hA _).mono ?_; rintro e wa ⟨rfl, xt, xq, hbA⟩; have KA : Below wa.heap.size wa wa := Below.refl _ _; have hJ : Below (w.heap.size + 1) W1 wa := (by first | exact below_stp hJ hWz hbA | exact below_stp hJ.drew hWz hbA | exact below_stp hJ.drew.drew hWz hbA); obtain ⟨e0, e1, e2⟩ := box3 ((hJ.block w.heap.size (Nat.lt_succ_self _)).trans x1))
    | (go_at_call 137; refine (hB _ (by first | exact hJ | exact hJ.drew | exact hJ.drew.drew)).mono ?_; rintro e wb ⟨a, c, rfl, hcut, hbB⟩; try (have KA : Below wa.heap.size wa wb := (by first | exact below_stp KA (Nat.le_refl _) hbB | exact below_stp KA.drew (Nat.le_refl _) hbB | exact below_stp KA.drew.drew (Nat.le_refl _) hbB)); have hJ : Below (w.heap.size + 1) W1 wb := (by first | exact below_stp hJ hWz hbB | exact below_stp hJ.drew hWz hbB | exact below_stp hJ.drew.drew hWz hbB); obtain ⟨e0, e1, e2⟩ := box3 ((hJ.block w.heap.size (Nat.lt_succ_self _)).trans x1))
    | (go_at_call 136; refine (hC _ _ _ _ _).mono ?_; rintro e wc ⟨rfl, xe, xc, hbC⟩; have KA : Below wa.heap.size wa wc := (by first | exact below_stp KA (Nat.le_refl _) hbC | exact below_stp KA.drew (Nat.le_refl _) hbC | exact below_stp KA.drew.drew (Nat.le_refl _) hbC); have hJ : Below (w.heap.size + 1) W1 wc := (by first | exact below_stp hJ hWz hbC | exact below_stp hJ.drew hWz hbC | exact below_stp hJ.drew.drew hWz hbC)))
  all_goals go_wp2
  all_goals go_ret
  all_goals exact ⟨_, rfl, HCL _ _ _ _ xt xq KA _ _ hcut xe xc (hJw _ hJ) (by first | exact b1.size | exact Nat.le_trans b1.size hbB.size) (by first | exact Nat.le_trans b1.size (Nat.le_trans hbA.size hbB.size) | exact Nat.le_trans b1.size (Nat.le_trans hbB.size hbA.size)), hJw _ hJ⟩
end Go.Proofs.YtngpplmndpmgiaaGreat.Tree
namespace Go.Proofs.YtngpplmndpmgiaaGreat.Tree
open Go.RowKit Go.Proofs.YtngpplmndpmgiaaGreat.Pages
set_option linter.unusedSimpArgs false
set_option linter.unusedVariables false
def kidP (x : T × Sp) (cs : List Ch) : List NT := match x.1 with
  | .leaf _ es => if (ownC cs x.2).length = 0 then [.kept x.1 x.2] else leavesP (overE es (ownC cs x.2))
  | .branch _ _ _ => [.kept x.1 x.2]
def kidsP (s : Sp) (ks : List ByteArray) (kids : List T) (cs : List Ch) : List NT := joinP tog0 ((parts s ks kids).flatMap (fun x => kidP x cs))
def Ch.good (c : Ch) : Prop := lt ⟨#[]⟩ c.key = true ∧ c.key.size ≤ 24 ∧ c.val.size ≤ 400
theorem chE_good {fs : Fs} {c : Ch} (h : c.good) : (chE c).good fs := ⟨h.1, h.2.1, .inl ⟨rfl, rfl, rfl, h.2.2⟩⟩
theorem over_mem {es : List En} {cs : List Ch} (he : RiseE es) (hr : Rise cs) (y : En) : y ∈ overE es cs ↔ (∃ c ∈ cs, c.gone = false ∧ y = chE c) ∨ (y ∈ es ∧ ∀ c ∈ cs, c.key ≠ y.e.key) := by
  rw [overE_ovr]; exact mem_ovr es cs he hr y
theorem over_rise {es : List En} {cs : List Ch} (he : RiseE es) (hr : Rise cs) : RiseE (overE es cs) := by
  rw [overE_ovr]; exact rise_ovr es cs he hr
theorem over_good {fs : Fs} {es : List En} {cs : List Ch} (he : RiseE es) (hr : Rise cs) (hg : ∀ x ∈ es, x.good fs) (hc : ∀ c ∈ cs, c.good) : ∀ y ∈ overE es cs, y.good fs := by
  intro y hy
  rcases (over_mem he hr y).1 hy with ⟨c, h1, _, rfl⟩ | ⟨h1, _⟩
  · exact chE_good (hc c h1)
  · exact hg y h1
theorem over_none {es : List En} (he : RiseE es) : overE es [] = es := by
  apply rise_ext (over_rise he .nil) he
  intro y
  rw [over_mem he .nil]
  simp
theorem mem_own {cs : List Ch} {q : Sp} {c : Ch} : c ∈ ownC cs q ↔ c ∈ cs ∧ q.has c.key = true := by simp [ownC]
structure InPart (fs : Fs) (x : Sp) (ns : List NT) : Prop where
  lst : Lst fs ns
  keys : ∀ y ∈ entsL ns, x.has y.e.key = true
  los : ∀ n ∈ ns, le x.lo n.sp.lo = true
theorem leaf_in {fs : Fs} {x : Sp} {es : List En} (hr : RiseE es) (hg : ∀ y ∈ es, y.good fs) (hk : ∀ y ∈ es, x.has y.e.key = true) : InPart fs x (leavesP es) := by
  refine ⟨leavesP_lst hr hg, ?_, ?_⟩
  · rw [leavesP_ents hg]; exact hk
  · intro n hn
    obtain ⟨y, hy, e⟩ := leavesP_lo hg n hn
    rw [e]
    have := hk y hy
    simp only [Sp.has, Bool.and_eq_true] at this
    exact this.1
theorem kidP_in {fs : Fs} {t : T} {x : Sp} {cs : List Ch} (ht : Stands fs 0 t x) (hr : Rise cs) (hc : ∀ c ∈ cs, c.good) : InPart fs x (kidP (t, x) cs) ∧ entsL (kidP (t, x) cs) = overE (T.ents 0 t) (ownC cs x) := by
  cases t with
  | branch => exact ht.elim
  | leaf p es =>
    have hre : RiseE es := rise_ents (h := 0) ht
    have hin : ∀ y ∈ es, x.has y.e.key = true := ents_in (h := 0) ht
    have hgd := stands_good ht
    by_cases h0 : (ownC cs x).length = 0
    · have e : kidP (.leaf p es, x) cs = [.kept (.leaf p es) x] := by simp [kidP, h0]
      rw [e]
      refine ⟨⟨⟨?_, ?_, by simp⟩, ?_, ?_⟩, ?_⟩
      · intro n hn; rw [List.mem_singleton] at hn; subst hn; exact ht
      · intro n hn y hy; rw [List.mem_singleton] at hn; subst hn
        have := hin y hy
        simp only [Sp.has, Bool.and_eq_true] at this
        exact this.1
      · intro y hy; simp only [entsL, List.flatMap_cons, List.flatMap_nil, List.append_nil] at hy; exact hin y hy
      · intro n hn; rw [List.mem_singleton] at hn; subst hn; exact le_refl _
      · rw [List.eq_nil_of_length_eq_zero h0]
        simp [entsL, T.ents, over_none hre, NT.ents0]
    · have e : kidP (.leaf p es, x) cs = leavesP (overE es (ownC cs x)) := by simp [kidP, h0]
      rw [e]
      have hro := rise_own hr x
      have hg := over_good (fs := fs) hre hro hgd (fun c h => hc c (mem_own.1 h).1)
      refine ⟨leaf_in (over_rise hre hro) hg ?_, leavesP_ents hg⟩
      intro y hy
      rcases (over_mem hre hro y).1 hy with ⟨c, h1, _, rfl⟩ | ⟨h1, _⟩
      · exact (mem_own.1 h1).2
      · exact hin y h1
theorem flat_lst {fs : Fs} (f : T × Sp → List NT) : ∀ (l : List (T × Sp)), (∀ x ∈ l, InPart fs x.2 (f x)) → l.Pairwise (fun x y => x.2.hi ≠ ⟨#[]⟩ ∧ le x.2.hi y.2.lo = true) → Lst fs (l.flatMap f) ∧ entsL (l.flatMap f) = l.flatMap (fun x => entsL (f x))
  | [], _, _ => ⟨⟨by simp, by simp, by simp⟩, rfl⟩
  | x :: l, h, hp => by
    obtain ⟨p1, p2⟩ := List.pairwise_cons.1 hp
    obtain ⟨i1, i2⟩ := flat_lst f l (fun y hy => h y (by simp [hy])) p2
    have hx := h x (by simp)
    rw [List.flatMap_cons, List.flatMap_cons]
    refine ⟨⟨?_, ?_, ?_⟩, by rw [entsL_append, i2]⟩
    · intro n hn; rcases List.mem_append.1 hn with hn | hn
      · exact hx.lst.ok n hn
      · exact i1.ok n hn
    · intro n hn; rcases List.mem_append.1 hn with hn | hn
      · exact hx.lst.lo n hn
      · exact i1.lo n hn
    · refine List.pairwise_append.2 ⟨hx.lst.sep, i1.sep, fun a ha b hb y hy => ?_⟩
      obtain ⟨z, hz, hb⟩ := List.mem_flatMap.1 hb
      have h1 := hx.keys y (List.mem_flatMap.2 ⟨a, ha, hy⟩)
      obtain ⟨q1, q2⟩ := p1 z hz
      simp only [Sp.has, Bool.and_eq_true] at h1
      have h2 := below_iff.1 h1.2
      have h3 : lt y.e.key x.2.hi = true := h2.elim (fun h => absurd h q1) id
      exact lt_of_lt_of_le (lt_of_lt_of_le h3 q2) ((h z (by simp [hz])).los b hb)
theorem parts_cover {α : Type} : ∀ (s : Sp) (ks : List ByteArray) (kids : List α), kids.length = ks.length + 1 → ∀ k, s.has k = true → ∃ x ∈ parts s ks kids, x.2.has k = true
  | s, _, [], hl, _, _ => by simp at hl
  | s, [], a :: kids, hl, k, hk => ⟨(a, s), by simp [parts], hk⟩
  | s, q :: ks, a :: kids, hl, k, hk => by
    rcases lt_or_le k q with h | h
    · refine ⟨(a, ⟨s.lo, q⟩), by simp [parts], ?_⟩
      simp only [Sp.has, Bool.and_eq_true] at hk ⊢
      exact ⟨hk.1, below_iff.2 (.inr h)⟩
    · obtain ⟨x, hx, hx2⟩ := parts_cover ⟨q, s.hi⟩ ks kids (by simpa using hl) k (by
        simp only [Sp.has, Bool.and_eq_true] at hk ⊢
        exact ⟨h, hk.2⟩)
      exact ⟨x, by simp [parts, hx], hx2⟩
theorem sp_all (k : ByteArray) : (⟨⟨#[]⟩, ⟨#[]⟩⟩ : Sp).has k = true := by
  simp only [Sp.has, Bool.and_eq_true]
  exact ⟨nil_le k, below_iff.2 (.inl rfl)⟩
theorem kidsP_lst {fs : Fs} {p : Nat} {ks : List ByteArray} {kids : List T} {cs : List Ch} (ht : Stands fs 1 (.branch p ks kids) ⟨⟨#[]⟩, ⟨#[]⟩⟩) (hr : Rise cs) (hc : ∀ c ∈ cs, c.good) :
    Lst fs (kidsP ⟨⟨#[]⟩, ⟨#[]⟩⟩ ks kids cs) ∧ entsL (kidsP ⟨⟨#[]⟩, ⟨#[]⟩⟩ ks kids cs) = overE (T.ents 1 (.branch p ks kids)) cs := by
  have hrt := rise_ents ht
  obtain ⟨hl, hp, hb, _, hall⟩ := branch_keys ht
  have hpp := parts_pair _ ks kids hl hp hb
  have hk := fun x hx => kidP_in (x := x.2) (t := x.1) (hall x hx) hr hc
  obtain ⟨f1, f2⟩ := flat_lst (fun x => kidP x cs) (parts ⟨⟨#[]⟩, ⟨#[]⟩⟩ ks kids) (fun x hx => (hk x hx).1) hpp
  obtain ⟨j1, j2⟩ := joinP_lst f1
  refine ⟨j1, ?_⟩
  show entsL (joinP tog0 _) = _
  apply rise_ext j1.rise (over_rise hrt hr)
  intro y
  rw [j2, f2, over_mem hrt hr]
  simp only [List.mem_flatMap, T.ents]
  constructor
  · rintro ⟨x, hx, hy⟩
    rw [(hk x hx).2] at hy
    have hxs : RiseE (T.ents 0 x.1) := rise_ents (hall x hx)
    have hmem : x.1 ∈ kids := by
      have : x.1 ∈ (parts ⟨⟨#[]⟩, ⟨#[]⟩⟩ ks kids).map (·.1) := List.mem_map.2 ⟨x, hx, rfl⟩
      rwa [parts_fst] at this
    rcases (over_mem hxs (rise_own hr x.2) y).1 hy with ⟨c, h1, h2, rfl⟩ | ⟨h1, h2⟩
    · exact .inl ⟨c, (mem_own.1 h1).1, h2, rfl⟩
    · refine .inr ⟨⟨x.1, hmem, h1⟩, fun c hc e => h2 c (mem_own.2 ⟨hc, ?_⟩) e⟩
      rw [e]; exact ents_in (hall x hx) y h1
  · rintro (⟨c, h1, h2, rfl⟩ | ⟨⟨k, hk1, hy⟩, h2⟩)
    · obtain ⟨x, hx, hx2⟩ := parts_cover ⟨⟨#[]⟩, ⟨#[]⟩⟩ ks kids hl c.key (sp_all _)
      refine ⟨x, hx, ?_⟩
      rw [(hk x hx).2]
      exact (over_mem (rise_ents (hall x hx)) (rise_own hr x.2) _).2 (.inl ⟨c, mem_own.2 ⟨h1, hx2⟩, h2, rfl⟩)
    · obtain ⟨s', hs'⟩ := part_mem (s := ⟨⟨#[]⟩, ⟨#[]⟩⟩) (ks := ks) hk1
      refine ⟨(k, s'), hs', ?_⟩
      rw [(hk _ hs').2]
      exact (over_mem (rise_ents (hall _ hs')) (rise_own hr s') _).2 (.inr ⟨hy, fun c hc => h2 c (mem_own.1 hc).1⟩)
end Go.Proofs.YtngpplmndpmgiaaGreat.Tree
