/-
  Joined: Grown, Plann.
-/
import Derived.Test.YtngpplmndpmgiaaGreatJ52
import Derived.Test.YtngpplmndpmgiaaGreatJ36
import Derived.Test.YtngpplmndpmgiaaGreatJ37
import Derived.Test.YtngpplmndpmgiaaGreatJ44
namespace Go.Proofs.YtngpplmndpmgiaaGreat.Tree
open Go.RowKit Go.Proofs.YtngpplmndpmgiaaGreat.Pages
set_option linter.unusedSimpArgs false
set_option linter.unusedVariables false
theorem nd0_sp (n : NT) : (nd0 n).sp = n.sp := by cases n <;> rfl
theorem nd0_kids (n : NT) : (nd0 n).kids = [] := by cases n <;> rfl
theorem tot_nd0 (N : List NT) : tot kszN (N.map nd0) = tot kszT N := by
  rw [tot_map, tot_map, List.map_map]
  congr 1
  apply List.map_congr_left
  intro n _
  show kszN (nd0 n) = kszT n
  rw [kszN, kszT, nd0_sp]
def topN (N : List NT) : List Nd := match N with
  | [] => []
  | [n] => [nd0 n]
  | n :: m :: r => [branNd ((n :: m :: r).map nd0)]
theorem topN_two {N : List NT} (h : 2 ≤ N.length) : topN N = [branNd (N.map nd0)] := by
  match N, h with
  | n :: m :: r, _ => rfl
theorem topN_one {N : List NT} (h : N.length ≤ 1) : topN N = N.map nd0 := by
  match N, h with
  | [], _ => rfl
  | [n], _ => rfl
theorem NdOn.kn {w : World} {S : Bl} {n : Nd} {m : MN} (h : NdOn w S n m) : m.kn = n.kids.length := by cases h; assumption
theorem ownC_all (cs : List Ch) : ownC cs ⟨⟨#[]⟩, ⟨#[]⟩⟩ = cs := by
  unfold ownC
  rw [List.filter_eq_self]
  intro c _
  exact sp_all _
def sliceLen : Value → Nat
  | .slice _ n _ => n
  | _ => 0
def kidsM (v : Value) (w : World) : Nat := match v with
  | .slice (some ad) n _ => if n = 1 then (match w.cell? (ad.add 4) with | some (.slice _ k _) => k | _ => 0) else 0
  | _ => 0
structure LvlAt (w W : World) (L : List Nd) (a : Option Addr) (c : Nat) (ms : List MN) : Prop where
  row : RowOn W (New w W) a (ncells ms)
  nds : NdsOn W (New w W) L ms
  cap : ms.length ≤ c
  new : Below w.heap.size w W
theorem LvlAt.of_own {w W : World} {L : List Nd} {v : Value} {ms : List MN} (ho : W.ownsRow 0 220 5 v ms.length (ncells ms)) (hN : NdsOn W (New w W) L ms) (hb : Below w.heap.size w W) (hl : ∀ k, v.ownBlock = some k → w.heap.size ≤ k) : ∃ a c, v = .slice a ms.length c ∧ LvlAt w W L a c ms := by
  obtain ⟨a, c, rfl, hc, hr⟩ := own_row0 ho
  exact ⟨a, c, rfl, hr.mono (fun k hk => ⟨hl k hk, own_lt ho hk⟩), hN, hc, hb⟩
theorem NdsOn.lo_le {w : World} {S : Bl} {N : List NT} {ms : List MN} (h : NdsOn w S (N.map nd0) ms) (hlo : ∀ n ∈ N, n.sp.lo.size ≤ 24) : ∀ x ∈ ms, x.lo.size ≤ 24 := by
  intro x hx
  obtain ⟨i, hi, rfl⟩ := List.getElem_of_mem hx
  have h1 : i < N.length := by have := h.1; rw [List.length_map] at this; omega
  have h2 := (h.2 i (nd0 N[i]) ms[i] (by rw [List.getElem?_map, List.getElem?_eq_getElem h1]; rfl) (List.getElem?_eq_getElem hi)).lo
  rw [h2, nd0_sp]
  exact hlo _ (List.getElem_mem h1)
theorem brans_one {w W : World} {N : List NT} {a : Option Addr} {c : Nat} {ms : List MN} (h : LvlAt w W (N.map nd0) a c ms) (hlo : ∀ n ∈ N, n.sp.lo.size ≤ 24) (ht : tot kszT N ≤ 250) (h2 : 0 < N.length) (hn : N.length ≤ 100000) :
    Calls Tryz.prog 159 #[.slice a ms.length c] W fun e w' => ∃ a' c' ms', e = .returned (.slice a' 1 c') ∧ ms'.length = 1 ∧ LvlAt w w' [branNd (N.map nd0)] a' c' ms' := by
  have hl : ms.length = N.length := by have := h.nds.1; rwa [List.length_map] at this
  have hf := h.nds.lo_le hlo
  refine (newBranches_any a c ms (New w W) W h.row (fun k hk => hk.2) (by omega) h.cap (fun x hx => hf x hx) (fun x hx => by have := hf x hx; unfold ksz; omega)).mono ?_
  rintro e w' ⟨v, qs, rfl, ho, hq, hr, hb, hlie⟩
  have hs := hb.size
  have hs0 := h.new.size
  have hN' : NdsOn w' (New w w') (N.map nd0) ms := (h.nds.on (On.of_below hb (fun k hk => hk.2))).mono (fun k hk => ⟨hk.1, by have := hk.2; omega⟩)
  have hB := brans_on (w := w) hN' hq (fun q hq => ⟨(hr q hq).1, (hr q hq).2.mono (fun k hk => ⟨hk.1, by have := hk.2; omega⟩)⟩)
  have ec : cuts kszN (N.map nd0) = [N.map nd0] := by
    rw [cuts_last _ _ (by rw [tot_nd0]; exact ht), if_neg (by rw [List.length_map]; omega)]
  rw [ec] at hB
  have hql : qs.length = 1 := by have := hB.1; simpa using this
  have ho' : w'.ownsRow 0 220 5 v (qs.map branMN).length (ncells (qs.map branMN)) := by rw [List.length_map]; exact ho
  obtain ⟨a', c', rfl, hL⟩ := LvlAt.of_own ho' hB (h.new.trans (hb.mono hs0)) (fun k hk => Nat.le_trans hs0 (hlie k hk))
  refine ⟨a', c', qs.map branMN, ?_, by rw [List.length_map]; exact hql, hL⟩
  rw [List.length_map, hql]
structure GrowOk (fs : Fs) (o : Option (Nat × T)) (cs : List Ch) : Prop where
  lo : ∀ n ∈ level0 o cs, n.sp.lo.size ≤ 24
  tot : tot kszT (level0 o cs) ≤ 250
  len : (level0 o cs).length ≤ 1000
  good : ∀ c ∈ cs, c.good
  on : (overE (oents o) cs).length ≤ 100000
  br : ∀ p ks kids, o = some (1, .branch p ks kids) → (∀ x ∈ parts ⟨⟨#[]⟩, ⟨#[]⟩⟩ ks kids, 0 < x.1.place) ∧ (∀ x ∈ parts ⟨⟨#[]⟩, ⟨#[]⟩⟩ ks kids, ∀ q es, x.1 = .leaf q es → (overE es (ownC cs x.2)).length ≤ 100000) ∧ JoinOk fs ((parts ⟨⟨#[]⟩, ⟨#[]⟩⟩ ks kids).flatMap (fun x => kidP x cs))
set_option maxRecDepth 100000 in
set_option maxHeartbeats 4000000 in
theorem grown_leaf (β : Nat) (sv lv : Value) (fs : Fs) (hl : (fs.life == 0) = false) (p : Nat) (es : List En) (hp : 0 < p) (ht : Stands fs 0 (.leaf p es) ⟨⟨#[]⟩, ⟨#[]⟩⟩) (ca : Option Addr) (cc : Nat) (cs : List Ch) (S : Bl) (w : World) (hf : FileAt w β sv lv fs) (hR : RowOn w S ca (cs.flatMap Ch.cells)) (hS : ∀ b, S b → b < w.heap.size) (hr : Rise cs) (hn : cs.length ≤ 1000) (hc : cs.length ≤ cc) (hca : (ca = none ∧ cc = 0) ∨ ∃ b off, ca = some ⟨b, off, none⟩) (hG : GrowOk fs (some (0, T.leaf p es)) cs) :
    Calls Tryz.prog 140 #[.agg #[.pointer (some ⟨β, 0, none⟩), .int .i64 (p : Nat), .slice ca cs.length cc]] w fun e w' => ∃ a c ms, e = .returned (.slice a ms.length c) ∧ LvlAt w w' (topN (level0 (some (0, T.leaf p es)) cs)) a c ms := by
  obtain ⟨N, hNd⟩ : ∃ N, level0 (some (0, T.leaf p es)) cs = N := ⟨_, rfl⟩
  have HND : Hid (level0 (some (0, T.leaf p es)) cs = N) := hNd
  have hlo := hG.lo
  have htot := hG.tot
  have hlen := hG.len
  rw [hNd] at hlo htot hlen
  obtain ⟨W1, hW1⟩ : ∃ W1, w.alloc (treeO β (p : Nat) ca cs.length cc) = W1 := ⟨_, rfl⟩
  have B1 : Below w.heap.size w W1 := hW1 ▸ (Below.refl _ _).alloc (Nat.le_refl _) _
  have t1 : W1.heap[w.heap.size]? = some (treeO β (p : Nat) ca cs.length cc) := hW1 ▸ heap_new w _
  obtain ⟨m0, m1, m2⟩ := box3 t1
  have hf1 : FileAt W1 β sv lv fs := hf.on (On.of_below B1 hf.lies)
  have hR1 : RowOn W1 S ca (cs.flatMap Ch.cells) := hR.on (On.of_below B1 hS)
  have hS1 : ∀ k, S k → k < W1.heap.size := fun k hk => Nat.lt_of_lt_of_le (hS k hk) B1.size
  have hpb : ¬ ((p : Int) = 0) := by omega
  have hCh := changed_leaf β sv lv fs hl (p : Nat) ca cs.length cc p ⟨⟨#[]⟩, ⟨#[]⟩⟩ es cs ca cc S W1 ht hf1 hR1 hS1 hr hG.good hn hc hca hG.on
  have HLV : Hid ((leavesP (overE es cs)).map nd0 = N.map nd0) := by show _ = _; rw [← hNd]; rfl
  clear hNd hR hR1 hf hf1 ht
  go_enter Tryz.func140, Tryz.ntmps140
  go_wp2_with (go_at_call 158; (with_reducible refine Calls.mono hCh ?_); rintro e X ⟨v, ms0, rfl, ho, hN, hb, hli⟩)
  rw [HLV.out] at hN
  have zX := hb.size
  have zW1 := B1.size
  obtain ⟨a0, c0, rfl, hL0⟩ := LvlAt.of_own (w := w) ho (hN.mono (fun k hk => ⟨Nat.le_trans zW1 hk.1, hk.2⟩)) (B1.trans (hb.mono zW1)) (fun k hk => Nat.le_trans zW1 (hli k hk))
  clear hCh ho hN hli
  go_loopw [3] (fun v wq => ∃ a c ms L, v = .slice a ms.length c ∧ Hid (LvlAt w wq L a c ms) ∧ Hid (L = N.map nd0 ∨ (2 ≤ N.length ∧ L = [branNd (N.map nd0)]))) (fun v _ => sliceLen v)
  case atStart => exact ⟨a0, c0, ms0, N.map nd0, rfl, hL0, .inl rfl⟩
  case round =>
    obtain ⟨a, c, ms, L, rfl, HL, HC⟩ := hrel
    have hL := HL.out
    have hll := hL.nds.1
    by_cases hgt : 1 < ms.length
    · have hgti : (1 : Int) < (ms.length : Int) := by omega
      have hLN : L = N.map nd0 := by
        rcases HC.out with h | ⟨_, h⟩
        · exact h
        · rw [h] at hll; simp at hll; omega
      subst hLN
      rw [List.length_map] at hll
      have hNB := brans_one hL hlo htot (by omega) (by omega)
      clear hll hL
      go_wp2_with (go_at_call 159; (with_reducible refine Calls.mono hNB ?_); rintro e wX ⟨a', c', ms', rfl, hm1, hL'⟩)
      exact ⟨⟨a', c', ms', _, by rw [hm1], hL', .inr ⟨by have := HL.out.nds.1; rw [List.length_map] at this; omega, rfl⟩⟩, by simp [sliceLen]; omega⟩
    · have hgti : ¬ (1 : Int) < (ms.length : Int) := by omega
      have hTop : L = topN N := by
        rcases HC.out with h | ⟨h1, h⟩
        · rw [h]; rw [h, List.length_map] at hll; exact (topN_one (by omega)).symm
        · rw [h]; exact (topN_two h1).symm
      have hnk : ∀ (j : Nat) (hj : j < ms.length), ms[j].kn ≠ 1 := fun j hj => by
        have hj' : j < L.length := by omega
        have h1 := (hL.nds.2 j L[j] ms[j] (List.getElem?_eq_getElem hj') (List.getElem?_eq_getElem hj)).kn
        rw [h1]
        rcases HC.out with h | ⟨h1, h⟩
        · subst h
          rw [List.getElem_map, nd0_kids]; simp
        · subst h
          have : j = 0 := by simp at hj'; omega
          subst this
          show ((N.map nd0).length : Nat) ≠ 1
          rw [List.length_map]; omega
      have HT : Hid (LvlAt w wr (topN (level0 (some (0, T.leaf p es)) cs)) a c ms) := by rw [HND.out, ← hTop]; exact hL
      rcases Nat.lt_or_ge 0 ms.length with h0 | h0
      · have h01 : ms.length = 1 := by omega
        obtain ⟨rb, ro, rfl, _, n0, n1, n2, n3, n4⟩ := hL.row.nod h0
        have hk := hnk 0 h0
        obtain ⟨m, hm⟩ : ∃ m, ms[0] = m := ⟨_, rfl⟩
        rw [hm] at n0 n1 n2 n3 n4 hk
        have hki : ¬ ((m.kn : Int) = 1) := by omega
        rw [h01]
        have HM1 : Hid (ms.length = 1) := h01
        clear hnk hTop hll hL hm h01 h0 hgt hgti
        go_wp2
        go_loopw [3] (fun v wq => v = .slice (some ⟨rb, ro, none⟩) 1 c ∧ wq = wr) (fun _ _ => 0)
        case atStart => exact ⟨rfl, rfl⟩
        case round =>
          obtain ⟨rfl, hwr⟩ := hrel
          subst hwr
          go_wp2
          go_ret
          exact ⟨_, c, ms, by rw [HM1.out]; rfl, HT.out⟩
      · have h00 : ms.length = 0 := by omega
        rw [h00]
        have HM1 : Hid (ms.length = 0) := h00
        clear hnk hTop hll hL h00 h0 hgt hgti
        go_wp2
        go_loopw [3] (fun v wq => v = .slice a 0 c ∧ wq = wr) (fun _ _ => 0)
        case atStart => exact ⟨rfl, rfl⟩
        case round =>
          obtain ⟨rfl, hwr⟩ := hrel
          subst hwr
          go_wp2
          go_ret
          exact ⟨_, c, ms, by rw [HM1.out]; rfl, HT.out⟩
set_option maxRecDepth 100000 in
set_option maxHeartbeats 4000000 in
theorem grown_none (β : Nat) (sv lv : Value) (fs : Fs) (hl : (fs.life == 0) = false)  (ca : Option Addr) (cc : Nat) (cs : List Ch) (S : Bl) (w : World) (hf : FileAt w β sv lv fs) (hR : RowOn w S ca (cs.flatMap Ch.cells)) (hS : ∀ b, S b → b < w.heap.size) (hr : Rise cs) (hn : cs.length ≤ 1000) (hc : cs.length ≤ cc) (hca : (ca = none ∧ cc = 0) ∨ ∃ b off, ca = some ⟨b, off, none⟩) (hG : GrowOk fs none cs) :
    Calls Tryz.prog 140 #[.agg #[.pointer (some ⟨β, 0, none⟩), .int .i64 0, .slice ca cs.length cc]] w fun e w' => ∃ a c ms, e = .returned (.slice a ms.length c) ∧ LvlAt w w' (topN (level0 none cs)) a c ms := by
  obtain ⟨N, hNd⟩ : ∃ N, level0 none cs = N := ⟨_, rfl⟩
  have HND : Hid (level0 none cs = N) := hNd
  have hlo := hG.lo
  have htot := hG.tot
  have hlen := hG.len
  rw [hNd] at hlo htot hlen
  obtain ⟨W1, hW1⟩ : ∃ W1, w.alloc (treeO β 0 ca cs.length cc) = W1 := ⟨_, rfl⟩
  have B1 : Below w.heap.size w W1 := hW1 ▸ (Below.refl _ _).alloc (Nat.le_refl _) _
  have t1 : W1.heap[w.heap.size]? = some (treeO β 0 ca cs.length cc) := hW1 ▸ heap_new w _
  obtain ⟨m0, m1, m2⟩ := box3 t1
  have hf1 : FileAt W1 β sv lv fs := hf.on (On.of_below B1 hf.lies)
  have hR1 : RowOn W1 S ca (cs.flatMap Ch.cells) := hR.on (On.of_below B1 hS)
  have hS1 : ∀ k, S k → k < W1.heap.size := fun k hk => Nat.lt_of_lt_of_le (hS k hk) B1.size
  have hEn := entries_call β sv lv fs hl 0 ca cc cs ⟨⟨#[]⟩, ⟨#[]⟩⟩ none rfl S W1 hf1 hR1 hS1 hr (by omega) hc hca
  rw [ownC_all] at hEn
  have HON : Hid ((overE (ostored ⟨⟨#[]⟩, ⟨#[]⟩⟩ none) cs).length ≤ 100000) := hG.on
  have HGD : Hid (∀ x ∈ overE (ostored ⟨⟨#[]⟩, ⟨#[]⟩⟩ none) cs, x.good fs) := over_good (fs := fs) (es := []) .nil hr (by simp) hG.good
  have HLV : Hid ((cuts esz (overE (ostored ⟨⟨#[]⟩, ⟨#[]⟩⟩ none) cs)).map leafNd = N.map nd0) := by show _ = _; rw [← hNd]; exact (nd0_leaves _).symm
  obtain ⟨ys, hys⟩ : ∃ ys, overE (ostored ⟨⟨#[]⟩, ⟨#[]⟩⟩ none) cs = ys := ⟨_, rfl⟩
  rw [hys] at hEn HON HGD HLV
  have hfl : ∀ k, fpF β sv lv k → k < W1.heap.size := fun k hk => hf1.lies k hk
  clear hNd hR hR1 hf hf1 hys
  go_enter Tryz.func140, Tryz.ntmps140
  go_wp2_with (first
    | (go_at_call 117; (with_reducible refine Calls.mono hEn ?_); rintro e X ⟨lb, rfl, hIt, hbX⟩; have hCo := collect_any 153 lb (enters_of Tryz.func153 (by kernel_rfl) rfl) ys _ X hIt (fun k hk => (by rcases hk with hk | hk | hk; have := hS1 k hk; have := hbX.size; omega; have := hfl k hk; have := hbX.size; omega; exact hk.2)) (by have := HON.out; omega))
    | (go_at_call 157; (with_reducible refine Calls.mono hCo ?_); rintro e X2 ⟨vC, rfl, hoC, hbC, hliC⟩; obtain ⟨va, vc, rfl, hvc, hrow⟩ := own_row0 hoC; have hNL := newLeaves_any va vc ys (fun k => X.heap.size ≤ k ∧ k < X2.heap.size) X2 (hrow.mono (fun k hk => ⟨hliC k hk, own_lt hoC hk⟩)) (fun k hk => hk.2) (by have := HON.out; omega) hvc (fun x hx => good_fits (HGD.out x hx)) (esz_250 HGD.out))
    | (go_at_call 156; (with_reducible refine Calls.mono hNL ?_); rintro e X3 ⟨vL, qs, rfl, hoL, hql, hqr, hbL, hliL⟩))
  have zX := hbX.size
  have zC := hbC.size
  have zL := hbL.size
  have zW1 := B1.size
  have hN := leaves_on (S := New w X3) (fun q hq => ⟨(hqr q hq).1, (hqr q hq).2.mono (fun k hk => ⟨by have := hk.1; omega, by have := hk.2; omega⟩)⟩)
  rw [hql, HLV.out] at hN
  have hoL' : X3.ownsRow 0 220 5 vL (qs.map leafMN).length (ncells (qs.map leafMN)) := by rw [List.length_map]; exact hoL
  obtain ⟨a0, c0, rfl, hL0⟩ := LvlAt.of_own (w := w) hoL' hN (((B1.trans (hbX.mono zW1)).trans (hbC.mono (by omega))).trans (hbL.mono (by omega))) (fun k hk => by have := hliL k hk; omega)
  obtain ⟨ms0, hms0⟩ : ∃ ms0, qs.map leafMN = ms0 := ⟨_, rfl⟩
  rw [hms0] at hL0 ⊢
  clear hEn hCo hNL hoC hoL hN hliL hliC hIt hoL' hms0 hql hqr
  go_loopw [3] (fun v wq => ∃ a c ms L, v = .slice a ms.length c ∧ Hid (LvlAt w wq L a c ms) ∧ Hid (L = N.map nd0 ∨ (2 ≤ N.length ∧ L = [branNd (N.map nd0)]))) (fun v _ => sliceLen v)
  case atStart => exact ⟨a0, c0, ms0, N.map nd0, rfl, hL0, .inl rfl⟩
  case round =>
    obtain ⟨a, c, ms, L, rfl, HL, HC⟩ := hrel
    have hL := HL.out
    have hll := hL.nds.1
    by_cases hgt : 1 < ms.length
    · have hgti : (1 : Int) < (ms.length : Int) := by omega
      have hLN : L = N.map nd0 := by
        rcases HC.out with h | ⟨_, h⟩
        · exact h
        · rw [h] at hll; simp at hll; omega
      subst hLN
      rw [List.length_map] at hll
      have hNB := brans_one hL hlo htot (by omega) (by omega)
      clear hll hL
      go_wp2_with (go_at_call 159; (with_reducible refine Calls.mono hNB ?_); rintro e wX ⟨a', c', ms', rfl, hm1, hL'⟩)
      exact ⟨⟨a', c', ms', _, by rw [hm1], hL', .inr ⟨by have := HL.out.nds.1; rw [List.length_map] at this; omega, rfl⟩⟩, by simp [sliceLen]; omega⟩
    · have hgti : ¬ (1 : Int) < (ms.length : Int) := by omega
      have hTop : L = topN N := by
        rcases HC.out with h | ⟨h1, h⟩
        · rw [h]; rw [h, List.length_map] at hll; exact (topN_one (by omega)).symm
        · rw [h]; exact (topN_two h1).symm
      have hnk : ∀ (j : Nat) (hj : j < ms.length), ms[j].kn ≠ 1 := fun j hj => by
        have hj' : j < L.length := by omega
        have h1 := (hL.nds.2 j L[j] ms[j] (List.getElem?_eq_getElem hj') (List.getElem?_eq_getElem hj)).kn
        rw [h1]
        rcases HC.out with h | ⟨h1, h⟩
        · subst h
          rw [List.getElem_map, nd0_kids]; simp
        · subst h
          have : j = 0 := by simp at hj'; omega
          subst this
          show ((N.map nd0).length : Nat) ≠ 1
          rw [List.length_map]; omega
      have HT : Hid (LvlAt w wr (topN (level0 none cs)) a c ms) := by rw [HND.out, ← hTop]; exact hL
      rcases Nat.lt_or_ge 0 ms.length with h0 | h0
      · have h01 : ms.length = 1 := by omega
        obtain ⟨rb, ro, rfl, _, n0, n1, n2, n3, n4⟩ := hL.row.nod h0
        have hk := hnk 0 h0
        obtain ⟨m, hm⟩ : ∃ m, ms[0] = m := ⟨_, rfl⟩
        rw [hm] at n0 n1 n2 n3 n4 hk
        have hki : ¬ ((m.kn : Int) = 1) := by omega
        rw [h01]
        have HM1 : Hid (ms.length = 1) := h01
        clear hnk hTop hll hL hm h01 h0 hgt hgti
        go_wp2
        go_loopw [3] (fun v wq => v = .slice (some ⟨rb, ro, none⟩) 1 c ∧ wq = wr) (fun _ _ => 0)
        case atStart => exact ⟨rfl, rfl⟩
        case round =>
          obtain ⟨rfl, hwr⟩ := hrel
          subst hwr
          go_wp2
          go_ret
          exact ⟨_, c, ms, by rw [HM1.out]; rfl, HT.out⟩
      · have h00 : ms.length = 0 := by omega
        rw [h00]
        have HM1 : Hid (ms.length = 0) := h00
        clear hnk hTop hll hL h00 h0 hgt hgti
        go_wp2
        go_loopw [3] (fun v wq => v = .slice a 0 c ∧ wq = wr) (fun _ _ => 0)
        case atStart => exact ⟨rfl, rfl⟩
        case round =>
          obtain ⟨rfl, hwr⟩ := hrel
          subst hwr
          go_wp2
          go_ret
          exact ⟨_, c, ms, by rw [HM1.out]; rfl, HT.out⟩
set_option maxRecDepth 100000 in
set_option maxHeartbeats 4000000 in
theorem grown_branch (β : Nat) (sv lv : Value) (fs : Fs) (hl : (fs.life == 0) = false) (p : Nat) (ks : List ByteArray) (kids : List T) (hp : 0 < p) (ht : Stands fs 1 (.branch p ks kids) ⟨⟨#[]⟩, ⟨#[]⟩⟩) (ca : Option Addr) (cc : Nat) (cs : List Ch) (S : Bl) (w : World) (hf : FileAt w β sv lv fs) (hR : RowOn w S ca (cs.flatMap Ch.cells)) (hS : ∀ b, S b → b < w.heap.size) (hr : Rise cs) (hn : cs.length ≤ 1000) (hc : cs.length ≤ cc) (hca : (ca = none ∧ cc = 0) ∨ ∃ b off, ca = some ⟨b, off, none⟩) (hG : GrowOk fs (some (1, T.branch p ks kids)) cs) :
    Calls Tryz.prog 140 #[.agg #[.pointer (some ⟨β, 0, none⟩), .int .i64 (p : Nat), .slice ca cs.length cc]] w fun e w' => ∃ a c ms, e = .returned (.slice a ms.length c) ∧ LvlAt w w' (topN (level0 (some (1, T.branch p ks kids)) cs)) a c ms := by
  obtain ⟨N, hNd⟩ : ∃ N, level0 (some (1, T.branch p ks kids)) cs = N := ⟨_, rfl⟩
  have HND : Hid (level0 (some (1, T.branch p ks kids)) cs = N) := hNd
  have hlo := hG.lo
  have htot := hG.tot
  have hlen := hG.len
  rw [hNd] at hlo htot hlen
  obtain ⟨W1, hW1⟩ : ∃ W1, w.alloc (treeO β (p : Nat) ca cs.length cc) = W1 := ⟨_, rfl⟩
  have B1 : Below w.heap.size w W1 := hW1 ▸ (Below.refl _ _).alloc (Nat.le_refl _) _
  have t1 : W1.heap[w.heap.size]? = some (treeO β (p : Nat) ca cs.length cc) := hW1 ▸ heap_new w _
  obtain ⟨m0, m1, m2⟩ := box3 t1
  have hf1 : FileAt W1 β sv lv fs := hf.on (On.of_below B1 hf.lies)
  have hR1 : RowOn W1 S ca (cs.flatMap Ch.cells) := hR.on (On.of_below B1 hS)
  have hS1 : ∀ k, S k → k < W1.heap.size := fun k hk => Nat.lt_of_lt_of_le (hS k hk) B1.size
  have hpb : ¬ ((p : Int) = 0) := by omega
  obtain ⟨g1, g2, g3⟩ := hG.br p ks kids rfl
  have hCh := changed_branch β sv lv fs hl (p : Nat) ca cs.length cc p ⟨⟨#[]⟩, ⟨#[]⟩⟩ ks kids cs ca cc S W1 ht hf1 hR1 hS1 hr hG.good hn hc hca g1 g2 g3
  have HLV : Hid ((cuts kszN ((joinP tog0 ((parts ⟨⟨#[]⟩, ⟨#[]⟩⟩ ks kids).flatMap (fun x => kidP x cs))).map nd0)).map branNd = if N.length = 0 then [] else [branNd (N.map nd0)]) := by
    show _ = _
    have e : joinP tog0 ((parts ⟨⟨#[]⟩, ⟨#[]⟩⟩ ks kids).flatMap (fun x => kidP x cs)) = N := by rw [← hNd]; rfl
    rw [e, cuts_last _ _ (by rw [tot_nd0]; exact htot), List.length_map]
    split <;> rfl
  clear hNd hR hR1 hf hf1 ht g1 g2 g3
  go_enter Tryz.func140, Tryz.ntmps140
  go_wp2_with (go_at_call 158; (with_reducible refine Calls.mono hCh ?_); rintro e X ⟨v, ms0, rfl, ho, hN, hb, hli⟩)
  rw [HLV.out] at hN
  have zX := hb.size
  have zW1 := B1.size
  obtain ⟨a0, c0, rfl, hL0⟩ := LvlAt.of_own (w := w) ho (hN.mono (fun k hk => ⟨Nat.le_trans zW1 hk.1, hk.2⟩)) (B1.trans (hb.mono zW1)) (fun k hk => Nat.le_trans zW1 (hli k hk))
  clear hCh ho hN hli
  go_loopw [3] (fun v wq => v = .slice a0 ms0.length c0 ∧ wq = X) (fun _ _ => 0)
  case atStart => exact ⟨rfl, rfl⟩
  case round =>
    obtain ⟨rfl, hwr⟩ := hrel
    subst hwr
    have hm1 : ms0.length ≤ 1 := by
      have := hL0.nds.1
      by_cases h : N.length = 0
      · rw [if_pos h] at this; rw [this]; exact Nat.zero_le _
      · rw [if_neg h] at this; rw [this]; exact Nat.le_refl _
    have hgti : ¬ (1 : Int) < (ms0.length : Int) := by omega
    have HL0 : Hid _ := hL0
    clear hm1 hL0
    go_wp2
    go_loopw [3] (fun v wq => ∃ a c ms L, v = .slice a ms.length c ∧ Hid (LvlAt w wq L a c ms) ∧ Hid ((L = if N.length = 0 then [] else [branNd (N.map nd0)]) ∨ L = topN N)) (fun v wq => kidsM v wq)
    case atStart => exact ⟨a0, c0, ms0, _, rfl, HL0.out, .inl rfl⟩
    case round =>
      obtain ⟨a, c, ms, L, rfl, HL, HC⟩ := hrel
      have hL := HL.out
      have hll := hL.nds.1
      have hL1 : L.length ≤ 1 := by
        rcases HC.out with h | h
        · rw [h]; split <;> simp
        · rw [h]
          rcases Nat.lt_or_ge N.length 2 with h2 | h2
          · rw [topN_one (by omega), List.length_map]; omega
          · rw [topN_two h2]; simp
      rcases Nat.lt_or_ge 0 ms.length with h0 | h0
      · have h01 : ms.length = 1 := by omega
        obtain ⟨rb, ro, rfl, _, n0, n1, n2, n3, n4⟩ := hL.row.nod h0
        obtain ⟨m, hm⟩ : ∃ m, ms[0] = m := ⟨_, rfl⟩
        have hl0 : 0 < L.length := by omega
        have hnd := hL.nds.2 0 L[0] ms[0] (List.getElem?_eq_getElem hl0) (List.getElem?_eq_getElem h0)
        rw [hm] at n0 n1 n2 n3 n4 hnd
        by_cases hk : m.kn = 1
        · -- a branch of one kid
          have hkn := hnd.kn
          rw [hk] at hkn
          have hLb : N.length = 1 ∧ L = [branNd (N.map nd0)] := by
            have key : ∀ (M : List Nd), L = M → ∀ h : 0 < M.length, M[0].kids.length = 1 → L = M := fun M e _ _ => e
            rcases HC.out with h | h
            · by_cases hN0 : N.length = 0
              · rw [if_pos hN0] at h; subst h; simp at hl0
              · rw [if_neg hN0] at h
                subst h
                have : (N.map nd0).length = 1 := hkn.symm
                rw [List.length_map] at this
                exact ⟨this, rfl⟩
            · rcases Nat.lt_or_ge N.length 2 with h2 | h2
              · rw [topN_one (by omega)] at h
                subst h
                rw [List.getElem_map, nd0_kids] at hkn
                simp at hkn
              · rw [topN_two h2] at h
                subst h
                have : (N.map nd0).length = 1 := hkn.symm
                rw [List.length_map] at this
                omega
          obtain ⟨hN1, hLe⟩ := hLb
          subst hLe
          have hnd' : NdOn wr (New w wr) (branNd (N.map nd0)) m := hnd
          obtain ⟨_, _, _, _, _, msk, g1, g2, g3, g4, g5, g6, g7, g8, g9, g10, g11⟩ := hnd'
          rw [List.length_map] at g7 g10
          have HL' : Hid (LvlAt w wr (topN N) m.ka m.kc msk) := by
            rw [topN_one (by omega)]
            exact ⟨g9, ⟨by rw [List.length_map]; exact g10, g11⟩, by omega, hL.new⟩
          have hmk1 : msk.length = 1 := by omega
          have hki : ((m.kn : Int) == 1) = true := by rw [hk]; rfl
          have HMK : Hid (msk.length = 1) := hmk1
          have HKN : Hid (m.kn = 1) := hk
          obtain ⟨rb', ro', hka, _, r0, r1, r2, r3, r4⟩ := HL'.out.row.nod (show 0 < msk.length by omega)
          have hkk : (msk[0]'(by omega)).kn = 0 := by
            have h1 := HL'.out.nds.2 0 (nd0 (N[0]'(by omega))) (msk[0]'(by omega)) (by rw [topN_one (by omega), List.getElem?_map, List.getElem?_eq_getElem (by omega)]; rfl) (List.getElem?_eq_getElem (by omega))
            rw [h1.kn, nd0_kids]; rfl
          rw [hkk] at r4
          have HME : Hid (kidsM (.slice m.ka 1 m.kc) wr < kidsM (.slice (some ⟨rb, ro, none⟩) 1 c) wr) := by
            show kidsM _ _ < kidsM _ _
            rw [hka]
            have e1 : wr.cell? ((⟨rb', ro', none⟩ : Addr).add 4) = some (.slice (msk[0]'(by omega)).ka 0 (msk[0]'(by omega)).kc) := by
              rw [Addr.add_lit]; simpa using r4
            have e2 : wr.cell? ((⟨rb, ro, none⟩ : Addr).add 4) = some (.slice m.ka m.kn m.kc) := by
              rw [Addr.add_lit]; simpa using n4
            simp only [kidsM, if_true, e1, e2, HKN.out]
            omega
          rw [h01]
          rw [hk] at n4
          clear hnd hkn hL hll hL1 g1 g2 g3 g4 g5 g6 g7 g8 g9 g10 g11 hmk1 h01 h0 hl0 hk hm r0 r1 r2 r3 r4 hkk hka hki
          go_wp2
          exact ⟨⟨m.ka, m.kc, msk, _, by rw [HMK.out], HL'.out, .inr rfl⟩, HME.out⟩
        · have hki : ¬ ((m.kn : Int) = 1) := by omega
          have hTop : L = topN N := by
            rcases HC.out with h | h
            · by_cases hN0 : N.length = 0
              · rw [if_pos hN0] at h; subst h; simp at hl0
              · rw [if_neg hN0] at h
                subst h
                have hkn := hnd.kn
                have e : (branNd (N.map nd0)).kids.length = N.length := by show (N.map nd0).length = _; rw [List.length_map]
                have : ([branNd (N.map nd0)][0]'hl0).kids.length = N.length := e
                rw [this] at hkn
                exact (topN_two (by omega)).symm
            · exact h
          have HT : Hid (LvlAt w wr (topN (level0 (some (1, T.branch p ks kids)) cs)) (some ⟨rb, ro, none⟩) c ms) := by rw [HND.out, ← hTop]; exact hL
          rw [h01]
          have HM1 : Hid (ms.length = 1) := h01
          clear hTop hll hL hm h01 h0 hnd hL1 hl0
          go_wp2
          go_ret
          exact ⟨_, c, ms, by rw [HM1.out]; rfl, HT.out⟩
      · have h00 : ms.length = 0 := by omega
        have hTop : L = topN N := by
          rcases HC.out with h | h
          · have h3 : L.length = 0 := by omega
            have : N.length = 0 := by
              by_cases hN0 : N.length = 0
              · exact hN0
              · rw [if_neg hN0] at h; rw [h] at h3; simp at h3
            rw [List.eq_nil_of_length_eq_zero h3, List.eq_nil_of_length_eq_zero this]; rfl
          · exact h
        have HT : Hid (LvlAt w wr (topN (level0 (some (1, T.branch p ks kids)) cs)) a c ms) := by rw [HND.out, ← hTop]; exact hL
        rw [h00]
        have HM1 : Hid (ms.length = 0) := h00
        clear hTop hll hL h00 h0 hL1
        go_wp2
        go_ret
        exact ⟨_, c, ms, by rw [HM1.out]; rfl, HT.out⟩
end Go.Proofs.YtngpplmndpmgiaaGreat.Tree
namespace Go.Proofs.YtngpplmndpmgiaaGreat.Tree
open Go.RowKit Go.Proofs.YtngpplmndpmgiaaGreat.Pages
set_option linter.unusedSimpArgs false
set_option linter.unusedVariables false
theorem grown_any (β : Nat) (sv lv : Value) (fs : Fs) (hl : (fs.life == 0) = false) (o : Option (Nat × T)) (root : Nat) (hro : Rooted fs root o) (hf2 : Flat2 o) (ca : Option Addr) (cc : Nat) (cs : List Ch) (S : Bl) (w : World) (hf : FileAt w β sv lv fs) (hR : RowOn w S ca (cs.flatMap Ch.cells)) (hS : ∀ b, S b → b < w.heap.size) (hr : Rise cs) (hn : cs.length ≤ 1000) (hc : cs.length ≤ cc) (hca : (ca = none ∧ cc = 0) ∨ ∃ b off, ca = some ⟨b, off, none⟩) (hG : GrowOk fs o cs) :
    Calls Tryz.prog 140 #[.agg #[.pointer (some ⟨β, 0, none⟩), .int .i64 (root : Nat), .slice ca cs.length cc]] w fun e w' => ∃ a c ms, e = .returned (.slice a ms.length c) ∧ LvlAt w w' (topN (level0 o cs)) a c ms := by
  rcases flat_cases hro hf2 with rfl | ⟨p, es, rfl, hs⟩ | ⟨p, ks, kids, rfl, hs⟩
  · have e : root = 0 := hro
    subst e
    exact grown_none β sv lv fs hl ca cc cs S w hf hR hS hr hn hc hca hG
  · obtain ⟨h1, h2, _⟩ := hro
    have e : p = root := h2
    subst e
    exact grown_leaf β sv lv fs hl p es h1 hs ca cc cs S w hf hR hS hr hn hc hca hG
  · obtain ⟨h1, h2, _⟩ := hro
    have e : p = root := h2
    subst e
    exact grown_branch β sv lv fs hl p ks kids h1 hs ca cc cs S w hf hR hS hr hn hc hca hG
theorem flatMap_le {α : Type} (f : α → List UInt8) (b : Nat) : ∀ (l : List α), (∀ x ∈ l, (f x).length ≤ b) → (l.flatMap f).length ≤ b * l.length
  | [], _ => by simp
  | x :: l, h => by
    have h1 := h x (by simp)
    have h2 := flatMap_le f b l (fun y hy => h y (by simp [hy]))
    rw [List.flatMap_cons, List.length_append, List.length_cons, Nat.mul_succ]; omega
set_option maxRecDepth 100000 in
set_option maxHeartbeats 2000000 in
theorem nodeB_any (b : Nat) (Sf : Bl) (fs : Fs) (ns : List NT) (hne : 0 < ns.length) (hn : ∀ n ∈ ns, Ok0 fs n ∧ Placed n ∧ n.ents0.length ≤ 1000) (m : MN) (S : Bl) (fa : Option Addr) (fc : Nat) (fr : List Nat) (wv : Value) (ws : List (Nat × ByteArray)) (w : World) (h : LayAt w b Sf fa fc fr wv ws) (hm : NdOn w S (branNd (ns.map nd0)) m) (hS : ∀ k, S k → k < w.heap.size ∧ ¬ fpL b wv k) (hlen : ns.length ≤ 1000) (hl : (layNs ns fr).2.length < fr.length) (hp : ∀ p ∈ fr, placeB (p : Nat) = true) (hws : ws.length + (layNs ns fr).2.length ≤ 10000)
    (hE : (branPg (ns.tail.map (fun n => n.sp.lo)) ((layNs ns fr).1.map T.place)).encE = 0) (hsm : (branPg (ns.tail.map (fun n => n.sp.lo)) ((layNs ns fr).1.map T.place)).small) :
    Calls Tryz.prog 141 #[.pointer (some ⟨b, 0, none⟩), .agg #[.string m.lo, .string m.hi, .int .i64 m.place, .slice m.ea m.en m.ec, .slice m.ka m.kn m.kc]] w fun e w' => e = .returned (.int .i64 ((layB ns fr).1.place : Nat)) ∧
      ∃ fa' fc' wv', LayAt w' b Sf fa' fc' (fr.drop (layB ns fr).2.length) wv' (ws ++ (layB ns fr).2.map enc1) ∧ Fr (fpL b wv) w w' ∧ ∀ k, wv'.ownBlock = some k → wv.ownBlock = some k ∨ w.heap.size ≤ k := by
  obtain ⟨lo, hi, pl, ea, en, ec, ka, kn, kc⟩ := m
  obtain ⟨_, _, _, _, _, ms, g1, g2, g3, g4, g5, g6, g7, g8, g9, g10, g11⟩ := hm
  have g3' : pl = 0 := g3
  have g4' : en = 0 := g4
  have g5' : kn = ns.length := by have : kn = (ns.map nd0).length := g5; rwa [List.length_map] at this
  subst g3' g4' g5'
  obtain ⟨W1, hW1⟩ : ∃ W1, w.alloc (.cells #[.string lo, .string hi, .int .i64 0, .slice ea 0 ec, .slice ka ns.length kc] 220) = W1 := ⟨_, rfl⟩
  have b1 : Below w.heap.size w W1 := hW1 ▸ (Below.refl _ _).alloc (Nat.le_refl _) _
  have x1 : W1.heap[w.heap.size]? = some (.cells #[.string lo, .string hi, .int .i64 0, .slice ea 0 ec, .slice ka ns.length kc] 220) := hW1 ▸ heap_new w _
  obtain ⟨m0, m1, m2, m3, m4⟩ := box5 x1
  have h1 := h.fr b1
  have hBr := branch_any b Sf fs ns hn ms ka kc S fa fc fr wv ws W1 h1 (g9.on (On.of_below b1 (fun k hk => (hS k hk).1))) (⟨g10, fun i k x a b => (g11 i k x a b).on (On.of_below b1 (fun k hk => (hS k hk).1))⟩) (fun k hk => ⟨Nat.lt_of_lt_of_le (hS k hk).1 b1.size, (hS k hk).2⟩) hlen (by rw [List.length_map] at g7; exact g7) hl hp hws hE hsm
  have hni : (0 : Int) < (ns.length : Int) := by omega
  obtain ⟨pp, hpp⟩ : ∃ pp, (layB ns fr).1.place = pp := ⟨_, rfl⟩
  rw [hpp] at hBr
  have HPP : Hid ((layB ns fr).1.place = pp) := hpp
  clear hpp g1 g2 g3 g4 g5 g6 g7 g8 g9 g10 g11 hl
  go_enter Tryz.func141, Tryz.ntmps141
  go_wp2_with (go_at_call 160; (with_reducible refine Calls.mono hBr ?_); rintro e w2 ⟨rfl, fa2, fc2, wv2, hL2, hF2, hli2⟩)
  go_ret
  rw [HPP.out]
  exact ⟨rfl, fa2, fc2, wv2, hL2, (Fr.of_below b1).trans hF2, fun k hk => (hli2 k hk).imp id (fun h => Nat.le_trans b1.size h)⟩
structure TopOk (fs : Fs) (N : List NT) (fr : List Nat) : Prop where
  each : ∀ n ∈ N, Ok0 fs n ∧ Placed n ∧ n.ents0.length ≤ 1000
  len : N.length ≤ 1000
  room : (layTop N fr).2.length ≤ fr.length
  few : (layTop N fr).2.length ≤ 10000
  place : ∀ p ∈ fr, placeB (p : Nat) = true
  enc : ∀ y ∈ (layTop N fr).2, y.2.encE = 0
  lo : ∀ n ∈ N, n.sp.lo.size ≤ 24
theorem bran_small {los : List ByteArray} {pls : List Nat} (h1 : los.length ≤ 1000) (h2 : pls.length ≤ 1000) (h3 : ∀ k ∈ los, k.size ≤ 24) : (branPg los pls).small := by
  refine ⟨by simp [branPg]; omega, by simp [branPg]; omega, by simp [branPg], by simp [branPg], ?_, ?_, Nat.zero_le _⟩
  · have e1 := flatMap_le (beB 2) 2 (pls.map (fun n : Nat => (n : Int))) (fun x _ => by rw [beB_length]; exact Nat.le_refl _)
    have e2 := flatMap_le textB 1000 los (fun x hx => by have := h3 x hx; simp [textB, beB_length]; omega)
    rw [List.length_map] at e1
    show (branchB los (pls.map (fun n : Nat => (n : Int)))).length ≤ _
    simp only [branchB, List.length_append, beB_length]
    omega
  · simp [branPg, leafB, beB_length]
theorem topNode_any (b : Nat) (Sf : Bl) (fs : Fs) (N : List NT) (t : Nd) (htN : topN N = [t]) (m : MN) (S : Bl) (fa : Option Addr) (fc : Nat) (fr : List Nat) (wv : Value) (w : World) (h : LayAt w b Sf fa fc fr wv []) (hm : NdOn w S t m) (hS : ∀ k, S k → k < w.heap.size ∧ ¬ fpL b wv k) (hT : TopOk fs N fr) :
    Calls Tryz.prog 141 #[.pointer (some ⟨b, 0, none⟩), .agg #[.string m.lo, .string m.hi, .int .i64 m.place, .slice m.ea m.en m.ec, .slice m.ka m.kn m.kc]] w fun e w' => e = .returned (.int .i64 (rootOf (layTop N fr).1 : Nat)) ∧
      ∃ fa' fc' wv', LayAt w' b Sf fa' fc' (fr.drop (layTop N fr).2.length) wv' ((layTop N fr).2.map enc1) ∧ Fr (fpL b wv) w w' ∧ ∀ k, wv'.ownBlock = some k → wv.ownBlock = some k ∨ w.heap.size ≤ k := by
  match N, htN, hT with
  | [], h0, _ => simp [topN] at h0
  | [n], h0, hT =>
    simp only [topN, List.cons.injEq, and_true] at h0
    subst h0
    obtain ⟨e1, e2, e3⟩ := hT.each n (by simp)
    exact node0_any b Sf fs n e1 e2 m S fa fc fr wv [] w h hm (fun k hk => (hS k hk).1) e3 hT.room hT.place (by simp)
  | n :: n' :: r, h0, hT =>
    simp only [topN, List.cons.injEq, and_true] at h0
    subst h0
    have hroom : (layB (n :: n' :: r) fr).2.length ≤ fr.length := hT.room
    have hfew : (layB (n :: n' :: r) fr).2.length ≤ 10000 := hT.few
    have henc : ∀ y ∈ (layB (n :: n' :: r) fr).2, y.2.encE = 0 := hT.enc
    have hll : (layB (n :: n' :: r) fr).2.length = (layNs (n :: n' :: r) fr).2.length + 1 := by simp only [layB, List.length_append, List.length_singleton]
    exact nodeB_any b Sf fs (n :: n' :: r) (by simp) hT.each m S fa fc fr wv [] w h hm hS hT.len (by omega) hT.place (by simp only [List.length_nil]; omega) (henc (_, _) (by simp only [layB, List.mem_append, List.mem_singleton]; exact .inr rfl)) (bran_small (by rw [List.length_map, List.length_tail]; have := hT.len; omega) (by rw [List.length_map, layNs_length]; exact hT.len) (fun k hk => by
      obtain ⟨q, hq, rfl⟩ := List.mem_map.1 hk
      exact hT.lo q (List.mem_of_mem_tail hq)))
set_option maxRecDepth 100000 in
set_option maxHeartbeats 4000000 in
theorem plan_any (β : Nat) (sv lv : Value) (fs : Fs) (hl : (fs.life == 0) = false) (o : Option (Nat × T)) (root : Nat) (hro : Rooted fs root o) (hf2 : Flat2 o) (ca : Option Addr) (cc : Nat) (cs : List Ch) (S : Bl) (fa : Option Addr) (fc : Nat) (fr : List Nat) (Sf : Bl) (w : World) (hf : FileAt w β sv lv fs) (hR : RowOn w S ca (cs.flatMap Ch.cells)) (hS : ∀ b, S b → b < w.heap.size) (hr : Rise cs) (hn : cs.length ≤ 1000) (hc : cs.length ≤ cc) (hca : (ca = none ∧ cc = 0) ∨ ∃ b off, ca = some ⟨b, off, none⟩) (hG : GrowOk fs o cs)
    (hFr : RowOn w Sf fa (fr.map (fun n : Nat => Value.int .i64 n))) (hSf : ∀ b, Sf b → b < w.heap.size) (hfs : fr ≠ [] → ∃ b0 o0, fa = some ⟨b0, o0, none⟩) (hfc : fr.length ≤ fc) (hT : TopOk fs (level0 o cs) fr) :
    Calls Tryz.prog 127 #[.agg #[.pointer (some ⟨β, 0, none⟩), .int .i64 (root : Nat), .slice ca cs.length cc], .slice fa fr.length fc] w fun e w' => ∃ wa wc, e = .returned (.agg #[.int .i64 (rootOf (planP o cs fr).1 : Nat), .slice wa (planP o cs fr).2.length wc]) ∧ RowOn w' (New w w') wa (((planP o cs fr).2.map enc1).flatMap wcells) ∧ (planP o cs fr).2.length ≤ wc ∧ Below w.heap.size w w' := by
  obtain ⟨N, hNd⟩ : ∃ N, level0 o cs = N := ⟨_, rfl⟩
  have HPL : Hid (planP o cs fr = layTop N fr) := by show _ = _; unfold planP; rw [hNd]
  rw [hNd] at hT
  obtain ⟨W1, hW1⟩ : ∃ W1, ((w.alloc (treeO β (root : Nat) ca cs.length cc)).alloc (.cells #[.int .i64 0, .slice none 0 0] 174)).alloc (.cells #[.slice fa fr.length fc, .slice none 0 0] 216) = W1 := ⟨_, rfl⟩
  have B1 : Below w.heap.size w W1 := hW1 ▸ (((Below.refl _ _).alloc (Nat.le_refl _) _).alloc (by simp) _).alloc (by simp; omega) _
  have t1 : W1.heap[w.heap.size]? = some (treeO β (root : Nat) ca cs.length cc) := hW1 ▸ heap_keep _ (heap_keep _ (heap_new w _))
  have p1 : W1.heap[w.heap.size + 1]? = some (.cells #[.int .i64 0, .slice none 0 0] 174) := by
    rw [← hW1]; refine heap_keep _ ?_; have := heap_new (w.alloc (treeO β (root : Nat) ca cs.length cc)) (.cells #[.int .i64 0, .slice none 0 0] 174); simpa using this
  have l1 : W1.heap[w.heap.size + 1 + 1]? = some (.cells #[.slice fa fr.length fc, .slice none 0 0] 216) := by
    rw [← hW1]; have := heap_new ((w.alloc (treeO β (root : Nat) ca cs.length cc)).alloc (.cells #[.int .i64 0, .slice none 0 0] 174)) (.cells #[.slice fa fr.length fc, .slice none 0 0] 216); simpa using this
  have z1 : W1.heap.size = w.heap.size + 3 := by rw [← hW1]; simp
  obtain ⟨m0, m1, m2⟩ := box3 t1
  have hGr := grown_any β sv lv fs hl o root hro hf2 ca cc cs S W1 (hf.on (On.of_below B1 hf.lies)) (hR.on (On.of_below B1 hS)) (fun k hk => Nat.lt_of_lt_of_le (hS k hk) B1.size) hr hn hc hca hG
  rw [hNd] at hGr
  have hLay1 : LayAt W1 (w.heap.size + 1 + 1) Sf fa fc fr (.slice none 0 0) [] := ⟨l1, hFr.on (On.of_below B1 hSf), hfs, hfc, World.ownsRow_nil _ _ _ _, fun k hk => ⟨by have := hSf k hk; omega, by have := hSf k hk; omega, by simp [Value.ownBlock]⟩⟩
  have HZ : Hid (W1.heap.size = w.heap.size + 3) := z1
  obtain ⟨lq0, lq1⟩ := box2 l1
  have lfr := free_of l1
  have hset : W1.setCell ⟨w.heap.size + 1 + 1, 1, none⟩ (.slice none 0 0) = W1 := set_same l1 rfl
  clear hNd hf hR hro z1
  go_enter Tryz.func127, Tryz.ntmps127
  go_wp2_with (go_at_call 140; (with_reducible refine Calls.mono hGr ?_); rintro e X ⟨a, c, ms, rfl, hL⟩)
  have zX := hL.new.size
  have hLayX := hLay1.fr hL.new
  have pX := (hL.new.block _ (by have := HZ.out; omega)).trans p1
  have HH : Hid (LvlAt W1 X (topN N) a c ms ∧ LayAt X (w.heap.size + 1 + 1) Sf fa fc fr (.slice none 0 0) [] ∧ X.heap[w.heap.size + 1]? = some (.cells #[.int .i64 0, .slice none 0 0] 174)) := ⟨hL, hLayX, pX⟩
  have hlen := hL.nds.1
  have HFIN : Hid (∀ (wr : World) (fa' : Option Addr) (fc' : Nat) (fr' : List Nat) (wv : Value) (rt : Int), LayAt wr (w.heap.size + 1 + 1) Sf fa' fc' fr' wv ((layTop N fr).2.map enc1) → rt = (rootOf (layTop N fr).1 : Nat) → Fr (fpL (w.heap.size + 1 + 1) (.slice none 0 0)) X wr → (∀ k, wv.ownBlock = some k → X.heap.size ≤ k) → wr.heap[w.heap.size + 1]? = some (.cells #[.int .i64 0, .slice none 0 0] 174) → Below w.heap.size w wr ∧ ∃ wa wc, wv = .slice wa (layTop N fr).2.length wc ∧ (layTop N fr).2.length ≤ wc ∧ wr.cell? ⟨w.heap.size + 1 + 1, 1, none⟩ = some (.slice wa (layTop N fr).2.length wc) ∧ Below w.heap.size w ((wr.setCell ⟨w.heap.size + 1, 0, none⟩ (.int .i64 rt)).setCell ⟨w.heap.size + 1, 1, none⟩ (.slice wa (layTop N fr).2.length wc)) ∧ ((wr.setCell ⟨w.heap.size + 1, 0, none⟩ (.int .i64 rt)).setCell ⟨w.heap.size + 1, 1, none⟩ (.slice wa (layTop N fr).2.length wc)).heap[w.heap.size + 1]? = some (.cells #[.int .i64 rt, .slice wa (layTop N fr).2.length wc] 174) ∧ RowOn ((wr.setCell ⟨w.heap.size + 1, 0, none⟩ (.int .i64 rt)).setCell ⟨w.heap.size + 1, 1, none⟩ (.slice wa (layTop N fr).2.length wc)) (New w ((wr.setCell ⟨w.heap.size + 1, 0, none⟩ (.int .i64 rt)).setCell ⟨w.heap.size + 1, 1, none⟩ (.slice wa (layTop N fr).2.length wc))) wa (((layTop N fr).2.map enc1).flatMap wcells)) := by
    intro wr fa' fc' fr' wv rt hLa hrt hFx hwv hpl
    have hz := HZ.out
    have zF := hFx.size
    have hBw : Below w.heap.size w wr := (B1.trans (hL.new.mono B1.size)).trans (hFx.below (by omega) (fun k hk => by rcases hk with hk | hk; omega; simp [Value.ownBlock] at hk))
    have hown := hLa.own
    rw [List.length_map] at hown
    obtain ⟨wa, wc, rfl, hwc, hrow⟩ := own_row0 hown
    have hc1 := (box2 hLa.box).2
    have e1 := set_of (set_of hpl 0 (.int .i64 rt)) 1 (.slice wa (layTop N fr).2.length wc)
    have fP : Fr (Bl.one (w.heap.size + 1)) wr ((wr.setCell ⟨w.heap.size + 1, 0, none⟩ (.int .i64 rt)).setCell ⟨w.heap.size + 1, 1, none⟩ (.slice wa (layTop N fr).2.length wc)) := ((Fr.refl (Bl.one (w.heap.size + 1)) wr).setCell (p := ⟨w.heap.size + 1, 0, none⟩) (.inl rfl) _).setCell (p := ⟨w.heap.size + 1, 1, none⟩) (.inl rfl) _
    refine ⟨hBw, wa, wc, rfl, hwc, hc1, hBw.trans (fP.below hBw.size (fun k hk => by simp only [Bl.one] at hk; omega)), by simpa using e1, ?_⟩
    have zP := fP.size
    refine (hrow.on (fP.on (fun k hk => ⟨own_lt hown hk, fun e => by simp only [Bl.one] at e; have := hwv k hk; omega⟩))).mono (fun k hk => ⟨by have := hwv k hk; omega, by have := own_lt hown hk; omega⟩)
  have pb := free_of pX
  rcases Nat.lt_or_ge 0 ms.length with h0 | h0
  · -- a root
    obtain ⟨tN, htN⟩ : ∃ t, topN N = [t] := by
      match N, hlen with
      | [], h => have : ms.length = 0 := h; omega
      | [n], _ => exact ⟨_, rfl⟩
      | n :: m :: r, _ => exact ⟨_, rfl⟩
    have h01 : ms.length = 1 := by rw [hlen, htN]; rfl
    obtain ⟨rb, ro, hra, hrb, n0, n1, n2, n3, n4⟩ := hL.row.nod h0
    subst hra
    obtain ⟨m, hm⟩ : ∃ m, ms[0] = m := ⟨_, rfl⟩
    have hnd : NdOn X (New W1 X) tN m := hL.nds.2 0 tN m (by rw [htN]; rfl) (by rw [List.getElem?_eq_getElem h0, hm])
    rw [hm] at n0 n1 n2 n3 n4
    obtain ⟨lo, hi, pl, ea, en, ec, ka, kn, kc⟩ := m
    dsimp only at n0 n1 n2 n3 n4
    simp only [Nat.zero_mul, Nat.add_zero] at n0 n1 n2 n3 n4
    have xE := heap_new X (.cells #[.string lo, .string hi, .int .i64 pl, .slice ea en ec, .slice ka kn kc] 220)
    have bE : Below X.heap.size X (X.alloc (.cells #[.string lo, .string hi, .int .i64 pl, .slice ea en ec, .slice ka kn kc] 220)) := (Below.refl _ _).alloc (Nat.le_refl _) _
    obtain ⟨X', hX'⟩ : ∃ X', X.alloc (.cells #[.string lo, .string hi, .int .i64 pl, .slice ea en ec, .slice ka kn kc] 220) = X' := ⟨_, rfl⟩
    rw [hX'] at xE bE
    obtain ⟨q0, q1, q2, q3, q4⟩ := box5 xE
    have hz := HZ.out
    have hNo := topNode_any (w.heap.size + 1 + 1) Sf fs N tN htN ⟨lo, hi, pl, ea, en, ec, ka, kn, kc⟩ (New W1 X) fa fc fr (.slice none 0 0) X' (hLayX.fr bE) (hnd.on (On.of_below bE (fun k hk => hk.2))) (fun k hk => ⟨by have := hk.2; have := bE.size; omega, fun e => by rcases e with e | e; have := hk.1; omega; simp [Value.ownBlock] at e⟩) hT
    have HPX : Hid (∀ wr, Fr (fpL (w.heap.size + 1 + 1) (.slice none 0 0)) X' wr → wr.heap[w.heap.size + 1]? = some (.cells #[.int .i64 0, .slice none 0 0] 174) ∧ Fr (fpL (w.heap.size + 1 + 1) (.slice none 0 0)) X wr) := fun wr hfr => ⟨hfr.heap ((bE.block _ (by have := (Array.getElem?_eq_some_iff.1 pX).1; omega)).trans pX) (fun e => by rcases e with e | e; omega; simp [Value.ownBlock] at e), (Fr.of_below bE).trans hfr⟩
    rw [h01]
    have zE := bE.size
    clear hlen h01 h0 hm hnd xE bE hL hLayX pX hz htN
    go_loopw [6, 14] (fun r i wq => (i = .int .i64 0 ∧ r = .int .i64 0 ∧ wq = X) ∨ (i = .int .i64 1 ∧ ∃ fa' fc' fr' wv, r = .int .i64 (rootOf (layTop N fr).1 : Nat) ∧ Hid (LayAt wq (w.heap.size + 1 + 1) Sf fa' fc' fr' wv ((layTop N fr).2.map enc1) ∧ Fr (fpL (w.heap.size + 1 + 1) (.slice none 0 0)) X wq ∧ (∀ k, wv.ownBlock = some k → X.heap.size ≤ k) ∧ wq.heap[w.heap.size + 1]? = some (.cells #[.int .i64 0, .slice none 0 0] 174)))) (fun _ i _ => 1 - (intOf i).toNat)
    case atStart => exact .inl ⟨rfl, rfl, rfl⟩
    case round =>
      rcases hrel with ⟨rfl, rfl, hwr⟩ | ⟨rfl, fa', fc', fr', wv, rfl, HQ⟩
      · subst hwr
        go_wp2_with (go_at_call 141; (with_reducible refine Calls.mono hNo ?_); rintro e X2 ⟨rfl, fa2, fc2, wv2, hL2, hF2, hli2⟩)
        obtain ⟨hp2, hf2'⟩ := HPX.out X2 hF2
        go_roundw
        case rel => exact ⟨_, _, _, _, _, _, _, _, _, .inr ⟨rfl, fa2, fc2, _, wv2, rfl, hL2, hf2', fun k hk => (by rcases hli2 k hk with h | h; simp [Value.ownBlock] at h; omega), hp2⟩, rfl⟩
        case measure => simp [intOf]
      · obtain ⟨rt, hrt⟩ : ∃ rt : Int, rt = (rootOf (layTop N fr).1 : Nat) := ⟨_, rfl⟩
        rw [← hrt]
        obtain ⟨hLa, hFx, hwo, hpl⟩ := HQ.out
        clear n0 n1 n2 n3 n4 hNo q0 q1 q2 q3 q4
        obtain ⟨hBw, wa, wc, hwv, hwc, hc1, hBf, hbf, hRf⟩ := HFIN.out wr fa' fc' fr' wv rt hLa hrt hFx hwo hpl
        subst hwv
        obtain ⟨q0, q1⟩ := box2 hpl
        have qfr := free_of hpl
        have HBF : Hid _ := hBf
        have HBX : Hid _ := hbf
        have HRF : Hid _ := hRf
        have HRT : Hid (rt = (rootOf (layTop N fr).1 : Nat)) := hrt
        have HLE : Hid ((layTop N fr).2.length ≤ wc) := hwc
        clear hBf hbf hRf hrt hwc hLa HFIN
        go_wp2
        refine bodyPost_ret (v := .agg #[.int .i64 rt, .slice wa (layTop N fr).2.length wc]) ?_ rfl ⟨wa, wc, by rw [HPL.out, HRT.out], by rw [HPL.out]; exact HRF.out, by rw [HPL.out]; exact HLE.out, HBF.out⟩
        exact results_cell_row (p := 4) rfl _ _ (w.heap.size + 1) _ _ _ _ rfl HBX.out Tryz.underlying174 rfl (by kernel_rfl)
  · -- nothing
    have h00 : ms.length = 0 := by omega
    have hN0 : N = [] := by
      match N, hlen with
      | [], _ => rfl
      | [n], h => have : ms.length = 1 := h; omega
      | n :: m :: r, h => have : ms.length = 1 := h; omega
    rw [h00]
    have HRZ : Hid ((rootOf (layTop N fr).1 : Nat) = 0 ∧ (layTop N fr).2 = []) := by rw [hN0]; exact ⟨rfl, rfl⟩
    have HLX : Hid (LayAt X (w.heap.size + 1 + 1) Sf fa fc fr (.slice none 0 0) ((layTop N fr).2.map enc1)) := by rw [HRZ.out.2]; exact hLayX
    clear hlen h00 h0 hL hLayX hN0
    go_loopw [6, 14] (fun r i wq => i = .int .i64 0 ∧ r = .int .i64 0 ∧ wq = X) (fun _ _ _ => 0)
    case atStart => exact ⟨rfl, rfl, rfl⟩
    case round =>
      obtain ⟨rfl, rfl, hwr⟩ := hrel
      subst hwr
      obtain ⟨hBw, wa, wc, hwv, hwc, hc1, hBf, hbf, hRf⟩ := HFIN.out wr fa fc fr (.slice none 0 0) 0 HLX.out (by rw [HRZ.out.1]; rfl) (Fr.refl _ _) (fun k hk => by simp [Value.ownBlock] at hk) pX
      obtain ⟨q0, q1⟩ := box2 pX
      have qfr := free_of pX
      have HBF : Hid _ := hBf
      have HBX : Hid _ := hbf
      have HRF : Hid _ := hRf
      have HLE : Hid ((layTop N fr).2.length ≤ wc) := hwc
      clear hBf hbf hRf hwc HFIN hwv
      go_wp2
      refine bodyPost_ret (v := .agg #[.int .i64 0, .slice wa (layTop N fr).2.length wc]) ?_ rfl ⟨wa, wc, by rw [HPL.out, HRZ.out.1]; rfl, by rw [HPL.out]; exact HRF.out, by rw [HPL.out]; exact HLE.out, HBF.out⟩
      exact results_cell_row (p := 4) rfl _ _ (w.heap.size + 1) _ _ _ _ rfl HBX.out Tryz.underlying174 rfl (by kernel_rfl)
end Go.Proofs.YtngpplmndpmgiaaGreat.Tree
