/-
  Joined: LayB.
-/
import Derived.Test.YtngpplmndpmgiaaGreatJ43
namespace Go.Proofs.YtngpplmndpmgiaaGreat.Tree
open Go.RowKit Go.Proofs.YtngpplmndpmgiaaGreat.Pages
set_option linter.unusedSimpArgs false
set_option linter.unusedVariables false
set_option maxRecDepth 100000 in
set_option maxHeartbeats 2000000 in
theorem node0_any (b : Nat) (Sf : Bl) (fs : Fs) (n : NT) (hn : Ok0 fs n) (hpl : Placed n) (m : MN) (S : Bl) (fa : Option Addr) (fc : Nat) (fr : List Nat) (wv : Value) (ws : List (Nat × ByteArray)) (w : World) (h : LayAt w b Sf fa fc fr wv ws) (hm : NdOn w S (nd0 n) m) (hS : ∀ b, S b → b < w.heap.size) (hlen : n.ents0.length ≤ 1000) (hl : (layN n fr).2.length ≤ fr.length) (hp : ∀ p ∈ fr, placeB (p : Nat) = true) (hws : ws.length ≤ 10000) :
    Calls Tryz.prog 141 #[.pointer (some ⟨b, 0, none⟩), .agg #[.string m.lo, .string m.hi, .int .i64 m.place, .slice m.ea m.en m.ec, .slice m.ka m.kn m.kc]] w fun e w' => e = .returned (.int .i64 ((layN n fr).1.place : Nat)) ∧
      ∃ fa' fc' wv', LayAt w' b Sf fa' fc' (fr.drop (layN n fr).2.length) wv' (ws ++ (layN n fr).2.map enc1) ∧ Fr (fpL b wv) w w' ∧ ∀ k, wv'.ownBlock = some k → wv.ownBlock = some k ∨ w.heap.size ≤ k := by
  obtain ⟨lo, hi, pl, ea, en, ec, ka, kn, kc⟩ := m
  obtain ⟨W1, hW1⟩ : ∃ W1, w.alloc (.cells #[.string lo, .string hi, .int .i64 pl, .slice ea en ec, .slice ka kn kc] 220) = W1 := ⟨_, rfl⟩
  have b1 : Below w.heap.size w W1 := hW1 ▸ (Below.refl _ _).alloc (Nat.le_refl _) _
  have x1 : W1.heap[w.heap.size]? = some (.cells #[.string lo, .string hi, .int .i64 pl, .slice ea en ec, .slice ka kn kc] 220) := hW1 ▸ heap_new w _
  obtain ⟨m0, m1, m2, m3, m4⟩ := box5 x1
  have h1 := h.fr b1
  cases n with
  | bran => exact hn.elim
  | kept t s =>
    obtain ⟨_, _, _, _, _, ms, g1, g2, g3, g4, g5, g6, g7, g8, g9, g10, g11⟩ := hm
    have g3' : pl = t.place := g3
    have h0 : 0 < t.place := hpl t s rfl
    have hpb : ((pl : Int) != 0) = true := by simp; omega
    have HP : Hid (pl = t.place) := g3'
    clear g1 g2 g3 g3' g4 g5 g6 g7 g8 g9 g10 g11
    go_enter Tryz.func141, Tryz.ntmps141
    go_wp2
    go_ret
    exact ⟨by rw [HP.out]; rfl, fa, fc, wv, by simpa [layN] using h1, Fr.of_below b1, fun k hk => .inl hk⟩
  | leaf s es =>
    obtain ⟨_, _, _, _, _, ms, g1, g2, g3, g4, g5, g6, g7, g8, g9, g10, g11⟩ := hm
    have g3' : pl = 0 := g3
    have g4' : en = es.length := g4
    have g5' : kn = 0 := g5
    subst g3' g4' g5'
    clear m0 m1 m2 m3 m4
    change w.alloc (.cells #[.string lo, .string hi, .int .i64 0, .slice ea es.length ec, .slice ka 0 kc] 220) = W1 at hW1
    change W1.heap[w.heap.size]? = some (.cells #[.string lo, .string hi, .int .i64 0, .slice ea es.length ec, .slice ka 0 kc] 220) at x1
    obtain ⟨m0, m1, m2, m3, m4⟩ := box5 x1
    simp only [layN, List.length_append, List.length_singleton] at hl ⊢
    have hLf := leaf_any b Sf fs es ea ec S fa fc fr wv ws W1 h1 (g8.on (On.of_below b1 hS)) (fun k hk => Nat.lt_of_lt_of_le (hS k hk) b1.size) hn.1 hn.2.2.1 hn.2.2.2.2 hn.2.2.2.1 hlen (by omega) hp hws
    obtain ⟨pp, hpp⟩ : ∃ pp, fr.getD (layEs es fr).2.length 0 = pp := ⟨_, rfl⟩
    rw [hpp] at hLf
    have HPP : Hid (fr.getD (layEs es fr).2.length 0 = pp) := hpp
    clear hpp g1 g2 g3 g4 g5 g6 g7 g8 g9 g10 g11 hl
    go_enter Tryz.func141, Tryz.ntmps141
    go_wp2_with (go_at_call 161; (with_reducible refine Calls.mono hLf ?_); rintro e w2 ⟨rfl, fa2, fc2, wv2, hL2, hF2, hli2⟩)
    go_ret
    rw [HPP.out]
    exact ⟨rfl, fa2, fc2, wv2, hL2, (Fr.of_below b1).trans hF2, fun k hk => (hli2 k hk).imp id (fun h => Nat.le_trans b1.size h)⟩
theorem layNs_snoc : ∀ (ns : List NT) (n : NT) (fr : List Nat), layNs (ns ++ [n]) fr = ((layNs ns fr).1 ++ [(layN n (fr.drop (layNs ns fr).2.length)).1], (layNs ns fr).2 ++ (layN n (fr.drop (layNs ns fr).2.length)).2)
  | [], n, fr => by simp [layNs]
  | y :: ns, n, fr => by
    simp only [List.cons_append, layNs, layNs_snoc ns n, List.drop_drop, List.length_append, List.append_assoc]
theorem layNs_take1 (ns : List NT) (fr : List Nat) (j : Nat) (hj : j < ns.length) : layNs (ns.take (j + 1)) fr = ((layNs (ns.take j) fr).1 ++ [(layN ns[j] (fr.drop (layNs (ns.take j) fr).2.length)).1], (layNs (ns.take j) fr).2 ++ (layN ns[j] (fr.drop (layNs (ns.take j) fr).2.length)).2) := by
  rw [List.take_succ_eq_append_getElem hj, layNs_snoc]
theorem layNs_take_le : ∀ (ns : List NT) (fr : List Nat) (j : Nat), (layNs (ns.take j) fr).2.length ≤ (layNs ns fr).2.length
  | [], _, _ => by simp [layNs]
  | x :: ns, fr, 0 => by simp [layNs]
  | x :: ns, fr, j + 1 => by
    have := layNs_take_le ns (fr.drop (layN x fr).2.length) j
    simp only [List.take_succ_cons, layNs, List.length_append]; omega
def lowsP (ns : List NT) (j : Nat) : List ByteArray := (ns.take j).tail.map (fun n => n.sp.lo)
def placesP (ns : List NT) (fr : List Nat) (j : Nat) : List Nat := (layNs (ns.take j) fr).1.map T.place
theorem lowsP_succ (ns : List NT) (j : Nat) (hj : j < ns.length) (h0 : 0 < j) : lowsP ns (j + 1) = lowsP ns j ++ [(ns[j]).sp.lo] := by
  unfold lowsP
  rw [List.take_succ_eq_append_getElem hj, List.tail_append_of_ne_nil (by intro e; have := congrArg List.length e; rw [List.length_take, List.length_nil] at this; omega), List.map_append]; rfl
theorem lowsP_one (ns : List NT) : lowsP ns 1 = [] := by
  unfold lowsP
  cases ns <;> rfl
theorem lowsP_len (ns : List NT) (j : Nat) (hj : j ≤ ns.length) : (lowsP ns j).length = j - 1 := by
  unfold lowsP; rw [List.length_map, List.length_tail, List.length_take]; omega
theorem placesP_len (ns : List NT) (fr : List Nat) (j : Nat) (hj : j ≤ ns.length) : (placesP ns fr j).length = j := by
  unfold placesP; rw [List.length_map, layNs_length, List.length_take]; omega
theorem LayAt.notOwn {w : World} {b : Nat} {Sf : Bl} {fa : Option Addr} {fc : Nat} {fr : List Nat} {wv : Value} {ws : List (Nat × ByteArray)} (h : LayAt w b Sf fa fc fr wv ws) {e : TypeId} {z n : Nat} {v : Value} {xs : List Value} (ho : w.ownsRow 0 e z v n xs) (h1 : e ≠ 216) (h2 : e ≠ 205) : ∀ k, v.ownBlock = some k → ¬ fpL b wv k := by
  intro k hk
  have ho' := ho
  obtain ⟨_, h3⟩ := ho'
  rcases h3 with ⟨rfl, _⟩ | ⟨g, cap, cur, rfl, _, hg, _⟩
  · simp [Value.ownBlock] at hk
  · simp [Value.ownBlock] at hk
    subst hk
    exact h.not hg h1 h2
theorem own_keep {Y : Bl} {w w' : World} {e : TypeId} {z n : Nat} {v : Value} {xs : List Value} (ho : w.ownsRow 0 e z v n xs) (f : Fr Y w w') (h : ∀ k, v.ownBlock = some k → ¬ Y k) : w'.ownsRow 0 e z v n xs :=
  own_on ho (f.on (Z := fun k => v.ownBlock = some k) (fun k hk => ⟨own_lt ho hk, h k hk⟩)) (fun k hk => hk)
theorem infoInt : (Tryz.prog.info? 3).map (fun i => (i.zero, i.size, i.bytes)) = some (some (.int .i64 0), 1, 8) := by kernel_rfl
set_option maxRecDepth 100000 in
set_option maxHeartbeats 4000000 in
theorem branch_any (b : Nat) (Sf : Bl) (fs : Fs) (ns : List NT) (hn : ∀ n ∈ ns, Ok0 fs n ∧ Placed n ∧ n.ents0.length ≤ 1000) (ms : List MN) (ka : Option Addr) (kc : Nat) (S : Bl) (fa : Option Addr) (fc : Nat) (fr : List Nat) (wv : Value) (ws : List (Nat × ByteArray)) (w : World) (h : LayAt w b Sf fa fc fr wv ws) (hR : RowOn w S ka (ncells ms)) (hm : NdsOn w S (ns.map nd0) ms) (hS : ∀ k, S k → k < w.heap.size ∧ ¬ fpL b wv k) (hlen : ns.length ≤ 1000) (hkc : ns.length ≤ kc) (hl : (layNs ns fr).2.length < fr.length) (hp : ∀ p ∈ fr, placeB (p : Nat) = true) (hws : ws.length + (layNs ns fr).2.length ≤ 10000)
    (hE : (branPg (ns.tail.map (fun n => n.sp.lo)) ((layNs ns fr).1.map T.place)).encE = 0) (hsm : (branPg (ns.tail.map (fun n => n.sp.lo)) ((layNs ns fr).1.map T.place)).small) :
    Calls Tryz.prog 160 #[.pointer (some ⟨b, 0, none⟩), .slice ka ns.length kc] w fun e w' => e = .returned (.int .i64 ((layB ns fr).1.place : Nat)) ∧
      ∃ fa' fc' wv', LayAt w' b Sf fa' fc' (fr.drop (layB ns fr).2.length) wv' (ws ++ (layB ns fr).2.map enc1) ∧ Fr (fpL b wv) w w' ∧ ∀ k, wv'.ownBlock = some k → wv.ownBlock = some k ∨ w.heap.size ≤ k := by
  have hml : ms.length = ns.length := by rw [hm.1, List.length_map]
  have xP := heap_new w (.cells #[.int .i64 2, .int .i64 0, .int .i64 0, .int .i64 0, .slice none 0 0, .slice none 0 0, .slice none 0 0, .string ⟨#[]⟩] 72)
  have bP : Below w.heap.size w (w.alloc (.cells #[.int .i64 2, .int .i64 0, .int .i64 0, .int .i64 0, .slice none 0 0, .slice none 0 0, .slice none 0 0, .string ⟨#[]⟩] 72)) := (Below.refl _ _).alloc (Nat.le_refl _) _
  have hLP := h.fr bP
  go_enter Tryz.func160, Tryz.ntmps160
  go_wp2
  go_loopw [11] (fun i wr => ∃ (j : Nat) (vka via : Option Addr) (vkc vic : Nat) (fa' : Option Addr) (fc' : Nat) (wv' : Value), i = .int .i64 j ∧ j ≤ ns.length ∧ wr.heap[w.heap.size]? = some (.cells #[.int .i64 2, .int .i64 0, .int .i64 0, .int .i64 0, .slice vka (lowsP ns j).length vkc, .slice via (placesP ns fr j).length vic, .slice none 0 0, .string ⟨#[]⟩] 72) ∧ wr.ownsRow 0 9 1 (.slice vka (lowsP ns j).length vkc) (lowsP ns j).length ((lowsP ns j).map .string) ∧ wr.ownsRow 0 3 1 (.slice via (placesP ns fr j).length vic) (placesP ns fr j).length ((placesP ns fr j).map (fun n : Nat => Value.int .i64 n)) ∧ LayAt wr b Sf fa' fc' (fr.drop (layNs (ns.take j) fr).2.length) wv' (ws ++ (layNs (ns.take j) fr).2.map enc1) ∧ Fr (fpL b wv) w wr ∧ (∀ k, wv'.ownBlock = some k → wv.ownBlock = some k ∨ w.heap.size ≤ k) ∧ (∀ k, (Value.slice vka (lowsP ns j).length vkc).ownBlock = some k → w.heap.size ≤ k) ∧ (∀ k, (Value.slice via (placesP ns fr j).length vic).ownBlock = some k → w.heap.size ≤ k)) (fun i _ => ns.length - (intOf i).toNat)
  case atStart => exact ⟨0, none, none, 0, 0, fa, fc, wv, rfl, Nat.zero_le _, by simpa [lowsP, placesP, layNs] using xP, by simpa [lowsP] using World.ownsRow_nil _ _ _ _, by simpa [placesP, layNs] using World.ownsRow_nil _ _ _ _, by simpa [layNs] using hLP, Fr.of_below bP, fun k hk => .inl hk, by simp [Value.ownBlock], by simp [Value.ownBlock]⟩
  case round =>
    obtain ⟨j, vka, via, vkc, vic, fa', fc', wv', rfl, hj, xp, hoK, hoI, hL, hF, hli, hlk, hlii⟩ := hrel
    have zF := hF.size
    have hpz : w.heap.size < wr.heap.size := (Array.getElem?_eq_some_iff.1 xp).1
    by_cases hlt : j < ns.length
    · obtain ⟨n, hnj⟩ : ∃ n, ns[j] = n := ⟨_, rfl⟩
      have hlt2 : j < ms.length := by omega
      obtain ⟨m, hmj⟩ : ∃ m, ms[j] = m := ⟨_, rfl⟩
      have oS : On S w wr := hF.on (fun k hk => hS k hk)
      obtain ⟨rb, ro, hna, hrb, n0, n1, n2, n3, n4⟩ := (hR.on oS).nod hlt2
      rw [hmj] at n0 n1 n2 n3 n4
      subst hna
      have hnm : NdOn wr S (nd0 n) m := (hm.2 j (nd0 n) m (by rw [List.getElem?_map, List.getElem?_eq_getElem hlt, hnj]; rfl) (by rw [List.getElem?_eq_getElem hlt2, hmj])).on oS
      have hnn := hn n (hnj ▸ List.getElem_mem hlt)
      have hlo := hnm.lo
      obtain ⟨lo, hi, pl, ea, en, ec, qa, qn, qc⟩ := m
      dsimp only at n0 n1 n2 n3 n4 hlo
      have hlo' : n.sp.lo = lo := by rw [hlo]; cases n <;> rfl
      have hst := layNs_take1 ns fr j hlt
      rw [hnj] at hst
      obtain ⟨f, hf⟩ : ∃ f, fr.drop (layNs (ns.take j) fr).2.length = f := ⟨_, rfl⟩
      rw [hf] at hst hL
      have hle1 := layNs_take_le ns fr (j + 1)
      have hle0 := layNs_take_le ns fr j
      rw [hst] at hle1
      simp only [List.length_append] at hle1
      have hfl2 : f.length = fr.length - (layNs (ns.take j) fr).2.length := by rw [← hf, List.length_drop]
      have hfp : ∀ p ∈ f, placeB (p : Nat) = true := fun p hpp => hp p (List.mem_of_mem_drop (hf ▸ hpp))
      have nE := heap_new wr (.cells #[.string lo, .string hi, .int .i64 pl, .slice ea en ec, .slice qa qn qc] 220)
      have bE : Below wr.heap.size wr (wr.alloc (.cells #[.string lo, .string hi, .int .i64 pl, .slice ea en ec, .slice qa qn qc] 220)) := (Below.refl _ _).alloc (Nat.le_refl _) _
      have xpE := heap_keep (.cells #[.string lo, .string hi, .int .i64 pl, .slice ea en ec, .slice qa qn qc] 220) xp
      have hLE := hL.fr bE
      have hoKE := World.ownsRow.alloc (w := wr) hoK (.cells #[.string lo, .string hi, .int .i64 pl, .slice ea en ec, .slice qa qn qc] 220)
      have hoIE := World.ownsRow.alloc (w := wr) hoI (.cells #[.string lo, .string hi, .int .i64 pl, .slice ea en ec, .slice qa qn qc] 220)
      have FE : Fr (fpL b wv) w (wr.alloc (.cells #[.string lo, .string hi, .int .i64 pl, .slice ea en ec, .slice qa qn qc] 220)) := hF.trans (Fr.of_below bE)
      have hSE : ∀ k, S k → k < (wr.alloc (.cells #[.string lo, .string hi, .int .i64 pl, .slice ea en ec, .slice qa qn qc] 220)).heap.size := fun k hk => by have := (hS k hk).1; simp; omega
      have hNd := node0_any b Sf fs n hnn.1 hnn.2.1 ⟨lo, hi, pl, ea, en, ec, qa, qn, qc⟩ S fa' fc' f wv' (ws ++ (layNs (ns.take j) fr).2.map enc1) (wr.alloc (.cells #[.string lo, .string hi, .int .i64 pl, .slice ea en ec, .slice qa qn qc] 220)).drew (hLE.fr ((Below.refl _ _).drew)) (((hnm.on (On.of_below bE (fun k hk => by have := (hS k hk).1; omega))).on (On.of_below ((Below.refl _ _).drew) hSE))) hSE hnn.2.2 (by omega) hfp (by rw [List.length_append, List.length_map]; omega)
      obtain ⟨pp, hpp⟩ : ∃ pp, (layN n f).1.place = pp := ⟨_, rfl⟩
      rw [hpp] at hNd
      have HPL : Hid (placesP ns fr (j + 1) = placesP ns fr j ++ [pp]) := by
        show _ = _
        unfold placesP
        rw [hst, List.map_append, ← hpp]; rfl
      have HST : Hid ((layNs (ns.take (j + 1)) fr).2 = (layNs (ns.take j) fr).2 ++ (layN n f).2) := by show _ = _; rw [hst]
      have HF : Hid (fr.drop (layNs (ns.take j) fr).2.length = f) := hf
      have HLO : Hid (0 < j → lowsP ns (j + 1) = lowsP ns j ++ [lo]) := fun h0 => by rw [lowsP_succ ns j hlt h0, hnj, hlo']
      have hpln : (placesP ns fr j).length = j := placesP_len ns fr j hj
      have hlwn : (lowsP ns j).length = j - 1 := lowsP_len ns j hj
      have HPN : Hid ((placesP ns fr j).length = j) := hpln
      have HLN : Hid ((lowsP ns j).length = j - 1) := hlwn
      obtain ⟨u0, u1, u2, u3, u4, u5, u6, u7⟩ := box8 xpE
      obtain ⟨q0, q1, q2, q3, q4⟩ := box5 nE
      have hb3 : (placesP ns fr j).length + 1 ≤ 100000 := by omega
      have hb4 : (lowsP ns j).length + 1 ≤ 100000 := by omega
      clear hst hf hle1 hle0 hfl2 hpp hlo hlo' hnj hmj hpln hlwn
      go_wp2
      refine wp_region_held_drew (S := (fun X => X.cell? ⟨wr.heap.size, 0, none⟩ = some (.string lo) ∧ X.cell? ⟨wr.heap.size, 1, none⟩ = some (.string hi) ∧ X.cell? ⟨wr.heap.size, 2, none⟩ = some (.int .i64 pl) ∧ X.cell? ⟨wr.heap.size, 3, none⟩ = some (.slice ea en ec) ∧ X.cell? ⟨wr.heap.size, 4, none⟩ = some (.slice qa qn qc))) (by kernel_rfl) (by (first | exact ⟨q0, q1, q2, q3, q4⟩ | (with_reducible exact ⟨q0, q1, q2, q3, q4⟩) | (with_reducible exact ⟨qq0, qq1, qq2, qq3, qq4⟩) | (refine ⟨?_, ?_, ?_, ?_, ?_⟩ <;> (with_reducible refine cell_other (by omega) ?_) <;> (first | (with_reducible exact q0) | (with_reducible exact q1) | (with_reducible exact q2) | (with_reducible exact q3) | (with_reducible exact q4))) | (simp [q0, q1, q2, q3, q4]))) (fun hHeld => ?_)
      refine wpAnyH_take (i := 0) (v := .pointer (some ⟨w.heap.size, 5, none⟩)) rfl (by kernel_rfl) (by kernel_rfl) (by kernel_rfl) (fun _ _ _ h => h) (Or.inl ⟨by rfl, fun w hSw => by (try dsimp only at hSw); go_simp⟩) (by assumption) ?_
      try simp only [Act.put, List.setIfInBounds_toArray, List.set_cons_zero, List.set_cons_succ]
      refine wpAnyH_take (i := 2) (v := .pointer (some ⟨b, 0, none⟩)) rfl (by kernel_rfl) (by kernel_rfl) (by kernel_rfl) (fun _ _ _ h => h) (Or.inl ⟨by rfl, fun w hSw => by (try dsimp only at hSw); go_simp⟩) (by assumption) ?_
      try simp only [Act.put, List.setIfInBounds_toArray, List.set_cons_zero, List.set_cons_succ]
      refine wpAnyH_take (i := 3) (v := .agg #[.string lo, .string hi, .int .i64 pl, .slice ea en ec, .slice qa qn qc]) rfl (by kernel_rfl) (by kernel_rfl) (by kernel_rfl) (fun _ _ _ h => h) (Or.inl ⟨by rfl, fun w hSw => by (try dsimp only at hSw); go_simp⟩) (by assumption) ?_
      try simp only [Act.put, List.setIfInBounds_toArray, List.set_cons_zero, List.set_cons_succ]
      refine wpAnyH_ready (rs := [1, 4]) (by kernel_rfl) (by simp) (AllReadyH.cons rfl (fun K hK => ?_) (AllReadyH.cons rfl (fun K hK => ?_) AllReadyH.nil))
      go_simp
      refine hK.out _ _ (by (first | exact ⟨q0, q1, q2, q3, q4⟩ | (with_reducible exact ⟨q0, q1, q2, q3, q4⟩) | (with_reducible exact ⟨qq0, qq1, qq2, qq3, qq4⟩) | (refine ⟨?_, ?_, ?_, ?_, ?_⟩ <;> (with_reducible refine cell_other (by omega) ?_) <;> (first | (with_reducible exact q0) | (with_reducible exact q1) | (with_reducible exact q2) | (with_reducible exact q3) | (with_reducible exact q4))) | (simp [q0, q1, q2, q3, q4]))) (fun hHeld => ?_)
      clear hK K
      try simp only [Act.put, List.setIfInBounds_toArray, List.set_cons_zero, List.set_cons_succ]
      refine wpAnyH_ready (rs := [4]) (by kernel_rfl) (by simp) (AllReadyH.cons rfl (fun K hK => ?_) AllReadyH.nil)
      go_simp
      (go_at_call 141; (with_reducible refine Calls.mono hNd ?_); rintro e wt ⟨rfl, fa2, fc2, wv2, hL2, hF2, hli2⟩; have hF3 : Fr (fpL b wv') (wr.alloc (.cells #[.string lo, .string hi, .int .i64 pl, .slice ea en ec, .slice qa qn qc] 220)) wt := (Fr.refl _ _).drew.trans hF2; have xpT := hF3.heap xpE (hLE.not xpE (by decide) (by decide)); have nET := hF3.heap nE (hLE.not nE (by decide) (by decide)); have hoKT := own_keep hoKE hF3 (hLE.notOwn hoKE (by decide) (by decide)); have hoIT := own_keep hoIE hF3 (hLE.notOwn hoIE (by decide) (by decide)); obtain ⟨u0, u1, u2, u3, u4, u5, u6, u7⟩ := box8 xpT; obtain ⟨q0, q1, q2, q3, q4⟩ := box5 nET; have xpTA := heap_keep (.cells #[.int .i64 (pp : Nat)] 3) xpT; have nETA := heap_keep (.cells #[.int .i64 (pp : Nat)] 3) nET; obtain ⟨t0, t1, t2, t3, t4, t5, t6, t7⟩ := box8 xpTA; obtain ⟨qq0, qq1, qq2, qq3, qq4⟩ := box5 nETA)
      simp only []
      refine hK.out _ _ (by (first | exact ⟨q0, q1, q2, q3, q4⟩ | (with_reducible exact ⟨q0, q1, q2, q3, q4⟩) | (with_reducible exact ⟨qq0, qq1, qq2, qq3, qq4⟩) | (refine ⟨?_, ?_, ?_, ?_, ?_⟩ <;> (with_reducible refine cell_other (by omega) ?_) <;> (first | (with_reducible exact q0) | (with_reducible exact q1) | (with_reducible exact q2) | (with_reducible exact q3) | (with_reducible exact q4))) | (simp [q0, q1, q2, q3, q4]))) (fun hHeld => ?_)
      clear hK K
      try simp only [Act.put, List.setIfInBounds_toArray, List.set_cons_zero, List.set_cons_succ]
      refine wpAnyH_ready (rs := [5]) (by kernel_rfl) (by simp) (AllReadyH.cons rfl (fun K hK => ?_) AllReadyH.nil)
      go_simp
      refine hK.out _ _ (by (first | exact ⟨q0, q1, q2, q3, q4⟩ | (with_reducible exact ⟨q0, q1, q2, q3, q4⟩) | (with_reducible exact ⟨qq0, qq1, qq2, qq3, qq4⟩) | (refine ⟨?_, ?_, ?_, ?_, ?_⟩ <;> (with_reducible refine cell_other (by omega) ?_) <;> (first | (with_reducible exact q0) | (with_reducible exact q1) | (with_reducible exact q2) | (with_reducible exact q3) | (with_reducible exact q4))) | (simp [q0, q1, q2, q3, q4]))) (fun hHeld => ?_)
      clear hK K
      try simp only [Act.put, List.setIfInBounds_toArray, List.set_cons_zero, List.set_cons_succ]
      refine wpAnyH_ready (rs := [6]) (by kernel_rfl) (by simp) (AllReadyH.cons rfl (fun K hK => ?_) AllReadyH.nil)
      (refine step_app1 wt rfl (.tmp 17) (.tmp 21) 22 3 _ 1 8 rfl Tryz.underlying22 infoInt rfl (by decide) (.slice via (placesP ns fr j).length vic) (placesP ns fr j).length ((placesP ns fr j).map (fun n : Nat => Value.int .i64 n)) (by simp [Act.eval, Act.put]) hoIT [.int .i64 (pp : Nat)] (by simp [Act.eval, Act.put]) rfl (by simp [Value.oneCell']) (by omega) (by omega) ?_; intro v3 w3 A3; obtain ⟨g3, k3, rfl⟩ := A3.shape (by decide); have xp3 := A3.fr.heap xpT (own_ne hoIT xpT (by decide)); have nE3 := A3.fr.heap nET (own_ne hoIT nET (by decide)); obtain ⟨u0, u1, u2, u3, u4, u5, u6, u7⟩ := box8 xp3; obtain ⟨q0, q1, q2, q3, q4⟩ := box5 nE3; have pfr := free_of xp3)
      refine hK.out _ _ (by (first | exact ⟨q0, q1, q2, q3, q4⟩ | (with_reducible exact ⟨q0, q1, q2, q3, q4⟩) | (with_reducible exact ⟨qq0, qq1, qq2, qq3, qq4⟩) | (refine ⟨?_, ?_, ?_, ?_, ?_⟩ <;> (with_reducible refine cell_other (by omega) ?_) <;> (first | (with_reducible exact q0) | (with_reducible exact q1) | (with_reducible exact q2) | (with_reducible exact q3) | (with_reducible exact q4))) | (simp [q0, q1, q2, q3, q4]))) (fun hHeld => ?_)
      clear hK K
      try simp only [Act.put, List.setIfInBounds_toArray, List.set_cons_zero, List.set_cons_succ]
      refine wpAnyH_take (i := 7) (v := .pointer (some ⟨w.heap.size, 5, none⟩)) rfl (by kernel_rfl) (by kernel_rfl) (by kernel_rfl) (fun _ _ _ h => h) (Or.inl ⟨by rfl, fun w hSw => by (try dsimp only at hSw); go_simp⟩) (by assumption) ?_
      try simp only [Act.put, List.setIfInBounds_toArray, List.set_cons_zero, List.set_cons_succ]
      refine wpAnyH_ready (rs := [8]) (by kernel_rfl) (by simp) (AllReadyH.cons rfl (fun K hK => ?_) AllReadyH.nil)
      go_simp
      refine hK.out _ _ (by (first | exact ⟨q0, q1, q2, q3, q4⟩ | (with_reducible exact ⟨q0, q1, q2, q3, q4⟩) | (with_reducible exact ⟨qq0, qq1, qq2, qq3, qq4⟩) | (refine ⟨?_, ?_, ?_, ?_, ?_⟩ <;> (with_reducible refine cell_other (by omega) ?_) <;> (first | (with_reducible exact q0) | (with_reducible exact q1) | (with_reducible exact q2) | (with_reducible exact q3) | (with_reducible exact q4))) | (simp [q0, q1, q2, q3, q4]))) (fun hHeld => ?_)
      clear hK K
      try simp only [Act.put, List.setIfInBounds_toArray, List.set_cons_zero, List.set_cons_succ]
      refine wpAnyH_done (by kernel_rfl) ?_ _
      rotate_left
      go_simp
      (go_at_call 141; (with_reducible refine Calls.mono hNd ?_); rintro e wt ⟨rfl, fa2, fc2, wv2, hL2, hF2, hli2⟩; have hF3 : Fr (fpL b wv') (wr.alloc (.cells #[.string lo, .string hi, .int .i64 pl, .slice ea en ec, .slice qa qn qc] 220)) wt := (Fr.refl _ _).drew.trans hF2; have xpT := hF3.heap xpE (hLE.not xpE (by decide) (by decide)); have nET := hF3.heap nE (hLE.not nE (by decide) (by decide)); have hoKT := own_keep hoKE hF3 (hLE.notOwn hoKE (by decide) (by decide)); have hoIT := own_keep hoIE hF3 (hLE.notOwn hoIE (by decide) (by decide)); obtain ⟨u0, u1, u2, u3, u4, u5, u6, u7⟩ := box8 xpT; obtain ⟨q0, q1, q2, q3, q4⟩ := box5 nET; have xpTA := heap_keep (.cells #[.int .i64 (pp : Nat)] 3) xpT; have nETA := heap_keep (.cells #[.int .i64 (pp : Nat)] 3) nET; obtain ⟨t0, t1, t2, t3, t4, t5, t6, t7⟩ := box8 xpTA; obtain ⟨qq0, qq1, qq2, qq3, qq4⟩ := box5 nETA)
      simp only []
      refine hK.out _ _ (by (first | exact ⟨q0, q1, q2, q3, q4⟩ | (with_reducible exact ⟨q0, q1, q2, q3, q4⟩) | (with_reducible exact ⟨qq0, qq1, qq2, qq3, qq4⟩) | (refine ⟨?_, ?_, ?_, ?_, ?_⟩ <;> (with_reducible refine cell_other (by omega) ?_) <;> (first | (with_reducible exact q0) | (with_reducible exact q1) | (with_reducible exact q2) | (with_reducible exact q3) | (with_reducible exact q4))) | (simp [q0, q1, q2, q3, q4]))) (fun hHeld => ?_)
      clear hK K
      try simp only [Act.put, List.setIfInBounds_toArray, List.set_cons_zero, List.set_cons_succ]
      refine wpAnyH_ready (rs := [1, 5]) (by kernel_rfl) (by simp) (AllReadyH.cons rfl (fun K hK => ?_) (AllReadyH.cons rfl (fun K hK => ?_) AllReadyH.nil))
      go_simp
      refine hK.out _ _ (by (first | exact ⟨q0, q1, q2, q3, q4⟩ | (with_reducible exact ⟨q0, q1, q2, q3, q4⟩) | (with_reducible exact ⟨qq0, qq1, qq2, qq3, qq4⟩) | (refine ⟨?_, ?_, ?_, ?_, ?_⟩ <;> (with_reducible refine cell_other (by omega) ?_) <;> (first | (with_reducible exact q0) | (with_reducible exact q1) | (with_reducible exact q2) | (with_reducible exact q3) | (with_reducible exact q4))) | (simp [q0, q1, q2, q3, q4]))) (fun hHeld => ?_)
      clear hK K
      try simp only [Act.put, List.setIfInBounds_toArray, List.set_cons_zero, List.set_cons_succ]
      refine wpAnyH_ready (rs := [5]) (by kernel_rfl) (by simp) (AllReadyH.cons rfl (fun K hK => ?_) AllReadyH.nil)
      go_simp
      refine hK.out _ _ (by (first | exact ⟨q0, q1, q2, q3, q4⟩ | (with_reducible exact ⟨q0, q1, q2, q3, q4⟩) | (with_reducible exact ⟨qq0, qq1, qq2, qq3, qq4⟩) | (refine ⟨?_, ?_, ?_, ?_, ?_⟩ <;> (with_reducible refine cell_other (by omega) ?_) <;> (first | (with_reducible exact q0) | (with_reducible exact q1) | (with_reducible exact q2) | (with_reducible exact q3) | (with_reducible exact q4))) | (simp [q0, q1, q2, q3, q4]))) (fun hHeld => ?_)
      clear hK K
      try simp only [Act.put, List.setIfInBounds_toArray, List.set_cons_zero, List.set_cons_succ]
      refine wpAnyH_ready (rs := [6]) (by kernel_rfl) (by simp) (AllReadyH.cons rfl (fun K hK => ?_) AllReadyH.nil)
      (refine step_app1 wt rfl (.tmp 17) (.tmp 21) 22 3 _ 1 8 rfl Tryz.underlying22 infoInt rfl (by decide) (.slice via (placesP ns fr j).length vic) (placesP ns fr j).length ((placesP ns fr j).map (fun n : Nat => Value.int .i64 n)) (by simp [Act.eval, Act.put]) hoIT [.int .i64 (pp : Nat)] (by simp [Act.eval, Act.put]) rfl (by simp [Value.oneCell']) (by omega) (by omega) ?_; intro v3 w3 A3; obtain ⟨g3, k3, rfl⟩ := A3.shape (by decide); have xp3 := A3.fr.heap xpT (own_ne hoIT xpT (by decide)); have nE3 := A3.fr.heap nET (own_ne hoIT nET (by decide)); obtain ⟨u0, u1, u2, u3, u4, u5, u6, u7⟩ := box8 xp3; obtain ⟨q0, q1, q2, q3, q4⟩ := box5 nE3; have pfr := free_of xp3)
      refine hK.out _ _ (by (first | exact ⟨q0, q1, q2, q3, q4⟩ | (with_reducible exact ⟨q0, q1, q2, q3, q4⟩) | (with_reducible exact ⟨qq0, qq1, qq2, qq3, qq4⟩) | (refine ⟨?_, ?_, ?_, ?_, ?_⟩ <;> (with_reducible refine cell_other (by omega) ?_) <;> (first | (with_reducible exact q0) | (with_reducible exact q1) | (with_reducible exact q2) | (with_reducible exact q3) | (with_reducible exact q4))) | (simp [q0, q1, q2, q3, q4]))) (fun hHeld => ?_)
      clear hK K
      try simp only [Act.put, List.setIfInBounds_toArray, List.set_cons_zero, List.set_cons_succ]
      refine wpAnyH_take (i := 7) (v := .pointer (some ⟨w.heap.size, 5, none⟩)) rfl (by kernel_rfl) (by kernel_rfl) (by kernel_rfl) (fun _ _ _ h => h) (Or.inl ⟨by rfl, fun w hSw => by (try dsimp only at hSw); go_simp⟩) (by assumption) ?_
      try simp only [Act.put, List.setIfInBounds_toArray, List.set_cons_zero, List.set_cons_succ]
      refine wpAnyH_ready (rs := [8]) (by kernel_rfl) (by simp) (AllReadyH.cons rfl (fun K hK => ?_) AllReadyH.nil)
      go_simp
      refine hK.out _ _ (by (first | exact ⟨q0, q1, q2, q3, q4⟩ | (with_reducible exact ⟨q0, q1, q2, q3, q4⟩) | (with_reducible exact ⟨qq0, qq1, qq2, qq3, qq4⟩) | (refine ⟨?_, ?_, ?_, ?_, ?_⟩ <;> (with_reducible refine cell_other (by omega) ?_) <;> (first | (with_reducible exact q0) | (with_reducible exact q1) | (with_reducible exact q2) | (with_reducible exact q3) | (with_reducible exact q4))) | (simp [q0, q1, q2, q3, q4]))) (fun hHeld => ?_)
      clear hK K
      try simp only [Act.put, List.setIfInBounds_toArray, List.set_cons_zero, List.set_cons_succ]
      refine wpAnyH_done (by kernel_rfl) ?_ _
      rotate_left
      go_simp
      refine hK.out _ _ (by (first | exact ⟨q0, q1, q2, q3, q4⟩ | (with_reducible exact ⟨q0, q1, q2, q3, q4⟩) | (with_reducible exact ⟨qq0, qq1, qq2, qq3, qq4⟩) | (refine ⟨?_, ?_, ?_, ?_, ?_⟩ <;> (with_reducible refine cell_other (by omega) ?_) <;> (first | (with_reducible exact q0) | (with_reducible exact q1) | (with_reducible exact q2) | (with_reducible exact q3) | (with_reducible exact q4))) | (simp [q0, q1, q2, q3, q4]))) (fun hHeld => ?_)
      clear hK K
      try simp only [Act.put, List.setIfInBounds_toArray, List.set_cons_zero, List.set_cons_succ]
      refine wpAnyH_ready (rs := [1]) (by kernel_rfl) (by simp) (AllReadyH.cons rfl (fun K hK => ?_) AllReadyH.nil)
      go_simp
      refine hK.out _ _ (by (first | exact ⟨q0, q1, q2, q3, q4⟩ | (with_reducible exact ⟨q0, q1, q2, q3, q4⟩) | (with_reducible exact ⟨qq0, qq1, qq2, qq3, qq4⟩) | (refine ⟨?_, ?_, ?_, ?_, ?_⟩ <;> (with_reducible refine cell_other (by omega) ?_) <;> (first | (with_reducible exact q0) | (with_reducible exact q1) | (with_reducible exact q2) | (with_reducible exact q3) | (with_reducible exact q4))) | (simp [q0, q1, q2, q3, q4]))) (fun hHeld => ?_)
      clear hK K
      try simp only [Act.put, List.setIfInBounds_toArray, List.set_cons_zero, List.set_cons_succ]
      refine wpAnyH_ready (rs := [6]) (by kernel_rfl) (by simp) (AllReadyH.cons rfl (fun K hK => ?_) AllReadyH.nil)
      (refine step_app1 wt rfl (.tmp 17) (.tmp 21) 22 3 _ 1 8 rfl Tryz.underlying22 infoInt rfl (by decide) (.slice via (placesP ns fr j).length vic) (placesP ns fr j).length ((placesP ns fr j).map (fun n : Nat => Value.int .i64 n)) (by simp [Act.eval, Act.put]) hoIT [.int .i64 (pp : Nat)] (by simp [Act.eval, Act.put]) rfl (by simp [Value.oneCell']) (by omega) (by omega) ?_; intro v3 w3 A3; obtain ⟨g3, k3, rfl⟩ := A3.shape (by decide); have xp3 := A3.fr.heap xpT (own_ne hoIT xpT (by decide)); have nE3 := A3.fr.heap nET (own_ne hoIT nET (by decide)); obtain ⟨u0, u1, u2, u3, u4, u5, u6, u7⟩ := box8 xp3; obtain ⟨q0, q1, q2, q3, q4⟩ := box5 nE3; have pfr := free_of xp3)
      refine hK.out _ _ (by (first | exact ⟨q0, q1, q2, q3, q4⟩ | (with_reducible exact ⟨q0, q1, q2, q3, q4⟩) | (with_reducible exact ⟨qq0, qq1, qq2, qq3, qq4⟩) | (refine ⟨?_, ?_, ?_, ?_, ?_⟩ <;> (with_reducible refine cell_other (by omega) ?_) <;> (first | (with_reducible exact q0) | (with_reducible exact q1) | (with_reducible exact q2) | (with_reducible exact q3) | (with_reducible exact q4))) | (simp [q0, q1, q2, q3, q4]))) (fun hHeld => ?_)
      clear hK K
      try simp only [Act.put, List.setIfInBounds_toArray, List.set_cons_zero, List.set_cons_succ]
      refine wpAnyH_take (i := 7) (v := .pointer (some ⟨w.heap.size, 5, none⟩)) rfl (by kernel_rfl) (by kernel_rfl) (by kernel_rfl) (fun _ _ _ h => h) (Or.inl ⟨by rfl, fun w hSw => by (try dsimp only at hSw); go_simp⟩) (by assumption) ?_
      try simp only [Act.put, List.setIfInBounds_toArray, List.set_cons_zero, List.set_cons_succ]
      refine wpAnyH_ready (rs := [8]) (by kernel_rfl) (by simp) (AllReadyH.cons rfl (fun K hK => ?_) AllReadyH.nil)
      go_simp
      refine hK.out _ _ (by (first | exact ⟨q0, q1, q2, q3, q4⟩ | (with_reducible exact ⟨q0, q1, q2, q3, q4⟩) | (with_reducible exact ⟨qq0, qq1, qq2, qq3, qq4⟩) | (refine ⟨?_, ?_, ?_, ?_, ?_⟩ <;> (with_reducible refine cell_other (by omega) ?_) <;> (first | (with_reducible exact q0) | (with_reducible exact q1) | (with_reducible exact q2) | (with_reducible exact q3) | (with_reducible exact q4))) | (simp [q0, q1, q2, q3, q4]))) (fun hHeld => ?_)
      clear hK K
      try simp only [Act.put, List.setIfInBounds_toArray, List.set_cons_zero, List.set_cons_succ]
      refine wpAnyH_done (by kernel_rfl) ?_ _
      rotate_left
      all_goals
        obtain ⟨w4, hw4⟩ : ∃ w4, w3.setCell ⟨w.heap.size, 5, none⟩ (.slice (some ⟨g3, 0, none⟩) ((placesP ns fr j).length + 1) k3) = w4 := ⟨_, rfl⟩
        rw [hw4]
        have f4 : Fr (Bl.one w.heap.size) w3 w4 := hw4 ▸ (Fr.refl (Bl.one w.heap.size) w3).setCell (p := ⟨w.heap.size, 5, none⟩) (.inl rfl) _
        have xp4 : w4.heap[w.heap.size]? = some (.cells #[.int .i64 2, .int .i64 0, .int .i64 0, .int .i64 0, .slice vka (lowsP ns j).length vkc, .slice (some ⟨g3, 0, none⟩) ((placesP ns fr j).length + 1) k3, .slice none 0 0, .string ⟨#[]⟩] 72) := by rw [← hw4]; have := set_of xp3 5 (.slice (some ⟨g3, 0, none⟩) ((placesP ns fr j).length + 1) k3); simpa using this
        have nE4 := f4.heap nE3 (fun e => by simp only [Bl.one] at e; omega)
        have hoI4 := own_keep A3.row f4 (fun k hk e => by simp only [Bl.one] at e; subst e; exact own_ne A3.row xp3 (by decide) hk)
        have hoK3 := own_keep hoKT A3.fr (fun k hk e => by rcases own_ne2 hoKT hoIT (by decide) with h1 | h1; rw [h1] at hk; cases hk; exact h1 (hk.trans e.symm))
        have hoK4 := own_keep hoK3 f4 (fun k hk e => by simp only [Bl.one] at e; subst e; exact own_ne hoK3 xp3 (by decide) hk)
        have hL3 := hL2.beside A3.fr (fun k hk => hL2.notOwn hoIT (by decide) (by decide) k hk) (fun k hk hs => by have h1 := hlii k hk; have h2 := (h.apart k hs).1; omega)
        have hL4 := hL3.beside f4 (fun k hk => by simp only [Bl.one] at hk; subst hk; exact hL3.not xp3 (by decide) (by decide)) (fun k hk hs => by simp only [Bl.one] at hk; have h2 := (h.apart k hs).1; omega)
        have F3 : Fr (fpL b wv) w wt := FE.grow hF3 (fun k hk => by rcases hk with hk | hk; exact .inl (.inl hk); exact (hli k hk).imp (fun h => .inr h) id)
        have F4 : Fr (fpL b wv) w w4 := (F3.grow A3.fr (fun k hk => .inr (hlii k hk))).grow f4 (fun k hk => .inr (by simp only [Bl.one] at hk; omega))
        have hli4 : ∀ k, wv2.ownBlock = some k → wv.ownBlock = some k ∨ w.heap.size ≤ k := fun k hk => by
          rcases hli2 k hk with h1 | h1
          · exact hli k h1
          · have h2 : wr.heap.size + 1 ≤ k := by simpa using h1
            exact .inr (by omega)
        have hli3 : ∀ k, (Value.slice (some ⟨g3, 0, none⟩) ((placesP ns fr j).length + 1) k3).ownBlock = some k → w.heap.size ≤ k := fun k hk => by
          rcases A3.lies k hk with h1 | h1
          · exact hlii k h1
          · have := F3.size; omega
        have HI : Hid (w4.ownsRow 0 3 1 (.slice (some ⟨g3, 0, none⟩) (placesP ns fr (j + 1)).length k3) (placesP ns fr (j + 1)).length ((placesP ns fr (j + 1)).map (fun n : Nat => Value.int .i64 n))) := by
          rw [HPL.out, List.length_append, List.length_singleton, List.map_append]; exact hoI4
        have HLL : Hid (LayAt w4 b Sf fa2 fc2 (fr.drop (layNs (ns.take (j + 1)) fr).2.length) wv2 (ws ++ (layNs (ns.take (j + 1)) fr).2.map enc1)) := by
          rw [HST.out, List.length_append, List.map_append, ← List.drop_drop, HF.out, ← List.append_assoc]; exact hL4
        have HPLn : Hid ((placesP ns fr (j + 1)).length = (placesP ns fr j).length + 1) := by show _ = _; rw [HPL.out, List.length_append]; rfl
        obtain ⟨v0, v1, v2, v3', v4, v5', v6, v7⟩ := box8 xp4
        obtain ⟨q0, q1, q2, q3, q4⟩ := box5 nE4
        have pfr4 := free_of xp4
        have nfr4 := free_of nE4
        clear u0 u1 u2 u3 u4 u5 u6 u7 hw4 hNd xpTA nETA qq0 qq1 qq2 qq3 qq4 t0 t1 t2 t3 t4 t5 t6 t7 n0 n1 n2 n3 n4
        by_cases hj0 : 0 < j
        · have hj0' : (0 : Int) < (j : Int) := by omega
          go_wp2_with (at_builtin; refine wp_app1 w4 rfl (.tmp 27) (.tmp 31) 57 9 _ 1 16 rfl Tryz.underlying57 infoString rfl (by decide) (.slice vka (lowsP ns j).length vkc) (lowsP ns j).length ((lowsP ns j).map .string) rfl hoK4 [.string lo] (by simp [Act.eval]) rfl (by simp [Value.oneCell']) (by omega) (by omega) ?_; intro vv5 w5 A5; obtain ⟨g5, k5, rfl⟩ := A5.shape (by decide); have xp5 := A5.fr.heap xp4 (own_ne hoK4 xp4 (by decide)); obtain ⟨z0, z1, z2, z3, z4, z5, z6, z7⟩ := box8 xp5; have pfr5 := free_of xp5)
          have f6 : Fr (Bl.one w.heap.size) w5 (w5.setCell ⟨w.heap.size, 4, none⟩ (.slice (some ⟨g5, 0, none⟩) ((lowsP ns j).length + 1) k5)) := (Fr.refl (Bl.one w.heap.size) w5).setCell (p := ⟨w.heap.size, 4, none⟩) (.inl rfl) _
          have xp6 := set_of xp5 4 (.slice (some ⟨g5, 0, none⟩) ((lowsP ns j).length + 1) k5)
          have hoI5 := own_keep HI.out A5.fr (fun k hk e => by rcases own_ne2 HI.out hoK4 (by decide) with h1 | h1; rw [h1] at hk; cases hk; exact h1 (hk.trans e.symm))
          have hoI6 := own_keep hoI5 f6 (fun k hk e => by simp only [Bl.one] at e; subst e; exact own_ne hoI5 xp5 (by decide) hk)
          have hoK6 := own_keep A5.row f6 (fun k hk e => by simp only [Bl.one] at e; subst e; exact own_ne A5.row xp5 (by decide) hk)
          have hL5 := HLL.out.beside A5.fr (fun k hk => HLL.out.notOwn hoK4 (by decide) (by decide) k hk) (fun k hk hs => by have h1 := hlk k hk; have h2 := (h.apart k hs).1; omega)
          have hL6 := hL5.beside f6 (fun k hk => by simp only [Bl.one] at hk; subst hk; exact hL5.not xp5 (by decide) (by decide)) (fun k hk hs => by simp only [Bl.one] at hk; have h2 := (h.apart k hs).1; omega)
          have hlw := HLO.out hj0
          have hlwl : (lowsP ns (j + 1)).length = (lowsP ns j).length + 1 := by rw [hlw, List.length_append]; rfl
          refine ⟨⟨j + 1, some ⟨g5, 0, none⟩, some ⟨g3, 0, none⟩, k5, k3, fa2, fc2, wv2, by simp, by omega, ?_, ?_, hoI6, hL6, (F4.grow A5.fr (fun k hk => .inr (hlk k hk))).grow f6 (fun k hk => .inr (by simp only [Bl.one] at hk; omega)), hli4, ?_, ?_⟩, by simp [intOf]; omega⟩
          · rw [hlwl, HPLn.out]; simpa using xp6
          · rw [hlwl, hlw, List.map_append]; exact hoK6
          · intro k hk
            rw [hlwl] at hk
            rcases A5.lies k hk with h1 | h1
            · exact hlk k h1
            · have := F4.size; omega
          · intro k hk
            rw [HPLn.out] at hk
            exact hli3 k hk
        · have hj0' : ¬ (0 : Int) < (j : Int) := by omega
          have hj00 : j = 0 := by omega
          have hl1 : lowsP ns (j + 1) = lowsP ns j := by rw [hj00, lowsP_one]; rfl
          have HL1 : Hid (lowsP ns (j + 1) = lowsP ns j) := hl1
          have HJ0 : Hid (j = 0) := hj00
          clear hl1 hj00
          go_wp2
          refine ⟨⟨j + 1, vka, some ⟨g3, 0, none⟩, vkc, k3, fa2, fc2, wv2, by simp, by omega, ?_, ?_, HI.out, HLL.out, F4, hli4, ?_, ?_⟩, by simp [intOf]; omega⟩
          · rw [HL1.out, HPLn.out]; exact xp4
          · rw [HL1.out]; exact hoK4
          · intro k hk; rw [HL1.out] at hk; exact hlk k hk
          · intro k hk
            rw [HPLn.out] at hk
            exact hli3 k hk
    · obtain rfl : j = ns.length := by omega
      rw [List.take_length] at hL
      have hlw : lowsP ns ns.length = ns.tail.map (fun n => n.sp.lo) := by unfold lowsP; rw [List.take_length]
      have hpw : placesP ns fr ns.length = (layNs ns fr).1.map T.place := by unfold placesP; rw [List.take_length]
      rw [hlw] at xp hoK hlk
      rw [hpw] at xp hoI hlii
      obtain ⟨los, hlos⟩ : ∃ los, ns.tail.map (fun n => n.sp.lo) = los := ⟨_, rfl⟩
      obtain ⟨pls, hpls⟩ : ∃ pls, (layNs ns fr).1.map T.place = pls := ⟨_, rfl⟩
      rw [hlos] at xp hoK hlk hE hsm
      rw [hpls] at xp hoI hlii hE hsm
      obtain ⟨pl, hpl⟩ : ∃ pl, fr[(layNs ns fr).2.length]'(by omega) = pl := ⟨_, rfl⟩
      have hgD : fr.getD (layNs ns fr).2.length 0 = pl := by rw [List.getD_eq_getElem?_getD, List.getElem?_eq_getElem (by omega), hpl]; rfl
      have hdr : fr.drop (layNs ns fr).2.length = pl :: fr.drop ((layNs ns fr).2.length + 1) := by rw [List.drop_eq_getElem_cons (by omega), hpl]
      rw [hdr] at hL
      obtain ⟨a1, c1, e1, hc1, hrowK⟩ := own_row0 hoK
      simp only [Value.slice.injEq, true_and] at e1
      obtain ⟨rfl, rfl⟩ := e1
      obtain ⟨a2, c2, e2, hc2, hrowI⟩ := own_row0 hoI
      simp only [Value.slice.injEq, true_and] at e2
      obtain ⟨rfl, rfl⟩ := e2
      have hPg := page_any b Sf fa' fc' pl _ wv' _ (branPg los pls) vka via none vkc vic 0 (fun k => (Value.slice vka los.length vkc).ownBlock = some k ∨ (Value.slice via pls.length vic).ownBlock = some k) wr hL ⟨hrowK.mono (fun k hk => .inl hk), (by
          have e : (branPg los pls).kids.map (Value.int .i64) = pls.map (fun n : Nat => Value.int .i64 n) := by simp [branPg, Function.comp_def]
          rw [e]; exact hrowI.mono (fun k hk => .inr hk)), .inl rfl⟩ (fun k hk => by rcases hk with hk | hk; exact own_lt hoK hk; exact own_lt hoI hk) (fun e => by rcases e with e | e; exact hL.notOwn hoK (by decide) (by decide) _ e (.inl rfl); exact hL.notOwn hoI (by decide) (by decide) _ e (.inl rfl)) hsm hE (by rw [List.length_append, List.length_map]; omega)
      have e1 : (branPg los pls).kids.length = pls.length := by simp [branPg]
      rw [e1] at hPg
      have e2 : (branPg los pls).ents.length = 0 := rfl
      rw [e2] at hPg
      obtain ⟨sn, hsn⟩ : ∃ sn, (branPg los pls).encS = sn := ⟨_, rfl⟩
      rw [hsn] at hPg
      have HO : Hid (ws ++ (layB ns fr).2.map enc1 = (ws ++ (layNs ns fr).2.map enc1) ++ [(pl, sn)]) := by
        show _ = _
        rw [layB]
        simp only
        rw [hgD, hlos, hpls, List.map_append, List.append_assoc, ← hsn]; rfl
      have HPP : Hid ((layB ns fr).1.place = pl) := by show _ = _; rw [layB]; exact hgD
      have HLB : Hid ((layB ns fr).2.length = (layNs ns fr).2.length + 1) := by show _ = _; rw [layB]; simp
      simp only [branPg] at hPg
      obtain ⟨v0, v1, v2, v3', v4, v5', v6, v7⟩ := box8 xp
      clear e1 e2 hsn hgD hdr hE hsm hlos hpls hpl hlw hpw
      go_wp2_with (go_at_call 174; (with_reducible refine Calls.mono hPg ?_); rintro e wp ⟨rfl, fa2, wv2, hL2, hF2, hli2⟩)
      go_ret
      rw [HO.out, HPP.out, HLB.out]
      refine ⟨rfl, fa2, _, wv2, hL2, hF.grow hF2 (fun k hk => ?_), fun k hk => ?_⟩
      · rcases hk with hk | hk
        · exact .inl (.inl hk)
        · exact (hli k hk).imp (fun h => .inr h) id
      · rcases hli2 k hk with h1 | h1
        · exact hli k h1
        · exact .inr (Nat.le_trans hF.size h1)
end Go.Proofs.YtngpplmndpmgiaaGreat.Tree
