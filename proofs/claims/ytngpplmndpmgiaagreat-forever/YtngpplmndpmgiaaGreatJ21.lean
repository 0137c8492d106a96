/-
  Joined: LayB, Free, Well, Wr.
-/
import Derived.Test.YtngpplmndpmgiaaGreatJ20
import Derived.Test.YtngpplmndpmgiaaGreatJ19
import Derived.Test.YtngpplmndpmgiaaGreatJ4
import Derived.Test.YtngpplmndpmgiaaGreatJ18
import Derived.Test.YtngpplmndpmgiaaGreatJ13
namespace Go.Proofs.YtngpplmndpmgiaaGreat.Tree
open Go.RowKit Go.Proofs.YtngpplmndpmgiaaGreat.Pages
set_option linter.unusedSimpArgs false
set_option linter.unusedVariables false
set_option maxRecDepth 100000 in
set_option maxHeartbeats 2000000 in
theorem node0_any (b : Nat) (Sf : Bl) (fs : Fs) (n : NT) (hn : Ok0 fs n) (hpl : Placed n) (m : MN) (S : Bl) (fa : Option Addr) (fc : Nat) (fr : List Nat) (wv : Value) (ws : List (Nat × ByteArray)) (w : World) (h : LayAt w b Sf fa fc fr wv ws) (hm : NdOn w S (nd0 n) m) (hS : ∀ b, S b → b < w.heap.size) (hlen : n.ents0.length ≤ 1000) (hl : (layN n fr).2.length ≤ fr.length) (hp : ∀ p ∈ fr, placeB (p : Nat) = true) (hws : ws.length ≤ 10000) :
    Calls Tryz.prog 141 #[.pointer (some ⟨b, 0, none⟩), .agg #[.string m.lo, .string m.hi, .int .i64 m.place, .slice m.ea m.en m.ec, .slice m.ka m.kn m.kc]] w fun e w' => e = .returned (.int .i64 ((layN n fr).1.place : Nat)) ∧
      ∃ fa' fc' wv', LayAt w' b Sf fa' fc' (fr.drop (layN n fr).2.length) wv' (ws ++ (layN n fr).2.map enc1) ∧ Fr (fpL b wv) w w' ∧ ∀ k, wv'.ownBlock = some k → wv.ownBlock = some k ∨ w.heap.size ≤ k := by
  obtain ⟨lo, hi, pl, ea, en, ec, ka, kn, kc⟩ := m
  obtain ⟨W1, hW1⟩ : ∃ W1, w.alloc (.cells #[.string lo, .string hi, .int .i64 pl, .slice ea en ec, .slice ka kn kc] 220) = W1 := ⟨_, rfl⟩
  have b1 : Below w.heap.size w W1 := hW1 ▸ (Below.refl _ _).alloc (Nat.le_refl _) _
  have x1 : W1.heap[w.heap.size]? = some (.cells #[.string lo, .string hi, .int .i64 pl, .slice ea en ec, .slice ka kn kc] 220) := hW1 ▸ heap_new w _
  obtain ⟨m0, m1, m2, m3, m4⟩ := box5 x1
  have h1 := h.fr b1
  cases n with
  | bran => exact hn.elim
  | kept t s =>
    obtain ⟨_, _, _, _, _, ms, g1, g2, g3, g4, g5, g6, g7, g8, g9, g10, g11⟩ := hm
    have g3' : pl = t.place := g3
    have h0 : 0 < t.place := hpl t s rfl
    have hpb : ((pl : Int) != 0) = true := by simp; omega
    have HP : Hid (pl = t.place) := g3'
    clear g1 g2 g3 g3' g4 g5 g6 g7 g8 g9 g10 g11
    go_enter Tryz.func141, Tryz.ntmps141
    go_wp2
    go_ret
    exact ⟨by rw [HP.out]; rfl, fa, fc, wv, by simpa [layN] using h1, Fr.of_below b1, fun k hk => .inl hk⟩
  | leaf s es =>
    obtain ⟨_, _, _, _, _, ms, g1, g2, g3, g4, g5, g6, g7, g8, g9, g10, g11⟩ := hm
    have g3' : pl = 0 := g3
    have g4' : en = es.length := g4
    have g5' : kn = 0 := g5
    subst g3' g4' g5'
    clear m0 m1 m2 m3 m4
    change w.alloc (.cells #[.string lo, .string hi, .int .i64 0, .slice ea es.length ec, .slice ka 0 kc] 220) = W1 at hW1
    change W1.heap[w.heap.size]? = some (.cells #[.string lo, .string hi, .int .i64 0, .slice ea es.length ec, .slice ka 0 kc] 220) at x1
    obtain ⟨m0, m1, m2, m3, m4⟩ := box5 x1
    simp only [layN, List.length_append, List.length_singleton] at hl ⊢
    have hLf := leaf_any b Sf fs es ea ec S fa fc fr wv ws W1 h1 (g8.on (On.of_below b1 hS)) (fun k hk => Nat.lt_of_lt_of_le (hS k hk) b1.size) hn.1 hn.2.2.1 hn.2.2.2.2 hn.2.2.2.1 hlen (by omega) hp hws
    obtain ⟨pp, hpp⟩ : ∃ pp, fr.getD (layEs es fr).2.length 0 = pp := ⟨_, rfl⟩
    rw [hpp] at hLf
    have HPP : Hid (fr.getD (layEs es fr).2.length 0 = pp) := hpp
    clear hpp g1 g2 g3 g4 g5 g6 g7 g8 g9 g10 g11 hl
    go_enter Tryz.func141, Tryz.ntmps141
    go_wp2_with (go_at_call 161; (with_reducible refine Calls.mono hLf ?_); rintro e w2 ⟨rfl, fa2, fc2, wv2, hL2, hF2, hli2⟩)
    go_ret
    rw [HPP.out]
    exact ⟨rfl, fa2, fc2, wv2, hL2, (Fr.of_below b1).trans hF2, fun k hk => (hli2 k hk).imp id (fun h => Nat.le_trans b1.size h)⟩
theorem layNs_snoc : ∀ (ns : List NT) (n : NT) (fr : List Nat), layNs (ns ++ [n]) fr = ((layNs ns fr).1 ++ [(layN n (fr.drop (layNs ns fr).2.length)).1], (layNs ns fr).2 ++ (layN n (fr.drop (layNs ns fr).2.length)).2)
  | [], n, fr => by simp [layNs]
  | y :: ns, n, fr => by
    simp only [List.cons_append, layNs, layNs_snoc ns n, List.drop_drop, List.length_append, List.append_assoc]
theorem layNs_take1 (ns : List NT) (fr : List Nat) (j : Nat) (hj : j < ns.length) : layNs (ns.take (j + 1)) fr = ((layNs (ns.take j) fr).1 ++ [(layN ns[j] (fr.drop (layNs (ns.take j) fr).2.length)).1], (layNs (ns.take j) fr).2 ++ (layN ns[j] (fr.drop (layNs (ns.take j) fr).2.length)).2) := by
  rw [List.take_succ_eq_append_getElem hj, layNs_snoc]
theorem layNs_take_le : ∀ (ns : List NT) (fr : List Nat) (j : Nat), (layNs (ns.take j) fr).2.length ≤ (layNs ns fr).2.length
  | [], _, _ => by simp [layNs]
  | x :: ns, fr, 0 => by simp [layNs]
  | x :: ns, fr, j + 1 => by
    have := layNs_take_le ns (fr.drop (layN x fr).2.length) j
    simp only [List.take_succ_cons, layNs, List.length_append]; omega
def lowsP (ns : List NT) (j : Nat) : List ByteArray := (ns.take j).tail.map (fun n => n.sp.lo)
def placesP (ns : List NT) (fr : List Nat) (j : Nat) : List Nat := (layNs (ns.take j) fr).1.map T.place
theorem lowsP_succ (ns : List NT) (j : Nat) (hj : j < ns.length) (h0 : 0 < j) : lowsP ns (j + 1) = lowsP ns j ++ [(ns[j]).sp.lo] := by
  unfold lowsP
  rw [List.take_succ_eq_append_getElem hj, List.tail_append_of_ne_nil (by intro e; have := congrArg List.length e; rw [List.length_take, List.length_nil] at this; omega), List.map_append]; rfl
theorem lowsP_one (ns : List NT) : lowsP ns 1 = [] := by
  unfold lowsP
  cases ns <;> rfl
theorem lowsP_len (ns : List NT) (j : Nat) (hj : j ≤ ns.length) : (lowsP ns j).length = j - 1 := by
  unfold lowsP; rw [List.length_map, List.length_tail, List.length_take]; omega
theorem placesP_len (ns : List NT) (fr : List Nat) (j : Nat) (hj : j ≤ ns.length) : (placesP ns fr j).length = j := by
  unfold placesP; rw [List.length_map, layNs_length, List.length_take]; omega
theorem LayAt.notOwn {w : World} {b : Nat} {Sf : Bl} {fa : Option Addr} {fc : Nat} {fr : List Nat} {wv : Value} {ws : List (Nat × ByteArray)} (h : LayAt w b Sf fa fc fr wv ws) {e : TypeId} {z n : Nat} {v : Value} {xs : List Value} (ho : w.ownsRow 0 e z v n xs) (h1 : e ≠ 216) (h2 : e ≠ 205) : ∀ k, v.ownBlock = some k → ¬ fpL b wv k := by
  intro k hk
  have ho' := ho
  obtain ⟨_, h3⟩ := ho'
  rcases h3 with ⟨rfl, _⟩ | ⟨g, cap, cur, rfl, _, hg, _⟩
  · simp [Value.ownBlock] at hk
  · simp [Value.ownBlock] at hk
    subst hk
    exact h.not hg h1 h2
theorem own_keep {Y : Bl} {w w' : World} {e : TypeId} {z n : Nat} {v : Value} {xs : List Value} (ho : w.ownsRow 0 e z v n xs) (f : Fr Y w w') (h : ∀ k, v.ownBlock = some k → ¬ Y k) : w'.ownsRow 0 e z v n xs :=
  own_on ho (f.on (Z := fun k => v.ownBlock = some k) (fun k hk => ⟨own_lt ho hk, h k hk⟩)) (fun k hk => hk)
theorem infoInt : (Tryz.prog.info? 3).map (fun i => (i.zero, i.size, i.bytes)) = some (some (.int .i64 0), 1, 8) := by kernel_rfl
set_option maxRecDepth 100000 in
set_option maxHeartbeats 4000000 in
theorem branch_any (b : Nat) (Sf : Bl) (fs : Fs) (ns : List NT) (hn : ∀ n ∈ ns, Ok0 fs n ∧ Placed n ∧ n.ents0.length ≤ 1000) (ms : List MN) (ka : Option Addr) (kc : Nat) (S : Bl) (fa : Option Addr) (fc : Nat) (fr : List Nat) (wv : Value) (ws : List (Nat × ByteArray)) (w : World) (h : LayAt w b Sf fa fc fr wv ws) (hR : RowOn w S ka (ncells ms)) (hm : NdsOn w S (ns.map nd0) ms) (hS : ∀ k, S k → k < w.heap.size ∧ ¬ fpL b wv k) (hlen : ns.length ≤ 1000) (hkc : ns.length ≤ kc) (hl : (layNs ns fr).2.length < fr.length) (hp : ∀ p ∈ fr, placeB (p : Nat) = true) (hws : ws.length + (layNs ns fr).2.length ≤ 10000)
    (hE : (branPg (ns.tail.map (fun n => n.sp.lo)) ((layNs ns fr).1.map T.place)).encE = 0) (hsm : (branPg (ns.tail.map (fun n => n.sp.lo)) ((layNs ns fr).1.map T.place)).small) :
    Calls Tryz.prog 160 #[.pointer (some ⟨b, 0, none⟩), .slice ka ns.length kc] w fun e w' => e = .returned (.int .i64 ((layB ns fr).1.place : Nat)) ∧
      ∃ fa' fc' wv', LayAt w' b Sf fa' fc' (fr.drop (layB ns fr).2.length) wv' (ws ++ (layB ns fr).2.map enc1) ∧ Fr (fpL b wv) w w' ∧ ∀ k, wv'.ownBlock = some k → wv.ownBlock = some k ∨ w.heap.size ≤ k := by
  have hml : ms.length = ns.length := by rw [hm.1, List.length_map]
  have xP := heap_new w (.cells #[.int .i64 2, .int .i64 0, .int .i64 0, .int .i64 0, .slice none 0 0, .slice none 0 0, .slice none 0 0, .string ⟨#[]⟩] 72)
  have bP : Below w.heap.size w (w.alloc (.cells #[.int .i64 2, .int .i64 0, .int .i64 0, .int .i64 0, .slice none 0 0, .slice none 0 0, .slice none 0 0, .string ⟨#[]⟩] 72)) := (Below.refl _ _).alloc (Nat.le_refl _) _
  have hLP := h.fr bP
  go_enter Tryz.func160, Tryz.ntmps160
  go_wp2
  go_loopw [11] (fun i wr => ∃ (j : Nat) (vka via : Option Addr) (vkc vic : Nat) (fa' : Option Addr) (fc' : Nat) (wv' : Value), i = .int .i64 j ∧ j ≤ ns.length ∧ wr.heap[w.heap.size]? = some (.cells #[.int .i64 2, .int .i64 0, .int .i64 0, .int .i64 0, .slice vka (lowsP ns j).length vkc, .slice via (placesP ns fr j).length vic, .slice none 0 0, .string ⟨#[]⟩] 72) ∧ wr.ownsRow 0 9 1 (.slice vka (lowsP ns j).length vkc) (lowsP ns j).length ((lowsP ns j).map .string) ∧ wr.ownsRow 0 3 1 (.slice via (placesP ns fr j).length vic) (placesP ns fr j).length ((placesP ns fr j).map (fun n : Nat => Value.int .i64 n)) ∧ LayAt wr b Sf fa' fc' (fr.drop (layNs (ns.take j) fr).2.length) wv' (ws ++ (layNs (ns.take j) fr).2.map enc1) ∧ Fr (fpL b wv) w wr ∧ (∀ k, wv'.ownBlock = some k → wv.ownBlock = some k ∨ w.heap.size ≤ k) ∧ (∀ k, (Value.slice vka (lowsP ns j).length vkc).ownBlock = some k → w.heap.size ≤ k) ∧ (∀ k, (Value.slice via (placesP ns fr j).length vic).ownBlock = some k → w.heap.size ≤ k)) (fun i _ => ns.length - (intOf i).toNat)
  case atStart => exact ⟨0, none, none, 0, 0, fa, fc, wv, rfl, Nat.zero_le _, by simpa [lowsP, placesP, layNs] using xP, by simpa [lowsP] using World.ownsRow_nil _ _ _ _, by simpa [placesP, layNs] using World.ownsRow_nil _ _ _ _, by simpa [layNs] using hLP, Fr.of_below bP, fun k hk => .inl hk, by simp [Value.ownBlock], by simp [Value.ownBlock]⟩
  case round =>
    obtain ⟨j, vka, via, vkc, vic, fa', fc', wv', rfl, hj, xp, hoK, hoI, hL, hF, hli, hlk, hlii⟩ := hrel
    have zF := hF.size
    have hpz : w.heap.size < wr.heap.size := (Array.getElem?_eq_some_iff.1 xp).1
    by_cases hlt : j < ns.length
    · obtain ⟨n, hnj⟩ : ∃ n, ns[j] = n := ⟨_, rfl⟩
      have hlt2 : j < ms.length := by omega
      obtain ⟨m, hmj⟩ : ∃ m, ms[j] = m := ⟨_, rfl⟩
      have oS : On S w wr := hF.on (fun k hk => hS k hk)
      obtain ⟨rb, ro, hna, hrb, n0, n1, n2, n3, n4⟩ := (hR.on oS).nod hlt2
      rw [hmj] at n0 n1 n2 n3 n4
      subst hna
      have hnm : NdOn wr S (nd0 n) m := (hm.2 j (nd0 n) m (by rw [List.getElem?_map, List.getElem?_eq_getElem hlt, hnj]; rfl) (by rw [List.getElem?_eq_getElem hlt2, hmj])).on oS
      have hnn := hn n (hnj ▸ List.getElem_mem hlt)
      have hlo := hnm.lo
      obtain ⟨lo, hi, pl, ea, en, ec, qa, qn, qc⟩ := m
      dsimp only at n0 n1 n2 n3 n4 hlo
      have hlo' : n.sp.lo = lo := by rw [hlo]; cases n <;> rfl
      have hst := layNs_take1 ns fr j hlt
      rw [hnj] at hst
      obtain ⟨f, hf⟩ : ∃ f, fr.drop (layNs (ns.take j) fr).2.length = f := ⟨_, rfl⟩
      rw [hf] at hst hL
      have hle1 := layNs_take_le ns fr (j + 1)
      have hle0 := layNs_take_le ns fr j
      rw [hst] at hle1
      simp only [List.length_append] at hle1
      have hfl2 : f.length = fr.length - (layNs (ns.take j) fr).2.length := by rw [← hf, List.length_drop]
      have hfp : ∀ p ∈ f, placeB (p : Nat) = true := fun p hpp => hp p (List.mem_of_mem_drop (hf ▸ hpp))
      have nE := heap_new wr (.cells #[.string lo, .string hi, .int .i64 pl, .slice ea en ec, .slice qa qn qc] 220)
      have bE : Below wr.heap.size wr (wr.alloc (.cells #[.string lo, .string hi, .int .i64 pl, .slice ea en ec, .slice qa qn qc] 220)) := (Below.refl _ _).alloc (Nat.le_refl _) _
      have xpE := heap_keep (.cells #[.string lo, .string hi, .int .i64 pl, .slice ea en ec, .slice qa qn qc] 220) xp
      have hLE := hL.fr bE
      have hoKE := World.ownsRow.alloc (w := wr) hoK (.cells #[.string lo, .string hi, .int .i64 pl, .slice ea en ec, .slice qa qn qc] 220)
      have hoIE := World.ownsRow.alloc (w := wr) hoI (.cells #[.string lo, .string hi, .int .i64 pl, .slice ea en ec, .slice qa qn qc] 220)
      have FE : Fr (fpL b wv) w (wr.alloc (.cells #[.string lo, .string hi, .int .i64 pl, .slice ea en ec, .slice qa qn qc] 220)) := hF.trans (Fr.of_below bE)
      have hSE : ∀ k, S k → k < (wr.alloc (.cells #[.string lo, .string hi, .int .i64 pl, .slice ea en ec, .slice qa qn qc] 220)).heap.size := fun k hk => by have := (hS k hk).1; simp; omega
      have hNd := node0_any b Sf fs n hnn.1 hnn.2.1 ⟨lo, hi, pl, ea, en, ec, qa, qn, qc⟩ S fa' fc' f wv' (ws ++ (layNs (ns.take j) fr).2.map enc1) (wr.alloc (.cells #[.string lo, .string hi, .int .i64 pl, .slice ea en ec, .slice qa qn qc] 220)).drew (hLE.fr ((Below.refl _ _).drew)) (((hnm.on (On.of_below bE (fun k hk => by have := (hS k hk).1; omega))).on (On.of_below ((Below.refl _ _).drew) hSE))) hSE hnn.2.2 (by omega) hfp (by rw [List.length_append, List.length_map]; omega)
      obtain ⟨pp, hpp⟩ : ∃ pp, (layN n f).1.place = pp := ⟨_, rfl⟩
      rw [hpp] at hNd
      have HPL : Hid (placesP ns fr (j + 1) = placesP ns fr j ++ [pp]) := by
        show _ = _
        unfold placesP
        rw [hst, List.map_append, ← hpp]; rfl
      have HST : Hid ((layNs (ns.take (j + 1)) fr).2 = (layNs (ns.take j) fr).2 ++ (layN n f).2) := by show _ = _; rw [hst]
      have HF : Hid (fr.drop (layNs (ns.take j) fr).2.length = f) := hf
      have HLO : Hid (0 < j → lowsP ns (j + 1) = lowsP ns j ++ [lo]) := fun h0 => by rw [lowsP_succ ns j hlt h0, hnj, hlo']
      have hpln : (placesP ns fr j).length = j := placesP_len ns fr j hj
      have hlwn : (lowsP ns j).length = j - 1 := lowsP_len ns j hj
      have HPN : Hid ((placesP ns fr j).length = j) := hpln
      have HLN : Hid ((lowsP ns j).length = j - 1) := hlwn
      obtain ⟨u0, u1, u2, u3, u4, u5, u6, u7⟩ := box8 xpE
      obtain ⟨q0, q1, q2, q3, q4⟩ := box5 nE
      have hb3 : (placesP ns fr j).length + 1 ≤ 100000 := by omega
      have hb4 : (lowsP ns j).length + 1 ≤ 100000 := by omega
      clear hst hf hle1 hle0 hfl2 hpp hlo hlo' hnj hmj hpln hlwn
      go_wp2
      go_region_held3 (fun X => X.cell? ⟨wr.heap.size, 0, none⟩ = some (.string lo) ∧ X.cell? ⟨wr.heap.size, 1, none⟩ = some (.string hi) ∧ X.cell? ⟨wr.heap.size, 2, none⟩ = some (.int .i64 pl) ∧ X.cell? ⟨wr.heap.size, 3, none⟩ = some (.slice ea en ec) ∧ X.cell? ⟨wr.heap.size, 4, none⟩ = some (.slice qa qn qc))
        ((first | (with_reducible exact ⟨q0, q1, q2, q3, q4⟩) | (with_reducible exact ⟨qq0, qq1, qq2, qq3, qq4⟩) | (refine ⟨?_, ?_, ?_, ?_, ?_⟩ <;> (with_reducible refine cell_other (by omega) ?_) <;> (first | (with_reducible exact q0) | (with_reducible exact q1) | (with_reducible exact q2) | (with_reducible exact q3) | (with_reducible exact q4))) | (simp [q0, q1, q2, q3, q4])))
        (first
          | (go_at_call 141; (with_reducible refine Calls.mono hNd ?_); rintro e wt ⟨rfl, fa2, fc2, wv2, hL2, hF2, hli2⟩; have hF3 : Fr (fpL b wv') (wr.alloc (.cells #[.string lo, .string hi, .int .i64 pl, .slice ea en ec, .slice qa qn qc] 220)) wt := (Fr.refl _ _).drew.trans hF2; have xpT := hF3.heap xpE (hLE.not xpE (by decide) (by decide)); have nET := hF3.heap nE (hLE.not nE (by decide) (by decide)); have hoKT := own_keep hoKE hF3 (hLE.notOwn hoKE (by decide) (by decide)); have hoIT := own_keep hoIE hF3 (hLE.notOwn hoIE (by decide) (by decide)); obtain ⟨u0, u1, u2, u3, u4, u5, u6, u7⟩ := box8 xpT; obtain ⟨q0, q1, q2, q3, q4⟩ := box5 nET; have xpTA := heap_keep (.cells #[.int .i64 (pp : Nat)] 3) xpT; have nETA := heap_keep (.cells #[.int .i64 (pp : Nat)] 3) nET; obtain ⟨t0, t1, t2, t3, t4, t5, t6, t7⟩ := box8 xpTA; obtain ⟨qq0, qq1, qq2, qq3, qq4⟩ := box5 nETA)
          | (refine step_app1 wt rfl (.tmp 17) (.tmp 21) 22 3 _ 1 8 rfl Tryz.underlying22 infoInt rfl (by decide) (.slice via (placesP ns fr j).length vic) (placesP ns fr j).length ((placesP ns fr j).map (fun n : Nat => Value.int .i64 n)) (by simp [Act.eval, Act.put]) hoIT [.int .i64 (pp : Nat)] (by simp [Act.eval, Act.put]) rfl (by simp [Value.oneCell']) (by omega) (by omega) ?_; intro v3 w3 A3; obtain ⟨g3, k3, rfl⟩ := A3.shape (by decide); have xp3 := A3.fr.heap xpT (own_ne hoIT xpT (by decide)); have nE3 := A3.fr.heap nET (own_ne hoIT nET (by decide)); obtain ⟨u0, u1, u2, u3, u4, u5, u6, u7⟩ := box8 xp3; obtain ⟨q0, q1, q2, q3, q4⟩ := box5 nE3; have pfr := free_of xp3))
      all_goals
        obtain ⟨w4, hw4⟩ : ∃ w4, w3.setCell ⟨w.heap.size, 5, none⟩ (.slice (some ⟨g3, 0, none⟩) ((placesP ns fr j).length + 1) k3) = w4 := ⟨_, rfl⟩
        rw [hw4]
        have f4 : Fr (Bl.one w.heap.size) w3 w4 := hw4 ▸ (Fr.refl (Bl.one w.heap.size) w3).setCell (p := ⟨w.heap.size, 5, none⟩) (.inl rfl) _
        have xp4 : w4.heap[w.heap.size]? = some (.cells #[.int .i64 2, .int .i64 0, .int .i64 0, .int .i64 0, .slice vka (lowsP ns j).length vkc, .slice (some ⟨g3, 0, none⟩) ((placesP ns fr j).length + 1) k3, .slice none 0 0, .string ⟨#[]⟩] 72) := by rw [← hw4]; have := set_of xp3 5 (.slice (some ⟨g3, 0, none⟩) ((placesP ns fr j).length + 1) k3); simpa using this
        have nE4 := f4.heap nE3 (fun e => by simp only [Bl.one] at e; omega)
        have hoI4 := own_keep A3.row f4 (fun k hk e => by simp only [Bl.one] at e; subst e; exact own_ne A3.row xp3 (by decide) hk)
        have hoK3 := own_keep hoKT A3.fr (fun k hk e => by rcases own_ne2 hoKT hoIT (by decide) with h1 | h1; rw [h1] at hk; cases hk; exact h1 (hk.trans e.symm))
        have hoK4 := own_keep hoK3 f4 (fun k hk e => by simp only [Bl.one] at e; subst e; exact own_ne hoK3 xp3 (by decide) hk)
        have hL3 := hL2.beside A3.fr (fun k hk => hL2.notOwn hoIT (by decide) (by decide) k hk) (fun k hk hs => by have h1 := hlii k hk; have h2 := (h.apart k hs).1; omega)
        have hL4 := hL3.beside f4 (fun k hk => by simp only [Bl.one] at hk; subst hk; exact hL3.not xp3 (by decide) (by decide)) (fun k hk hs => by simp only [Bl.one] at hk; have h2 := (h.apart k hs).1; omega)
        have F3 : Fr (fpL b wv) w wt := FE.grow hF3 (fun k hk => by rcases hk with hk | hk; exact .inl (.inl hk); exact (hli k hk).imp (fun h => .inr h) id)
        have F4 : Fr (fpL b wv) w w4 := (F3.grow A3.fr (fun k hk => .inr (hlii k hk))).grow f4 (fun k hk => .inr (by simp only [Bl.one] at hk; omega))
        have hli4 : ∀ k, wv2.ownBlock = some k → wv.ownBlock = some k ∨ w.heap.size ≤ k := fun k hk => by
          rcases hli2 k hk with h1 | h1
          · exact hli k h1
          · have h2 : wr.heap.size + 1 ≤ k := by simpa using h1
            exact .inr (by omega)
        have hli3 : ∀ k, (Value.slice (some ⟨g3, 0, none⟩) ((placesP ns fr j).length + 1) k3).ownBlock = some k → w.heap.size ≤ k := fun k hk => by
          rcases A3.lies k hk with h1 | h1
          · exact hlii k h1
          · have := F3.size; omega
        have HI : Hid (w4.ownsRow 0 3 1 (.slice (some ⟨g3, 0, none⟩) (placesP ns fr (j + 1)).length k3) (placesP ns fr (j + 1)).length ((placesP ns fr (j + 1)).map (fun n : Nat => Value.int .i64 n))) := by
          rw [HPL.out, List.length_append, List.length_singleton, List.map_append]; exact hoI4
        have HLL : Hid (LayAt w4 b Sf fa2 fc2 (fr.drop (layNs (ns.take (j + 1)) fr).2.length) wv2 (ws ++ (layNs (ns.take (j + 1)) fr).2.map enc1)) := by
          rw [HST.out, List.length_append, List.map_append, ← List.drop_drop, HF.out, ← List.append_assoc]; exact hL4
        have HPLn : Hid ((placesP ns fr (j + 1)).length = (placesP ns fr j).length + 1) := by show _ = _; rw [HPL.out, List.length_append]; rfl
        obtain ⟨v0, v1, v2, v3', v4, v5', v6, v7⟩ := box8 xp4
        obtain ⟨q0, q1, q2, q3, q4⟩ := box5 nE4
        have pfr4 := free_of xp4
        have nfr4 := free_of nE4
        clear u0 u1 u2 u3 u4 u5 u6 u7 hw4 hNd xpTA nETA qq0 qq1 qq2 qq3 qq4 t0 t1 t2 t3 t4 t5 t6 t7 n0 n1 n2 n3 n4
        by_cases hj0 : 0 < j
        · have hj0' : (0 : Int) < (j : Int) := by omega
          go_wp2_with (at_builtin; refine wp_app1 w4 rfl (.tmp 27) (.tmp 31) 57 9 _ 1 16 rfl Tryz.underlying57 infoString rfl (by decide) (.slice vka (lowsP ns j).length vkc) (lowsP ns j).length ((lowsP ns j).map .string) rfl hoK4 [.string lo] (by simp [Act.eval]) rfl (by simp [Value.oneCell']) (by omega) (by omega) ?_; intro vv5 w5 A5; obtain ⟨g5, k5, rfl⟩ := A5.shape (by decide); have xp5 := A5.fr.heap xp4 (own_ne hoK4 xp4 (by decide)); obtain ⟨z0, z1, z2, z3, z4, z5, z6, z7⟩ := box8 xp5; have pfr5 := free_of xp5)
          have f6 : Fr (Bl.one w.heap.size) w5 (w5.setCell ⟨w.heap.size, 4, none⟩ (.slice (some ⟨g5, 0, none⟩) ((lowsP ns j).length + 1) k5)) := (Fr.refl (Bl.one w.heap.size) w5).setCell (p := ⟨w.heap.size, 4, none⟩) (.inl rfl) _
          have xp6 := set_of xp5 4 (.slice (some ⟨g5, 0, none⟩) ((lowsP ns j).length + 1) k5)
          have hoI5 := own_keep HI.out A5.fr (fun k hk e => by rcases own_ne2 HI.out hoK4 (by decide) with h1 | h1; rw [h1] at hk; cases hk; exact h1 (hk.trans e.symm))
          have hoI6 := own_keep hoI5 f6 (fun k hk e => by simp only [Bl.one] at e; subst e; exact own_ne hoI5 xp5 (by decide) hk)
          have hoK6 := own_keep A5.row f6 (fun k hk e => by simp only [Bl.one] at e; subst e; exact own_ne A5.row xp5 (by decide) hk)
          have hL5 := HLL.out.beside A5.fr (fun k hk => HLL.out.notOwn hoK4 (by decide) (by decide) k hk) (fun k hk hs => by have h1 := hlk k hk; have h2 := (h.apart k hs).1; omega)
          have hL6 := hL5.beside f6 (fun k hk => by simp only [Bl.one] at hk; subst hk; exact hL5.not xp5 (by decide) (by decide)) (fun k hk hs => by simp only [Bl.one] at hk; have h2 := (h.apart k hs).1; omega)
          have hlw := HLO.out hj0
          have hlwl : (lowsP ns (j + 1)).length = (lowsP ns j).length + 1 := by rw [hlw, List.length_append]; rfl
          refine ⟨⟨j + 1, some ⟨g5, 0, none⟩, some ⟨g3, 0, none⟩, k5, k3, fa2, fc2, wv2, by simp, by omega, ?_, ?_, hoI6, hL6, (F4.grow A5.fr (fun k hk => .inr (hlk k hk))).grow f6 (fun k hk => .inr (by simp only [Bl.one] at hk; omega)), hli4, ?_, ?_⟩, by simp [intOf]; omega⟩
          · rw [hlwl, HPLn.out]; simpa using xp6
          · rw [hlwl, hlw, List.map_append]; exact hoK6
          · intro k hk
            rw [hlwl] at hk
            rcases A5.lies k hk with h1 | h1
            · exact hlk k h1
            · have := F4.size; omega
          · intro k hk
            rw [HPLn.out] at hk
            exact hli3 k hk
        · have hj0' : ¬ (0 : Int) < (j : Int) := by omega
          have hj00 : j = 0 := by omega
          have hl1 : lowsP ns (j + 1) = lowsP ns j := by rw [hj00, lowsP_one]; rfl
          have HL1 : Hid (lowsP ns (j + 1) = lowsP ns j) := hl1
          have HJ0 : Hid (j = 0) := hj00
          clear hl1 hj00
          go_wp2
          refine ⟨⟨j + 1, vka, some ⟨g3, 0, none⟩, vkc, k3, fa2, fc2, wv2, by simp, by omega, ?_, ?_, HI.out, HLL.out, F4, hli4, ?_, ?_⟩, by simp [intOf]; omega⟩
          · rw [HL1.out, HPLn.out]; exact xp4
          · rw [HL1.out]; exact hoK4
          · intro k hk; rw [HL1.out] at hk; exact hlk k hk
          · intro k hk
            rw [HPLn.out] at hk
            exact hli3 k hk
    · obtain rfl : j = ns.length := by omega
      rw [List.take_length] at hL
      have hlw : lowsP ns ns.length = ns.tail.map (fun n => n.sp.lo) := by unfold lowsP; rw [List.take_length]
      have hpw : placesP ns fr ns.length = (layNs ns fr).1.map T.place := by unfold placesP; rw [List.take_length]
      rw [hlw] at xp hoK hlk
      rw [hpw] at xp hoI hlii
      obtain ⟨los, hlos⟩ : ∃ los, ns.tail.map (fun n => n.sp.lo) = los := ⟨_, rfl⟩
      obtain ⟨pls, hpls⟩ : ∃ pls, (layNs ns fr).1.map T.place = pls := ⟨_, rfl⟩
      rw [hlos] at xp hoK hlk hE hsm
      rw [hpls] at xp hoI hlii hE hsm
      obtain ⟨pl, hpl⟩ : ∃ pl, fr[(layNs ns fr).2.length]'(by omega) = pl := ⟨_, rfl⟩
      have hgD : fr.getD (layNs ns fr).2.length 0 = pl := by rw [List.getD_eq_getElem?_getD, List.getElem?_eq_getElem (by omega), hpl]; rfl
      have hdr : fr.drop (layNs ns fr).2.length = pl :: fr.drop ((layNs ns fr).2.length + 1) := by rw [List.drop_eq_getElem_cons (by omega), hpl]
      rw [hdr] at hL
      obtain ⟨a1, c1, e1, hc1, hrowK⟩ := own_row0 hoK
      simp only [Value.slice.injEq, true_and] at e1
      obtain ⟨rfl, rfl⟩ := e1
      obtain ⟨a2, c2, e2, hc2, hrowI⟩ := own_row0 hoI
      simp only [Value.slice.injEq, true_and] at e2
      obtain ⟨rfl, rfl⟩ := e2
      have hPg := page_any b Sf fa' fc' pl _ wv' _ (branPg los pls) vka via none vkc vic 0 (fun k => (Value.slice vka los.length vkc).ownBlock = some k ∨ (Value.slice via pls.length vic).ownBlock = some k) wr hL ⟨hrowK.mono (fun k hk => .inl hk), (by
          have e : (branPg los pls).kids.map (Value.int .i64) = pls.map (fun n : Nat => Value.int .i64 n) := by simp [branPg, Function.comp_def]
          rw [e]; exact hrowI.mono (fun k hk => .inr hk)), .inl rfl⟩ (fun k hk => by rcases hk with hk | hk; exact own_lt hoK hk; exact own_lt hoI hk) (fun e => by rcases e with e | e; exact hL.notOwn hoK (by decide) (by decide) _ e (.inl rfl); exact hL.notOwn hoI (by decide) (by decide) _ e (.inl rfl)) hsm hE (by rw [List.length_append, List.length_map]; omega)
      have e1 : (branPg los pls).kids.length = pls.length := by simp [branPg]
      rw [e1] at hPg
      have e2 : (branPg los pls).ents.length = 0 := rfl
      rw [e2] at hPg
      obtain ⟨sn, hsn⟩ : ∃ sn, (branPg los pls).encS = sn := ⟨_, rfl⟩
      rw [hsn] at hPg
      have HO : Hid (ws ++ (layB ns fr).2.map enc1 = (ws ++ (layNs ns fr).2.map enc1) ++ [(pl, sn)]) := by
        show _ = _
        rw [layB]
        simp only
        rw [hgD, hlos, hpls, List.map_append, List.append_assoc, ← hsn]; rfl
      have HPP : Hid ((layB ns fr).1.place = pl) := by show _ = _; rw [layB]; exact hgD
      have HLB : Hid ((layB ns fr).2.length = (layNs ns fr).2.length + 1) := by show _ = _; rw [layB]; simp
      simp only [branPg] at hPg
      obtain ⟨v0, v1, v2, v3', v4, v5', v6, v7⟩ := box8 xp
      clear e1 e2 hsn hgD hdr hE hsm hlos hpls hpl hlw hpw
      go_wp2_with (go_at_call 174; (with_reducible refine Calls.mono hPg ?_); rintro e wp ⟨rfl, fa2, wv2, hL2, hF2, hli2⟩)
      go_ret
      rw [HO.out, HPP.out, HLB.out]
      refine ⟨rfl, fa2, _, wv2, hL2, hF.grow hF2 (fun k hk => ?_), fun k hk => ?_⟩
      · rcases hk with hk | hk
        · exact .inl (.inl hk)
        · exact (hli k hk).imp (fun h => .inr h) id
      · rcases hli2 k hk with h1 | h1
        · exact hli k h1
        · exact .inr (Nat.le_trans hF.size h1)
end Go.Proofs.YtngpplmndpmgiaaGreat.Tree
namespace Go.Proofs.YtngpplmndpmgiaaGreat.Tree
open Go.RowKit Go.Proofs.YtngpplmndpmgiaaGreat.Pages
set_option linter.unusedSimpArgs false
set_option linter.unusedVariables false
theorem UsedAt.box {w : World} {ub : Nat} {u : List Bool} (h : UsedAt w ub u) : ∃ cur, w.heap[ub]? = some (.cells cur 4 (0, 0)) := by
  obtain ⟨_, h2⟩ := h
  rcases h2 with ⟨h3, _⟩ | ⟨g', c', cur, h3, hb, hg, _⟩
  · simp at h3
  · simp only [Value.slice.injEq, Option.some.injEq, Addr.mk.injEq, and_true, true_and] at h3
    obtain ⟨rfl, rfl⟩ := h3
    exact ⟨cur, hg⟩
def freeQ (u : List Bool) (p : Nat) : List Nat := (List.range' 2 (p - 2)).filter (fun p => !(u.getD p true))
theorem freeQ_step {u : List Bool} {p : Nat} (hp : 2 ≤ p) : freeQ u (p + 1) = freeQ u p ++ (if u.getD p true then [] else [p]) := by
  unfold freeQ
  rw [show p + 1 - 2 = (p - 2) + 1 by omega, List.range'_1_concat, List.filter_append, show 2 + (p - 2) = p by omega]
  congr 1
  cases h : u.getD p true
  · have h' := h
    rw [List.getD_eq_getElem?_getD] at h'
    simp [h, h']
  · have h' := h
    rw [List.getD_eq_getElem?_getD] at h'
    simp [h, h']
theorem freeQ_end {u : List Bool} {n p : Nat} (h1 : n ≤ p) (h2 : p ≤ n ∨ p = 2) : freeQ u p = freeP n u := by
  unfold freeQ freeP
  rw [show p - 2 = n - 2 by omega]
theorem freeQ_len {u : List Bool} {p : Nat} : (freeQ u p).length ≤ p := by
  unfold freeQ
  refine Nat.le_trans (List.length_filter_le _ _) ?_
  rw [List.length_range']
  omega
set_option maxRecDepth 100000 in
set_option maxHeartbeats 4000000 in
theorem free_any (D : Db) (st : Int) (o ao : Option (Nat × T)) (ot : Tx → Option (Nat × T)) (w : World) (h : DbAt w st D) (hn : D.ts.length ≤ 1000000) (hl : (D.fs.life == 0) = false)
    (ho : Rooted D.fs (rootOf o) o) (hr : D.root = rootOf o) (hao : Rooted D.fs (rootOf ao) ao) (har : D.aroot = rootOf ao) (hts : ∀ t ∈ D.ts, Rooted D.fs (rootOf (ot t)) (ot t) ∧ t.root = rootOf (ot t)) :
    Calls Tryz.prog 128 #[.pointer (some ⟨D.d, 0, none⟩)] w fun e w' => ∃ v, e = .returned v ∧ w'.ownsRow 0 3 1 v (freeP D.fs.safe.length (usedP ([o, ao] ++ D.ts.map ot))).length ((freeP D.fs.safe.length (usedP ([o, ao] ++ D.ts.map ot))).map (fun n : Nat => Value.int .i64 n)) ∧ Below w.heap.size w w' := by
  obtain ⟨w1, hmk, hU1, hb1⟩ := made_used w
  have hmk' : (Instr.makeSlice 111 (.int .i64 4096) (.int .i64 4096)).run Tryz.prog w = .ok (.slice (some ⟨w.heap.size, 0, none⟩) 4096 4096) w1 := hmk
  have hsm : D.fs.safe.length ≤ 4096 := h.file.small
  have HK : Hid (∀ X, Below w.heap.size w X → X.cell? ⟨D.d, 2, none⟩ = some (.pointer (some ⟨D.β, 0, none⟩)) ∧ X.cell? ⟨D.d, 5, none⟩ = some (.int .i64 D.root) ∧ X.cell? ⟨D.d, 11, none⟩ = some (.int .i64 D.aroot) ∧ X.cell? ⟨D.d, 14, none⟩ = some D.ov ∧ DbAt X st D) := by
    intro X hX
    have h1 := h.on (On.of_below hX h.lies)
    obtain ⟨c0, c1, c2, c3, c4, c5, c6, c7, c8, c9, c10, c11, c12, c13, c14⟩ := box15 h1.box
    exact ⟨c2, c5, c11, c14, h1⟩
  have HM : Hid (∀ X os oo, Below w.heap.size w X → (∀ y ∈ os, Rooted D.fs (rootOf y) y) → Rooted D.fs (rootOf oo) oo → UsedAt X w.heap.size (usedP os) → ∀ root ca cn cc, root = rootOf oo → Calls Tryz.prog 52 #[.agg #[.pointer (some ⟨D.β, 0, none⟩), .int .i64 ((root : Nat) : Int), .slice ca cn cc], .slice (some ⟨w.heap.size, 0, none⟩) 4096 4096] X fun e w' => (∃ v, e = .returned v) ∧ UsedAt w' w.heap.size (usedP (os ++ [oo])) ∧ Below w.heap.size w w') := by
    intro X os oo hX hos hoo hU root ca cn cc hroot
    subst hroot
    rw [usedP_snoc]
    exact (Mark_any D.β D.sv D.lv D.fs hl _ ca cn cc w.heap.size oo (usedP os) X hoo (usedP_shut hsm os hos oo hoo) (usedP_len os) (h.file.on (On.of_below hX h.file.lies)) hU).mono fun e w' ⟨he, hu', hf'⟩ => ⟨he, hu', hX.trans (hf'.below hX.size (fun k hk => by simp only [Bl.one] at hk; omega))⟩
  have hT1 : Hid (∀ X (root : Nat), Below w.heap.size w X → Calls Tryz.prog 32 #[.pointer (some ⟨D.d, 0, none⟩), .int .i64 (root : Int)] X fun e w' => e = .returned (.agg #[.pointer (some ⟨D.β, 0, none⟩), .int .i64 (root : Int), .slice none 0 0]) ∧ Below w.heap.size w w' ∧ ∀ os, UsedAt X w.heap.size os → UsedAt w' w.heap.size os) := fun X root hX => (treeAt_any D.d D.β root X (HK.out X hX).1).mono fun e w' ⟨he, hb⟩ => ⟨he, hX.trans (hb.mono hX.size), fun os hu => hu.on (Y := Bl.one w.heap.size) (On.of_below hb (fun k hk => by simp only [Bl.one] at hk; have := hu.lt; omega)) rfl⟩
  obtain ⟨c2, c5, c11, c14, _⟩ := HK.out w1 hb1
  have hA := hT1.out w1 D.root hb1
  have HTS : Hid _ := hts
  have HO : Hid _ := ho
  have HAO : Hid _ := hao
  have HR : Hid _ := hr
  have HAR : Hid _ := har
  have HU1 : Hid (UsedAt w1 w.heap.size (usedP [])) := hU1
  obtain ⟨oa, oc, hov, hoc, hrow⟩ := own_row0 h.row
  have HOV : Hid _ := hov
  clear hts ho hao hr har hmk hov
  go_enter Tryz.func128, Tryz.ntmps128
  go_wp2_with (first
    | (go_at_call 32; (with_reducible refine Calls.mono hA ?_); rintro e w2 ⟨rfl, hb2, hk2⟩; have hM := HM.out w2 [] o hb2 (by simp) HO.out (hk2 _ HU1.out) D.root none 0 0 HR.out)
    | (go_at_call 52; (with_reducible refine Calls.mono hM ?_); rintro e w3 ⟨⟨v3, rfl⟩, hU3, hb3⟩; obtain ⟨d2, d5, d11, d14, _⟩ := HK.out w3 hb3; have hB := hT1.out w3 D.aroot hb3)
    | (go_at_call 32; (with_reducible refine Calls.mono hB ?_); rintro e w4 ⟨rfl, hb4, hk4⟩; have hN := HM.out w4 [o] ao hb4 (by intro y hy; rw [List.mem_singleton] at hy; subst hy; exact HO.out) HAO.out (hk4 _ hU3) D.aroot none 0 0 HAR.out)
    | (go_at_call 52; (with_reducible refine Calls.mono hN ?_); rintro e w5 ⟨⟨v5, rfl⟩, hU5, hb5⟩; obtain ⟨e2, e5, e11, e14, _⟩ := HK.out w5 hb5; rw [HOV.out] at e14))
  have HRow : Hid (RowOn w (fun k => D.ov.ownBlock = some k) oa (ptrs D.ts)) := hrow
  have HS : Hid (∀ k, D.ov.ownBlock = some k → k < w.heap.size) := fun k hk => own_lt h.row hk
  have HU5 : Hid (UsedAt w5 w.heap.size (usedP ([o, ao] ++ (D.ts.take 0).map ot))) := hU5
  clear hA hM hB hN hmk' hU3 hU5 hrow h hU1 hk2 hk4 c2 c5 c11 c14 d2 d5 d11 d14 hT1 HU1
  go_loopw [31] (fun a wr => ∃ j : Nat, a = .int .i64 j ∧ j ≤ D.ts.length ∧ Below w.heap.size w wr ∧ Hid (UsedAt wr w.heap.size (usedP ([o, ao] ++ (D.ts.take j).map ot)))) (fun a _ => D.ts.length - (intOf a).toNat)
  case atStart => exact ⟨0, rfl, Nat.zero_le _, hb5, HU5.out⟩
  case round =>
    obtain ⟨j, rfl, hj, hb, HI⟩ := hrel
    by_cases hlt : j < D.ts.length
    · have hlti : (j : Int) < (D.ts.length : Int) := by omega
      obtain ⟨t, ht⟩ : ∃ t, D.ts[j] = t := ⟨_, rfl⟩
      have htm : t ∈ D.ts := ht ▸ List.getElem_mem hlt
      rcases HRow.out.on (On.of_below hb HS.out) with h0 | ⟨g, off, rfl, hg, hcell⟩
      · have := congrArg List.length h0
        simp [ptrs] at this
        rw [this] at hlt
        simp at hlt
      have k0 : wr.cell? ⟨g, off + j, none⟩ = some (.pointer (some ⟨t.b, 0, none⟩)) := hcell j _ (by simp [ptrs, hlt, ht])
      have hbx := ((HK.out wr hb).2.2.2.2.each t htm).box
      have q2 : wr.cell? ⟨t.b, 2, none⟩ = some (.pointer (some ⟨D.β, 0, none⟩)) := by simp [World.cell?, hbx]
      have q3 : wr.cell? ⟨t.b, 3, none⟩ = some (.int .i64 t.root) := by simp [World.cell?, hbx]
      have q4 : wr.cell? ⟨t.b, 4, none⟩ = some (.slice t.ca t.cs.length t.cc) := by simp [World.cell?, hbx]
      have hM := HM.out wr ([o, ao] ++ (D.ts.take j).map ot) (ot t) hb (by
        intro y hy
        simp only [List.cons_append, List.nil_append, List.mem_cons, List.mem_map] at hy
        rcases hy with rfl | rfl | ⟨x, hx, rfl⟩
        · exact HO.out
        · exact HAO.out
        · exact (HTS.out x (List.mem_of_mem_take hx)).1) (HTS.out t htm).1 HI.out t.root t.ca t.cs.length t.cc (HTS.out t htm).2
      have HE : Hid ([o, ao] ++ (D.ts.take j).map ot ++ [ot t] = [o, ao] ++ (D.ts.take (j + 1)).map ot) := by
        show _ = _
        rw [List.take_succ_eq_append_getElem hlt, ht, List.map_append, List.append_assoc]
        rfl
      rw [HE.out] at hM
      clear hcell ht hbx e2 e5 e11 e14
      go_wp2_with (go_at_call 52; (with_reducible refine Calls.mono hM ?_); rintro e w6 ⟨⟨v6, rfl⟩, hU6, hb6⟩)
      exact ⟨⟨j + 1, by simp, by omega, hb6, hU6⟩, by simp [intOf]; omega⟩
    · obtain rfl : j = D.ts.length := by omega
      have hlti : ¬ (D.ts.length : Int) < (D.ts.length : Int) := by omega
      rw [List.take_length] at HI
      obtain ⟨U, hUd⟩ : ∃ U, usedP ([o, ao] ++ D.ts.map ot) = U := ⟨_, rfl⟩
      have hUl : U.length = 4096 := by rw [← hUd]; exact usedP_len _
      rw [hUd] at HI
      have HUD : Hid (usedP ([o, ao] ++ D.ts.map ot) = U) := hUd
      clear hUd
      clear e2 e5 e11 e14 hlti
      go_wp2
      go_loopw [6, 7] (fun a b wq => ∃ p : Nat, b = .int .i64 p ∧ 2 ≤ p ∧ (p ≤ D.fs.safe.length ∨ p = 2) ∧ Below w.heap.size w wq ∧ Hid (UsedAt wq w.heap.size U) ∧ Hid (wq.ownsRow 0 3 1 a (freeQ U p).length ((freeQ U p).map (fun n : Nat => Value.int .i64 n)) ∧ ∀ k, a.ownBlock = some k → w.heap.size ≤ k)) (fun _ b _ => D.fs.safe.length - (intOf b).toNat)
      case atStart => exact ⟨2, rfl, Nat.le_refl _, .inr rfl, hb, HI.out, World.ownsRow_nil _ _ _ _, fun k hk => by simp [Value.ownBlock] at hk⟩
      case round =>
        obtain ⟨p, rfl, hp2, hpn, hbq, HUq, HOq⟩ := hrel
        obtain ⟨hown, hlies⟩ := HOq.out
        obtain ⟨c2, c5, c11, c14, hDq⟩ := HK.out wr hbq
        have hPg := pages_any D.β D.sv D.lv D.fs wr hDq.file
        obtain ⟨aa, ac, rfl⟩ := own_shape hown
        by_cases hlt2 : p < D.fs.safe.length
        · have hl2 : (p : Int) < (D.fs.safe.length : Int) := by omega
          have hp4 : p < 4096 := by omega
          have hp4i : (p : Int) < 4096 := by omega
          have ucell := HUq.out.cell hp4 hUl
          have hgd : U.getD p true = U[p]'(by omega) := by rw [List.getD_eq_getElem?_getD, List.getElem?_eq_getElem (by omega)]; rfl
          have HST : Hid _ := freeQ_step (u := U) hp2
          have hlenq : (freeQ U p).length ≤ 4096 := Nat.le_trans freeQ_len (by omega)
          cases hb' : (U[p]'(by omega) : Bool)
          · rw [hb'] at ucell hgd
            have HG : Hid _ := hgd
            clear hgd
            obtain ⟨L, hL⟩ : ∃ L, freeQ U p = L := ⟨_, rfl⟩
            rw [hL] at hown hlenq HOq HST hlies
            rw [hL]
            have HS1 : Hid (freeQ U (p + 1) = L ++ [p]) := by
              show _ = _
              rw [HST.out, HG.out]; rfl
            clear HST hL c5 c11 c14 hlt hDq
            go_wp2_with (first
              | (go_at_call 27; (with_reducible refine Calls.mono hPg ?_); rintro e w7 ⟨rfl, hw7⟩; subst w7)
              | (at_builtin; refine wp_app1 wr rfl (.tmp 56) (.tmp 58) 22 3 _ 1 8 rfl Tryz.underlying22 infoInt rfl (by decide) (.slice aa L.length ac) L.length (L.map (fun n : Nat => Value.int .i64 n)) rfl hown [.int .i64 (p : Int)] rfl rfl (by simp [Value.oneCell']) (by omega) (by omega) ?_; intro v3 w3 A3; obtain ⟨g3, k3, rfl⟩ := A3.shape (by decide)))
            obtain ⟨cur, hcur⟩ := HUq.out.box
            have hub := own_ne hown hcur (by decide)
            refine ⟨⟨p + 1, by simp, by omega, .inl (by omega), hbq.trans (A3.fr.below hbq.size (fun k hk => hlies k hk)), HUq.out.on (Y := Bl.one w.heap.size) (A3.fr.on (fun k hk => ⟨by simp only [Bl.one] at hk; have := HUq.out.lt; omega, by simp only [Bl.one] at hk; subst hk; exact hub⟩)) rfl, ?_, fun k hk => ?_⟩, by simp [intOf]; omega⟩
            · rw [HS1.out, List.length_append, List.length_singleton, List.map_append]
              exact A3.row
            · rcases A3.lies k hk with h' | h'
              · exact hlies k h'
              · exact Nat.le_trans hbq.size h'
          · rw [hb'] at ucell hgd
            have HG : Hid _ := hgd
            have HS1 : Hid (freeQ U (p + 1) = freeQ U p) := by
              show _ = _
              rw [HST.out, HG.out]; simp
            clear HST HG hgd c5 c11 c14 hlt hDq
            go_wp2_with (go_at_call 27; (with_reducible refine Calls.mono hPg ?_); rintro e w7 ⟨rfl, hw7⟩; subst w7)
            refine ⟨⟨p + 1, by simp, by omega, .inl (by omega), hbq, HUq.out, ?_, hlies⟩, by simp [intOf]; omega⟩
            rw [HS1.out]
            exact hown
        · have hl2 : ¬ (p : Int) < (D.fs.safe.length : Int) := by omega
          have HFE : Hid (freeQ U p = freeP D.fs.safe.length U) := freeQ_end (by omega) hpn
          clear c5 c11 c14 hlt hDq
          go_wp2_with (go_at_call 27; (with_reducible refine Calls.mono hPg ?_); rintro e w7 ⟨rfl, hw7⟩; subst w7)
          go_ret
          refine ⟨.slice aa (freeQ U p).length ac, rfl, ?_, hbq⟩
          rw [show usedP (o :: ao :: D.ts.map ot) = U from HUD.out, ← HFE.out]
          exact hown
end Go.Proofs.YtngpplmndpmgiaaGreat.Tree
namespace Go.Proofs.YtngpplmndpmgiaaGreat.Tree
open Go.RowKit Go.Proofs.YtngpplmndpmgiaaGreat.Pages
set_option linter.unusedSimpArgs false
set_option linter.unusedVariables false
def Fs.well (fs : Fs) : Prop := fs.wait = -1 ∧ fs.life = -1
theorem Fs.well_ok {fs : Fs} (h : fs.well) : fs.chOk = true ∧ fs.ch = fs := by
  obtain ⟨h1, h2⟩ := h
  have hok : fs.chOk = true := by unfold Fs.chOk; rw [h1, h2]; rfl
  refine ⟨hok, ?_⟩
  unfold Fs.ch
  rw [if_pos hok, h1, h2]
  cases fs
  simp only at h1 h2
  subst h1 h2
  rfl
theorem Fs.well_alive {fs : Fs} (h : fs.well) : (fs.life == 0) = false := by rw [h.2]; rfl
theorem Fs.well_put {fs : Fs} (h : fs.well) (p : Nat) (d : ByteArray) : (fs.put p d).well := h
theorem Fs.well_synced {fs : Fs} (h : fs.well) : fs.synced.well := h
theorem Fs.well_puts {fs : Fs} (h : fs.well) (l : List (Nat × Pg)) : (fs.puts l).well := h
theorem write_well (β : Nat) (sv lv : Value) (fs : Fs) (p : Nat) (data : ByteArray) (w : World) (h : FileAt w β sv lv fs) (hw : fs.well) (hd : data.size = 256) (hp : p < fs.safe.length) (hroom : fs.late.length < 1000000) :
    Calls Tryz.prog 78 #[.pointer (some ⟨β, 0, none⟩), .int .i64 p, .string data] w fun e w' => e = .returned (.bool true) ∧
      ∃ lv', FileAt w' β sv lv' (fs.put p data) ∧ Fr (fpF β sv lv) w w' ∧ Grows w (fpF β sv lv) (fpF β sv lv') := by
  have := write_any β sv lv fs p data w h (by rw [hw.1]; decide) (by rw [hw.1]; decide) (by rw [hw.2]; decide) (by rw [hw.2]; decide) hd hp hroom
  rw [(Fs.well_ok hw).1, (Fs.well_ok hw).2] at this
  exact this
theorem sync_well (β : Nat) (sv lv : Value) (fs : Fs) (w : World) (h : FileAt w β sv lv fs) (hw : fs.well) (hfit : fs.fits) :
    Calls Tryz.prog 49 #[.pointer (some ⟨β, 0, none⟩)] w fun e w' => e = .returned (.bool true) ∧
      ∃ lv', FileAt w' β sv lv' fs.synced ∧ Fr (fpF β sv lv) w w' ∧ Grows w (fpF β sv lv) (fpF β sv lv') := by
  have := sync_any β sv lv fs w h (by rw [hw.1]; decide) (by rw [hw.1]; decide) (by rw [hw.2]; decide) (by rw [hw.2]; decide) hfit
  rw [(Fs.well_ok hw).1, (Fs.well_ok hw).2] at this
  exact this
theorem own_block {w : World} {B : Nat} {e : TypeId} {z n k : Nat} {v : Value} {xs : List Value} (h : w.ownsRow B e z v n xs) (hk : v.ownBlock = some k) : ∃ cur, w.heap[k]? = some (.cells cur e) := by
  obtain ⟨_, h2⟩ := h
  rcases h2 with ⟨h3, _⟩ | ⟨g', cap, cur, h3, _, hg, _⟩
  · rw [h3] at hk; simp [Value.ownBlock] at hk
  · rw [h3] at hk
    simp only [Value.ownBlock, Option.some.injEq] at hk
    subst hk
    exact ⟨cur, hg⟩
theorem DbAt.txFile {w : World} {st : Int} {D : Db} (h : DbAt w st D) {t : Tx} (ht : TxAt w D.β t) : ∀ k, fpT t k → ¬ fpF D.β D.sv D.lv k := by
  rintro k (rfl | hk)
  · exact file_apart h.file ht.box (by decide) (by decide) (by decide)
  · obtain ⟨cur, hc⟩ := own_block ht.row hk
    exact file_apart h.file hc (by decide) (by decide) (by decide)
theorem DbAt.refile {w w' : World} {st : Int} {D : Db} {lv' : Value} {fs' : Fs} (h : DbAt w st D) (hf : FileAt w' D.β D.sv lv' fs') (f : Fr (fpF D.β D.sv D.lv) w w') : DbAt w' st { D with lv := lv', fs := fs' } :=
  ⟨f.heap h.box h.noFile, hf, own_keep h.row f (fun k hk hfp => h.fileRow k hfp hk), fun t ht => (h.each t ht).on (f.on (fun k hk => ⟨(h.each t ht).lies k hk, h.txFile (h.each t ht) k hk⟩)), h.apart⟩
theorem TxAt.refile {w w' : World} {st : Int} {D : Db} {t : Tx} (h : DbAt w st D) (ht : TxAt w D.β t) (f : Fr (fpF D.β D.sv D.lv) w w') : TxAt w' D.β t :=
  ht.on (f.on (fun k hk => ⟨ht.lies k hk, h.txFile ht k hk⟩))
end Go.Proofs.YtngpplmndpmgiaaGreat.Tree
namespace Go.Proofs.YtngpplmndpmgiaaGreat.Tree
open Go.RowKit Go.Proofs.YtngpplmndpmgiaaGreat.Pages
set_option linter.unusedSimpArgs false
set_option linter.unusedVariables false
theorem RowOn.wr {w : World} {S : Bl} {a : Option Addr} {l : List (Nat × ByteArray)} {j : Nat} (h : RowOn w S a (l.flatMap wcells)) (hj : j < l.length) : ∃ b off, a = some ⟨b, off, none⟩ ∧ S b ∧ w.cell? ⟨b, off + j * 2, none⟩ = some (.int .i64 (l[j]).1) ∧ w.cell? ⟨b, off + j * 2 + 1, none⟩ = some (.string (l[j]).2) := by
  obtain ⟨c0, c1⟩ := wcells_at hj
  rcases h with h | ⟨b, off, ha, hb, hc⟩
  · rw [h] at c0; simp at c0
  · exact ⟨b, off, ha, hb, hc _ _ c0, hc _ _ c1⟩
def encL (l : List (Nat × Pg)) : List (Nat × ByteArray) := l.map fun y => (y.1, y.2.encS)
set_option maxRecDepth 100000 in
set_option maxHeartbeats 4000000 in
theorem wr_any (D : Db) (st : Int) (l : List (Nat × Pg)) (m : MV) (rt : Nat) (wa : Option Addr) (wc : Nat) (S : Bl) (w : World) (h : DbAt w st D) (hw : D.fs.well) (hlate : D.fs.late = [])
    (hR : RowOn w S wa ((encL l).flatMap wcells)) (hS : ∀ k, S k → k < w.heap.size ∧ ¬ fpF D.β D.sv D.lv k) (hlc : l.length ≤ wc) (hll : l.length ≤ 4096)
    (hE : ∀ y ∈ l, y.2.encE = 0) (hp : ∀ y ∈ l, y.1 < D.fs.safe.length) (hmE : (metaPg m.ver m.root).encE = 0) (hms : (metaPg m.ver m.root).small) (h2 : 2 ≤ D.fs.safe.length) :
    Calls Tryz.prog 102 #[.pointer (some ⟨D.d, 0, none⟩), .agg #[.int .i64 (rt : Int), .slice wa l.length wc], .agg #[.int .i64 1, .int .i64 m.ver, .int .i64 m.root, .int .i64 0, .slice m.ka 0 m.kc, .slice m.ia 0 m.ic, .slice m.ea 0 m.ec, .string ⟨#[]⟩]] w fun e w' => e = .returned (.bool true) ∧ ∃ lv', DbAt w' st { D with lv := lv', fs := D.fs.made l (m.ver % 2) (metaPg m.ver m.root) } ∧ Fr (fpF D.β D.sv D.lv) w w' ∧ Grows w (fpF D.β D.sv D.lv) (fpF D.β D.sv lv') := by
  obtain ⟨W1, hW1⟩ : ∃ W1, (w.alloc (.cells #[.int .i64 (rt : Int), .slice wa l.length wc] 174)).alloc (.cells #[.int .i64 1, .int .i64 m.ver, .int .i64 m.root, .int .i64 0, .slice m.ka 0 m.kc, .slice m.ia 0 m.ic, .slice m.ea 0 m.ec, .string ⟨#[]⟩] 72) = W1 := ⟨_, rfl⟩
  have B1 : Below w.heap.size w W1 := hW1 ▸ ((Below.refl _ _).alloc (Nat.le_refl _) _).alloc (by simp) _
  have x1 : W1.heap[w.heap.size]? = some (.cells #[.int .i64 (rt : Int), .slice wa l.length wc] 174) := hW1 ▸ heap_keep _ (heap_new w _)
  have x2 : W1.heap[w.heap.size + 1]? = some (.cells #[.int .i64 1, .int .i64 m.ver, .int .i64 m.root, .int .i64 0, .slice m.ka 0 m.kc, .slice m.ia 0 m.ic, .slice m.ea 0 m.ec, .string ⟨#[]⟩] 72) := by
    rw [← hW1]; have := heap_new (w.alloc (.cells #[.int .i64 (rt : Int), .slice wa l.length wc] 174)) (.cells #[.int .i64 1, .int .i64 m.ver, .int .i64 m.root, .int .i64 0, .slice m.ka 0 m.kc, .slice m.ia 0 m.ic, .slice m.ea 0 m.ec, .string ⟨#[]⟩] 72); simpa using this
  have l2 := (Array.getElem?_eq_some_iff.1 x2).1
  obtain ⟨p0, p1⟩ := box2 x1
  obtain ⟨m0, m1, m2, m3, m4, m5, m6, m7⟩ := box8 x2
  have hEn := encoded_any (metaPg m.ver m.root) m.ka m.ia m.ea m.kc m.ic m.ec (fun _ => False) W1 ⟨.inl rfl, .inl rfl, .inl rfl⟩ (fun _ hb => hb.elim) hms hmE
  simp only [metaPg, List.length_nil, Int.ofNat_zero] at hEn
  obtain ⟨ms, hmsd⟩ : ∃ ms, (metaPg m.ver m.root).encS = ms := ⟨_, rfl⟩
  have HMS : Hid ((metaPg m.ver m.root).encS = ms) := hmsd
  have hEn' : Calls Tryz.prog 79 #[.agg #[.int .i64 1, .int .i64 m.ver, .int .i64 m.root, .int .i64 0, .slice m.ka 0 m.kc, .slice m.ia 0 m.ic, .slice m.ea 0 m.ec, .string ⟨#[]⟩]] W1 fun e w' => e = .returned (.string ms) ∧ Below W1.heap.size W1 w' := by
    rw [← hmsd]; exact hEn
  clear hEn hmsd
  go_enter Tryz.func102, Tryz.ntmps102
  go_wp2_with (go_at_call 79; (with_reducible refine Calls.mono hEn' ?_); rintro e w2 ⟨rfl, hb2⟩; have B2 := B1.trans (hb2.mono B1.size); have y1 := (hb2.block _ (by omega)).trans x1; obtain ⟨q0, q1⟩ := box2 y1)
  have y2 := (hb2.block _ l2).trans x2
  have HD : Hid (∀ X, Fr (fpF D.β D.sv D.lv) w X → X.heap[D.d]? = some (dbO st D) ∧ RowOn X S wa ((encL l).flatMap wcells)) := fun X hX => ⟨hX.heap h.box h.noFile, hR.on (hX.on hS)⟩
  have HS0 : Hid (FileAt w2 D.β D.sv D.lv (D.fs.puts (l.take 0)) ∧ Fr (fpF D.β D.sv D.lv) w w2 ∧ Grows w (fpF D.β D.sv D.lv) (fpF D.β D.sv D.lv) ∧ w2.heap[w.heap.size + 1]? = some (.cells #[.int .i64 1, .int .i64 m.ver, .int .i64 m.root, .int .i64 0, .slice m.ka 0 m.kc, .slice m.ia 0 m.ic, .slice m.ea 0 m.ec, .string ⟨#[]⟩] 72)) := by
    refine ⟨?_, Fr.of_below B2, Grows.refl _ _, y2⟩
    rw [List.take_zero, puts_nil]
    exact h.file.on (On.of_below B2 h.file.lies)
  have HH : Hid (DbAt w st D) := h
  have HW : Hid _ := hw
  have HE : Hid _ := hE
  have HP : Hid _ := hp
  have HLT : Hid _ := hlate
  clear h hR hS hE hp hw hlate hW1 x1 x2 p0 p1 m0 m1 m2 m3 m4 m5 m6 m7 hEn' y1 y2 q0 q1
  go_loopw [15] (fun a wq => ∃ (j : Nat) (lvj : Value), a = .int .i64 j ∧ j ≤ l.length ∧ Hid (FileAt wq D.β D.sv lvj (D.fs.puts (l.take j)) ∧ Fr (fpF D.β D.sv D.lv) w wq ∧ Grows w (fpF D.β D.sv D.lv) (fpF D.β D.sv lvj) ∧ wq.heap[w.heap.size + 1]? = some (.cells #[.int .i64 1, .int .i64 m.ver, .int .i64 m.root, .int .i64 0, .slice m.ka 0 m.kc, .slice m.ia 0 m.ic, .slice m.ea 0 m.ec, .string ⟨#[]⟩] 72))) (fun a _ => l.length - (intOf a).toNat)
  case atStart => exact ⟨0, D.lv, rfl, Nat.zero_le _, HS0.out⟩
  case round =>
    obtain ⟨j, lvj, rfl, hj, HF⟩ := hrel
    obtain ⟨hFj, hFr, hG, hbx⟩ := HF.out
    obtain ⟨hdb, hrow⟩ := HD.out wr hFr
    by_cases hlt : j < l.length
    · have hlti : (j : Int) < (l.length : Int) := by omega
      obtain ⟨y, hy⟩ : ∃ y, l[j] = y := ⟨_, rfl⟩
      have hym : y ∈ l := hy ▸ List.getElem_mem hlt
      obtain ⟨rb, ro, hwa, hrb, k0, k1⟩ := hrow.wr (j := j) (by simp [encL]; exact hlt)
      simp only [encL, List.getElem_map, hy] at k0 k1
      subst hwa
      obtain ⟨yp, ye⟩ := y
      simp only at k0 k1
      obtain ⟨d, hd⟩ : ∃ d, ye.encS = d := ⟨_, rfl⟩
      rw [hd] at k1
      have hd256 : d.size = 256 := hd ▸ enc_size ye (HE.out _ hym)
      have hst : (D.fs.puts (l.take j)).put yp d = D.fs.puts (l.take (j + 1)) := by
        rw [List.take_succ_eq_append_getElem hlt, hy, puts_snoc, hd]
      have hroom : (D.fs.puts (l.take j)).late.length < 1000000 := by
        simp only [Fs.puts, HLT.out, List.nil_append, List.length_map, List.length_take]; omega
      have HWc : Hid (∀ X, Below wr.heap.size wr X → Calls Tryz.prog 78 #[.pointer (some ⟨D.β, 0, none⟩), .int .i64 (yp : Int), .string d] X fun e w' => e = .returned (.bool true) ∧ ∃ lv', FileAt w' D.β D.sv lv' (D.fs.puts (l.take (j + 1))) ∧ Fr (fpF D.β D.sv lvj) X w' ∧ Grows X (fpF D.β D.sv lvj) (fpF D.β D.sv lv') ∧ (∀ (k : Nat) (cs : Array Value) (t : TypeId), X.heap[k]? = some (Obj.cells cs t) → t ≠ 60 → t ≠ 9 → t ≠ 62 → w'.heap[k]? = some (Obj.cells cs t))) := by
        intro X hX
        have hFX := hFj.on (On.of_below hX hFj.lies)
        refine (write_well D.β D.sv lvj (D.fs.puts (l.take j)) yp d X hFX (Fs.well_puts HW.out _) hd256 (HP.out _ hym) hroom).mono ?_
        rintro e w' ⟨he, lv', h1, h2, h3⟩
        rw [hst] at h1
        exact ⟨he, lv', h1, h2, h3, fun k cs t hk n1 n2 n3 => h2.heap hk (file_apart hFX hk n1 n2 n3)⟩
      obtain ⟨c0, c1, c2, c3, c4, c5, c6, c7, c8, c9, c10, c11, c12, c13, c14⟩ := box15 hdb
      obtain ⟨W3, hW3⟩ : ∃ W3, wr.alloc (.cells #[.int .i64 (yp : Int), .string d] 205) = W3 := ⟨_, rfl⟩
      have B3 : Below wr.heap.size wr W3 := hW3 ▸ (Below.refl _ _).alloc (Nat.le_refl _) _
      have z3 : W3.heap[wr.heap.size]? = some (.cells #[.int .i64 (yp : Int), .string d] 205) := hW3 ▸ heap_new wr _
      have db3 := (B3.block _ (Array.getElem?_eq_some_iff.1 hdb).1).trans hdb
      have bx3 := (B3.block _ (Array.getElem?_eq_some_iff.1 hbx).1).trans hbx
      obtain ⟨z0, z1⟩ := box2 z3
      have z2 : W3.cell? ⟨D.d, 2, none⟩ = some (.pointer (some ⟨D.β, 0, none⟩)) := by simp [World.cell?, db3]
      clear c0 c1 c2 c3 c4 c5 c6 c7 c8 c9 c10 c11 c12 c13 c14 hst hd hy hrow
      go_wp2
      go_region_held3 (fun X => X.cell? ⟨D.d, 2, none⟩ = some (.pointer (some ⟨D.β, 0, none⟩)) ∧ X.cell? ⟨wr.heap.size, 0, none⟩ = some (.int .i64 (yp : Int)) ∧ X.cell? ⟨wr.heap.size, 1, none⟩ = some (.string d))
        ((first | (with_reducible exact ⟨z2, z0, z1⟩) | (simp [z2, z0, z1])))
        (first
          | (go_at_call 78; (with_reducible refine Calls.mono (HWc.out _ ?_) ?_); (first | exact B3.drew | exact B3); rintro e w6 ⟨rfl, lv6, hf6, hr6, hg6, hk6⟩; have db6 := hk6 _ _ _ db3 (by decide) (by decide) (by decide); have bx6 := hk6 _ _ _ bx3 (by decide) (by decide) (by decide); have z6 := hk6 _ _ _ z3 (by decide) (by decide) (by decide); obtain ⟨z0, z1⟩ := box2 z6; have z2 : w6.cell? ⟨D.d, 2, none⟩ = some (.pointer (some ⟨D.β, 0, none⟩)) := (by simp [World.cell?, db6])))
      all_goals go_wp2
      all_goals
        have F6 : Fr (fpF D.β D.sv lvj) wr w6 := by first | exact (Fr.of_below B3.drew).trans hr6 | exact (Fr.of_below B3).trans hr6
        have G6 : Grows w (fpF D.β D.sv D.lv) (fpF D.β D.sv lv6) := by
          have s1 := hFr.size
          have s2 := B3.size
          first | exact hG.trans (b := W3.drew) (by show _ ≤ W3.heap.size; omega) hg6 | exact hG.trans (b := W3) (by omega) hg6
        exact ⟨⟨j + 1, lv6, by simp, by omega, hf6, hFr.grow F6 hG, G6, bx6⟩, by simp [intOf]; omega⟩
    · obtain rfl : j = l.length := by omega
      have hlti : ¬ (l.length : Int) < (l.length : Int) := by omega
      rw [List.take_length] at hFj
      have HY : Hid (∀ X lvx fx, FileAt X D.β D.sv lvx fx → fx.well → fx.fits → Calls Tryz.prog 49 #[.pointer (some ⟨D.β, 0, none⟩)] X fun e w' => e = .returned (.bool true) ∧ ∃ lv', FileAt w' D.β D.sv lv' fx.synced ∧ Fr (fpF D.β D.sv lvx) X w' ∧ Grows X (fpF D.β D.sv lvx) (fpF D.β D.sv lv') ∧ (∀ (k : Nat) (cs : Array Value) (t : TypeId), X.heap[k]? = some (Obj.cells cs t) → t ≠ 60 → t ≠ 9 → t ≠ 62 → w'.heap[k]? = some (Obj.cells cs t))) := fun X lvx fx hX hwx hfx => (sync_well D.β D.sv lvx fx X hX hwx hfx).mono fun e w' ⟨he, lv', h1, h2, h3⟩ => ⟨he, lv', h1, h2, h3, fun k cs t hk n1 n2 n3 => h2.heap hk (file_apart hX hk n1 n2 n3)⟩
      have HZ : Hid (∀ X lvx fx, FileAt X D.β D.sv lvx fx → fx.well → m.ver % 2 < fx.safe.length → fx.late.length < 1000000 → Calls Tryz.prog 78 #[.pointer (some ⟨D.β, 0, none⟩), .int .i64 ((m.ver : Int) % 2), .string ms] X fun e w' => e = .returned (.bool true) ∧ ∃ lv', FileAt w' D.β D.sv lv' (fx.put (m.ver % 2) ms) ∧ Fr (fpF D.β D.sv lvx) X w' ∧ Grows X (fpF D.β D.sv lvx) (fpF D.β D.sv lv') ∧ (∀ (k : Nat) (cs : Array Value) (t : TypeId), X.heap[k]? = some (Obj.cells cs t) → t ≠ 60 → t ≠ 9 → t ≠ 62 → w'.heap[k]? = some (Obj.cells cs t))) := by
        intro X lvx fx hX hwx hmx hrx
        have hmod : (((m.ver % 2 : Nat)) : Int) = (m.ver : Int) % 2 := by simp
        rw [← hmod]
        exact (write_well D.β D.sv lvx fx (m.ver % 2) ms X hX hwx (HMS.out ▸ enc_size _ hmE) hmx hrx).mono fun e w' ⟨he, lv', h1, h2, h3⟩ => ⟨he, lv', h1, h2, h3, fun k cs t hk n1 n2 n3 => h2.heap hk (file_apart hX hk n1 n2 n3)⟩
      have HPl : Hid (∀ X, Calls Tryz.prog 129 #[.agg #[.int .i64 1, .int .i64 m.ver, .int .i64 m.root, .int .i64 0, .slice m.ka 0 m.kc, .slice m.ia 0 m.ic, .slice m.ea 0 m.ec, .string ⟨#[]⟩]] X fun e w' => e = .returned (.int .i64 ((m.ver : Int) % 2)) ∧ Below X.heap.size X w') := by
        intro X
        have := placeOf_any m X
        rw [show (((m.ver % 2 : Nat)) : Int) = (m.ver : Int) % 2 by simp] at this
        exact this
      have hfit1 : (D.fs.puts l).fits := by
        intro x hx
        simp only [Fs.puts, HLT.out, List.nil_append, List.mem_map] at hx
        obtain ⟨y, hy, rfl⟩ := hx
        exact HP.out y hy
      have hlen1 : (D.fs.puts l).synced.safe.length = D.fs.safe.length := laid_length _ _
      have hfit2 : (((D.fs.puts l).synced).put (m.ver % 2) ms).fits := by
        intro x hx
        simp only [Fs.put, Fs.synced, List.nil_append, List.mem_singleton] at hx
        subst hx
        show m.ver % 2 < (laid _ _).length
        rw [laid_length]
        show m.ver % 2 < D.fs.safe.length
        omega
      have HS1 := HY.out wr.drew lvj _ (hFj.on (On.of_below (Below.refl _ wr).drew hFj.lies)) (Fs.well_puts HW.out l) hfit1
      have HML : Hid (m.ver % 2 < (D.fs.puts l).synced.safe.length) := by show _ < _; rw [hlen1]; omega
      have HF2 : Hid _ := hfit2
      obtain ⟨n0, n1, n2, n3, n4, n5, n6, n7⟩ := box8 hbx
      have z2 : wr.cell? ⟨D.d, 2, none⟩ = some (.pointer (some ⟨D.β, 0, none⟩)) := by simp [World.cell?, hdb]
      clear hfit1 hfit2 hlen1 hrow
      go_wp2
      go_region_held3 (fun X => X.cell? ⟨D.d, 2, none⟩ = some (.pointer (some ⟨D.β, 0, none⟩)) ∧ X.cell? ⟨w.heap.size + 1, 0, none⟩ = some (.int .i64 1) ∧ X.cell? ⟨w.heap.size + 1, 1, none⟩ = some (.int .i64 m.ver) ∧ X.cell? ⟨w.heap.size + 1, 2, none⟩ = some (.int .i64 m.root) ∧ X.cell? ⟨w.heap.size + 1, 3, none⟩ = some (.int .i64 0) ∧ X.cell? ⟨w.heap.size + 1, 4, none⟩ = some (.slice m.ka 0 m.kc) ∧ X.cell? ⟨w.heap.size + 1, 5, none⟩ = some (.slice m.ia 0 m.ic) ∧ X.cell? ⟨w.heap.size + 1, 6, none⟩ = some (.slice m.ea 0 m.ec) ∧ X.cell? ⟨w.heap.size + 1, 7, none⟩ = some (.string ⟨#[]⟩))
        ((first | (with_reducible exact ⟨z2, n0, n1, n2, n3, n4, n5, n6, n7⟩) | (simp [z2, n0, n1, n2, n3, n4, n5, n6, n7])))
        (first
          | (go_at_call 49; (with_reducible refine Calls.mono HS1 ?_); rintro e w6 ⟨rfl, lv6, hf6, hr6, hg6, hk6⟩; have db6 := hk6 _ _ _ hdb (by decide) (by decide) (by decide); have bx6 := hk6 _ _ _ hbx (by decide) (by decide) (by decide); obtain ⟨n0, n1, n2, n3, n4, n5, n6, n7⟩ := box8 bx6; have z2 : w6.cell? ⟨D.d, 2, none⟩ = some (.pointer (some ⟨D.β, 0, none⟩)) := (by simp [World.cell?, db6]))
          | (go_at_call 129; (with_reducible refine Calls.mono (HPl.out _) ?_); rintro e w7 ⟨rfl, hb7⟩; have db7 := (hb7.block _ (Array.getElem?_eq_some_iff.1 db6).1).trans db6; have bx7 := (hb7.block _ (Array.getElem?_eq_some_iff.1 bx6).1).trans bx6; obtain ⟨n0, n1, n2, n3, n4, n5, n6, n7⟩ := box8 bx7; have z2 : w7.cell? ⟨D.d, 2, none⟩ = some (.pointer (some ⟨D.β, 0, none⟩)) := (by simp [World.cell?, db7]); have hf7 := hf6.on (On.of_below hb7 hf6.lies); have HS2 := HZ.out w7 lv6 _ hf7 (Fs.well_synced (Fs.well_puts HW.out l)) HML.out (by simp [Fs.synced]))
          | (go_at_call 78; (with_reducible refine Calls.mono HS2 ?_); rintro e w8 ⟨rfl, lv8, hf8, hr8, hg8, hk8⟩; have db8 := hk8 _ _ _ db7 (by decide) (by decide) (by decide); have bx8 := hk8 _ _ _ bx7 (by decide) (by decide) (by decide); obtain ⟨n0, n1, n2, n3, n4, n5, n6, n7⟩ := box8 bx8; have z2 : w8.cell? ⟨D.d, 2, none⟩ = some (.pointer (some ⟨D.β, 0, none⟩)) := (by simp [World.cell?, db8]); have HS3 := HY.out w8 lv8 _ hf8 (Fs.well_put (Fs.well_synced (Fs.well_puts HW.out l)) _ _) HF2.out)
          | (go_at_call 49; (with_reducible refine Calls.mono HS3 ?_); rintro e w9 ⟨rfl, lv9, hf9, hr9, hg9, hk9⟩; have db9 := hk9 _ _ _ db8 (by decide) (by decide) (by decide); have bx9 := hk9 _ _ _ bx8 (by decide) (by decide) (by decide); obtain ⟨n0, n1, n2, n3, n4, n5, n6, n7⟩ := box8 bx9; have z2 : w9.cell? ⟨D.d, 2, none⟩ = some (.pointer (some ⟨D.β, 0, none⟩)) := (by simp [World.cell?, db9])))
      all_goals go_wp2
      all_goals
        have F6 := hFr.grow ((Fr.refl _ wr).drew.trans hr6) hG
        have G6 := hG.trans (b := wr.drew) hFr.size hg6
        have F7 := F6.trans (Fr.of_below hb7)
        have F8 := F7.grow hr8 G6
        have G8 := G6.trans F7.size hg8
        have F9 := F8.grow hr9 G8
        have G9 := G8.trans F8.size hg9
        have hDB := HH.out.refile hf9 F9
        have hmade : D.fs.made l (m.ver % 2) (metaPg m.ver m.root) = (((D.fs.puts l).synced).put (m.ver % 2) ms).synced := by unfold Fs.made; rw [HMS.out]
        rw [← hmade] at hDB
        go_ret
        exact ⟨rfl, lv9, hDB, F9, G9⟩
end Go.Proofs.YtngpplmndpmgiaaGreat.Tree
