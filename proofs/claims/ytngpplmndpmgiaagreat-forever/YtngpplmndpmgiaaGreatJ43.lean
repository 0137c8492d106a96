/-
  Joined: LayL.
-/
import Derived.Test.YtngpplmndpmgiaaGreatJ42
import Derived.Test.YtngpplmndpmgiaaGreatJ37
import Derived.Lib.SliceRun
namespace Go.Proofs.YtngpplmndpmgiaaGreat.Tree
open Go.RowKit Go.Proofs.YtngpplmndpmgiaaGreat.Pages
set_option linter.unusedSimpArgs false
set_option linter.unusedVariables false
theorem own_empty (w : World) (E : TypeId) (z : Nat) : (w.alloc (.cells #[] E)).ownsRow 0 E z (.slice (some ⟨w.heap.size, 0, none⟩) 0 0) 0 [] := by
  refine ⟨by simp, .inr ⟨w.heap.size, 0, #[], rfl, Nat.zero_le _, heap_new w _, Nat.le_refl _, by unfold maxLen; omega, by simp, by simp⟩⟩
set_option maxRecDepth 100000 in
set_option maxHeartbeats 2000000 in
theorem clone_any (b off : Nat) (ec : Nat) (es : List En) (S : Bl) (w : World) (hR : RowOn w S (some ⟨b, off, none⟩) (ecells es)) (hS : ∀ b, S b → b < w.heap.size) (hn : es.length ≤ 100000) (h0 : es ≠ []) :
    Calls Tryz.prog 175 #[.slice (some ⟨b, off, none⟩) es.length ec] w fun e w' => ∃ v, e = .returned v ∧ w'.ownsRow 0 102 4 v es.length (ecells es) ∧ Below w.heap.size w w' ∧ ∀ k, v.ownBlock = some k → w.heap.size ≤ k := by
  have hcell : ∀ j u, (ecells es)[j]? = some u → (w.alloc (.cells #[] 102)).cell? ((⟨b, off, none⟩ : Addr).add j) = some u := by
    intro j u hu
    obtain ⟨b', off', ha, hb', hc⟩ := hR.val hu
    simp only [Option.some.injEq, Addr.mk.injEq, and_true] at ha
    obtain ⟨rfl, rfl⟩ := ha
    have e : (⟨b, off, none⟩ : Addr).add j = ⟨b, off + j, none⟩ := by unfold Addr.add; split <;> simp_all
    rw [e, World.cell?_of_block (w := w) (Below.heap_alloc w _ b (hS b hb'))]
    exact hc
  have hq : ∀ (u : World), (binOp .eql 70 (.slice (some ⟨b, off, none⟩) es.length ec) (.slice none 0 0)).run Tryz.prog u = .ok (.bool false) u := fun u => Go.Lib.run_eql_slice_nil (P := Tryz.prog) u 70 102 (some ⟨b, off, none⟩) es.length ec 0 0 Tryz.underlying70
  go_enter Tryz.func175, Tryz.ntmps175
  go_wp2_with (at_builtin; refine wp_app (w.alloc (.cells #[] 102)) rfl (.tmp 5) (.tmp 6) 70 102 _ 4 48 rfl Tryz.underlying70 infoEn rfl (by decide) (.slice (some ⟨w.heap.size, 0, none⟩) 0 0) 0 [] rfl (own_empty w _ 4) ⟨b, off, none⟩ es.length ec (ecells es) rfl (by rw [ecells_len]) hcell (ecells_one es) (by omega) (by omega) ?_; intro v3 w3 A3)
  go_ret
  refine ⟨_, rfl, by simpa using A3.row, ((Below.refl _ w).alloc (Nat.le_refl _) _).trans (A3.fr.below (by simp) (fun k hk => by simp [Value.ownBlock] at hk; omega)), fun k hk => ?_⟩
  rcases A3.lies k hk with h | h
  · simp [Value.ownBlock] at h; omega
  · simp at h; omega
theorem layEs_snoc : ∀ (es : List En) (x : En) (fr : List Nat), layEs (es ++ [x]) fr = ((layEs es fr).1 ++ [layX x (fr.drop (layEs es fr).2.length)], (layEs es fr).2 ++ (newCh x (fr.drop (layEs es fr).2.length)).reverse)
  | [], x, fr => by simp [layEs]
  | y :: es, x, fr => by
    simp only [List.cons_append, layEs, layEs_snoc es x, List.drop_drop, List.length_append, List.length_reverse, List.append_assoc]
theorem layEs_take1 (es : List En) (fr : List Nat) (j : Nat) (hj : j < es.length) : layEs (es.take (j + 1)) fr = ((layEs (es.take j) fr).1 ++ [layX es[j] (fr.drop (layEs (es.take j) fr).2.length)], (layEs (es.take j) fr).2 ++ (newCh es[j] (fr.drop (layEs (es.take j) fr).2.length)).reverse) := by
  rw [List.take_succ_eq_append_getElem hj, layEs_snoc]
theorem layEs_take_le : ∀ (es : List En) (fr : List Nat) (j : Nat), (layEs (es.take j) fr).2.length ≤ (layEs es fr).2.length
  | [], _, _ => by simp [layEs]
  | x :: es, fr, 0 => by simp [layEs]
  | x :: es, fr, j + 1 => by
    have := layEs_take_le es (fr.drop (newCh x fr).length) j
    simp only [List.take_succ_cons, layEs, List.length_append, List.length_reverse]; omega
theorem ecells_put (A B : List En) (x y : En) (o : Int) (s : ByteArray) (hy : y.e = ⟨x.e.key, s, x.e.size, o⟩) : ((ecells (A ++ x :: B)).set (A.length * 4 + 3) (.int .i64 o)).set (A.length * 4 + 1) (.string s) = ecells (A ++ y :: B) := by
  have hA : (ecells A).length = A.length * 4 := ecells_len A
  have e1 : ecells (A ++ x :: B) = ecells A ++ (x.e.cells ++ ecells B) := by simp [ecells]
  have e2 : ecells (A ++ y :: B) = ecells A ++ (y.e.cells ++ ecells B) := by simp [ecells]
  rw [e1, e2, ← hA, List.set_append_right _ _ (by omega), List.set_append_right _ _ (by omega)]
  congr 1
  rw [show (ecells A).length + 3 - (ecells A).length = 3 by omega, show (ecells A).length + 1 - (ecells A).length = 1 by omega, hy]
  rfl
theorem leaf_small (es : List En) (hn : es.length ≤ 100000) (hf : ∀ x ∈ es, x.fits) : (leafPg es).small := by
  refine ⟨by simp [leafPg], by simp [leafPg], by simp [leafPg]; omega, ?_, ?_, ?_, Nat.zero_le _⟩
  · intro e he
    obtain ⟨x, hx, rfl⟩ := List.mem_map.1 he
    have := hf x hx
    exact ⟨by have := this.1; omega, by have := this.2; omega⟩
  · simp [leafPg, branchB, beB_length]
  · have key : ∀ (l : List En), (∀ x ∈ l, x.fits) → ((l.map (·.e)).flatMap Ent.bytes).length ≤ 500 * l.length := by
      intro l
      induction l with
      | nil => simp
      | cons x l ih =>
        intro h
        have h1 := ih (fun y hy => h y (by simp [hy]))
        have h2 := h x (by simp)
        have h3 : (Ent.bytes x.e).length ≤ 500 := by
          unfold Ent.bytes entBytes
          have := text_len x.e.key
          have := text_len x.e.val
          have a1 := h2.1
          have a2 := h2.2
          split
          · rw [List.length_append, List.length_append]; simp; omega
          · rw [List.length_append, List.length_append, List.length_append, beB_length, beB_length]; simp; omega
        rw [List.map_cons, List.flatMap_cons, List.length_append, List.length_cons]; omega
    have := key es hf
    simp only [leafPg, leafB, List.length_append, beB_length]; omega
theorem LayAt.not {w : World} {b : Nat} {Sf : Bl} {fa : Option Addr} {fc : Nat} {fr : List Nat} {wv : Value} {ws : List (Nat × ByteArray)} (h : LayAt w b Sf fa fc fr wv ws) {k : Nat} {cs : Array Value} {t : TypeId} (hk : w.heap[k]? = some (.cells cs t)) (h1 : t ≠ 216) (h2 : t ≠ 205) : ¬ fpL b wv k := by
  rintro (rfl | e)
  · rw [h.box] at hk
    simp at hk
    exact h1 hk.2.symm
  · exact own_ne h.own hk h2 e
theorem LayAt.beside {w w' : World} {b : Nat} {Sf : Bl} {fa : Option Addr} {fc : Nat} {fr : List Nat} {wv : Value} {ws : List (Nat × ByteArray)} (h : LayAt w b Sf fa fc fr wv ws) {Y : Bl} (f : Fr Y w w') (h1 : ∀ k, Y k → ¬ fpL b wv k) (h2 : ∀ k, Y k → ¬ Sf k) : LayAt w' b Sf fa fc fr wv ws :=
  ⟨f.heap h.box (fun e => h1 b e (.inl rfl)), h.free.on (f.on (fun k hk => ⟨(h.apart k hk).1, fun e => h2 k e hk⟩)), h.some', h.cap, own_on h.own (f.on (Z := fun k => wv.ownBlock = some k) (fun k hk => ⟨own_lt h.own hk, fun e => h1 k e (.inr hk)⟩)) (fun k hk => hk), fun k hk => ⟨Nat.lt_of_lt_of_le (h.apart k hk).1 f.size, (h.apart k hk).2⟩⟩
theorem own_heap {w : World} {e : TypeId} {z g n c : Nat} {xs : List Value} (h : w.ownsRow 0 e z (.slice (some ⟨g, 0, none⟩) n c) n xs) : ∃ cur, w.heap[g]? = some (.cells cur e) := by
  obtain ⟨_, h2⟩ := h
  rcases h2 with ⟨h3, _⟩ | ⟨g', cap, cur, h3, _, hg, _⟩
  · simp at h3
  · simp only [Value.slice.injEq, Option.some.injEq, Addr.mk.injEq, and_true, true_and] at h3
    obtain ⟨rfl, _⟩ := h3
    exact ⟨cur, hg⟩
set_option maxRecDepth 100000 in
set_option maxHeartbeats 4000000 in
theorem leaf_any (b : Nat) (Sf : Bl) (fs : Fs) (es : List En) (ea : Option Addr) (ec : Nat) (S : Bl) (fa : Option Addr) (fc : Nat) (fr : List Nat) (wv : Value) (ws : List (Nat × ByteArray)) (w : World) (h : LayAt w b Sf fa fc fr wv ws) (hR : RowOn w S ea (ecells es)) (hS : ∀ b, S b → b < w.heap.size) (hne : es ≠ []) (hr : RiseE es) (hg : ∀ x ∈ es, x.good fs) (ht : tot esz es ≤ 250) (hn : es.length ≤ 1000) (hl : (layEs es fr).2.length < fr.length) (hp : ∀ p ∈ fr, placeB (p : Nat) = true) (hws : ws.length ≤ 10000) :
    Calls Tryz.prog 161 #[.pointer (some ⟨b, 0, none⟩), .slice ea es.length ec] w fun e w' => e = .returned (.int .i64 (fr.getD (layEs es fr).2.length 0 : Nat)) ∧
      ∃ fa' fc' wv', LayAt w' b Sf fa' fc' (fr.drop ((layEs es fr).2.length + 1)) wv' (ws ++ ((layEs es fr).2 ++ [(fr.getD (layEs es fr).2.length 0, leafPg (layEs es fr).1)]).map enc1) ∧ Fr (fpL b wv) w w' ∧ ∀ k, wv'.ownBlock = some k → wv.ownBlock = some k ∨ w.heap.size ≤ k := by
  obtain ⟨b0, o0, rfl, hb0⟩ := hR.addr (ecells_ne (List.length_pos_iff.2 hne))
  have hC := clone_any b0 o0 ec es S w hR hS (by omega) hne
  have hcount := layEs_count es fr
  go_enter Tryz.func161, Tryz.ntmps161
  go_wp2_with (go_at_call 175; (with_reducible refine Calls.mono hC ?_); rintro e wc ⟨v, rfl, hown, hbc, hlies⟩; obtain ⟨g, cE, rfl, hgl, hcE⟩ := own_some hown (List.length_pos_iff.2 hne))
  have hgw : w.heap.size ≤ g := hlies g rfl
  have hL0 := h.fr hbc
  have bP : Below wc.heap.size wc (wc.alloc (.cells #[.int .i64 3, .int .i64 0, .int .i64 0, .int .i64 0, .slice none 0 0, .slice none 0 0, .slice (some ⟨g, 0, none⟩) es.length cE, .string ⟨#[]⟩] 72)) := (Below.refl _ _).alloc (Nat.le_refl _) _
  have xP := heap_new wc (.cells #[.int .i64 3, .int .i64 0, .int .i64 0, .int .i64 0, .slice none 0 0, .slice none 0 0, .slice (some ⟨g, 0, none⟩) es.length cE, .string ⟨#[]⟩] 72)
  have hLP := hL0.fr bP
  have hoP := World.ownsRow.alloc (w := wc) hown (.cells #[.int .i64 3, .int .i64 0, .int .i64 0, .int .i64 0, .slice none 0 0, .slice none 0 0, .slice (some ⟨g, 0, none⟩) es.length cE, .string ⟨#[]⟩] 72)
  obtain ⟨WP, hWP⟩ : ∃ WP, wc.alloc (.cells #[.int .i64 3, .int .i64 0, .int .i64 0, .int .i64 0, .slice none 0 0, .slice none 0 0, .slice (some ⟨g, 0, none⟩) es.length cE, .string ⟨#[]⟩] 72) = WP := ⟨_, rfl⟩
  obtain ⟨p0, p1, p2, p3, p4, p5, p6, p7⟩ := box8 xP
  have FP : Fr (fpL b wv) w WP := (Fr.of_below hbc).trans (hWP ▸ Fr.of_below bP)
  go_loopw [14] (fun i wr => ∃ (j : Nat) (fa' : Option Addr) (fc' : Nat) (wv' : Value), i = .int .i64 j ∧ j ≤ es.length ∧ LayAt wr b Sf fa' fc' (fr.drop (layEs (es.take j) fr).2.length) wv' (ws ++ (layEs (es.take j) fr).2.map enc1) ∧ wr.ownsRow 0 102 4 (.slice (some ⟨g, 0, none⟩) es.length cE) es.length (ecells ((layEs (es.take j) fr).1 ++ es.drop j)) ∧ wr.heap[wc.heap.size]? = some (.cells #[.int .i64 3, .int .i64 0, .int .i64 0, .int .i64 0, .slice none 0 0, .slice none 0 0, .slice (some ⟨g, 0, none⟩) es.length cE, .string ⟨#[]⟩] 72) ∧ Fr (fpL b wv) w wr ∧ ∀ k, wv'.ownBlock = some k → wv.ownBlock = some k ∨ w.heap.size ≤ k) (fun i _ => es.length - (intOf i).toNat)
  case atStart => rw [hWP] at hLP hoP xP ⊢; exact ⟨0, fa, fc, wv, rfl, Nat.zero_le _, by simpa [layEs] using hLP, by simpa [layEs] using hoP, xP, FP, fun k hk => .inl hk⟩
  case round =>
    obtain ⟨j, fa', fc', wv', rfl, hj, hL, ho, xp, hF, hli⟩ := hrel
    clear p0 p1 p2 p3 p4 p5 p6 p7
    obtain ⟨p0, p1, p2, p3, p4, p5, p6, p7⟩ := box8 xp
    have zF := hF.size
    by_cases hlt : j < es.length
    · obtain ⟨x, hx⟩ : ∃ x, es[j] = x := ⟨_, rfl⟩
      have hxm : x ∈ es := hx ▸ List.getElem_mem hlt
      obtain ⟨A, hA⟩ : ∃ A, (layEs (es.take j) fr).1 = A := ⟨_, rfl⟩
      have hAl : A.length = j := by rw [← hA, layEs_length, List.length_take]; omega
      obtain ⟨f, hf⟩ : ∃ f, fr.drop (layEs (es.take j) fr).2.length = f := ⟨_, rfl⟩
      have hst := layEs_take1 es fr j hlt
      rw [hx, hA, hf] at hst
      have hle1 := layEs_take_le es fr (j + 1)
      rw [hst] at hle1
      simp only [List.length_append, List.length_reverse] at hle1
      have hfl2 : f.length = fr.length - (layEs (es.take j) fr).2.length := by rw [← hf, List.length_drop]
      have hfl : (newCh x f).length ≤ f.length := by omega
      have hfp : ∀ p ∈ f, placeB (p : Nat) = true := fun p hpp => hp p (List.mem_of_mem_drop (hf ▸ hpp))
      have hdr : es.drop j = x :: es.drop (j + 1) := by rw [List.drop_eq_getElem_cons hlt, hx]
      rw [hA, hdr] at ho
      rw [hf] at hL
      have hcell : ∀ i (u : Value), i < 4 → x.e.cells[i]? = some u → wr.cell? ⟨g, j * 4 + i, none⟩ = some u := fun i u hi hu => by
        have hidx : (ecells (A ++ x :: es.drop (j + 1)))[j * 4 + i]? = some u := by
          have e1 : ecells (A ++ x :: es.drop (j + 1)) = ecells A ++ (x.e.cells ++ ecells (es.drop (j + 1))) := by simp [ecells]
          have hA4 : (ecells A).length = j * 4 := by rw [ecells_len, hAl]
          rw [e1, List.getElem?_append_right (by omega), hA4, show j * 4 + i - j * 4 = i by omega, List.getElem?_append_left (by have : x.e.cells.length = 4 := rfl; omega)]
          exact hu
        obtain ⟨g', e1, _, _, e2⟩ := own_get ho hidx
        simp only [Option.some.injEq, Addr.mk.injEq, and_true] at e1
        rw [e1]; exact e2
      have hgx := hg x hxm
      obtain ⟨⟨xk, xv, xs, xo⟩, xch⟩ := x
      have c0 : wr.cell? ⟨g, j * 4, none⟩ = some (.string xk) := hcell 0 _ (by decide) rfl
      have c1 : wr.cell? ⟨g, j * 4 + 1, none⟩ = some (.string xv) := hcell 1 _ (by decide) rfl
      have c2 : wr.cell? ⟨g, j * 4 + 2, none⟩ = some (.int .i64 xs) := hcell 2 _ (by decide) rfl
      have c3 : wr.cell? ⟨g, j * 4 + 3, none⟩ = some (.int .i64 xo) := hcell 3 _ (by decide) rfl
      have hcE' : es.length ≤ cE := by have := ho.2; rcases this with ⟨h1, _⟩ | ⟨_, cap, cur, h1, _, _, h2, _⟩; simp at h1; simp at h1; omega
      have nE := heap_new wr (.cells #[.string xk, .string xv, .int .i64 xs, .int .i64 xo] 102)
      obtain ⟨q0, q1, q2, q3⟩ := box4 nE
      have bE : Below wr.heap.size wr (wr.alloc (.cells #[.string xk, .string xv, .int .i64 xs, .int .i64 xo] 102)) := (Below.refl _ _).alloc (Nat.le_refl _) _
      have xpE := heap_keep (.cells #[.string xk, .string xv, .int .i64 xs, .int .i64 xo] 102) xp
      obtain ⟨r0, r1, r2, r3, r4, r5, r6, r7⟩ := box8 xpE
      have hLE := hL.fr bE
      have hoE := World.ownsRow.alloc (w := wr) ho (.cells #[.string xk, .string xv, .int .i64 xs, .int .i64 xo] 102)
      have FE : Fr (fpL b wv) w (wr.alloc (.cells #[.string xk, .string xv, .int .i64 xs, .int .i64 xo] 102)) := hF.trans (Fr.of_below bE)
      have HST : Hid (layEs (es.take (j + 1)) fr = (A ++ [layX ⟨⟨xk, xv, xs, xo⟩, xch⟩ f], (layEs (es.take j) fr).2 ++ (newCh ⟨⟨xk, xv, xs, xo⟩, xch⟩ f).reverse)) := hst
      have HF : Hid (fr.drop (layEs (es.take j) fr).2.length = f) := hf
      have HAL : Hid (A.length = j) := hAl
      have same : (⟨⟨xk, xv, xs, xo⟩, xch⟩ : En).newB = false → (∃ (j_1 : Nat) (fa' : Option Addr) (fc' : Nat) (wv' : Value), (Value.int IntKind.i64 ((j : Int) + 1)) = .int .i64 j_1 ∧ j_1 ≤ es.length ∧ LayAt (wr.alloc (.cells #[.string xk, .string xv, .int .i64 xs, .int .i64 xo] 102)) b Sf fa' fc' (fr.drop (layEs (es.take j_1) fr).2.length) wv' (ws ++ (layEs (es.take j_1) fr).2.map enc1) ∧ (wr.alloc (.cells #[.string xk, .string xv, .int .i64 xs, .int .i64 xo] 102)).ownsRow 0 102 4 (.slice (some ⟨g, 0, none⟩) es.length cE) es.length (ecells ((layEs (es.take j_1) fr).1 ++ es.drop j_1)) ∧ (wr.alloc (.cells #[.string xk, .string xv, .int .i64 xs, .int .i64 xo] 102)).heap[wc.heap.size]? = some (.cells #[.int .i64 3, .int .i64 0, .int .i64 0, .int .i64 0, .slice none 0 0, .slice none 0 0, .slice (some ⟨g, 0, none⟩) es.length cE, .string ⟨#[]⟩] 72) ∧ Fr (fpL b wv) w (wr.alloc (.cells #[.string xk, .string xv, .int .i64 xs, .int .i64 xo] 102)) ∧ ∀ k, wv'.ownBlock = some k → wv.ownBlock = some k ∨ w.heap.size ≤ k) := by
        intro hnb
        have e1 : newCh ⟨⟨xk, xv, xs, xo⟩, xch⟩ f = [] := by rw [newCh, hnb]; rfl
        have e2 : layX ⟨⟨xk, xv, xs, xo⟩, xch⟩ f = ⟨⟨xk, xv, xs, xo⟩, xch⟩ := by rw [layX, hnb]; rfl
        have e3 := HST.out
        rw [e1, e2, List.reverse_nil, List.append_nil] at e3
        refine ⟨j + 1, fa', fc', wv', by simp, by omega, ?_, ?_, xpE, FE, hli⟩
        · rw [e3, HF.out]; exact hLE
        · rw [e3, List.append_assoc]; exact hoE
      clear hst hf hAl hcell hx hA hdr hcE
      by_cases ho0 : xo = 0
      · subst ho0
        by_cases hs60 : 60 < xs
        · have hnb : (⟨⟨xk, xv, xs, 0⟩, xch⟩ : En).newB = true := by simp [En.newB]; omega
          obtain ⟨gs1, gs2, gs3, gs4⟩ := good_size hgx hnb
          have ech : newCh ⟨⟨xk, xv, xs, 0⟩, xch⟩ f = layV 2 xv f := by rw [newCh, hnb]; rfl
          rw [ech] at hfl
          obtain ⟨ch, hch⟩ : ∃ ch, layV 2 xv f = ch := ⟨_, rfl⟩
          have hlenw : (ws ++ (layEs (es.take j) fr).2.map enc1).length + 2 ≤ 100000 := by
            have := layEs_take_le es fr j
            rw [List.length_append, List.length_map]; omega
          have hV := value_any b Sf 2 xv fa' fc' f wv' (ws ++ (layEs (es.take j) fr).2.map enc1) (wr.alloc (.cells #[.string xk, .string xv, .int .i64 xs, .int .i64 0] 102)).drew (hLE.fr ((Below.refl _ _).drew)) (by simp only at gs2; omega) (by simp only at gs2; omega) hfl hfp hlenw
          rw [hch] at hV
          have elx : layX ⟨⟨xk, xv, xs, 0⟩, xch⟩ f = ⟨⟨xk, ⟨#[]⟩, xs, (headPl ch : Nat)⟩, ch⟩ := by rw [layX, hnb, if_pos rfl, ech, hch]
          have HST2 : Hid (layEs (es.take (j + 1)) fr = (A ++ [⟨⟨xk, ⟨#[]⟩, xs, (headPl ch : Nat)⟩, ch⟩], (layEs (es.take j) fr).2 ++ ch.reverse)) := by
            show _ = _; rw [HST.out, elx, ech, hch]
          obtain ⟨hd, hhd⟩ : ∃ hd, headPl ch = hd := ⟨_, rfl⟩
          rw [hhd] at hV HST2
          have hs6 : (60 : Int) < xs := hs60
          obtain ⟨curE, hgE⟩ := own_heap hoE
          have zE : g < wr.heap.size := (Array.getElem?_eq_some_iff.1 (own_heap ho).choose_spec).1
          have cB : ∀ {o : Nat} {u : Value}, wr.cell? ⟨g, o, none⟩ = some u → (wr.alloc (.cells #[.string xk, .string xv, .int .i64 xs, .int .i64 0] 102)).cell? ⟨g, o, none⟩ = some u := fun h => by rw [World.cell?_of_block (w := wr) (bE.block g zE)]; exact h
          have d1 := cB c1
          have d3 := cB c3
          have hnp : g ≠ wc.heap.size := by omega
          have hpz := (Array.getElem?_eq_some_iff.1 xp).1
          clear same HST hnb ech hch elx hhd cB hs60 gs1 gs2 gs3 gs4
          go_wp2
          go_region_held3 (fun X => X.cell? ⟨wc.heap.size, 6, none⟩ = some (.slice (some ⟨g, 0, none⟩) es.length cE) ∧ X.cell? ⟨wr.heap.size, 1, none⟩ = some (.string xv))
            ((first | (with_reducible exact ⟨r6, q1⟩) | (refine ⟨?_, ?_⟩ <;> (with_reducible refine cell_other (by omega) ?_) <;> (first | (with_reducible exact r6) | (with_reducible exact q1))) | (simp [r6, q1])))
            (first
              | (go_at_call 176; (with_reducible refine Calls.mono hV ?_); rintro e wt ⟨rfl, fa2, fc2, wv2, hL2, hF2, hli2⟩; have hF3 : Fr (fpL b wv') (wr.alloc (.cells #[.string xk, .string xv, .int .i64 xs, .int .i64 0] 102)) wt := (Fr.refl _ _).drew.trans hF2; have xpT := hF3.heap xpE (hLE.not xpE (by decide) (by decide)); have nET := hF3.heap nE (hLE.not nE (by decide) (by decide)); have hng := hLE.not hgE (by decide) (by decide); have hoT := own_on hoE (hF3.on (Z := fun k => k = g) (fun k hk => ⟨by subst hk; exact (Array.getElem?_eq_some_iff.1 hgE).1, by subst hk; exact hng⟩)) (fun k hk => by simp [Value.ownBlock] at hk; exact hk.symm); obtain ⟨r0, r1, r2, r3, r4, r5, r6, r7⟩ := box8 xpT; obtain ⟨q0, q1, q2, q3⟩ := box4 nET; have d1T := (hF3.cell (o := j * 4 + 1) (Array.getElem?_eq_some_iff.1 hgE).1 hng).trans d1; have d3T := (hF3.cell (o := j * 4 + 3) (Array.getElem?_eq_some_iff.1 hgE).1 hng).trans d3; have gfr := free_of (hF3.heap hgE hng)))
          all_goals
            obtain ⟨wz, hwz⟩ : ∃ wz, wt.setCell ⟨g, j * 4 + 3, none⟩ (.int .i64 hd) = wz := ⟨_, rfl⟩
            rw [hwz]
            have fz : Fr (Bl.one g) wt wz := hwz ▸ (Fr.refl (Bl.one g) wt).setCell (p := ⟨g, j * 4 + 3, none⟩) (.inl rfl) _
            have xpz := fz.heap xpT (fun e => by simp only [Bl.one] at e; omega)
            have hAl := HAL.out
            have hlenE : (ecells (A ++ ⟨⟨xk, xv, xs, 0⟩, xch⟩ :: es.drop (j + 1))).length = es.length * 4 := by rw [ecells_len, List.length_append, List.length_cons, List.length_drop]; omega
            have hoz := own_set hoT (j * 4 + 3) (by omega) (.int .i64 hd)
            rw [hwz] at hoz
            have hoz2 := own_set hoz (j * 4 + 1) (by rw [List.length_set]; omega) (.string ⟨#[]⟩)
            have d1z : wz.cell? ⟨g, j * 4 + 1, none⟩ = some (.string xv) := by rw [← hwz, World.cell?_setCell_other _ _ _ _ (by simp)]; exact d1T
            obtain ⟨curz, hgz⟩ := own_heap hoz
            have zfr := free_of hgz
            obtain ⟨s0, s1, s2, s3, s4, s5, s6, s7⟩ := box8 xpz
            clear r0 r1 r2 r3 r4 r5 r6 r7 q0 q1 q2 q3 d1T d3T gfr p0 p1 p2 p3 p4 p5 p6 p7 d1 d3 c0 c1 c2 c3
            go_wp2
            have hput := ecells_put A (es.drop (j + 1)) ⟨⟨xk, xv, xs, 0⟩, xch⟩ ⟨⟨xk, ⟨#[]⟩, xs, (hd : Nat)⟩, ch⟩ (hd : Nat) ⟨#[]⟩ rfl
            rw [hAl] at hput
            rw [hput] at hoz2
            have fz2 : Fr (Bl.one g) wt (wz.setCell ⟨g, j * 4 + 1, none⟩ (.string ⟨#[]⟩)) := fz.setCell (p := ⟨g, j * 4 + 1, none⟩) (.inl rfl) _
            have hngT : ¬ fpL b wv2 g := hL2.not (hF3.heap hgE hng) (by decide) (by decide)
            refine ⟨⟨j + 1, fa2, fc2, wv2, by simp, by omega, ?_, ?_, fz2.heap xpT (fun e => by simp only [Bl.one] at e; omega), ?_, ?_⟩, by simp [intOf]; omega⟩
            · rw [HST2.out]
              simp only [List.length_append, List.length_reverse, List.map_append]
              rw [← List.drop_drop, HF.out, ← List.append_assoc]
              exact hL2.beside fz2 (fun k hk => by simp only [Bl.one] at hk; subst hk; exact hngT) (fun k hk => by simp only [Bl.one] at hk; subst hk; intro hs; have := (h.apart k hs).1; omega)
            · rw [HST2.out, List.append_assoc]
              exact hoz2
            · refine (FE.grow hF3 (fun k hk => ?_)).grow fz2 (fun k hk => .inr (by simp only [Bl.one] at hk; omega))
              rcases hk with hk | hk
              · exact .inl (.inl hk)
              · exact (hli k hk).imp (fun h => .inr h) id
            · intro k hk
              rcases hli2 k hk with h1 | h1
              · exact hli k h1
              · have h2 : wr.heap.size + 1 ≤ k := by simpa using h1
                exact .inr (by omega)
        · have SM := same (by simp [En.newB]; omega)
          have hs6 : ¬ (60 : Int) < xs := hs60
          clear same
          go_wp2
          exact ⟨SM, by simp [intOf]; omega⟩
      · have SM := same (by simp [En.newB, ho0])
        have hob : (xo == 0) = false := by simpa using ho0
        clear same
        go_wp2
        exact ⟨SM, by simp [intOf]; omega⟩
    · obtain rfl : j = es.length := by omega
      rw [List.take_length] at hL ho
      rw [List.drop_length, List.append_nil] at ho
      obtain ⟨les, hles⟩ : ∃ les, (layEs es fr).1 = les := ⟨_, rfl⟩
      have hll : les.length = es.length := by rw [← hles]; exact layEs_length es fr
      obtain ⟨pl, hpl⟩ : ∃ pl, fr[(layEs es fr).2.length]'(by omega) = pl := ⟨_, rfl⟩
      have hgD : fr.getD (layEs es fr).2.length 0 = pl := by rw [List.getD_eq_getElem?_getD, List.getElem?_eq_getElem (by omega), hpl]; rfl
      have hdr : fr.drop (layEs es fr).2.length = pl :: fr.drop ((layEs es fr).2.length + 1) := by rw [List.drop_eq_getElem_cons (by omega), hpl]
      have hE := layN_enc (fs := fs) (n := .leaf ⟨firstKey es, ⟨#[]⟩⟩ es) ⟨hne, rfl, hr, ht, hg⟩ fr (by simp only [layN, List.length_append, List.length_singleton]; omega) hp (fr.getD (layEs es fr).2.length 0, leafPg (layEs es fr).1) (by simp [layN])
      rw [hles] at ho hE
      have hsm : (leafPg les).small := leaf_small les (by omega) (fun y hy => by
        rw [← hles] at hy
        obtain ⟨x, hx, f', hf', hfl', rfl, _⟩ := layEs_each (P := fun _ _ => True) es fr (by omega) y hy
        have hgx := hg x hx
        refine ⟨by rw [layX_key]; exact hgx.2.1, ?_⟩
        unfold layX
        split
        · exact Nat.zero_le _
        · exact (good_fits hgx).2)
      rw [hdr] at hL
      obtain ⟨_, _, e1, _, hrow⟩ := own_row0 ho
      simp only [Value.slice.injEq, true_and] at e1
      obtain ⟨rfl, rfl⟩ := e1
      have hgz : g < wr.heap.size := by obtain ⟨_, h1⟩ := own_heap ho; exact (Array.getElem?_eq_some_iff.1 h1).1
      obtain ⟨curE, hgE⟩ := own_heap ho
      have hPg := page_any b Sf fa' fc' pl _ wv' _ (leafPg les) none none (some ⟨g, 0, none⟩) 0 0 cE (fun k => k = g) wr hL ⟨.inl rfl, .inl rfl, (by
          have e : (leafPg les).ents.flatMap Ent.cells = ecells les := rfl
          rw [e]; exact hrow.mono (fun k hk => by simp [Value.ownBlock] at hk; exact hk.symm))⟩ (fun k hk => by subst hk; exact hgz) (fun e => hL.not hgE (by decide) (by decide) (.inl e.symm)) hsm hE (by
          rw [List.length_append, List.length_map]; omega)
      have e1 : (leafPg les).ents.length = es.length := by simp [leafPg, hll]
      rw [e1] at hPg
      have e2 : (leafPg les).keys.length = 0 := rfl
      have e3 : (leafPg les).kids.length = 0 := rfl
      rw [e2, e3] at hPg
      have HO : Hid (ws ++ ((layEs es fr).2 ++ [(fr.getD (layEs es fr).2.length 0, leafPg (layEs es fr).1)]).map enc1 = (ws ++ (layEs es fr).2.map enc1) ++ [(pl, (leafPg les).encS)]) := by
        show _ = _
        rw [hgD, hles, List.map_append, List.append_assoc]; rfl
      obtain ⟨sn, hsn⟩ : ∃ sn, (leafPg les).encS = sn := ⟨_, rfl⟩
      rw [hsn] at hPg HO
      have HGD : Hid (fr.getD (layEs es fr).2.length 0 = pl) := hgD
      simp only [leafPg] at hPg
      clear e1 e2 e3 hsn hgD hdr hE hles hll hpl
      go_wp2_with (go_at_call 174; (with_reducible refine Calls.mono hPg ?_); rintro e wp ⟨rfl, fa2, wv2, hL2, hF2, hli2⟩)
      go_ret
      rw [HO.out, HGD.out]
      refine ⟨rfl, fa2, _, wv2, hL2, hF.grow hF2 (fun k hk => ?_), fun k hk => ?_⟩
      · rcases hk with hk | hk
        · exact .inl (.inl hk)
        · exact (hli k hk).imp (fun h => .inr h) id
      · rcases hli2 k hk with h1 | h1
        · exact hli k h1
        · exact .inr (Nat.le_trans hF.size h1)
end Go.Proofs.YtngpplmndpmgiaaGreat.Tree
