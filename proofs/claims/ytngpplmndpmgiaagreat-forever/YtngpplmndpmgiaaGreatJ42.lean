/-
  Joined: Lay, LayV.
-/
import Derived.Test.YtngpplmndpmgiaaGreatJ41
import Derived.Test.YtngpplmndpmgiaaGreatJ36
import Derived.Deep.RegionHeld3
namespace Go.Proofs.YtngpplmndpmgiaaGreat.Tree
open Go.RowKit Go.Proofs.YtngpplmndpmgiaaGreat.Pages
set_option linter.unusedSimpArgs false
set_option linter.unusedVariables false
theorem RowOn.rowAt {w : World} {S : Bl} {a : Option Addr} {vs : List Value} {B : Nat} (h : RowOn w S a vs) (hS : ∀ b, S b → b < B) : RowAt w B a vs := by
  rcases h with h | ⟨b, off, ha, hs, hc⟩
  · exact .inl h
  · exact .inr ⟨b, off, ha, hS b hs, hc⟩
structure PgRow (w : World) (S : Bl) (g : Pg) (ka ia ea : Option Addr) (kc ic ec : Nat) : Prop where
  keys : RowOn w S ka (g.keys.map .string)
  kids : RowOn w S ia (g.kids.map (.int .i64))
  ents : RowOn w S ea (g.ents.flatMap Ent.cells)
theorem PgRow.on {w w' : World} {S : Bl} {g : Pg} {ka ia ea : Option Addr} {kc ic ec : Nat} (h : PgRow w S g ka ia ea kc ic ec) (ho : On S w w') : PgRow w' S g ka ia ea kc ic ec := ⟨h.keys.on ho, h.kids.on ho, h.ents.on ho⟩
set_option maxRecDepth 100000 in
set_option maxHeartbeats 2000000 in
theorem encoded_any (g : Pg) (ka ia ea : Option Addr) (kc ic ec : Nat) (S : Bl) (w : World) (hP : PgRow w S g ka ia ea kc ic ec) (hS : ∀ b, S b → b < w.heap.size) (hs : g.small) (hE : g.encE = 0) :
    Calls Tryz.prog 79 #[.agg #[.int .i64 g.kind, .int .i64 g.ver, .int .i64 g.root, .int .i64 g.next, .slice ka g.keys.length kc, .slice ia g.kids.length ic, .slice ea g.ents.length ec, .string g.data]] w fun e w' => e = .returned (.string g.encS) ∧ Below w.heap.size w w' := by
  obtain ⟨W1, hW1⟩ : ∃ W1, w.alloc (pgO g ka ia ea kc ic ec) = W1 := ⟨_, rfl⟩
  have b1 : Below w.heap.size w W1 := hW1 ▸ (Below.refl _ _).alloc (Nat.le_refl _) _
  have x1 : W1.heap[w.heap.size]? = some (pgO g ka ia ea kc ic ec) := hW1 ▸ heap_new w _
  obtain ⟨m0, m1, m2, m3, m4, m5, m6, m7⟩ := box8 x1
  have hS1 : ∀ b, S b → b < W1.heap.size := fun b h => Nat.lt_of_lt_of_le (hS b h) b1.size
  have hP1 := hP.on (On.of_below b1 hS)
  have hC := encode_any g.kind g.ver g.root g.next ka ia ea kc ic ec g.data g.keys g.kids g.ents W1 (hP1.keys.rowAt hS1) (hP1.kids.rowAt hS1) (hP1.ents.rowAt hS1) hs
  have hE' : Pages.encE g.kind g.ver g.root g.next g.keys g.kids g.ents g.data = 0 := hE
  rw [hE'] at hC
  obtain ⟨s, hs'⟩ : ∃ s, Pages.encS g.kind g.ver g.root g.next g.keys g.kids g.ents g.data = s := ⟨_, rfl⟩
  rw [hs'] at hC
  have HSs : Hid (g.encS = s) := hs'
  clear hE' hs'
  go_enter Tryz.func79, Tryz.ntmps79
  go_wp2_with (go_at_call 107; (with_reducible refine Calls.mono hC ?_); rintro e w2 ⟨rfl, hb2⟩)
  go_ret
  exact ⟨by rw [HSs.out]; rfl, b1.trans (hb2.mono b1.size)⟩
structure LayAt (w : World) (b : Nat) (Sf : Bl) (fa : Option Addr) (fc : Nat) (fr : List Nat) (wv : Value) (ws : List (Nat × ByteArray)) : Prop where
  box : w.heap[b]? = some (.cells #[.slice fa fr.length fc, wv] 216)
  free : RowOn w Sf fa (fr.map (fun n : Nat => Value.int .i64 n))
  some' : fr ≠ [] → ∃ b0 o0, fa = some ⟨b0, o0, none⟩
  cap : fr.length ≤ fc
  own : w.ownsRow 0 205 2 wv ws.length (ws.flatMap wcells)
  apart : ∀ k, Sf k → k < w.heap.size ∧ k ≠ b ∧ wv.ownBlock ≠ some k
def fpL (b : Nat) (wv : Value) : Bl := fun k => k = b ∨ wv.ownBlock = some k
theorem LayAt.lies {w : World} {b : Nat} {Sf : Bl} {fa : Option Addr} {fc : Nat} {fr : List Nat} {wv : Value} {ws : List (Nat × ByteArray)} (h : LayAt w b Sf fa fc fr wv ws) : ∀ k, fpL b wv k → k < w.heap.size := by
  rintro k (rfl | hk)
  · exact (Array.getElem?_eq_some_iff.1 h.box).1
  · exact own_lt h.own hk
theorem LayAt.fr {w w' : World} {b : Nat} {Sf : Bl} {fa : Option Addr} {fc : Nat} {fr : List Nat} {wv : Value} {ws : List (Nat × ByteArray)} (h : LayAt w b Sf fa fc fr wv ws) (f : Below w.heap.size w w') : LayAt w' b Sf fa fc fr wv ws :=
  ⟨(f.block _ (h.lies b (.inl rfl))).trans h.box, h.free.on (On.of_below f (fun k hk => (h.apart k hk).1)), h.some', h.cap, own_on h.own (On.of_below (Y := fun k => k < w.heap.size) f (fun k hk => hk)) (fun k hk => own_lt h.own hk), fun k hk => ⟨Nat.lt_of_lt_of_le (h.apart k hk).1 f.size, (h.apart k hk).2⟩⟩
theorem infoWr : (Tryz.prog.info? 205).map (fun i => (i.zero, i.size, i.bytes)) = some (some (.agg #[.int .i64 0, .string ⟨#[]⟩]), 2, 24) := by kernel_rfl
theorem RowOn.tail {w : World} {S : Bl} {b0 o0 : Nat} {v : Value} {vs : List Value} (h : RowOn w S (some ⟨b0, o0, none⟩) (v :: vs)) {a : Option Addr} (ha : vs ≠ [] → a = some ⟨b0, o0 + 1, none⟩) : RowOn w S a vs := by
  rcases h with h | ⟨b, off, hb, hs, hc⟩
  · simp at h
  · by_cases hv : vs = []
    · exact .inl hv
    · simp only [Option.some.injEq, Addr.mk.injEq, and_true] at hb
      obtain ⟨rfl, rfl⟩ := hb
      refine .inr ⟨b0, o0 + 1, ha hv, hs, fun i u hu => ?_⟩
      have := hc (i + 1) u (by simpa using hu)
      rw [show o0 + 1 + i = o0 + (i + 1) by omega]
      exact this
set_option maxRecDepth 100000 in
set_option maxHeartbeats 4000000 in
theorem page_any (b : Nat) (Sf : Bl) (fa : Option Addr) (fc p : Nat) (fr : List Nat) (wv : Value) (ws : List (Nat × ByteArray)) (g : Pg) (ka ia ea : Option Addr) (kc ic ec : Nat) (S : Bl) (w : World) (h : LayAt w b Sf fa fc (p :: fr) wv ws) (hP : PgRow w S g ka ia ea kc ic ec) (hS : ∀ b, S b → b < w.heap.size) (hSb : ¬ S b) (hs : g.small) (hE : g.encE = 0) (hws : ws.length ≤ 100000) :
    Calls Tryz.prog 174 #[.pointer (some ⟨b, 0, none⟩), .agg #[.int .i64 g.kind, .int .i64 g.ver, .int .i64 g.root, .int .i64 g.next, .slice ka g.keys.length kc, .slice ia g.kids.length ic, .slice ea g.ents.length ec, .string g.data]] w fun e w' => e = .returned (.int .i64 p) ∧
      ∃ fa' wv', LayAt w' b Sf fa' (fc - 1) fr wv' (ws ++ [(p, g.encS)]) ∧ Fr (fpL b wv) w w' ∧ ∀ k, wv'.ownBlock = some k → wv.ownBlock = some k ∨ w.heap.size ≤ k := by
  obtain ⟨b0, o0, rfl⟩ := h.some' (by simp)
  have hcap : fr.length + 1 ≤ fc := by have := h.cap; simpa using this
  obtain ⟨rb, ro, hra, hrb, hrc⟩ := h.free.at (f := fun n : Nat => Value.int .i64 n) (l := p :: fr) (j := 0) (by simp)
  simp only [Option.some.injEq, Addr.mk.injEq, and_true] at hra
  obtain ⟨rfl, rfl⟩ := hra
  simp only [Nat.add_zero, List.getElem_cons_zero] at hrc
  obtain ⟨W1, hW1⟩ : ∃ W1, w.alloc (pgO g ka ia ea kc ic ec) = W1 := ⟨_, rfl⟩
  have b1 : Below w.heap.size w W1 := hW1 ▸ (Below.refl _ _).alloc (Nat.le_refl _) _
  have x1 : W1.heap[w.heap.size]? = some (pgO g ka ia ea kc ic ec) := hW1 ▸ heap_new w _
  have h1 := h.fr b1
  have hbx : W1.heap[b]? = some (.cells #[.slice (some ⟨b0, o0, none⟩) (fr.length + 1) fc, wv] 216) := h1.box
  obtain ⟨l0, l1⟩ := box2 hbx
  have lfr := free_of hbx
  have blt : b < w.heap.size := h.lies b (.inl rfl)
  have hap := h.apart b0 hrb
  have hrc1 : W1.cell? ⟨b0, o0, none⟩ = some (.int .i64 p) := by rw [World.cell?_of_block (w := w) (b1.block b0 hap.1)]; exact hrc
  obtain ⟨A, hA⟩ : ∃ A, (if fc = 1 then (some ⟨b0, o0, none⟩ : Option Addr) else some ⟨b0, o0 + 1, none⟩) = A := ⟨_, rfl⟩
  obtain ⟨W2, hW2⟩ : ∃ W2, W1.setCell ⟨b, 0, none⟩ (.slice A fr.length (fc - 1)) = W2 := ⟨_, rfl⟩
  have y2 : W2.heap[b]? = some (.cells #[.slice A fr.length (fc - 1), wv] 216) := by rw [← hW2]; have := set_of hbx 0 (.slice A fr.length (fc - 1)); simpa using this
  have f2 : Fr (Bl.one b) W1 W2 := hW2 ▸ (Fr.refl (Bl.one b) W1).setCell (p := ⟨b, 0, none⟩) (.inl rfl) _
  have x2 := f2.heap x1 (fun e => by simp only [Bl.one] at e; omega)
  obtain ⟨m0, m1, m2, m3, m4, m5, m6, m7⟩ := box8 x2
  obtain ⟨k0, k1⟩ := box2 y2
  have kfr := free_of y2
  have hwvb : wv.ownBlock ≠ some b := own_ne h.own h.box (by decide)
  have own2 : W2.ownsRow 0 205 2 wv ws.length (ws.flatMap wcells) := own_on h1.own (f2.on (Z := fun k => wv.ownBlock = some k) (fun k hk => ⟨own_lt h1.own hk, fun e => by simp only [Bl.one] at e; subst e; exact hwvb hk⟩)) (fun k hk => hk)
  have hSA : ∀ {X : World}, Below W2.heap.size W2 X → On S w X := fun {X} hX => ((On.of_below b1 hS).trans (f2.on (fun k hk => ⟨Nat.lt_of_lt_of_le (hS k hk) b1.size, fun e => by simp only [Bl.one] at e; subst e; exact hSb hk⟩))).trans (On.of_below hX (fun k hk => Nat.lt_of_lt_of_le (Nat.lt_of_lt_of_le (hS k hk) b1.size) f2.size))
  have HC : Hid (∀ X, Below W2.heap.size W2 X → Calls Tryz.prog 79 #[.agg #[.int .i64 g.kind, .int .i64 g.ver, .int .i64 g.root, .int .i64 g.next, .slice ka g.keys.length kc, .slice ia g.kids.length ic, .slice ea g.ents.length ec, .string g.data]] X fun e w' => e = .returned (.string g.encS) ∧ Below X.heap.size X w') := fun X hX => encoded_any g ka ia ea kc ic ec S X (hP.on (hSA hX)) (fun k hk => Nat.lt_of_lt_of_le (Nat.lt_of_lt_of_le (hS k hk) b1.size) (Nat.le_trans f2.size hX.size)) hs hE
  have HF : Hid (∀ X, Below W2.heap.size W2 X → X.heap[w.heap.size]? = some (pgO g ka ia ea kc ic ec) ∧ X.heap[b]? = some (.cells #[.slice A fr.length (fc - 1), wv] 216) ∧ X.ownsRow 0 205 2 wv ws.length (ws.flatMap wcells)) := fun X hX => ⟨(hX.block _ (Array.getElem?_eq_some_iff.1 x2).1).trans x2, (hX.block _ (Array.getElem?_eq_some_iff.1 y2).1).trans y2, own_on own2 (On.of_below (Y := fun k => k < W2.heap.size) hX (fun k h => h)) (fun k hk => own_lt own2 hk)⟩
  have HAA : Hid ((if fc = 1 then (some ⟨b0, o0, none⟩ : Option Addr) else some ⟨b0, o0 + 1, none⟩) = A) := hA
  obtain ⟨es, hes⟩ : ∃ es, g.encS = es := ⟨_, rfl⟩
  rw [hes] at HC ⊢
  have hJ : Below W2.heap.size W2 W2 := Below.refl _ _
  have hf0 : ((fr.length : Int) + 1 == 0) = false := by simp; omega
  clear hes hSA
  go_enter Tryz.func174, Tryz.ntmps174
  go_wp2
  clear hA l0 l1 lfr hrc1 hbx
  refine wp_region_held_drew (S := (fun X => X.cell? ⟨w.heap.size, 0, none⟩ = some (.int .i64 g.kind) ∧ X.cell? ⟨w.heap.size, 1, none⟩ = some (.int .i64 g.ver) ∧ X.cell? ⟨w.heap.size, 2, none⟩ = some (.int .i64 g.root) ∧ X.cell? ⟨w.heap.size, 3, none⟩ = some (.int .i64 g.next) ∧ X.cell? ⟨w.heap.size, 4, none⟩ = some (.slice ka g.keys.length kc) ∧ X.cell? ⟨w.heap.size, 5, none⟩ = some (.slice ia g.kids.length ic) ∧ X.cell? ⟨w.heap.size, 6, none⟩ = some (.slice ea g.ents.length ec) ∧ X.cell? ⟨w.heap.size, 7, none⟩ = some (.string g.data))) (by kernel_rfl) (by (first | exact ⟨m0, m1, m2, m3, m4, m5, m6, m7⟩ | (with_reducible exact ⟨m0, m1, m2, m3, m4, m5, m6, m7⟩) | (with_reducible exact ⟨n0, n1, n2, n3, n4, n5, n6, n7⟩) | (refine ⟨?_, ?_, ?_, ?_, ?_, ?_, ?_, ?_⟩ <;> (with_reducible refine cell_other (by omega) ?_) <;> (first | (with_reducible exact m0) | (with_reducible exact m1) | (with_reducible exact m2) | (with_reducible exact m3) | (with_reducible exact m4) | (with_reducible exact m5) | (with_reducible exact m6) | (with_reducible exact m7))) | (simp [m0, m1, m2, m3, m4, m5, m6, m7]))) (fun hHeld => ?_)
  refine wpAnyH_take (i := 0) (v := .pointer (some ⟨b, 0, none⟩)) rfl (by kernel_rfl) (by kernel_rfl) (by kernel_rfl) (fun _ _ _ h => h) (Or.inl ⟨by rfl, fun w hSw => by (try dsimp only at hSw); go_simp⟩) (by assumption) ?_
  try simp only [Act.put, List.setIfInBounds_toArray, List.set_cons_zero, List.set_cons_succ]
  refine wpAnyH_take (i := 1) (v := .pointer (some ⟨b, 0, none⟩)) rfl (by kernel_rfl) (by kernel_rfl) (by kernel_rfl) (fun _ _ _ h => h) (Or.inl ⟨by rfl, fun w hSw => by (try dsimp only at hSw); go_simp⟩) (by assumption) ?_
  try simp only [Act.put, List.setIfInBounds_toArray, List.set_cons_zero, List.set_cons_succ]
  refine wpAnyH_take (i := 2) (v := .pointer (some ⟨b, 0, none⟩)) rfl (by kernel_rfl) (by kernel_rfl) (by kernel_rfl) (fun _ _ _ h => h) (Or.inl ⟨by rfl, fun w hSw => by (try dsimp only at hSw); go_simp⟩) (by assumption) ?_
  try simp only [Act.put, List.setIfInBounds_toArray, List.set_cons_zero, List.set_cons_succ]
  refine wpAnyH_take (i := 3) (v := .pointer (some ⟨b, 1, none⟩)) rfl (by kernel_rfl) (by kernel_rfl) (by kernel_rfl) (fun _ _ _ h => h) (Or.inl ⟨by rfl, fun w hSw => by (try dsimp only at hSw); go_simp⟩) (by assumption) ?_
  try simp only [Act.put, List.setIfInBounds_toArray, List.set_cons_zero, List.set_cons_succ]
  refine wpAnyH_take (i := 5) (v := .int .i64 p) rfl (by kernel_rfl) (by kernel_rfl) (by kernel_rfl) (fun _ _ _ h => h) (Or.inl ⟨by rfl, fun w hSw => by (try dsimp only at hSw); go_simp⟩) (by assumption) ?_
  try simp only [Act.put, List.setIfInBounds_toArray, List.set_cons_zero, List.set_cons_succ]
  refine wpAnyH_take (i := 6) (v := .agg #[.int .i64 g.kind, .int .i64 g.ver, .int .i64 g.root, .int .i64 g.next, .slice ka g.keys.length kc, .slice ia g.kids.length ic, .slice ea g.ents.length ec, .string g.data]) rfl (by kernel_rfl) (by kernel_rfl) (by kernel_rfl) (fun _ _ _ h => h) (Or.inl ⟨by rfl, fun w hSw => by (try dsimp only at hSw); go_simp⟩) (by assumption) ?_
  try simp only [Act.put, List.setIfInBounds_toArray, List.set_cons_zero, List.set_cons_succ]
  refine wpAnyH_ready (rs := [4, 7]) (by kernel_rfl) (by simp) (AllReadyH.cons rfl (fun K hK => ?_) (AllReadyH.cons rfl (fun K hK => ?_) AllReadyH.nil))
  go_simp
  refine hK.out _ _ (by (first | exact ⟨m0, m1, m2, m3, m4, m5, m6, m7⟩ | (with_reducible exact ⟨m0, m1, m2, m3, m4, m5, m6, m7⟩) | (with_reducible exact ⟨n0, n1, n2, n3, n4, n5, n6, n7⟩) | (refine ⟨?_, ?_, ?_, ?_, ?_, ?_, ?_, ?_⟩ <;> (with_reducible refine cell_other (by omega) ?_) <;> (first | (with_reducible exact m0) | (with_reducible exact m1) | (with_reducible exact m2) | (with_reducible exact m3) | (with_reducible exact m4) | (with_reducible exact m5) | (with_reducible exact m6) | (with_reducible exact m7))) | (simp [m0, m1, m2, m3, m4, m5, m6, m7]))) (fun hHeld => ?_)
  clear hK K
  try simp only [Act.put, List.setIfInBounds_toArray, List.set_cons_zero, List.set_cons_succ]
  refine wpAnyH_ready (rs := [7]) (by kernel_rfl) (by simp) (AllReadyH.cons rfl (fun K hK => ?_) AllReadyH.nil)
  go_simp
  (go_at_call 79; (with_reducible refine Calls.mono (HC.out _ ?_) ?_); exact hJ.drew; rintro e we ⟨rfl, hbe⟩; have hJe : Below W2.heap.size W2 we := hJ.drew.trans hbe; obtain ⟨xe, ye, owne⟩ := HF.out we hJe; obtain ⟨m0, m1, m2, m3, m4, m5, m6, m7⟩ := box8 xe; obtain ⟨k0, k1⟩ := box2 ye; have xeA := heap_keep (.cells #[.int .i64 p, .string es] 205) xe; obtain ⟨n0, n1, n2, n3, n4, n5, n6, n7⟩ := box8 xeA; have yeA := heap_keep (.cells #[.int .i64 p, .string es] 205) ye; obtain ⟨kk0, kk1⟩ := box2 yeA)
  simp only []
  refine hK.out _ _ (by (first | exact ⟨m0, m1, m2, m3, m4, m5, m6, m7⟩ | (with_reducible exact ⟨m0, m1, m2, m3, m4, m5, m6, m7⟩) | (with_reducible exact ⟨n0, n1, n2, n3, n4, n5, n6, n7⟩) | (refine ⟨?_, ?_, ?_, ?_, ?_, ?_, ?_, ?_⟩ <;> (with_reducible refine cell_other (by omega) ?_) <;> (first | (with_reducible exact m0) | (with_reducible exact m1) | (with_reducible exact m2) | (with_reducible exact m3) | (with_reducible exact m4) | (with_reducible exact m5) | (with_reducible exact m6) | (with_reducible exact m7))) | (simp [m0, m1, m2, m3, m4, m5, m6, m7]))) (fun hHeld => ?_)
  clear hK K
  try simp only [Act.put, List.setIfInBounds_toArray, List.set_cons_zero, List.set_cons_succ]
  refine wpAnyH_take (i := 8) (v := .agg #[.int .i64 p, .string es]) rfl (by kernel_rfl) (by kernel_rfl) (by kernel_rfl) (fun _ _ _ h => h) (Or.inl ⟨by rfl, fun w hSw => by (try dsimp only at hSw); go_simp⟩) (by assumption) ?_
  try simp only [Act.put, List.setIfInBounds_toArray, List.set_cons_zero, List.set_cons_succ]
  refine wpAnyH_ready (rs := [9]) (by kernel_rfl) (by simp) (AllReadyH.cons rfl (fun K hK => ?_) AllReadyH.nil)
  go_simp
  refine hK.out _ _ (by (first | exact ⟨m0, m1, m2, m3, m4, m5, m6, m7⟩ | (with_reducible exact ⟨m0, m1, m2, m3, m4, m5, m6, m7⟩) | (with_reducible exact ⟨n0, n1, n2, n3, n4, n5, n6, n7⟩) | (refine ⟨?_, ?_, ?_, ?_, ?_, ?_, ?_, ?_⟩ <;> (with_reducible refine cell_other (by omega) ?_) <;> (first | (with_reducible exact m0) | (with_reducible exact m1) | (with_reducible exact m2) | (with_reducible exact m3) | (with_reducible exact m4) | (with_reducible exact m5) | (with_reducible exact m6) | (with_reducible exact m7))) | (simp [m0, m1, m2, m3, m4, m5, m6, m7]))) (fun hHeld => ?_)
  clear hK K
  try simp only [Act.put, List.setIfInBounds_toArray, List.set_cons_zero, List.set_cons_succ]
  refine wpAnyH_ready (rs := [10]) (by kernel_rfl) (by simp) (AllReadyH.cons rfl (fun K hK => ?_) AllReadyH.nil)
  (refine step_app1 we rfl (.tmp 31) (.tmp 36) 172 205 _ 2 24 rfl Tryz.underlying172 infoWr rfl (by decide) wv ws.length (ws.flatMap wcells) (by simp [Act.eval, Act.put]) owne [.int .i64 p, .string es] (by simp [Act.eval, Act.put]) rfl (by simp [Value.oneCell']) (by omega) (by omega) ?_; intro v3 w3 A3; obtain ⟨g3, k3, rfl⟩ := A3.shape (by decide); have y3 := A3.fr.heap ye (own_ne owne ye (by decide)); have x3 := A3.fr.heap xe (own_ne owne xe (by decide)); obtain ⟨m0, m1, m2, m3, m4, m5, m6, m7⟩ := box8 x3; obtain ⟨k0, k1⟩ := box2 y3; have kfr := free_of y3)
  refine hK.out _ _ (by (first | exact ⟨m0, m1, m2, m3, m4, m5, m6, m7⟩ | (with_reducible exact ⟨m0, m1, m2, m3, m4, m5, m6, m7⟩) | (with_reducible exact ⟨n0, n1, n2, n3, n4, n5, n6, n7⟩) | (refine ⟨?_, ?_, ?_, ?_, ?_, ?_, ?_, ?_⟩ <;> (with_reducible refine cell_other (by omega) ?_) <;> (first | (with_reducible exact m0) | (with_reducible exact m1) | (with_reducible exact m2) | (with_reducible exact m3) | (with_reducible exact m4) | (with_reducible exact m5) | (with_reducible exact m6) | (with_reducible exact m7))) | (simp [m0, m1, m2, m3, m4, m5, m6, m7]))) (fun hHeld => ?_)
  clear hK K
  try simp only [Act.put, List.setIfInBounds_toArray, List.set_cons_zero, List.set_cons_succ]
  refine wpAnyH_take (i := 11) (v := .pointer (some ⟨b, 0, none⟩)) rfl (by kernel_rfl) (by kernel_rfl) (by kernel_rfl) (fun _ _ _ h => h) (Or.inl ⟨by rfl, fun w hSw => by (try dsimp only at hSw); go_simp⟩) (by assumption) ?_
  try simp only [Act.put, List.setIfInBounds_toArray, List.set_cons_zero, List.set_cons_succ]
  refine wpAnyH_take (i := 12) (v := .pointer (some ⟨b, 1, none⟩)) rfl (by kernel_rfl) (by kernel_rfl) (by kernel_rfl) (fun _ _ _ h => h) (Or.inl ⟨by rfl, fun w hSw => by (try dsimp only at hSw); go_simp⟩) (by assumption) ?_
  try simp only [Act.put, List.setIfInBounds_toArray, List.set_cons_zero, List.set_cons_succ]
  refine wpAnyH_ready (rs := [13]) (by kernel_rfl) (by simp) (AllReadyH.cons rfl (fun K hK => ?_) AllReadyH.nil)
  go_simp
  refine hK.out _ _ (by (first | exact ⟨m0, m1, m2, m3, m4, m5, m6, m7⟩ | (with_reducible exact ⟨m0, m1, m2, m3, m4, m5, m6, m7⟩) | (with_reducible exact ⟨n0, n1, n2, n3, n4, n5, n6, n7⟩) | (refine ⟨?_, ?_, ?_, ?_, ?_, ?_, ?_, ?_⟩ <;> (with_reducible refine cell_other (by omega) ?_) <;> (first | (with_reducible exact m0) | (with_reducible exact m1) | (with_reducible exact m2) | (with_reducible exact m3) | (with_reducible exact m4) | (with_reducible exact m5) | (with_reducible exact m6) | (with_reducible exact m7))) | (simp [m0, m1, m2, m3, m4, m5, m6, m7]))) (fun hHeld => ?_)
  clear hK K
  try simp only [Act.put, List.setIfInBounds_toArray, List.set_cons_zero, List.set_cons_succ]
  refine wpAnyH_done (by kernel_rfl) ?_ _
  rotate_left
  go_simp
  (go_at_call 79; (with_reducible refine Calls.mono (HC.out _ ?_) ?_); exact hJ.drew; rintro e we ⟨rfl, hbe⟩; have hJe : Below W2.heap.size W2 we := hJ.drew.trans hbe; obtain ⟨xe, ye, owne⟩ := HF.out we hJe; obtain ⟨m0, m1, m2, m3, m4, m5, m6, m7⟩ := box8 xe; obtain ⟨k0, k1⟩ := box2 ye; have xeA := heap_keep (.cells #[.int .i64 p, .string es] 205) xe; obtain ⟨n0, n1, n2, n3, n4, n5, n6, n7⟩ := box8 xeA; have yeA := heap_keep (.cells #[.int .i64 p, .string es] 205) ye; obtain ⟨kk0, kk1⟩ := box2 yeA)
  simp only []
  refine hK.out _ _ (by (first | exact ⟨m0, m1, m2, m3, m4, m5, m6, m7⟩ | (with_reducible exact ⟨m0, m1, m2, m3, m4, m5, m6, m7⟩) | (with_reducible exact ⟨n0, n1, n2, n3, n4, n5, n6, n7⟩) | (refine ⟨?_, ?_, ?_, ?_, ?_, ?_, ?_, ?_⟩ <;> (with_reducible refine cell_other (by omega) ?_) <;> (first | (with_reducible exact m0) | (with_reducible exact m1) | (with_reducible exact m2) | (with_reducible exact m3) | (with_reducible exact m4) | (with_reducible exact m5) | (with_reducible exact m6) | (with_reducible exact m7))) | (simp [m0, m1, m2, m3, m4, m5, m6, m7]))) (fun hHeld => ?_)
  clear hK K
  try simp only [Act.put, List.setIfInBounds_toArray, List.set_cons_zero, List.set_cons_succ]
  refine wpAnyH_take (i := 8) (v := .agg #[.int .i64 p, .string es]) rfl (by kernel_rfl) (by kernel_rfl) (by kernel_rfl) (fun _ _ _ h => h) (Or.inl ⟨by rfl, fun w hSw => by (try dsimp only at hSw); go_simp⟩) (by assumption) ?_
  try simp only [Act.put, List.setIfInBounds_toArray, List.set_cons_zero, List.set_cons_succ]
  refine wpAnyH_ready (rs := [4, 9]) (by kernel_rfl) (by simp) (AllReadyH.cons rfl (fun K hK => ?_) (AllReadyH.cons rfl (fun K hK => ?_) AllReadyH.nil))
  go_simp
  refine hK.out _ _ (by (first | exact ⟨m0, m1, m2, m3, m4, m5, m6, m7⟩ | (with_reducible exact ⟨m0, m1, m2, m3, m4, m5, m6, m7⟩) | (with_reducible exact ⟨n0, n1, n2, n3, n4, n5, n6, n7⟩) | (refine ⟨?_, ?_, ?_, ?_, ?_, ?_, ?_, ?_⟩ <;> (with_reducible refine cell_other (by omega) ?_) <;> (first | (with_reducible exact m0) | (with_reducible exact m1) | (with_reducible exact m2) | (with_reducible exact m3) | (with_reducible exact m4) | (with_reducible exact m5) | (with_reducible exact m6) | (with_reducible exact m7))) | (simp [m0, m1, m2, m3, m4, m5, m6, m7]))) (fun hHeld => ?_)
  clear hK K
  try simp only [Act.put, List.setIfInBounds_toArray, List.set_cons_zero, List.set_cons_succ]
  refine wpAnyH_ready (rs := [9]) (by kernel_rfl) (by simp) (AllReadyH.cons rfl (fun K hK => ?_) AllReadyH.nil)
  go_simp
  refine hK.out _ _ (by (first | exact ⟨m0, m1, m2, m3, m4, m5, m6, m7⟩ | (with_reducible exact ⟨m0, m1, m2, m3, m4, m5, m6, m7⟩) | (with_reducible exact ⟨n0, n1, n2, n3, n4, n5, n6, n7⟩) | (refine ⟨?_, ?_, ?_, ?_, ?_, ?_, ?_, ?_⟩ <;> (with_reducible refine cell_other (by omega) ?_) <;> (first | (with_reducible exact m0) | (with_reducible exact m1) | (with_reducible exact m2) | (with_reducible exact m3) | (with_reducible exact m4) | (with_reducible exact m5) | (with_reducible exact m6) | (with_reducible exact m7))) | (simp [m0, m1, m2, m3, m4, m5, m6, m7]))) (fun hHeld => ?_)
  clear hK K
  try simp only [Act.put, List.setIfInBounds_toArray, List.set_cons_zero, List.set_cons_succ]
  refine wpAnyH_ready (rs := [10]) (by kernel_rfl) (by simp) (AllReadyH.cons rfl (fun K hK => ?_) AllReadyH.nil)
  (refine step_app1 we rfl (.tmp 31) (.tmp 36) 172 205 _ 2 24 rfl Tryz.underlying172 infoWr rfl (by decide) wv ws.length (ws.flatMap wcells) (by simp [Act.eval, Act.put]) owne [.int .i64 p, .string es] (by simp [Act.eval, Act.put]) rfl (by simp [Value.oneCell']) (by omega) (by omega) ?_; intro v3 w3 A3; obtain ⟨g3, k3, rfl⟩ := A3.shape (by decide); have y3 := A3.fr.heap ye (own_ne owne ye (by decide)); have x3 := A3.fr.heap xe (own_ne owne xe (by decide)); obtain ⟨m0, m1, m2, m3, m4, m5, m6, m7⟩ := box8 x3; obtain ⟨k0, k1⟩ := box2 y3; have kfr := free_of y3)
  refine hK.out _ _ (by (first | exact ⟨m0, m1, m2, m3, m4, m5, m6, m7⟩ | (with_reducible exact ⟨m0, m1, m2, m3, m4, m5, m6, m7⟩) | (with_reducible exact ⟨n0, n1, n2, n3, n4, n5, n6, n7⟩) | (refine ⟨?_, ?_, ?_, ?_, ?_, ?_, ?_, ?_⟩ <;> (with_reducible refine cell_other (by omega) ?_) <;> (first | (with_reducible exact m0) | (with_reducible exact m1) | (with_reducible exact m2) | (with_reducible exact m3) | (with_reducible exact m4) | (with_reducible exact m5) | (with_reducible exact m6) | (with_reducible exact m7))) | (simp [m0, m1, m2, m3, m4, m5, m6, m7]))) (fun hHeld => ?_)
  clear hK K
  try simp only [Act.put, List.setIfInBounds_toArray, List.set_cons_zero, List.set_cons_succ]
  refine wpAnyH_take (i := 11) (v := .pointer (some ⟨b, 0, none⟩)) rfl (by kernel_rfl) (by kernel_rfl) (by kernel_rfl) (fun _ _ _ h => h) (Or.inl ⟨by rfl, fun w hSw => by (try dsimp only at hSw); go_simp⟩) (by assumption) ?_
  try simp only [Act.put, List.setIfInBounds_toArray, List.set_cons_zero, List.set_cons_succ]
  refine wpAnyH_take (i := 12) (v := .pointer (some ⟨b, 1, none⟩)) rfl (by kernel_rfl) (by kernel_rfl) (by kernel_rfl) (fun _ _ _ h => h) (Or.inl ⟨by rfl, fun w hSw => by (try dsimp only at hSw); go_simp⟩) (by assumption) ?_
  try simp only [Act.put, List.setIfInBounds_toArray, List.set_cons_zero, List.set_cons_succ]
  refine wpAnyH_ready (rs := [13]) (by kernel_rfl) (by simp) (AllReadyH.cons rfl (fun K hK => ?_) AllReadyH.nil)
  go_simp
  refine hK.out _ _ (by (first | exact ⟨m0, m1, m2, m3, m4, m5, m6, m7⟩ | (with_reducible exact ⟨m0, m1, m2, m3, m4, m5, m6, m7⟩) | (with_reducible exact ⟨n0, n1, n2, n3, n4, n5, n6, n7⟩) | (refine ⟨?_, ?_, ?_, ?_, ?_, ?_, ?_, ?_⟩ <;> (with_reducible refine cell_other (by omega) ?_) <;> (first | (with_reducible exact m0) | (with_reducible exact m1) | (with_reducible exact m2) | (with_reducible exact m3) | (with_reducible exact m4) | (with_reducible exact m5) | (with_reducible exact m6) | (with_reducible exact m7))) | (simp [m0, m1, m2, m3, m4, m5, m6, m7]))) (fun hHeld => ?_)
  clear hK K
  try simp only [Act.put, List.setIfInBounds_toArray, List.set_cons_zero, List.set_cons_succ]
  refine wpAnyH_done (by kernel_rfl) ?_ _
  rotate_left
  go_simp
  refine hK.out _ _ (by (first | exact ⟨m0, m1, m2, m3, m4, m5, m6, m7⟩ | (with_reducible exact ⟨m0, m1, m2, m3, m4, m5, m6, m7⟩) | (with_reducible exact ⟨n0, n1, n2, n3, n4, n5, n6, n7⟩) | (refine ⟨?_, ?_, ?_, ?_, ?_, ?_, ?_, ?_⟩ <;> (with_reducible refine cell_other (by omega) ?_) <;> (first | (with_reducible exact m0) | (with_reducible exact m1) | (with_reducible exact m2) | (with_reducible exact m3) | (with_reducible exact m4) | (with_reducible exact m5) | (with_reducible exact m6) | (with_reducible exact m7))) | (simp [m0, m1, m2, m3, m4, m5, m6, m7]))) (fun hHeld => ?_)
  clear hK K
  try simp only [Act.put, List.setIfInBounds_toArray, List.set_cons_zero, List.set_cons_succ]
  refine wpAnyH_ready (rs := [4]) (by kernel_rfl) (by simp) (AllReadyH.cons rfl (fun K hK => ?_) AllReadyH.nil)
  go_simp
  refine hK.out _ _ (by (first | exact ⟨m0, m1, m2, m3, m4, m5, m6, m7⟩ | (with_reducible exact ⟨m0, m1, m2, m3, m4, m5, m6, m7⟩) | (with_reducible exact ⟨n0, n1, n2, n3, n4, n5, n6, n7⟩) | (refine ⟨?_, ?_, ?_, ?_, ?_, ?_, ?_, ?_⟩ <;> (with_reducible refine cell_other (by omega) ?_) <;> (first | (with_reducible exact m0) | (with_reducible exact m1) | (with_reducible exact m2) | (with_reducible exact m3) | (with_reducible exact m4) | (with_reducible exact m5) | (with_reducible exact m6) | (with_reducible exact m7))) | (simp [m0, m1, m2, m3, m4, m5, m6, m7]))) (fun hHeld => ?_)
  clear hK K
  try simp only [Act.put, List.setIfInBounds_toArray, List.set_cons_zero, List.set_cons_succ]
  refine wpAnyH_ready (rs := [10]) (by kernel_rfl) (by simp) (AllReadyH.cons rfl (fun K hK => ?_) AllReadyH.nil)
  (refine step_app1 we rfl (.tmp 31) (.tmp 36) 172 205 _ 2 24 rfl Tryz.underlying172 infoWr rfl (by decide) wv ws.length (ws.flatMap wcells) (by simp [Act.eval, Act.put]) owne [.int .i64 p, .string es] (by simp [Act.eval, Act.put]) rfl (by simp [Value.oneCell']) (by omega) (by omega) ?_; intro v3 w3 A3; obtain ⟨g3, k3, rfl⟩ := A3.shape (by decide); have y3 := A3.fr.heap ye (own_ne owne ye (by decide)); have x3 := A3.fr.heap xe (own_ne owne xe (by decide)); obtain ⟨m0, m1, m2, m3, m4, m5, m6, m7⟩ := box8 x3; obtain ⟨k0, k1⟩ := box2 y3; have kfr := free_of y3)
  refine hK.out _ _ (by (first | exact ⟨m0, m1, m2, m3, m4, m5, m6, m7⟩ | (with_reducible exact ⟨m0, m1, m2, m3, m4, m5, m6, m7⟩) | (with_reducible exact ⟨n0, n1, n2, n3, n4, n5, n6, n7⟩) | (refine ⟨?_, ?_, ?_, ?_, ?_, ?_, ?_, ?_⟩ <;> (with_reducible refine cell_other (by omega) ?_) <;> (first | (with_reducible exact m0) | (with_reducible exact m1) | (with_reducible exact m2) | (with_reducible exact m3) | (with_reducible exact m4) | (with_reducible exact m5) | (with_reducible exact m6) | (with_reducible exact m7))) | (simp [m0, m1, m2, m3, m4, m5, m6, m7]))) (fun hHeld => ?_)
  clear hK K
  try simp only [Act.put, List.setIfInBounds_toArray, List.set_cons_zero, List.set_cons_succ]
  refine wpAnyH_take (i := 11) (v := .pointer (some ⟨b, 0, none⟩)) rfl (by kernel_rfl) (by kernel_rfl) (by kernel_rfl) (fun _ _ _ h => h) (Or.inl ⟨by rfl, fun w hSw => by (try dsimp only at hSw); go_simp⟩) (by assumption) ?_
  try simp only [Act.put, List.setIfInBounds_toArray, List.set_cons_zero, List.set_cons_succ]
  refine wpAnyH_take (i := 12) (v := .pointer (some ⟨b, 1, none⟩)) rfl (by kernel_rfl) (by kernel_rfl) (by kernel_rfl) (fun _ _ _ h => h) (Or.inl ⟨by rfl, fun w hSw => by (try dsimp only at hSw); go_simp⟩) (by assumption) ?_
  try simp only [Act.put, List.setIfInBounds_toArray, List.set_cons_zero, List.set_cons_succ]
  refine wpAnyH_ready (rs := [13]) (by kernel_rfl) (by simp) (AllReadyH.cons rfl (fun K hK => ?_) AllReadyH.nil)
  go_simp
  refine hK.out _ _ (by (first | exact ⟨m0, m1, m2, m3, m4, m5, m6, m7⟩ | (with_reducible exact ⟨m0, m1, m2, m3, m4, m5, m6, m7⟩) | (with_reducible exact ⟨n0, n1, n2, n3, n4, n5, n6, n7⟩) | (refine ⟨?_, ?_, ?_, ?_, ?_, ?_, ?_, ?_⟩ <;> (with_reducible refine cell_other (by omega) ?_) <;> (first | (with_reducible exact m0) | (with_reducible exact m1) | (with_reducible exact m2) | (with_reducible exact m3) | (with_reducible exact m4) | (with_reducible exact m5) | (with_reducible exact m6) | (with_reducible exact m7))) | (simp [m0, m1, m2, m3, m4, m5, m6, m7]))) (fun hHeld => ?_)
  clear hK K
  try simp only [Act.put, List.setIfInBounds_toArray, List.set_cons_zero, List.set_cons_succ]
  refine wpAnyH_done (by kernel_rfl) ?_ _
  rotate_left
  all_goals go_wp2
  all_goals go_ret
  all_goals
    have hfin := set_of y3 1 (.slice (some ⟨g3, 0, none⟩) (ws.length + 1) k3)
    have hw2 : w.heap.size ≤ W2.heap.size := Nat.le_trans b1.size f2.size
    have hwe : w.heap.size ≤ we.heap.size := Nat.le_trans hw2 hJe.size
    have F : Fr (fpL b wv) w (w3.setCell ⟨b, 1, none⟩ (.slice (some ⟨g3, 0, none⟩) (ws.length + 1) k3)) := ((((Fr.of_below b1).trans (f2.mono (fun k hk => .inl (.inl hk)))).trans ((Fr.of_below hJe).mono (fun k hk => .inl hk))).trans (A3.fr.mono (fun k hk => .inl (.inr hk)))).setCell (p := ⟨b, 1, none⟩) (.inl (.inl rfl)) _
    have hlies : ∀ k, (Value.slice (some ⟨g3, 0, none⟩) (ws.length + 1) k3).ownBlock = some k → wv.ownBlock = some k ∨ w.heap.size ≤ k := fun k hk => (A3.lies k hk).imp id (fun h => by omega)
    have hne3 : (Value.slice (some ⟨g3, 0, none⟩) (ws.length + 1) k3).ownBlock ≠ some b := own_ne A3.row y3 (by decide)
    refine ⟨rfl, A, _, ⟨by simpa using hfin, ?_, ?_, by omega, ?_, ?_⟩, F, hlies⟩
    · have hr1 : RowOn w Sf A (fr.map (fun n : Nat => Value.int .i64 n)) := by
        refine RowOn.tail (v := .int .i64 p) (by simpa using h.free) (fun hv => ?_)
        rw [← HAA.out, if_neg]
        intro e
        have : fr.length ≠ 0 := fun e0 => hv (by rw [List.eq_nil_of_length_eq_zero e0]; rfl)
        omega
      exact hr1.on (F.on (fun k hk => ⟨(h.apart k hk).1, fun e => by rcases e with e | e; exact (h.apart k hk).2.1 e; exact (h.apart k hk).2.2 e⟩))
    · intro hv
      rw [← HAA.out]
      split
      · exact ⟨_, _, rfl⟩
      · exact ⟨_, _, rfl⟩
    · have hr := A3.row
      have : w3.ownsRow 0 205 2 (.slice (some ⟨g3, 0, none⟩) (ws.length + 1) k3) (ws ++ [(p, es)]).length ((ws ++ [(p, es)]).flatMap wcells) := by
        rw [List.length_append, List.length_singleton, List.flatMap_append]
        exact hr
      exact own_on this ((On.refl (fun k => (Value.slice (some ⟨g3, 0, none⟩) (ws.length + 1) k3).ownBlock = some k) w3).setCell (p := ⟨b, 1, none⟩) (fun hk => hne3 hk) _) (fun k hk => hk)
    · intro k hk
      refine ⟨Nat.lt_of_lt_of_le (h.apart k hk).1 F.size, (h.apart k hk).2.1, fun e => ?_⟩
      rcases hlies k e with e | e
      · exact (h.apart k hk).2.2 e
      · have := (h.apart k hk).1; omega
end Go.Proofs.YtngpplmndpmgiaaGreat.Tree
namespace Go.Proofs.YtngpplmndpmgiaaGreat.Tree
open Go.RowKit Go.Proofs.YtngpplmndpmgiaaGreat.Pages
set_option linter.unusedSimpArgs false
set_option linter.unusedVariables false
def enc1 (y : Nat × Pg) : Nat × ByteArray := (y.1, y.2.encS)
theorem over_small (next : Nat) (d : ByteArray) (h : d.size ≤ 240) : (overPg next d).small := by
  refine ⟨by simp [overPg], by simp [overPg], by simp [overPg], by simp [overPg], ?_, ?_, ?_⟩
  · simp [overPg, branchB, beB_length]
  · simp [overPg, leafB, beB_length]
  · simp only [overPg]; omega
theorem pgrow_none (w : World) (S : Bl) (g : Pg) (h1 : g.keys = []) (h2 : g.kids = []) (h3 : g.ents = []) (kc ic ec : Nat) : PgRow w S g none none none kc ic ec := ⟨.inl (by rw [h1]; rfl), .inl (by rw [h2]; rfl), .inl (by rw [h3]; rfl)⟩
set_option maxRecDepth 100000 in
set_option maxHeartbeats 4000000 in
theorem value_any (b : Nat) (Sf : Bl) : ∀ (k : Nat) (v : ByteArray) (fa : Option Addr) (fc : Nat) (fr : List Nat) (wv : Value) (ws : List (Nat × ByteArray)) (w : World) (h : LayAt w b Sf fa fc fr wv ws) (hv : v.size ≤ 240 * k) (hv2 : v.size ≤ 100000) (hl : (layV k v fr).length ≤ fr.length) (hp : ∀ p ∈ fr, placeB (p : Nat) = true) (hws : ws.length + k ≤ 100000),
    Calls Tryz.prog 176 #[.pointer (some ⟨b, 0, none⟩), .string v] w fun e w' => e = .returned (.int .i64 (headPl (layV k v fr) : Nat)) ∧
      ∃ fa' fc' wv', LayAt w' b Sf fa' fc' (fr.drop (layV k v fr).length) wv' (ws ++ (layV k v fr).reverse.map enc1) ∧ Fr (fpL b wv) w w' ∧ ∀ k, wv'.ownBlock = some k → wv.ownBlock = some k ∨ w.heap.size ≤ k
  | k, v, fa, fc, fr, wv, ws, w, h, hv, hv2, hl, hp, hws => by
    by_cases h0 : v.size = 0
    · have e0 : v = ⟨#[]⟩ := size_zero h0
      subst e0
      rw [layV_zero _ _ _ h0]
      go_enter Tryz.func176, Tryz.ntmps176
      go_wp2
      go_ret
      exact ⟨rfl, fa, fc, wv, by simpa using h, Fr.refl _ _, fun k hk => .inl hk⟩
    · cases k with
      | zero => omega
      | succ k =>
        have hne : ¬ v = ⟨#[]⟩ := fun e => h0 (by rw [e]; rfl)
        rw [layV_succ _ _ _ h0] at hl ⊢
        rw [List.length_cons] at hl
        have ih := value_any b Sf k (v.extract (min v.size 240) v.size) fa fc fr wv ws w.drew (h.fr ((Below.refl _ w).drew)) (by rw [ba_size_extract _ _ _ (Nat.le_refl _)]; omega) (by rw [ba_size_extract _ _ _ (Nat.le_refl _)]; omega) (by omega) hp (by omega)
        obtain ⟨ch, hch⟩ : ∃ ch, layV k (v.extract (min v.size 240) v.size) fr = ch := ⟨_, rfl⟩
        have hlen := layV_len k (v.extract (min v.size 240) v.size) fr
        have hmem := layV_mem (k := k) (v := v.extract (min v.size 240) v.size) (fr := fr) (by omega)
        rw [hch] at ih hl hlen hmem ⊢
        have hnx : headPl ch = 0 ∨ placeB (headPl ch : Nat) = true := by
          cases ch with
          | nil => exact .inl rfl
          | cons y l => exact .inr (hp _ (hmem y (by simp)))
        have hgetD : fr.getD ch.length 0 = fr[ch.length]'(by omega) := by rw [List.getD_eq_getElem?_getD, List.getElem?_eq_getElem (by omega)]; rfl
        obtain ⟨pl, hpl⟩ : ∃ pl, fr[ch.length]'(by omega) = pl := ⟨_, rfl⟩
        have hdrop : fr.drop ch.length = pl :: fr.drop (ch.length + 1) := by rw [List.drop_eq_getElem_cons (by omega), hpl]
        rw [hgetD, hpl]
        have hs0 : (v.extract 0 (min v.size 240)).size = min v.size 240 := by rw [ba_size_extract _ _ _ (by omega)]; omega
        have HE : Hid ((overPg (headPl ch) (v.extract 0 (min v.size 240))).encE = 0) := enc_over _ _ hnx (by rw [hs0]; omega) (by rw [hs0]; omega)
        have HSm : Hid ((overPg (headPl ch) (v.extract 0 (min v.size 240))).small) := over_small _ _ (by rw [hs0]; omega)
        have HPg : Hid (∀ (fa' : Option Addr) (fc' : Nat) (wv' : Value) (w' : World), LayAt w' b Sf fa' fc' (fr.drop ch.length) wv' (ws ++ ch.reverse.map enc1) → Calls Tryz.prog 174 #[.pointer (some ⟨b, 0, none⟩), .agg #[.int .i64 4, .int .i64 0, .int .i64 0, .int .i64 (headPl ch : Nat), .slice none 0 0, .slice none 0 0, .slice none 0 0, .string (v.extract 0 (min v.size 240))]] w' fun e w'' => e = .returned (.int .i64 pl) ∧
            ∃ fa'' wv'', LayAt w'' b Sf fa'' (fc' - 1) (fr.drop (ch.length + 1)) wv'' ((ws ++ ch.reverse.map enc1) ++ [(pl, (overPg (headPl ch) (v.extract 0 (min v.size 240))).encS)]) ∧ Fr (fpL b wv') w' w'' ∧ ∀ k, wv''.ownBlock = some k → wv'.ownBlock = some k ∨ w'.heap.size ≤ k) := by
          intro fa' fc' wv' w' hL
          rw [hdrop] at hL
          exact page_any b Sf fa' fc' pl _ wv' _ (overPg (headPl ch) (v.extract 0 (min v.size 240))) none none none 0 0 0 Bl.none w' hL (pgrow_none _ _ _ rfl rfl rfl 0 0 0) (fun _ h => h.elim) (fun h => h) HSm.out HE.out (by rw [List.length_append, List.length_map, List.length_reverse]; omega)
        obtain ⟨sn, hsn⟩ : ∃ sn, (overPg (headPl ch) (v.extract 0 (min v.size 240))).encS = sn := ⟨_, rfl⟩
        have HOUT : Hid (ws ++ ((pl, overPg (headPl ch) (v.extract 0 (min v.size 240))) :: ch).reverse.map enc1 = (ws ++ ch.reverse.map enc1) ++ [(pl, sn)]) := by
          show _ = _
          rw [List.reverse_cons, List.map_append, ← List.append_assoc, ← hsn]; rfl
        rw [hsn] at HPg
        have HHD : Hid (headPl ((pl, overPg (headPl ch) (v.extract 0 (min v.size 240))) :: ch) = pl) := rfl
        rw [HOUT.out, HHD.out, List.length_cons]
        obtain ⟨hd, hhd⟩ : ∃ hd, headPl ch = hd := ⟨_, rfl⟩
        rw [hhd] at ih HPg
        clear hch hlen hmem hnx hgetD hpl hdrop hs0 HE HSm hsn HOUT HHD hhd
        have hie : v.toList.isEmpty = false := isNil_ne.2 hne
        by_cases hle : v.size ≤ 240
        · have hmin : min v.size 240 = v.size := by omega
          rw [hmin] at ih HPg
          have he1 : v.extract v.size v.size = ByteArray.empty := by rw [size_zero (a := v.extract v.size v.size) (by rw [ba_size_extract _ _ _ (Nat.le_refl _)]; omega)]; rfl
          have he2 : v.extract 0 v.size = v := extract_all (Nat.le_refl _)
          rw [he1] at ih
          rw [he2] at HPg
          have hle' : (v.size : Int) ≤ 240 := by omega
          clear hmin
          go_enter Tryz.func176, Tryz.ntmps176
          go_wp2
          go_region_held3 (fun _ => True) (trivial)
            (first
              | (go_at_call 176; (with_reducible refine Calls.mono ih ?_); rintro e wt ⟨rfl, fa', fc', wv', hL, hF0, hli⟩; have hF : Fr (fpL b wv) w wt := (Fr.refl _ w).drew.trans hF0; have hPc := HPg.out fa' fc' wv' wt hL)
              | (go_at_call 174; (with_reducible refine Calls.mono hPc ?_); rintro e wp ⟨rfl, fa2, wv2, hL2, hF2, hli2⟩))
          all_goals go_wp2
          all_goals go_ret
          all_goals
            refine ⟨rfl, fa2, _, wv2, hL2, hF.grow hF2 (fun k hk => ?_), fun k hk => ?_⟩
            · rcases hk with hk | hk
              · exact .inl (.inl hk)
              · exact (hli k hk).imp (fun h => .inr h) id
            · rcases hli2 k hk with h1 | h1
              · exact hli k h1
              · exact .inr (Nat.le_trans hF.size h1)
        · have hmin : min v.size 240 = 240 := by omega
          rw [hmin] at ih HPg
          have hle' : ¬ (v.size : Int) ≤ 240 := by omega
          have hgt : (240 : Int) ≤ (v.size : Int) := by omega
          have hgn : 240 ≤ v.size := by omega
          clear hmin
          go_enter Tryz.func176, Tryz.ntmps176
          go_wp2
          go_region_held3 (fun _ => True) (trivial)
            (first
              | (go_at_call 176; (with_reducible refine Calls.mono ih ?_); rintro e wt ⟨rfl, fa', fc', wv', hL, hF0, hli⟩; have hF : Fr (fpL b wv) w wt := (Fr.refl _ w).drew.trans hF0; have hPc := HPg.out fa' fc' wv' wt hL)
              | (go_at_call 174; (with_reducible refine Calls.mono hPc ?_); rintro e wp ⟨rfl, fa2, wv2, hL2, hF2, hli2⟩))
          all_goals go_wp2
          all_goals go_ret
          all_goals
            refine ⟨rfl, fa2, _, wv2, hL2, hF.grow hF2 (fun k hk => ?_), fun k hk => ?_⟩
            · rcases hk with hk | hk
              · exact .inl (.inl hk)
              · exact (hli k hk).imp (fun h => .inr h) id
            · rcases hli2 k hk with h1 | h1
              · exact hli k h1
              · exact .inr (Nat.le_trans hF.size h1)
end Go.Proofs.YtngpplmndpmgiaaGreat.Tree
