/-
  Joined: RangeOwn, Kids, Chain, PTree, PMark.
-/
import Derived.Test.YtngpplmndpmgiaaGreatJ1
import Derived.Test.YtngpplmndpmgiaaGreatJ5
import Derived.RangeFuncKeeps
import Derived.Shelf.Abstract
import Derived.Shelf.RegionOpen
import Derived.OwnWalkIn
import Derived.TacticsInMore
import Derived.LoopNIn
import Derived.LoopIn
set_option linter.unusedSimpArgs false
namespace Go.Proofs.YtngpplmndpmgiaaGreat.Tree
open Go.RowKit
set_option linter.unusedVariables false
def Steady {α : Type} (J : α → Bl → World → Prop) : Prop := ∀ s Y W W', J s Y W → On Y W W' → J s Y W'
def Lies {α : Type} (J : α → Bl → World → Prop) : Prop := ∀ s Y W, J s Y W → ∀ k, Y k → k < W.heap.size
def RoundR {α : Type} (J Jx : List α → Bl → World → Prop) (s : List α) (Y : Bl) (W : World) (e : Ending) (W' : World) : Prop :=
  (e = .returned (.bool true) ∧ ∃ Y', J s Y' W' ∧ Fr Y W W' ∧ Grows W Y Y') ∨
  (e = .returned (.bool false) ∧ ∃ Y', Jx s Y' W' ∧ Fr Y W W' ∧ Grows W Y Y')
def IterR {α : Type} (J Jx : List α → Bl → World → Prop) (xs : List α) (Y : Bl) (W : World) (e : Ending) (W' : World) : Prop :=
  (∃ v, e = .returned v) ∧ ∃ Y', Fr Y W W' ∧ Grows W Y Y' ∧ (J xs Y' W' ∨ ∃ pre, pre <+: xs ∧ pre ≠ [] ∧ Jx pre Y' W')
def Iter {α : Type} (P : Program) (g : Nat) (lb : Array Value) (Has : α → Array Value → Bl → World → Prop) (xs : List α) (Rd : Bl) (w : World) : Prop :=
  ∀ (l : Nat) (J Jx : List α → Bl → World → Prop) (Y : Bl) (W : World), On Rd w W → (∀ k, Rd k → ¬ Y k ∧ k < W.heap.size) → Steady J → Lies J → Steady Jx → Lies Jx →
    (∀ pre x rest args S Y' W', xs = pre ++ x :: rest → J pre Y' W' → Has x args S W' → (∀ k, S k → ¬ Y' k ∧ k < W'.heap.size) → Fr Y W W' → Grows W Y Y' →
      YieldAt Fence.wide 0 P l args W' (RoundR J Jx (pre ++ [x]) Y' W')) →
    J [] Y W → CallsIn Fence.wide 0 P g (#[.func (.yield l) #[] #[]] ++ lb) W (IterR J Jx xs Y W)
theorem roundIn_any {P : Program} {n m : Nat} {l : Nat} {f : FuncId} {tmps : Array Value} {assign body : Code} {w : World} {R : Ending → World → Prop} (h : RoundIn Fence.wide n P l f tmps assign body w R) : RoundIn Fence.wide m P l f tmps assign body w R :=
  ⟨h.1, fun c cs _ => h.2 c cs (room_wide _)⟩
theorem callsIn_any {P : Program} {n m : Nat} {f : FuncId} {args : Array Value} {w : World} {R : Ending → World → Prop} (h : CallsIn Fence.wide n P f args w R) : CallsIn Fence.wide m P f args w R :=
  callsIn_wide.2 (callsIn_wide.1 h)
theorem yieldAt_any {P : Program} {n m : Nat} {l : Nat} {args : Array Value} {w : World} {R : Ending → World → Prop} (h : YieldAt Fence.wide n P l args w R) : YieldAt Fence.wide m P l args w R := by
  obtain ⟨fn, tmps, assign, body, hy, hR⟩ := h
  exact ⟨fn, tmps, assign, body, hy, roundIn_any hR⟩
structure Turn (l : Nat) (W W' : World) : Prop where
  os : W'.os = W.os
  tape : W'.tape = W.tape
  output : W'.output = W.output
  size : W'.heap.size = W.heap.size
  block : ∀ k, k ≠ l → W'.heap[k]? = W.heap[k]?
  rcd : ∃ r, W'.heap[l]? = some (.loop r)
theorem Turn.of_put {l : Nat} {W : World} (h : l < W.heap.size) (r : Loop) : Turn l W (W.putObj l (.loop r)) := ⟨rfl, rfl, rfl, by simp, fun k hk => World.putObj_heap_other hk, _, World.putObj_heap_same h⟩
theorem Turn.on {l : Nat} {W W' : World} (h : Turn l W W') {Y : Bl} (hl : ¬ Y l) : On Y W W' := ⟨h.os, h.tape, h.output, by rw [h.size]; omega, fun k hk => h.block k (fun e => by subst e; exact hl hk)⟩
theorem Turn.fr {l : Nat} {W W' : World} (h : Turn l W W') : Fr (Bl.one l) W W' := ⟨h.os, h.tape, h.output, by rw [h.size]; omega, fun k _ hk => h.block k hk⟩
theorem Turn.heap {l : Nat} {W W' : World} (h : Turn l W W') {k : Nat} {o : Obj} (ho : W.heap[k]? = some o) (hk : k ≠ l) : W'.heap[k]? = some o := (h.block k hk).trans ho
def LoopQ {α : Type} (I : List α → Bl → World → Prop) (Ix : Code → List α → Bl → World → Prop) (s : List α) (Y : Bl) (W : World) : Exit → Act → World → Prop
  | .normal, _, W' => ∃ Y', I s Y' W' ∧ Fr Y W W' ∧ Grows W Y Y'
  | .ret, _, W' => ∃ Y', Ix .ret s Y' W' ∧ Fr Y W W' ∧ Grows W Y Y'
  | .exit id, _, W' => ∃ Y', Ix (.exit id) s Y' W' ∧ Fr Y W W' ∧ Grows W Y Y'
  | .goto t, _, W' => ∃ Y', Ix (.goto t) s Y' W' ∧ Fr Y W W' ∧ Grows W Y Y'
  | _, _, _ => False
def RoundW {α : Type} (P : Program) (I : List α → Bl → World → Prop) (Ix : Code → List α → Bl → World → Prop) (l : Nat) (tmps : Array Value) (assign body : Code) (s : List α) (Y : Bl) (W : World) : Prop :=
  assign.wpIn (Fence.wide.inRound l) 0 P (Exit.then (fun a₁ W₁ => Fr Y W W₁ ∧ ∀ W₂, Turn l W₁ W₂ → body.wpIn (Fence.wide.inRound l) 0 P (LoopQ I Ix s Y W₂) a₁ W₂) (fun _ _ _ => False)) { tmps := tmps, defers := [] } W
theorem round_of {α : Type} {P : Program} {I : List α → Bl → World → Prop} {Ix : Code → List α → Bl → World → Prop} (hI : Steady I) (hIx : ∀ c, Steady (Ix c)) (lI : Lies I) (lIx : ∀ c, Lies (Ix c))
    {l : Nat} {fn : FuncId} {tmps : Array Value} {assign body : Code} {s : List α} {Y : Bl} {W : World} {rec : LoopState → Option Code → Loop}
    (hrec : ∀ st pe st' pe', ({ rec st pe with state := st', pending := pe' } : Loop) = rec st' pe') (hst : ∀ st pe, (rec st pe).state = st)
    (hl : W.heap[l]? = some (.loop (rec .ready none))) (hY : ¬ Y l) (hr : RoundW P I Ix l tmps assign body s Y W) :
    RoundIn Fence.wide 0 P l fn tmps assign body W (fun e W' =>
      (e = .returned (.bool true) ∧ ∃ Y', I s Y' W' ∧ Fr (Bl.or Y (Bl.one l)) W W' ∧ Grows W Y Y' ∧ W'.heap[l]? = some (.loop (rec .ready none)) ∧ ¬ Y' l) ∨
      (e = .returned (.bool false) ∧ ∃ Y' c, Ix c s Y' W' ∧ Fr (Bl.or Y (Bl.one l)) W W' ∧ Grows W Y Y' ∧ W'.heap[l]? = some (.loop (rec .done (some c))) ∧ ¬ Y' l)) := by
  refine roundIn_of_wpIn trivial (wpIn_mono hr ?_)
  have hlt : l < W.heap.size := (Array.getElem?_eq_some_iff.1 hl).1
  intro e a₁ W₁ h1
  cases e with
  | normal =>
    obtain ⟨f1, hb⟩ := h1
    have hl1 : W₁.heap[l]? = some (.loop (rec .ready none)) := f1.heap hl hY
    have hlt1 : l < W₁.heap.size := (Array.getElem?_eq_some_iff.1 hl1).1
    refine ⟨_, run_beginRound hl1 (hst _ _), ?_⟩
    obtain ⟨W₂, hW2⟩ : ∃ W₂, W₁.putObj l (.loop { rec .ready none with state := .busy }) = W₂ := ⟨_, rfl⟩
    have ht : Turn l W₁ W₂ := hW2 ▸ Turn.of_put hlt1 _
    have hl2 : W₂.heap[l]? = some (.loop { rec .ready none with state := .busy }) := hW2 ▸ World.putObj_heap_same hlt1
    have hs2 : W₁.heap.size = W₂.heap.size := ht.size.symm
    have hlt2 : l < W₂.heap.size := (Array.getElem?_eq_some_iff.1 hl2).1
    have f2 : Fr (Bl.or Y (Bl.one l)) W W₂ := (f1.mono (fun k hk => .inl (.inl hk))).trans (ht.fr.mono (fun k hk => .inl (.inr hk)))
    rw [hW2]
    refine wpIn_mono (hb W₂ ht) ?_
    have fin : ∀ (jump : Option Code) (Y' : Bl) (W₃ : World), Fr Y W₂ W₃ → Grows W₂ Y Y' →
        ∃ W₄, (Instr.endRound l jump).run P W₃ = .ok (.bool jump.isNone) W₄ ∧ Turn l W₃ W₄ ∧ W₄.heap[l]? = some (.loop (rec (if jump.isNone then .ready else .done) jump)) ∧ ¬ Y' l ∧ Fr (Bl.or Y (Bl.one l)) W W₄ ∧ Grows W Y Y' := by
      intro jump Y' W₃ f3 g3
      have hl3 : W₃.heap[l]? = some (.loop { rec .ready none with state := .busy }) := f3.heap hl2 hY
      have hlt3 : l < W₃.heap.size := (Array.getElem?_eq_some_iff.1 hl3).1
      have hrun := run_endRound (P := P) jump hl3
      have e : ({ ({ rec .ready none with state := .busy } : Loop) with state := if jump.isNone then .ready else .done, pending := jump } : Loop) = rec (if jump.isNone then .ready else .done) jump := by
        have := hrec .ready none (if jump.isNone then .ready else .done) jump
        rw [← this]
      rw [e] at hrun
      refine ⟨_, hrun, Turn.of_put hlt3 _, World.putObj_heap_same hlt3, fun hy => ?_, ?_, ?_⟩
      · rcases g3 l hy with h | h
        · exact hY h
        · omega
      · exact (f2.trans (f3.mono (fun k hk => .inl (.inl hk)))).trans ((Turn.of_put hlt3 _).fr.mono (fun k hk => .inl (.inr hk)))
      · exact fun k hk => by
          rcases g3 k hk with h | h
          · exact .inl h
          · exact .inr (Nat.le_trans f2.size h)
    intro e a₃ W₃ hq
    cases e with
    | normal =>
      obtain ⟨Y', hi, f3, g3⟩ := hq
      obtain ⟨W₄, hrun, ht4, hl4, hy4, f4, g4⟩ := fin none Y' W₃ f3 g3
      exact ⟨_, _, hrun, .inl ⟨rfl, Y', hI _ _ _ _ hi (ht4.on hy4), f4, g4, hl4, hy4⟩⟩
    | ret =>
      obtain ⟨Y', hi, f3, g3⟩ := hq
      obtain ⟨W₄, hrun, ht4, hl4, hy4, f4, g4⟩ := fin (some .ret) Y' W₃ f3 g3
      exact ⟨_, _, hrun, .inr ⟨rfl, Y', _, hIx _ _ _ _ _ hi (ht4.on hy4), f4, g4, hl4, hy4⟩⟩
    | exit id =>
      obtain ⟨Y', hi, f3, g3⟩ := hq
      obtain ⟨W₄, hrun, ht4, hl4, hy4, f4, g4⟩ := fin (some (.exit id)) Y' W₃ f3 g3
      exact ⟨_, _, hrun, .inr ⟨rfl, Y', _, hIx _ _ _ _ _ hi (ht4.on hy4), f4, g4, hl4, hy4⟩⟩
    | goto t =>
      obtain ⟨Y', hi, f3, g3⟩ := hq
      obtain ⟨W₄, hrun, ht4, hl4, hy4, f4, g4⟩ := fin (some (.goto t)) Y' W₃ f3 g3
      exact ⟨_, _, hrun, .inr ⟨rfl, Y', _, hIx _ _ _ _ _ hi (ht4.on hy4), f4, g4, hl4, hy4⟩⟩
    | panic ch => exact hq.elim
    | outgrown => exact hq.elim
  | exit id => exact h1.elim
  | goto t => exact h1.elim
  | ret => exact h1.elim
  | panic chain => exact h1.elim
  | outgrown => exact h1.elim
theorem wp_range {α : Type} {P : Program} {n : Nat} {g : Operand} {ps : Array Tmp} {assign body : Code} {Q : Exit → Act → World → Prop} {a : Act} {w : World}
    {gf : Nat} {lb : Array Value} (hg : a.eval g = .func (.func gf) #[] lb) (eg : ∀ args w, (callFunc gf args).run P w = .ok (.enter gf args) w)
    {Has : α → Array Value → Bl → World → Prop} {xs : List α} {Rd : Bl} (hseq : Iter P gf lb Has xs Rd w) (hps : ∀ x args S W, Has x args S W → args.size = ps.size)
    (I : List α → Bl → World → Prop) (Ix : Code → List α → Bl → World → Prop) (hI : Steady I) (hIx : ∀ c, Steady (Ix c)) (lI : Lies I) (lIx : ∀ c, Lies (Ix c)) (Y : Bl) (h0 : I [] Y w) (hRd : ∀ k, Rd k → ¬ Y k ∧ k < w.heap.size)
    (hround : ∀ l pre x rest args S Y' W, xs = pre ++ x :: rest → I pre Y' W → Has x args S W → (∀ k, S k → ¬ Y' k ∧ k < W.heap.size ∧ k ≠ l) → Fr Y w W → Grows w Y Y' → w.heap.size ≤ l → l < W.heap.size → ¬ Y' l → (∃ r, W.heap[l]? = some (.loop r)) →
      RoundW P I Ix l ((ps.zip args).foldl (fun t (p, v) => t.setIfInBounds p v) a.tmps) assign body (pre ++ [x]) Y' W)
    (hdone : ∀ D Y' W, w.heap.size ≤ D → ¬ Y' D → I xs Y' W → Fr Y w W → Grows w Y Y' → W.heap[D]? = some (.deferred (some [])) → Q .normal { a with defers := { target := .collected D, args := #[] } :: a.defers } W)
    (hstop : ∀ D c pre Y' W, w.heap.size ≤ D → ¬ Y' D → pre <+: xs → pre ≠ [] → Ix c pre Y' W → Fr Y w W → Grows w Y Y' → W.heap[D]? = some (.deferred (some [])) → c.wpIn Fence.wide n P Q { a with defers := { target := .collected D, args := #[] } :: a.defers } W) :
    (Code.rangeFunc g ps assign body).wpIn Fence.wide n P Q a w := by
  refine wpIn_rangeFunc ?_
  intro fn hfn
  obtain ⟨rec, hrec⟩ : ∃ rec : LoopState → Option Code → Loop, rec = fun st pe => { state := st, pending := pe, fn, tmps := a.tmps, params := ps, assign, body, defers := w.heap.size } := ⟨_, rfl⟩
  obtain ⟨W1, hW1⟩ : ∃ W1, (w.alloc (.deferred (some []))).alloc (.loop (rec .ready none)) = W1 := ⟨_, rfl⟩
  have hL1 : W1.heap[w.heap.size + 1]? = some (.loop (rec .ready none)) := by
    rw [← hW1]; have := World.alloc_heap_new (w.alloc (.deferred (some []))) (.loop (rec .ready none)); rwa [World.size_alloc] at this
  have hK1 : W1.heap[w.heap.size]? = some (.deferred (some [])) := by
    rw [← hW1]; exact (Below.heap_alloc _ _ _ (by simp)).trans (World.alloc_heap_new w _)
  have fW1 : ∀ Z, Fr Z w W1 := fun Z => hW1 ▸ ((Fr.refl Z w).alloc _).alloc _
  have sW1 : W1.heap.size = w.heap.size + 2 := by rw [← hW1]; simp
  have lY := lI [] Y w h0
  have o1 : On Y w W1 := (fW1 Bl.none).on (fun k hk => ⟨lY k hk, fun h => h⟩)
  have hps' : ∀ x args S W, Has x args S W → args.size = (rec .ready none).params.size := by rw [hrec]; exact hps
  refine ⟨w.heap.size + 1, [{ target := .collected w.heap.size, args := #[] }], W1, { target := .fn (.func gf) lb, args := #[.func (.yield (w.heap.size + 1)) #[] #[]] }, W1, gf,
    #[.func (.yield (w.heap.size + 1)) #[] #[]] ++ lb, W1, ?_, ?_, ?_, ?_, fun h => by simp [Fence.wide] at h, ?_⟩
  · rw [← hW1, hrec]; exact run_enterLoop_outer _ _ _ _ _
  · simp only [resolve, hg]
    simp [go_sem]
  · intro f' hf'; trivial
  · simp [invoke, go_sem, eg]
  · -- the caller's blocks, with the record and the block for deferred calls
    let L := w.heap.size + 1
    let D := w.heap.size
    let Z₀ : Bl := Bl.or Y (Bl.or (Bl.one L) (Bl.one D))
    let J : List α → Bl → World → Prop := fun pre Z W => ∃ Y', I pre Y' W ∧ (∀ k, Z k ↔ Y' k ∨ k = L ∨ k = D) ∧ ¬ Y' L ∧ ¬ Y' D ∧ W.heap[L]? = some (.loop (rec .ready none)) ∧ W.heap[D]? = some (.deferred (some []))
    let Jx : List α → Bl → World → Prop := fun pre Z W => ∃ Y' c, Ix c pre Y' W ∧ (∀ k, Z k ↔ Y' k ∨ k = L ∨ k = D) ∧ ¬ Y' L ∧ ¬ Y' D ∧ W.heap[L]? = some (.loop (rec .done (some c))) ∧ W.heap[D]? = some (.deferred (some []))
    have hnY : ¬ Y L ∧ ¬ Y D := ⟨fun h => by have := lY _ h; omega, fun h => by have := lY _ h; omega⟩
    have toFr : ∀ W, Fr Z₀ W1 W → Fr Y w W := fun W hf => (fW1 Y).grow hf (fun k hk => by
      rcases hk with h | h | h
      · exact .inl h
      · exact .inr (by simp only [Bl.one] at h; omega)
      · exact .inr (by simp only [Bl.one] at h; omega))
    have toGr : ∀ Z Y', (∀ k, Z k ↔ Y' k ∨ k = L ∨ k = D) → Grows W1 Z₀ Z → Grows w Y Y' := fun Z Y' hZ hg k hk => by
      rcases hg k ((hZ k).2 (.inl hk)) with (h | h | h) | h
      · exact .inl h
      · exact .inr (by simp only [Bl.one] at h; omega)
      · exact .inr (by simp only [Bl.one] at h; omega)
      · exact .inr (by omega)
    have hrec' : ∀ st pe st' pe', ({ rec st pe with state := st', pending := pe' } : Loop) = rec st' pe' := by rw [hrec]; intros; rfl
    refine callsIn_any (CallsIn.mono (hseq L J Jx Z₀ W1 ((fW1 Bl.none).on (fun k hk => ⟨(hRd k hk).2, fun h => h⟩)) (fun k hk => ⟨?_, ?_⟩) ?_ ?_ ?_ ?_ ?_ ?_) ?_)
    · rintro (h | h | h)
      · exact (hRd k hk).1 h
      · have := (hRd k hk).2; simp only [Bl.one] at h; omega
      · have := (hRd k hk).2; simp only [Bl.one] at h; omega
    · have := (hRd k hk).2; omega
    · rintro s Z W W' ⟨Y', hi, hZ, h1, h2, h3, h4⟩ ho
      exact ⟨Y', hI _ _ _ _ hi (ho.mono (fun k hk => (hZ k).2 (.inl hk))), hZ, h1, h2, ho.heap h3 ((hZ _).2 (.inr (.inl rfl))), ho.heap h4 ((hZ _).2 (.inr (.inr rfl)))⟩
    · rintro s Z W ⟨Y', hi, hZ, h1, h2, h3, h4⟩ k hk
      rcases (hZ k).1 hk with h | rfl | rfl
      · exact lI _ _ _ hi k h
      · exact (Array.getElem?_eq_some_iff.1 h3).1
      · exact (Array.getElem?_eq_some_iff.1 h4).1
    · rintro s Z W W' ⟨Y', c, hi, hZ, h1, h2, h3, h4⟩ ho
      exact ⟨Y', c, hIx _ _ _ _ _ hi (ho.mono (fun k hk => (hZ k).2 (.inl hk))), hZ, h1, h2, ho.heap h3 ((hZ _).2 (.inr (.inl rfl))), ho.heap h4 ((hZ _).2 (.inr (.inr rfl)))⟩
    · rintro s Z W ⟨Y', c, hi, hZ, h1, h2, h3, h4⟩ k hk
      rcases (hZ k).1 hk with h | rfl | rfl
      · exact lIx _ _ _ _ hi k h
      · exact (Array.getElem?_eq_some_iff.1 h3).1
      · exact (Array.getElem?_eq_some_iff.1 h4).1
    · -- one round
      rintro pre x rest args S Z W hx ⟨Y', hi, hZ, h1, h2, h3, h4⟩ hH hS hF hG
      have hlt : L < W.heap.size := (Array.getElem?_eq_some_iff.1 h3).1
      have hy := run_yield (P := P) (args := args) h3 (hps' _ _ _ _ hH)
      rw [hrec] at hy
      refine ⟨fn, _, assign, body, hy, (round_of hI hIx lI lIx hrec' (fun _ _ => by rw [hrec]) h3 h1 (hround L pre x rest args S Y' W hx hi hH (fun k hk => ⟨fun h => (hS k hk).1 ((hZ k).2 (.inl h)), (hS k hk).2, fun e => (hS k hk).1 ((hZ k).2 (.inr (.inl e)))⟩) (toFr _ hF) (toGr _ _ hZ hG) (by omega) hlt h1 ⟨_, h3⟩)).mono ?_⟩
      have zin : ∀ k, Bl.or Y' (Bl.one L) k → Z k := fun k hk => by
        rcases hk with h | h
        · exact (hZ k).2 (.inl h)
        · exact (hZ k).2 (.inr (.inl h))
      have dW : ∀ W', Fr (Bl.or Y' (Bl.one L)) W W' → W'.heap[D]? = some (.deferred (some [])) := fun W' hf => hf.heap h4 (fun h => by
        rcases h with h | h
        · exact h2 h
        · simp only [Bl.one] at h; omega)
      have nD : ∀ Y'', Grows W Y' Y'' → ¬ Y'' D := fun Y'' hg h => by
        rcases hg D h with h' | h'
        · exact h2 h'
        · omega
      have gZ : ∀ Y'', Grows W Y' Y'' → Grows W Z (fun k => Y'' k ∨ k = L ∨ k = D) := fun Y'' hg k hk => by
        rcases hk with h | h | h
        · rcases hg k h with h' | h'
          · exact .inl ((hZ k).2 (.inl h'))
          · exact .inr h'
        · exact .inl ((hZ k).2 (.inr (.inl h)))
        · exact .inl ((hZ k).2 (.inr (.inr h)))
      rintro e W' (⟨rfl, Y'', hi', hf, hg, hl, hyl⟩ | ⟨rfl, Y'', c, hi', hf, hg, hl, hyl⟩)
      · exact .inl ⟨rfl, (fun k => Y'' k ∨ k = L ∨ k = D), ⟨Y'', hi', fun k => Iff.rfl, hyl, nD _ hg, hl, dW _ hf⟩, hf.mono (fun k hk => .inl (zin k hk)), gZ _ hg⟩
      · exact .inr ⟨rfl, (fun k => Y'' k ∨ k = L ∨ k = D), ⟨Y'', c, hi', fun k => Iff.rfl, hyl, nD _ hg, hl, dW _ hf⟩, hf.mono (fun k hk => .inl (zin k hk)), gZ _ hg⟩
    · exact ⟨Y, hI _ _ _ _ h0 o1, fun k => Iff.rfl, hnY.1, hnY.2, hL1, hK1⟩
    · -- behind the iterator
      rintro e W ⟨⟨v, rfl⟩, Z, hF, hG, (⟨Y', hi, hZ, h1, h2, h3, h4⟩ | ⟨pre, hpre, hne, Y', c, hi, hZ, h1, h2, h3, h4⟩)⟩
      · have hend := run_endLoop (P := P) h3 (by rw [hrec]; simp)
        refine ⟨none, W.putObj L (.loop (rec .exhausted none)), by rw [hrec] at hend ⊢; exact hend, ?_⟩
        have ht := Turn.of_put (Array.getElem?_eq_some_iff.1 h3).1 (rec .exhausted none)
        exact hdone D Y' _ (Nat.le_refl _) h2 (hI _ _ _ _ hi (ht.on h1)) ((toFr _ hF).putObj (.inr (by omega)) _) (toGr _ _ hZ hG) (ht.heap h4 (by omega))
      · have hend := run_endLoop (P := P) h3 (by rw [hrec]; simp)
        refine ⟨some c, W.putObj L (.loop (rec .exhausted (some c))), by rw [hrec] at hend ⊢; exact hend, ?_⟩
        have ht := Turn.of_put (Array.getElem?_eq_some_iff.1 h3).1 (rec .exhausted (some c))
        exact hstop D c pre Y' _ (Nat.le_refl _) h2 hpre hne (hIx _ _ _ _ _ hi (ht.on h1)) ((toFr _ hF).putObj (.inr (by omega)) _) (toGr _ _ hZ hG) (ht.heap h4 (by omega))
theorem wp_range_in {α : Type} {P : Program} {n : Nat} {g : Operand} {ps : Array Tmp} {assign body : Code} {Q : Exit → Act → World → Prop} {a : Act} {w : World}
    {l₀ : Nat} {r₀ : Loop} (hl₀ : w.heap[l₀]? = some (.loop r₀)) {gf : Nat} {lb : Array Value} (hg : a.eval g = .func (.func gf) #[] lb) (eg : ∀ args w, (callFunc gf args).run P w = .ok (.enter gf args) w)
    {Has : α → Array Value → Bl → World → Prop} {xs : List α} {Rd : Bl} (hseq : Iter P gf lb Has xs Rd w) (hps : ∀ x args S W, Has x args S W → args.size = ps.size)
    (I : List α → Bl → World → Prop) (Ix : Code → List α → Bl → World → Prop) (hI : Steady I) (hIx : ∀ c, Steady (Ix c)) (lI : Lies I) (lIx : ∀ c, Lies (Ix c)) (Y : Bl) (h0 : I [] Y w) (hRd : ∀ k, Rd k → ¬ Y k ∧ k < w.heap.size)
    (hround : ∀ l pre x rest args S Y' W, xs = pre ++ x :: rest → I pre Y' W → Has x args S W → (∀ k, S k → ¬ Y' k ∧ k < W.heap.size ∧ k ≠ l) → Fr Y w W → Grows w Y Y' → w.heap.size ≤ l → l < W.heap.size → ¬ Y' l → (∃ r, W.heap[l]? = some (.loop r)) →
      RoundW P I Ix l ((ps.zip args).foldl (fun t (p, v) => t.setIfInBounds p v) a.tmps) assign body (pre ++ [x]) Y' W)
    (hdone : ∀ Y' W, I xs Y' W → Fr Y w W → Grows w Y Y' → Q .normal a W)
    (hstop : ∀ c pre Y' W, pre <+: xs → pre ≠ [] → Ix c pre Y' W → Fr Y w W → Grows w Y Y' → c.wpIn (Fence.wide.inRound l₀) n P Q a W) :
    (Code.rangeFunc g ps assign body).wpIn (Fence.wide.inRound l₀) n P Q a w := by
  refine wpIn_rangeFunc ?_
  intro fn hfn
  obtain ⟨rec, hrec⟩ : ∃ rec : LoopState → Option Code → Loop, rec = fun st pe => { state := st, pending := pe, fn, tmps := a.tmps, params := ps, assign, body, defers := r₀.defers } := ⟨_, rfl⟩
  obtain ⟨W1, hW1⟩ : ∃ W1, w.alloc (.loop (rec .ready none)) = W1 := ⟨_, rfl⟩
  have hL1 : W1.heap[w.heap.size]? = some (.loop (rec .ready none)) := by rw [← hW1]; exact World.alloc_heap_new w _
  have fW1 : ∀ Z, Fr Z w W1 := fun Z => hW1 ▸ (Fr.refl Z w).alloc _
  have sW1 : W1.heap.size = w.heap.size + 1 := by rw [← hW1]; simp
  have lY := lI [] Y w h0
  have o1 : On Y w W1 := (fW1 Bl.none).on (fun k hk => ⟨lY k hk, fun h => h⟩)
  have hps' : ∀ x args S W, Has x args S W → args.size = (rec .ready none).params.size := by rw [hrec]; exact hps
  refine ⟨w.heap.size, [], W1, { target := .fn (.func gf) lb, args := #[.func (.yield w.heap.size) #[] #[]] }, W1, gf,
    #[.func (.yield w.heap.size) #[] #[]] ++ lb, W1, ?_, ?_, ?_, ?_, fun h => by simp [Fence.wide, Fence.inRound] at h, ?_⟩
  · rw [← hW1, hrec]; exact run_enterLoop_inner hl₀ _ _ _ _ _
  · simp only [resolve, hg]
    simp [go_sem]
  · intro f' hf'; trivial
  · simp [invoke, go_sem, eg]
  · -- the caller's blocks, with the record and the block for deferred calls
    let L := w.heap.size
    let Z₀ : Bl := Bl.or Y (Bl.one L)
    let J : List α → Bl → World → Prop := fun pre Z W => ∃ Y', I pre Y' W ∧ (∀ k, Z k ↔ Y' k ∨ k = L) ∧ ¬ Y' L ∧ W.heap[L]? = some (.loop (rec .ready none))
    let Jx : List α → Bl → World → Prop := fun pre Z W => ∃ Y' c, Ix c pre Y' W ∧ (∀ k, Z k ↔ Y' k ∨ k = L) ∧ ¬ Y' L ∧ W.heap[L]? = some (.loop (rec .done (some c)))
    have hnY : ¬ Y L := fun h => by have := lY _ h; omega
    have toFr : ∀ W, Fr Z₀ W1 W → Fr Y w W := fun W hf => (fW1 Y).grow hf (fun k hk => by
      rcases hk with h | h
      · exact .inl h
      · exact .inr (by simp only [Bl.one] at h; omega))
    have toGr : ∀ Z Y', (∀ k, Z k ↔ Y' k ∨ k = L) → Grows W1 Z₀ Z → Grows w Y Y' := fun Z Y' hZ hg k hk => by
      rcases hg k ((hZ k).2 (.inl hk)) with (h | h) | h
      · exact .inl h
      · exact .inr (by simp only [Bl.one] at h; omega)
      · exact .inr (by omega)
    have hrec' : ∀ st pe st' pe', ({ rec st pe with state := st', pending := pe' } : Loop) = rec st' pe' := by rw [hrec]; intros; rfl
    refine CallsIn.inRound l₀ (callsIn_any (CallsIn.mono (hseq L J Jx Z₀ W1 ((fW1 Bl.none).on (fun k hk => ⟨(hRd k hk).2, fun h => h⟩)) (fun k hk => ⟨?_, ?_⟩) ?_ ?_ ?_ ?_ ?_ ?_) ?_))
    · rintro (h | h)
      · exact (hRd k hk).1 h
      · have := (hRd k hk).2; simp only [Bl.one] at h; omega
    · have := (hRd k hk).2; omega
    · rintro s Z W W' ⟨Y', hi, hZ, h1, h3⟩ ho
      exact ⟨Y', hI _ _ _ _ hi (ho.mono (fun k hk => (hZ k).2 (.inl hk))), hZ, h1, ho.heap h3 ((hZ _).2 (.inr rfl))⟩
    · rintro s Z W ⟨Y', hi, hZ, h1, h3⟩ k hk
      rcases (hZ k).1 hk with h | rfl
      · exact lI _ _ _ hi k h
      · exact (Array.getElem?_eq_some_iff.1 h3).1
    · rintro s Z W W' ⟨Y', c, hi, hZ, h1, h3⟩ ho
      exact ⟨Y', c, hIx _ _ _ _ _ hi (ho.mono (fun k hk => (hZ k).2 (.inl hk))), hZ, h1, ho.heap h3 ((hZ _).2 (.inr rfl))⟩
    · rintro s Z W ⟨Y', c, hi, hZ, h1, h3⟩ k hk
      rcases (hZ k).1 hk with h | rfl
      · exact lIx _ _ _ _ hi k h
      · exact (Array.getElem?_eq_some_iff.1 h3).1
    · -- one round
      rintro pre x rest args S Z W hx ⟨Y', hi, hZ, h1, h3⟩ hH hS hF hG
      have hlt : L < W.heap.size := (Array.getElem?_eq_some_iff.1 h3).1
      have hy := run_yield (P := P) (args := args) h3 (hps' _ _ _ _ hH)
      rw [hrec] at hy
      refine ⟨fn, _, assign, body, hy, (round_of hI hIx lI lIx hrec' (fun _ _ => by rw [hrec]) h3 h1 (hround L pre x rest args S Y' W hx hi hH (fun k hk => ⟨fun h => (hS k hk).1 ((hZ k).2 (.inl h)), (hS k hk).2, fun e => (hS k hk).1 ((hZ k).2 (.inr e))⟩) (toFr _ hF) (toGr _ _ hZ hG) (by omega) hlt h1 ⟨_, h3⟩)).mono ?_⟩
      have zin : ∀ k, Bl.or Y' (Bl.one L) k → Z k := fun k hk => by
        rcases hk with h | h
        · exact (hZ k).2 (.inl h)
        · exact (hZ k).2 (.inr h)
      have gZ : ∀ Y'', Grows W Y' Y'' → Grows W Z (fun k => Y'' k ∨ k = L) := fun Y'' hg k hk => by
        rcases hk with h | h
        · rcases hg k h with h' | h'
          · exact .inl ((hZ k).2 (.inl h'))
          · exact .inr h'
        · exact .inl ((hZ k).2 (.inr h))
      rintro e W' (⟨rfl, Y'', hi', hf, hg, hl, hyl⟩ | ⟨rfl, Y'', c, hi', hf, hg, hl, hyl⟩)
      · exact .inl ⟨rfl, (fun k => Y'' k ∨ k = L), ⟨Y'', hi', fun k => Iff.rfl, hyl, hl⟩, hf.mono (fun k hk => .inl (zin k hk)), gZ _ hg⟩
      · exact .inr ⟨rfl, (fun k => Y'' k ∨ k = L), ⟨Y'', c, hi', fun k => Iff.rfl, hyl, hl⟩, hf.mono (fun k hk => .inl (zin k hk)), gZ _ hg⟩
    · exact ⟨Y, hI _ _ _ _ h0 o1, fun k => Iff.rfl, hnY, hL1⟩
    · -- behind the iterator
      rintro e W ⟨⟨v, rfl⟩, Z, hF, hG, (⟨Y', hi, hZ, h1, h3⟩ | ⟨pre, hpre, hne, Y', c, hi, hZ, h1, h3⟩)⟩
      · have hend := run_endLoop (P := P) h3 (by rw [hrec]; simp)
        refine ⟨none, W.putObj L (.loop (rec .exhausted none)), by rw [hrec] at hend ⊢; exact hend, ?_⟩
        have ht := Turn.of_put (Array.getElem?_eq_some_iff.1 h3).1 (rec .exhausted none)
        exact hdone Y' _ (hI _ _ _ _ hi (ht.on h1)) ((toFr _ hF).putObj (.inr (by omega)) _) (toGr _ _ hZ hG)
      · have hend := run_endLoop (P := P) h3 (by rw [hrec]; simp)
        refine ⟨some c, W.putObj L (.loop (rec .exhausted (some c))), by rw [hrec] at hend ⊢; exact hend, ?_⟩
        have ht := Turn.of_put (Array.getElem?_eq_some_iff.1 h3).1 (rec .exhausted (some c))
        exact hstop c pre Y' _ hpre hne (hIx _ _ _ _ _ hi (ht.on h1)) ((toFr _ hF).putObj (.inr (by omega)) _) (toGr _ _ hZ hG)
end Go.Proofs.YtngpplmndpmgiaaGreat.Tree
namespace Go.Proofs.YtngpplmndpmgiaaGreat.Tree
open Go.RowKit Go.Shelf Go.Proofs.YtngpplmndpmgiaaGreat.Pages
set_option linter.unusedSimpArgs false
set_option linter.unusedVariables false
attribute [local go_sem] Oper.semAt_some
def HasKid (x : Int × Sp) (args : Array Value) (S : Bl) (w : World) : Prop := args = #[.int .i64 x.1, spV x.2]
set_option maxRecDepth 100000 in
set_option maxHeartbeats 2000000 in
theorem kids_iter (bw bp : Nat) (s : Sp) (kind ver root next : Int) (ka ia ea : Option Addr) (kc ic en ec : Nat) (data : ByteArray) (keys : List ByteArray) (kids : List Int) (Rd : Bl) (w : World)
    (hw : w.heap[bw]? = some (.cells #[.string s.lo, .string s.hi] 128)) (hp : w.heap[bp]? = some (.cells #[.int .i64 kind, .int .i64 ver, .int .i64 root, .int .i64 next, .slice ka keys.length kc, .slice ia kids.length ic, .slice ea en ec, .string data] 72))
    (hK : RowOn w Rd ka (keys.map .string)) (hI : RowOn w Rd ia (kids.map (.int .i64))) (rw_ : Rd bw) (rp : Rd bp) (hkn : keys.length ≤ 1000) (hin : kids.length ≤ 1000) (hkc : keys.length ≤ kc) (hic : kids.length ≤ ic) :
    Iter Tryz.prog 131 #[.pointer (some ⟨bw, 0, none⟩), .pointer (some ⟨bp, 0, none⟩)] HasKid (parts s keys kids) Rd w := by
  intro l J Jx Y W hon hRd sJ lJ sJx lJx hY h0
  refine callsIn_of_wp Tryz.func131 rfl trivial ?_ rfl
  simp only [Tryz.ntmps131, List.size_toArray, List.length_cons, List.length_nil, Nat.reduceAdd, Nat.reduceSub, Array.replicate_succ, Array.replicate_zero, List.push_toArray, List.append_toArray, List.nil_append, List.cons_append]
  have hw1 := hon.heap hw rw_
  have hp1 := hon.heap hp rp
  obtain ⟨a0, a1⟩ := box2 hw1
  obtain ⟨e0, e1, e2, e3, e4, e5, e6, e7⟩ := box8 hp1
  have lw := (hRd bw rw_).2
  have lp := (hRd bp rp).2
  have hF0 : ∀ Z v, Fr Z W (W.alloc (.cells v 128)) := fun Z v => (Fr.refl Z W).alloc _
  have hb0 := heap_new W (.cells #[.string s.lo, .string s.hi] 128)
  have lY := lJ [] Y W h0
  have HA : Hid (∀ j (hj : j < kids.length), (parts s keys kids)[j]? = some (kids[j], ⟨loAt s keys j, hiAt s keys j⟩)) := fun j hj => parts_at s keys kids j hj
  have HL : Hid ((parts s keys kids).length = kids.length) := parts_length s keys kids
  gi_wp2
  gi_loopw [11] (fun i wr => ∃ (j : Nat) (Yr : Bl) (hi : ByteArray), j ≤ kids.length ∧ i = .int .i64 j ∧ J ((parts s keys kids).take j) Yr wr ∧ Fr Y W wr ∧ Grows W Y Yr ∧ ¬ Yr W.heap.size ∧
      wr.heap[W.heap.size]? = some (.cells #[.string (loAt s keys j), .string hi] 128)) (fun i _ => kids.length - (intOf i).toNat)
  case atStart =>
    exact ⟨0, Y, s.hi, Nat.zero_le _, rfl, by simpa using sJ _ _ _ _ h0 ((On.refl Y W).alloc lY _), hF0 _ _, Grows.refl _ _, fun h => Nat.lt_irrefl _ (lY _ h), hb0⟩
  case round =>
    obtain ⟨j, Yr, hi, hj, rfl, hJ, hF, hG, hn, hbox⟩ := hrel
    have oR : On Rd W wr := hF.on (fun k hk => ⟨(hRd k hk).2, (hRd k hk).1⟩)
    obtain ⟨b0, b1⟩ := box2 (oR.heap hw1 rw_)
    obtain ⟨f0, f1, f2, f3, f4, f5, f6, f7⟩ := box8 (oR.heap hp1 rp)
    obtain ⟨d0, d1⟩ := box2 hbox
    have dfr := free_of hbox
    have lwr := hF.size
    clear a0 a1 e0 e1 e2 e3 e4 e5 e6 e7 hb0 hF0
    by_cases hlt : j < kids.length
    · obtain ⟨ib, io, hia, hib, hic2⟩ := ((hI.on hon).on oR).at hlt
      subst hia
      have nbw : W.heap.size ≠ bw := by omega
      have nbp : W.heap.size ≠ bp := by omega
      have nib : W.heap.size ≠ ib := by have := (hRd ib hib).2; omega
      by_cases hk : j < keys.length
      · obtain ⟨kb, ko, hka, hkb, hkc2⟩ := ((hK.on hon).on oR).at hk
        subst hka
        have nkb : W.heap.size ≠ kb := by have := (hRd kb hkb).2; omega
        obtain ⟨w1, hw1d⟩ : ∃ w1, (wr.setCell ⟨W.heap.size, 1, none⟩ (.string s.hi)).setCell ⟨W.heap.size, 1, none⟩ (.string keys[j]) = w1 := ⟨_, rfl⟩
        have hhi : hiAt s keys j = keys[j] := by simp [hiAt, hk]
        have x1 : w1.heap[W.heap.size]? = some (.cells #[.string (loAt s keys j), .string (keys[j])] 128) := by
          rw [← hw1d]; have := set_of (set_of hbox 1 (.string s.hi)) 1 (.string keys[j]); simpa using this
        have f1r : Fr (Bl.one W.heap.size) wr w1 := by rw [← hw1d]; exact ((Fr.refl (Bl.one W.heap.size) wr).setCell (p := ⟨W.heap.size, 1, none⟩) (.inl rfl) _).setCell (p := ⟨W.heap.size, 1, none⟩) (.inl rfl) _
        have f1 : Fr Y W w1 := hF.grow f1r (fun k hk => .inr (by simp only [Bl.one] at hk; omega))
        have o1 : On Yr wr w1 := f1r.on (fun k hk => ⟨lJ _ _ _ hJ k hk, fun h => by simp only [Bl.one] at h; subst h; exact hn hk⟩)
        have pA := HA.out j hlt
        obtain ⟨fn, tmps, assign, body, hy, hR⟩ := hY _ _ _ #[.int .i64 kids[j], .agg #[.string (loAt s keys j), .string (keys[j])]] Bl.none Yr w1 (split_at pA) (sJ _ _ _ _ hJ o1) (by simp [HasKid, spV, hhi]) (fun _ h => h.elim) f1 hG
        obtain ⟨m0, m1⟩ := box2 x1
        obtain ⟨p0, p1, p2, p3, p4, p5, p6, p7⟩ := box8 (f1r.heap (oR.heap hp1 rp) (fun h => nbp h.symm))
        gi_wp2
        clear hy
        refine ⟨rfl, (roundIn_any hR).mono ?_⟩
        have tk := take_more1 pA
        have HT : Hid ((parts s keys kids).take (j + 1) = (parts s keys kids).take j ++ [(kids[j], ⟨loAt s keys j, hiAt s keys j⟩)]) := tk
        have HHI : Hid (hiAt s keys j = keys[j]) := hhi
        clear tk hhi pA
        rintro e W3 (⟨rfl, Y3, hJ3, hF3, hG3⟩ | ⟨rfl, Y3, hJ3, hF3, hG3⟩)
        · have x3 := hF3.heap x1 hn
          obtain ⟨g0, g1⟩ := box2 x3
          have gfr := free_of x3
          have n3 : ¬ Y3 W.heap.size := fun h => by
            rcases hG3 _ h with h' | h'
            · exact hn h'
            · have := (Array.getElem?_eq_some_iff.1 x1).1; omega
          have F3 : Fr Y W W3 := f1.grow hF3 hG
          have G3 : Grows W Y Y3 := hG.trans f1.size hG3
          have y3 := set_of x3 0 (.string (keys[j]))
          clear d0 d1 dfr b0 b1 f0 f1r f2 f3 f4 f5 f6 f7 hbox hJ hI hK
          gi_wp2
          go_roundw
          case rel =>
            refine ⟨j + 1, Y3, keys[j], by omega, by go_num, ?_, F3.setCell (.inr (Nat.le_refl _)) _, G3, n3, ?_⟩
            · rw [HT.out]
              exact sJ _ _ _ _ hJ3 ((On.refl _ _).setCell n3 _)
            · rw [loAt_succ, HHI.out]
              simpa using y3
          case measure => simp [intOf]; omega
        · clear d0 d1 dfr b0 b1 f0 f1r f2 f3 f4 f5 f6 f7 hbox hJ hI hK
          gi_wp2
          refine bodyPost_ret (results_none rfl _ _ _) rfl ?_
          refine ⟨⟨_, rfl⟩, Y3, f1.grow hF3 hG, hG.trans f1.size hG3, .inr ⟨_, ?_, ?_, hJ3⟩⟩
          · rw [← HT.out]; exact List.take_prefix _ _
          · simp
      · skip
        obtain ⟨w1, hw1d⟩ : ∃ w1, wr.setCell ⟨W.heap.size, 1, none⟩ (.string s.hi) = w1 := ⟨_, rfl⟩
        have hhi : hiAt s keys j = s.hi := by simp [hiAt, hk]
        have x1 : w1.heap[W.heap.size]? = some (.cells #[.string (loAt s keys j), .string (s.hi)] 128) := by
          rw [← hw1d]; have := set_of hbox 1 (.string s.hi); simpa using this
        have f1r : Fr (Bl.one W.heap.size) wr w1 := by rw [← hw1d]; exact (Fr.refl (Bl.one W.heap.size) wr).setCell (p := ⟨W.heap.size, 1, none⟩) (.inl rfl) _
        have f1 : Fr Y W w1 := hF.grow f1r (fun k hk => .inr (by simp only [Bl.one] at hk; omega))
        have o1 : On Yr wr w1 := f1r.on (fun k hk => ⟨lJ _ _ _ hJ k hk, fun h => by simp only [Bl.one] at h; subst h; exact hn hk⟩)
        have pA := HA.out j hlt
        obtain ⟨fn, tmps, assign, body, hy, hR⟩ := hY _ _ _ #[.int .i64 kids[j], .agg #[.string (loAt s keys j), .string (s.hi)]] Bl.none Yr w1 (split_at pA) (sJ _ _ _ _ hJ o1) (by simp [HasKid, spV, hhi]) (fun _ h => h.elim) f1 hG
        obtain ⟨m0, m1⟩ := box2 x1
        obtain ⟨p0, p1, p2, p3, p4, p5, p6, p7⟩ := box8 (f1r.heap (oR.heap hp1 rp) (fun h => nbp h.symm))
        gi_wp2
        clear hy
        refine ⟨rfl, (roundIn_any hR).mono ?_⟩
        have tk := take_more1 pA
        have HT : Hid ((parts s keys kids).take (j + 1) = (parts s keys kids).take j ++ [(kids[j], ⟨loAt s keys j, hiAt s keys j⟩)]) := tk
        have HHI : Hid (hiAt s keys j = s.hi) := hhi
        clear tk hhi pA
        rintro e W3 (⟨rfl, Y3, hJ3, hF3, hG3⟩ | ⟨rfl, Y3, hJ3, hF3, hG3⟩)
        · have x3 := hF3.heap x1 hn
          obtain ⟨g0, g1⟩ := box2 x3
          have gfr := free_of x3
          have n3 : ¬ Y3 W.heap.size := fun h => by
            rcases hG3 _ h with h' | h'
            · exact hn h'
            · have := (Array.getElem?_eq_some_iff.1 x1).1; omega
          have F3 : Fr Y W W3 := f1.grow hF3 hG
          have G3 : Grows W Y Y3 := hG.trans f1.size hG3
          have y3 := set_of x3 0 (.string (s.hi))
          clear d0 d1 dfr b0 b1 f0 f1r f2 f3 f4 f5 f6 f7 hbox hJ hI hK
          gi_wp2
          go_roundw
          case rel =>
            refine ⟨j + 1, Y3, s.hi, by omega, by go_num, ?_, F3.setCell (.inr (Nat.le_refl _)) _, G3, n3, ?_⟩
            · rw [HT.out]
              exact sJ _ _ _ _ hJ3 ((On.refl _ _).setCell n3 _)
            · rw [loAt_succ, HHI.out]
              simpa using y3
          case measure => simp [intOf]; omega
        · clear d0 d1 dfr b0 b1 f0 f1r f2 f3 f4 f5 f6 f7 hbox hJ hI hK
          gi_wp2
          refine bodyPost_ret (results_none rfl _ _ _) rfl ?_
          refine ⟨⟨_, rfl⟩, Y3, f1.grow hF3 hG, hG.trans f1.size hG3, .inr ⟨_, ?_, ?_, hJ3⟩⟩
          · rw [← HT.out]; exact List.take_prefix _ _
          · simp
    · obtain rfl : j = kids.length := by omega
      have HJ : Hid (J (parts s keys kids) Yr wr) := by
        have e : (parts s keys kids).take kids.length = parts s keys kids := by rw [← HL.out]; exact List.take_length
        rw [e] at hJ; exact hJ
      clear hJ
      gi_wp2
      go_end0
      exact ⟨⟨_, rfl⟩, Yr, hF, hG, .inl HJ.out⟩
end Go.Proofs.YtngpplmndpmgiaaGreat.Tree
namespace Go.Proofs.YtngpplmndpmgiaaGreat.Tree
open Go.RowKit Go.Shelf Go.Proofs.YtngpplmndpmgiaaGreat.Pages
set_option linter.unusedSimpArgs false
set_option linter.unusedVariables false
attribute [local go_sem] Oper.semAt_some
def ChainAt (fs : Fs) : Nat → Nat → List (Nat × Pg) → Prop
  | _, rest, [] => rest = 0
  | place, rest, x :: l => x.1 = place ∧ 0 < rest ∧ fs.has place x.2 ∧ x.2.kind = 4 ∧ x.2.data.size = min rest 240 ∧ ∃ nx : Nat, x.2.next = nx ∧ (nx = 0 ↔ rest - x.2.data.size = 0) ∧ ChainAt fs nx (rest - x.2.data.size) l
def HasPg (x : Nat × Pg) (args : Array Value) (S : Bl) (w : World) : Prop := ∃ v, args = #[.int .i64 x.1, v] ∧ PgOn w S x.2 v
theorem box3 {w : World} {β : Nat} {a b c : Value} {t : TypeId} (h : w.heap[β]? = some (.cells #[a, b, c] t)) : w.cell? ⟨β, 0, none⟩ = some a ∧ w.cell? ⟨β, 1, none⟩ = some b ∧ w.cell? ⟨β, 2, none⟩ = some c := by
  simp [World.cell?, h]
set_option maxRecDepth 100000 in
set_option maxHeartbeats 2000000 in
theorem chain_iter (be bt β : Nat) (sv lv : Value) (fs : Fs) (root : Int) (ca : Option Addr) (cn cc : Nat) (k v : ByteArray) (size over : Nat) (xs : List (Nat × Pg)) (Rd : Bl) (w : World)
    (he : w.heap[be]? = some (.cells #[.string k, .string v, .int .i64 size, .int .i64 over] 102)) (ht : w.heap[bt]? = some (.cells #[.pointer (some ⟨β, 0, none⟩), .int .i64 root, .slice ca cn cc] 82))
    (hf : FileAt w β sv lv fs) (hl : (fs.life == 0) = false) (re : Rd be) (rt : Rd bt) (rf : ∀ k, fpF β sv lv k → Rd k) (hsz : size ≤ 1000000) (ho : (over = 0 ∧ xs = []) ∨ (0 < over ∧ ChainAt fs over size xs)) :
    Iter Tryz.prog 118 #[.pointer (some ⟨be, 0, none⟩), .pointer (some ⟨bt, 0, none⟩)] HasPg xs Rd w := by
  intro l J Jx Y W hon hRd sJ lJ sJx lJx hY h0
  refine callsIn_of_wp Tryz.func118 rfl trivial ?_ rfl
  simp only [Tryz.ntmps118, List.size_toArray, List.length_cons, List.length_nil, Nat.reduceAdd, Nat.reduceSub, Array.replicate_succ, Array.replicate_zero, List.push_toArray, List.append_toArray, List.nil_append, List.cons_append]
  have he1 := hon.heap he re
  have ht1 := hon.heap ht rt
  have hf1 := hf.on (hon.mono rf)
  obtain ⟨a0, a1, a2, a3⟩ := box4 he1
  have le_ := (hRd be re).2
  have lt_ := (hRd bt rt).2
  have lY := lJ [] Y W h0
  rcases ho with ⟨rfl, rfl⟩ | ⟨hov, hch⟩
  · gi_wp2
    refine bodyPost_ret (results_none rfl _ _ _) rfl ?_
    exact ⟨⟨_, rfl⟩, Y, Fr.refl _ _, Grows.refl _ _, .inl h0⟩
  · have hovb : ((over : Int) == 0) = false := by simp; omega
    have HC : Hid (ChainAt fs over size xs) := hch
    clear hch
    gi_wp2
    gi_loopw [4, 5] (fun pl rs wr => ∃ (q r : Nat) (pre post : List (Nat × Pg)) (Yr : Bl), pl = .int .i64 q ∧ rs = .int .i64 r ∧ r ≤ 1000000 ∧ xs = pre ++ post ∧ ChainAt fs q r post ∧ J pre Yr wr ∧ Fr Y W wr ∧ Grows W Y Yr) (fun _ rs _ => (intOf rs).toNat)
    case atStart => exact ⟨over, size, [], xs, Y, rfl, rfl, hsz, rfl, HC.out, h0, Fr.refl _ _, Grows.refl _ _⟩
    case round =>
      obtain ⟨q, r, pre, post, Yr, rfl, rfl, hr, hx, hch, hJ, hF, hG⟩ := hrel
      have oR : On Rd W wr := hF.on (fun k hk => ⟨(hRd k hk).2, (hRd k hk).1⟩)
      have ht2 := oR.heap ht1 rt
      have hf2 := hf1.on (oR.mono rf)
      obtain ⟨b0, b1, b2⟩ := box3 ht2
      clear a0 a1 a2 a3
      cases post with
      | nil =>
        obtain rfl : r = 0 := hch
        have HX : Hid (J xs Yr wr) := by show J xs Yr wr; rw [hx]; simpa using hJ
        clear hJ hx
        gi_wp2
        go_end0
        exact ⟨⟨_, rfl⟩, Yr, hF, hG, .inl HX.out⟩
      | cons x post =>
        obtain ⟨rfl, hr0, hhas, hk4, hds, nx, hnx, hiff, hrest⟩ := hch
        obtain ⟨q, g⟩ := x
        dsimp only at *
        have hrp : (0 : Int) < (r : Int) := by omega
        have k4 : (g.kind == 4) = true := by simp [hk4]
        obtain ⟨m, hm⟩ : ∃ m, m = r - g.data.size := ⟨_, rfl⟩
        rw [← hm] at hrest hiff
        obtain ⟨bz, hbz⟩ : ∃ bz, bz = decide (m = 0) := ⟨_, rfl⟩
        have e1 : (g.next == 0) = bz := by
          rw [hnx, hbz, Bool.eq_iff_iff]
          simp only [beq_iff_eq, decide_eq_true_eq]
          omega
        have e2 : ((m : Int) == 0) = bz := by
          rw [hbz, Bool.eq_iff_iff]
          simp only [beq_iff_eq, decide_eq_true_eq]
          omega
        have hsub : (r : Int) - (g.data.size : Int) = (m : Int) := by omega
        have HM : Hid (m < r ∧ m ≤ 1000000) := by show _ ∧ _; omega
        have HNX : Hid (g.next = (nx : Int)) := hnx
        have HX : Hid (xs = pre ++ (q, g) :: post) := hx
        have HREST : Hid (ChainAt fs nx m post) := hrest
        have hLd := load_any β sv lv fs root ca cn cc q g wr hf2 hl hhas
        have hsplit : (r ≤ 240 ∧ ((g.data.size : Int) != (r : Int)) = false) ∨ (240 < r ∧ ((g.data.size : Int) != 240) = false) := by
          by_cases h : r ≤ 240
          · refine .inl ⟨h, ?_⟩; simp; omega
          · refine .inr ⟨by omega, ?_⟩; simp; omega
        have HK : Hid (g.kind = 4) := hk4
        clear hk4 hds hnx hx hrest hiff hm hbz hhas
        rcases hsplit with ⟨hr2, hne⟩ | ⟨hr2, hne⟩
        all_goals
          gi_wp2_with (refine ⟨trivial, rfl, ?_⟩; gi_at_call 119; refine (callsIn_wide.2 hLd).mono ?_; rintro e W2 ⟨vv, rfl, ⟨ka, ia, ea, kc, ic, ec, rfl, q1, q2, q3, qq⟩, hb2⟩; obtain ⟨W3, hW3⟩ : ∃ W3, W2.alloc (pgO g ka ia ea kc ic ec) = W3 := ⟨_, rfl⟩; have x3 : W3.heap[W2.heap.size]? = some (pgO g ka ia ea kc ic ec) := hW3 ▸ heap_new W2 _; obtain ⟨m0, m1, m2, m3, m4, m5, m6, m7⟩ := box8 x3; have f3 : Fr Bl.none wr W3 := (Fr.of_below hb2).trans (hW3 ▸ (Fr.refl _ W2).alloc _); have F3 : Fr Y W W3 := hF.trans (f3.mono (fun _ h => h.elim)); have hJ3 := sJ _ _ _ _ hJ (f3.on (fun k hk => ⟨lJ _ _ _ hJ k hk, fun h => h⟩)); have o3 : On (New wr W2) W2 W3 := hW3 ▸ (On.refl _ W2).alloc (fun k hk => hk.2) _; have l3 : ∀ k, New wr W2 k → ¬ Yr k ∧ k < W3.heap.size := (fun k hk => ⟨fun hy => by have := lJ _ _ _ hJ k hy; have := hk.1; omega, Nat.lt_of_lt_of_le hk.2 o3.size⟩); obtain ⟨fn, tmps, assign, body, hy, hR⟩ := hY pre (q, g) post #[.int .i64 q, .agg #[.int .i64 4, .int .i64 g.ver, .int .i64 g.root, .int .i64 g.next, .slice ka g.keys.length kc, .slice ia g.kids.length ic, .slice ea g.ents.length ec, .string g.data]] (New wr W2) Yr W3 HX.out hJ3 ⟨_, rfl, ka, ia, ea, kc, ic, ec, by rw [HK.out], q1.on o3, q2.on o3, q3.on o3, qq⟩ l3 F3 hG)
          refine ⟨rfl, (roundIn_any hR).mono ?_⟩
          clear hy hR hLd
          rintro e W4 (⟨rfl, Y4, hJ4, hF4, hG4⟩ | ⟨rfl, Y4, hJ4, hF4, hG4⟩)
          · have x4 := hF4.heap x3 (fun hy => by have := lJ _ _ _ hJ _ hy; have := hb2.size; omega)
            obtain ⟨n0, n1, n2, n3, n4, n5, n6, n7⟩ := box8 x4
            clear m0 m1 m2 m3 m4 m5 m6 m7 b0 b1 b2 x3 x4
            gi_wp2
            go_roundw
            case rel => exact ⟨nx, m, pre ++ [(q, g)], post, Y4, by rw [HNX.out], rfl, HM.out.2, by rw [HX.out]; simp, HREST.out, hJ4, F3.grow hF4 hG, hG.trans F3.size hG4⟩
            case measure => have := HM.out.1; simp [intOf]; omega
          · clear m0 m1 m2 m3 m4 m5 m6 m7 b0 b1 b2 x3
            gi_wp2
            refine bodyPost_ret (results_none rfl _ _ _) rfl ?_
            refine ⟨⟨_, rfl⟩, Y4, F3.grow hF4 hG, hG.trans F3.size hG4, .inr ⟨_, ⟨post, ?_⟩, ?_, hJ4⟩⟩
            · rw [HX.out]; simp
            · simp
end Go.Proofs.YtngpplmndpmgiaaGreat.Tree
namespace Go.Proofs.YtngpplmndpmgiaaGreat.Tree
open Go.RowKit Go.Proofs.YtngpplmndpmgiaaGreat.Pages
set_option linter.unusedSimpArgs false
set_option linter.unusedVariables false
structure En where
  e : Ent
  ch : List (Nat × Pg)
inductive T where
  | leaf (place : Nat) (es : List En)
  | branch (place : Nat) (ks : List ByteArray) (kids : List T)
def T.place : T → Nat
  | .leaf p _ => p
  | .branch p _ _ => p
def En.ok (fs : Fs) (x : En) : Prop := ∃ size over : Nat, x.e.size = size ∧ x.e.over = over ∧ size ≤ 400 ∧ ((over = 0 ∧ x.ch = []) ∨ (0 < over ∧ ChainAt fs over size x.ch))
def En.pages (x : En) : List Nat := x.ch.map (·.1)
def Stands (fs : Fs) : Nat → T → Sp → Prop
  | 0, .leaf p es, s => ∃ g, fs.has p g ∧ g.kind = 3 ∧ g.ents = es.map (·.e) ∧ es ≠ [] ∧ (∀ x ∈ es, s.has x.e.key = true) ∧ ∀ x ∈ es, x.ok fs
  | h + 1, .branch p ks kids, s => ∃ g, fs.has p g ∧ g.kind = 2 ∧ g.keys = ks ∧ g.kids = kids.map (fun t => (t.place : Int)) ∧ kids.length = ks.length + 1 ∧
      (∃ h0 : 0 < ks.length, lt s.lo ks[0] = true ∧ s.has (ks[ks.length - 1]) = true) ∧ ∀ x ∈ parts s ks kids, Stands fs h x.1 x.2
  | _, _, _ => False
def T.pages : Nat → T → List Nat
  | _, .leaf p es => p :: es.flatMap En.pages
  | 0, .branch p _ _ => [p]
  | h + 1, .branch p _ kids => p :: kids.flatMap (T.pages h)
def T.nodes : Nat → T → List Nat
  | _, .leaf p _ => [p]
  | 0, .branch p _ _ => [p]
  | h + 1, .branch p _ kids => p :: kids.flatMap (T.nodes h)
def T.subs : Nat → T → List (Nat × T)
  | 0, t => [(0, t)]
  | h + 1, .leaf p es => [(h + 1, .leaf p es)]
  | h + 1, .branch p ks kids => (h + 1, .branch p ks kids) :: kids.flatMap (T.subs h)
theorem isPg_inj {s : ByteArray} {g g' : Pg} (h : IsPg s g) (h' : IsPg s g') : g = g' := h.2.2.2.trans h'.2.2.2.symm
theorem has_inj {fs : Fs} {p : Nat} {g g' : Pg} (h : fs.has p g) (h' : fs.has p g') : g = g' := isPg_inj h.2 h'.2
theorem chain_inj {fs : Fs} : ∀ {l l' : List (Nat × Pg)} {p r : Nat}, ChainAt fs p r l → ChainAt fs p r l' → l = l'
  | [], [], _, _, _, _ => rfl
  | [], x :: l', _, r, h, h' => by
    obtain ⟨_, h0, _⟩ := h'
    have : r = 0 := h
    omega
  | x :: l, [], _, r, h, h' => by
    obtain ⟨_, h0, _⟩ := h
    have : r = 0 := h'
    omega
  | x :: l, x' :: l', p, r, h, h' => by
    obtain ⟨a1, a2, a3, a4, a5, nx, a6, a7, a8⟩ := h
    obtain ⟨b1, b2, b3, b4, b5, nx', b6, b7, b8⟩ := h'
    have e := has_inj a3 b3
    have en : nx = nx' := by have := a6.symm.trans ((congrArg Pg.next e).trans b6); omega
    subst en
    rw [← e] at b8
    have ex : x = x' := Prod.ext (a1.trans b1.symm) e
    rw [ex, chain_inj a8 b8]
theorem stands_place {fs : Fs} {h : Nat} {t : T} {s : Sp} (ht : Stands fs h t s) : ∃ g, fs.has t.place g ∧ ((h = 0 ∧ g.kind = 3) ∨ (0 < h ∧ g.kind = 2)) := by
  cases h with
  | zero =>
    cases t with
    | leaf p es => obtain ⟨g, hg, hk, _⟩ := ht; exact ⟨g, hg, .inl ⟨rfl, hk⟩⟩
    | branch p ks kids => exact ht.elim
  | succ h =>
    cases t with
    | leaf p es => exact ht.elim
    | branch p ks kids => obtain ⟨g, hg, hk, _⟩ := ht; exact ⟨g, hg, .inr ⟨by omega, hk⟩⟩
theorem en_inj {fs : Fs} : ∀ {l l' : List En}, (∀ x ∈ l, x.ok fs) → (∀ x ∈ l', x.ok fs) → l.map (·.e) = l'.map (·.e) → l = l'
  | [], [], _, _, _ => rfl
  | [], x :: l', _, _, h => by simp at h
  | x :: l, [], _, _, h => by simp at h
  | x :: l, x' :: l', h, h', e => by
    simp only [List.map_cons, List.cons.injEq] at e
    obtain ⟨e1, e2⟩ := e
    have r := en_inj (fun y hy => h y (by simp [hy])) (fun y hy => h' y (by simp [hy])) e2
    obtain ⟨sz, ov, a1, a2, _, a3⟩ := h x (by simp)
    obtain ⟨sz', ov', b1, b2, _, b3⟩ := h' x' (by simp)
    have es : sz = sz' := by have := a1.symm.trans ((congrArg Ent.size e1).trans b1); omega
    have eo : ov = ov' := by have := a2.symm.trans ((congrArg Ent.over e1).trans b2); omega
    subst es eo
    have ec : x.ch = x'.ch := by
      rcases a3 with ⟨h0, hc⟩ | ⟨h0, hc⟩
      · rcases b3 with ⟨_, hc'⟩ | ⟨h1, _⟩
        · rw [hc, hc']
        · omega
      · rcases b3 with ⟨h1, _⟩ | ⟨_, hc'⟩
        · omega
        · exact chain_inj hc hc'
    have ex : x = x' := by
      cases x; cases x'; simp only at e1 ec; rw [e1, ec]
    rw [ex, r]
theorem stands_inj {fs : Fs} : ∀ {h h' : Nat} {t t' : T} {s s' : Sp}, Stands fs h t s → Stands fs h' t' s' → t.place = t'.place → h = h' ∧ t = t' := by
  intro h
  induction h with
  | zero =>
    intro h' t t' s s' ht ht' hp
    cases t with
    | branch p ks kids => exact ht.elim
    | leaf p es =>
      obtain ⟨g, hg, hk, he, hne, _, hok⟩ := ht
      cases h' with
      | zero =>
        cases t' with
        | branch p' ks' kids' => exact ht'.elim
        | leaf p' es' =>
          obtain ⟨g', hg', hk', he', hne', _, hok'⟩ := ht'
          have hp' : p = p' := hp
          subst hp'
          have e := has_inj hg hg'
          refine ⟨rfl, ?_⟩
          rw [en_inj hok hok' (by rw [← he, ← he', e])]
      | succ h' =>
        cases t' with
        | leaf p' es' => exact ht'.elim
        | branch p' ks' kids' =>
          obtain ⟨g', hg', hk', _⟩ := ht'
          have hp' : p = p' := hp
          subst hp'
          have e := has_inj hg hg'
          rw [e] at hk
          omega
  | succ h ih =>
    intro h' t t' s s' ht ht' hp
    cases t with
    | leaf p es => exact ht.elim
    | branch p ks kids =>
      obtain ⟨g, hg, hk, hks, hkd, hlen, _, hall⟩ := ht
      cases h' with
      | zero =>
        cases t' with
        | branch p' ks' kids' => exact ht'.elim
        | leaf p' es' =>
          obtain ⟨g', hg', hk', _⟩ := ht'
          have hp' : p = p' := hp
          subst hp'
          have e := has_inj hg hg'
          rw [e] at hk
          omega
      | succ h' =>
        cases t' with
        | leaf p' es' => exact ht'.elim
        | branch p' ks' kids' =>
          obtain ⟨g', hg', hk', hks', hkd', hlen', _, hall'⟩ := ht'
          have hp' : p = p' := hp
          subst hp'
          have e := has_inj hg hg'
          subst e
          have e1 : ks = ks' := hks.symm.trans hks'
          subst e1
          have e2 : kids.map (fun t => (t.place : Int)) = kids'.map (fun t => (t.place : Int)) := hkd.symm.trans hkd'
          have hl : kids.length = kids'.length := by have := congrArg List.length e2; simpa using this
          have each : ∀ i (hi : i < kids.length) (hi' : i < kids'.length), h = h' ∧ kids[i] = kids'[i] := fun i hi hi' => by
            have a1 := List.mem_of_getElem? (parts_at s ks kids i hi)
            have a2 := List.mem_of_getElem? (parts_at s' ks kids' i hi')
            have ep : ((kids[i]).place : Int) = ((kids'[i]).place : Int) := by
              have := congrArg (fun l => l[i]?) e2
              simpa [hi, hi'] using this
            exact ih (hall _ a1) (hall' _ a2) (by omega)
          have h0 : 0 < kids.length := by omega
          refine ⟨by rw [(each 0 h0 (by omega)).1], ?_⟩
          rw [List.ext_getElem hl (fun i hi hi' => (each i hi hi').2)]
end Go.Proofs.YtngpplmndpmgiaaGreat.Tree
namespace Go.Proofs.YtngpplmndpmgiaaGreat.Tree
open Go.RowKit Go.Proofs.YtngpplmndpmgiaaGreat.Pages
set_option linter.unusedSimpArgs false
set_option linter.unusedVariables false
def on (u : List Bool) (p : Nat) : Prop := u[p]? = some true
def marks (u : List Bool) (ps : List Nat) : List Bool := ps.foldl (fun u p => u.set p true) u
theorem marks_nil (u : List Bool) : marks u [] = u := rfl
theorem marks_cons (u : List Bool) (p : Nat) (ps : List Nat) : marks u (p :: ps) = marks (u.set p true) ps := rfl
theorem marks_append (u : List Bool) (ps qs : List Nat) : marks u (ps ++ qs) = marks (marks u ps) qs := by simp [marks]
theorem marks_length : ∀ (ps : List Nat) (u : List Bool), (marks u ps).length = u.length
  | [], _ => rfl
  | p :: ps, u => by rw [marks_cons, marks_length ps]; simp
theorem on_set {u : List Bool} {p q : Nat} : on (u.set p true) q ↔ on u q ∨ (q = p ∧ p < u.length) := by
  unfold on
  rw [List.getElem?_set]
  by_cases h : p = q
  · subst h
    by_cases hp : p < u.length
    · simp [hp]
    · simp [hp]
  · rw [if_neg h]
    constructor
    · exact fun h => .inl h
    · rintro (h' | ⟨h', _⟩)
      · exact h'
      · exact absurd h'.symm h
theorem on_marks : ∀ {ps : List Nat} {u : List Bool} {q : Nat}, on (marks u ps) q ↔ on u q ∨ (q ∈ ps ∧ q < u.length)
  | [], u, q => by simp [marks_nil]
  | p :: ps, u, q => by
    rw [marks_cons, on_marks, on_set]
    simp only [List.length_set, List.mem_cons]
    constructor
    · rintro ((h | ⟨rfl, h⟩) | ⟨h, h'⟩)
      · exact .inl h
      · exact .inr ⟨.inl rfl, h⟩
      · exact .inr ⟨.inr h, h'⟩
    · rintro (h | ⟨rfl | h, h'⟩)
      · exact .inl (.inl h)
      · exact .inl (.inr ⟨rfl, h'⟩)
      · exact .inr ⟨h, h'⟩
theorem set_on {u : List Bool} {p : Nat} (h : on u p) : u.set p true = u := by
  obtain ⟨hp, hv⟩ := List.getElem?_eq_some_iff.1 h
  apply List.ext_getElem (by simp)
  intro i h1 h2
  rw [List.getElem_set]
  split
  · subst_vars; exact hv.symm
  · rfl
theorem marks_on : ∀ {ps : List Nat} {u : List Bool}, (∀ p ∈ ps, on u p) → marks u ps = u
  | [], _, _ => rfl
  | p :: ps, u, h => by
    rw [marks_cons, set_on (h p (by simp))]
    exact marks_on (fun q hq => h q (by simp [hq]))
theorem chain_has {fs : Fs} : ∀ {l : List (Nat × Pg)} {p r : Nat}, ChainAt fs p r l → ∀ x ∈ l, ∃ g, fs.has x.1 g ∧ g.kind = 4
  | [], _, _, _, x, hx => by simp at hx
  | y :: l, p, r, h, x, hx => by
    obtain ⟨a1, a2, a3, a4, a5, nx, a6, a7, a8⟩ := h
    rcases List.mem_cons.1 hx with rfl | hx
    · exact ⟨_, a1 ▸ a3, a4⟩
    · exact chain_has a8 x hx
theorem en_pages_has {fs : Fs} {x : En} (h : x.ok fs) : ∀ p ∈ x.pages, ∃ g, fs.has p g ∧ g.kind = 4 := by
  intro p hp
  obtain ⟨sz, ov, _, _, _, h⟩ := h
  simp only [En.pages, List.mem_map] at hp
  obtain ⟨y, hy, rfl⟩ := hp
  rcases h with ⟨_, hc⟩ | ⟨_, hc⟩
  · rw [hc] at hy; simp at hy
  · exact chain_has hc y hy
theorem part_mem {s : Sp} {ks : List ByteArray} {kids : List T} {t : T} (h : t ∈ kids) : ∃ s', (t, s') ∈ parts s ks kids := by
  obtain ⟨i, hi, rfl⟩ := List.getElem_of_mem h
  exact ⟨_, List.mem_of_getElem? (parts_at s ks kids i hi)⟩
theorem subs_stands {fs : Fs} : ∀ {h : Nat} {t : T} {s : Sp}, Stands fs h t s → ∀ x ∈ T.subs h t, ∃ s', Stands fs x.1 x.2 s' ∧ x.1 ≤ h := by
  intro h
  induction h with
  | zero =>
    intro t s ht x hx
    simp only [T.subs, List.mem_singleton] at hx
    subst hx
    exact ⟨s, ht, Nat.le_refl _⟩
  | succ h ih =>
    intro t s ht x hx
    cases t with
    | leaf p es => exact ht.elim
    | branch p ks kids =>
      simp only [T.subs, List.mem_cons, List.mem_flatMap] at hx
      rcases hx with rfl | ⟨k, hk, hx⟩
      · exact ⟨s, ht, Nat.le_refl _⟩
      · obtain ⟨g, _, _, _, _, _, _, hall⟩ := ht
        obtain ⟨s', hs'⟩ := part_mem (s := s) (ks := ks) hk
        obtain ⟨s'', h1, h2⟩ := ih (hall _ hs') x hx
        exact ⟨s'', h1, by omega⟩
theorem subs_self {h : Nat} {t : T} : (h, t) ∈ T.subs h t := by
  cases h with
  | zero => simp [T.subs]
  | succ h => cases t <;> simp [T.subs]
theorem pages_kind {fs : Fs} : ∀ {h : Nat} {t : T} {s : Sp}, Stands fs h t s → ∀ p ∈ T.pages h t, (∃ x ∈ T.subs h t, x.2.place = p) ∨ ∃ g, fs.has p g ∧ g.kind = 4 := by
  intro h
  induction h with
  | zero =>
    intro t s ht p hp
    cases t with
    | branch q ks kids => exact ht.elim
    | leaf q es =>
      obtain ⟨g, _, _, _, _, _, hok⟩ := ht
      simp only [T.pages, List.mem_cons, List.mem_flatMap] at hp
      rcases hp with rfl | ⟨x, hx, hp⟩
      · exact .inl ⟨(0, .leaf p es), by simp [T.subs], rfl⟩
      · exact .inr (en_pages_has (hok x hx) p hp)
  | succ h ih =>
    intro t s ht p hp
    cases t with
    | leaf q es => exact ht.elim
    | branch q ks kids =>
      obtain ⟨g, _, _, _, _, _, _, hall⟩ := ht
      simp only [T.pages, List.mem_cons, List.mem_flatMap] at hp
      rcases hp with rfl | ⟨k, hk, hp⟩
      · exact .inl ⟨(h + 1, .branch p ks kids), by simp [T.subs], rfl⟩
      · obtain ⟨s', hs'⟩ := part_mem (s := s) (ks := ks) hk
        rcases ih (hall _ hs') p hp with ⟨x, hx, he⟩ | h4
        · exact .inl ⟨x, by simp only [T.subs, List.mem_cons, List.mem_flatMap]; exact .inr ⟨k, hk, hx⟩, he⟩
        · exact .inr h4
theorem pages_lt {fs : Fs} {h : Nat} {t : T} {s : Sp} (ht : Stands fs h t s) : ∀ p ∈ T.pages h t, p < fs.safe.length := by
  intro p hp
  rcases pages_kind ht p hp with ⟨x, hx, rfl⟩ | ⟨g, hg, _⟩
  · obtain ⟨s', hs', _⟩ := subs_stands ht x hx
    obtain ⟨g, hg, _⟩ := stands_place hs'
    exact hg.1
  · exact hg.1
def Shut (u : List Bool) (h : Nat) (t : T) : Prop := ∀ x ∈ T.subs h t, on u x.2.place → ∀ p ∈ T.pages x.1 x.2, on u p
theorem sub_pages {h : Nat} {t : T} : ∀ x ∈ T.subs h t, ∀ p ∈ T.pages x.1 x.2, p ∈ T.pages h t := by
  induction h generalizing t with
  | zero => intro x hx p hp; simp only [T.subs, List.mem_singleton] at hx; subst hx; exact hp
  | succ h ih =>
    intro x hx p hp
    cases t with
    | leaf q es => simp only [T.subs, List.mem_singleton] at hx; subst hx; exact hp
    | branch q ks kids =>
      simp only [T.subs, List.mem_cons, List.mem_flatMap] at hx
      rcases hx with rfl | ⟨k, hk, hx⟩
      · exact hp
      · simp only [T.pages, List.mem_cons, List.mem_flatMap]
        exact .inr ⟨k, hk, ih x hx p hp⟩
theorem Shut.after {fs : Fs} {u : List Bool} {h h' : Nat} {t t' : T} {s s' : Sp} (ht : Stands fs h t s) (ht' : Stands fs h' t' s') (hu : fs.safe.length ≤ u.length) (hs : Shut u h t) : Shut (marks u (T.pages h' t')) h t := by
  intro x hx hon p hp
  rw [on_marks] at hon ⊢
  rcases hon with hon | ⟨hm, _⟩
  · exact .inl (hs x hx hon p hp)
  · obtain ⟨sx, hsx, _⟩ := subs_stands ht x hx
    have hin : ∃ y ∈ T.subs h' t', y.2.place = x.2.place := by
      rcases pages_kind ht' _ hm with h1 | ⟨g, hg, hk⟩
      · exact h1
      · obtain ⟨g', hg', hk'⟩ := stands_place hsx
        have := has_inj hg hg'
        subst this
        omega
    obtain ⟨y, hy, he⟩ := hin
    obtain ⟨sy, hsy, _⟩ := subs_stands ht' y hy
    obtain ⟨e1, e2⟩ := stands_inj hsx hsy he.symm
    refine .inr ⟨sub_pages y hy p (by rw [← e1, ← e2]; exact hp), Nat.lt_of_lt_of_le (pages_lt hsx p hp) hu⟩
theorem Shut.kid {u : List Bool} {h p : Nat} {ks : List ByteArray} {kids : List T} (hs : Shut u (h + 1) (.branch p ks kids)) {k : T} (hk : k ∈ kids) : Shut u h k := by
  intro x hx
  exact hs x (by simp only [T.subs, List.mem_cons, List.mem_flatMap]; exact .inr ⟨k, hk, hx⟩)
theorem Shut.down {fs : Fs} {u : List Bool} {h p : Nat} {ks : List ByteArray} {kids : List T} {s : Sp} (ht : Stands fs (h + 1) (.branch p ks kids) s) (hs : Shut u (h + 1) (.branch p ks kids)) {k : T} (hk : k ∈ kids) : Shut (u.set p true) h k := by
  intro x hx hon q hq
  rw [on_set] at hon ⊢
  rcases hon with hon | ⟨he, _⟩
  · exact .inl (hs.kid hk x hx hon q hq)
  · have hk0 := ht
    obtain ⟨g, _, _, _, _, _, _, hall⟩ := ht
    obtain ⟨s', hs'⟩ := part_mem (s := s) (ks := ks) hk
    obtain ⟨sx, hsx, hle⟩ := subs_stands (hall _ hs') x hx
    obtain ⟨e1, _⟩ := stands_inj hsx hk0 he
    omega
end Go.Proofs.YtngpplmndpmgiaaGreat.Tree
