/-
  Joined: Chang, Regs, Regs2, Locks, Face, Db, Begin, PIn.
-/
import Derived.Test.YtngpplmndpmgiaaGreatJ15
import Derived.Test.YtngpplmndpmgiaaGreatJ1
import Derived.Test.YtngpplmndpmgiaaGreatJ5
import Derived.Test.YtngpplmndpmgiaaGreatJ6
import Derived.Test.YtngpplmndpmgiaaGreatJ11
import Derived.OrdersIn
import Derived.RangeFuncCalls
import Derived.AtR
import Derived.KernelRfl
import Derived.Deep.RegionHeld3
import Derived.Conc.MuLone
import Derived.Test.YtngpplmndpmgiaaGreatProg
import Derived.Tactics
import Derived.Tactics2
import Derived.Defers
import Derived.Recover
import Derived.Laws.Pointers
import Derived.WalkKit
import Derived.Deep.RegionLaw
import Derived.Laws.Rows
set_option linter.unusedSimpArgs false
set_option linter.unusedVariables false
namespace Go.Proofs.YtngpplmndpmgiaaGreat.Tree
open Go.RowKit Go.Proofs.YtngpplmndpmgiaaGreat.Pages
set_option linter.unusedSimpArgs false
set_option linter.unusedVariables false
set_option maxRecDepth 100000 in
set_option maxHeartbeats 4000000 in
theorem changed_leaf (β : Nat) (sv lv : Value) (fs : Fs) (hl : (fs.life == 0) = false) (root : Int) (ca : Option Addr) (cn cc : Nat) (p : Nat) (s : Sp) (es : List En) (cs : List Ch) (xa : Option Addr) (xc : Nat) (S : Bl) (w : World) (ht : Stands fs 0 (.leaf p es) s) (hf : FileAt w β sv lv fs) (hR : RowOn w S xa (cs.flatMap Ch.cells)) (hS : ∀ b, S b → b < w.heap.size) (hr : Rise cs) (hgd : ∀ c ∈ cs, c.good) (hn : cs.length ≤ 1000) (hc : cs.length ≤ xc) (hxa : (xa = none ∧ xc = 0) ∨ ∃ b off, xa = some ⟨b, off, none⟩) (hon : (overE es cs).length ≤ 100000) :
    Calls Tryz.prog 158 #[.agg #[.pointer (some ⟨β, 0, none⟩), .int .i64 root, .slice ca cn cc], .int .i64 p, .agg #[.string s.lo, .string s.hi], .slice xa cs.length xc] w fun e w' =>
      ∃ v ms, e = .returned v ∧ w'.ownsRow 0 220 5 v ms.length (ncells ms) ∧ NdsOn w' (New w w') ((leavesP (overE es cs)).map nd0) ms ∧ Below w.heap.size w w' ∧ ∀ k, v.ownBlock = some k → w.heap.size ≤ k := by
  have hgood : ∀ y ∈ overE es cs, y.good fs := over_good (fs := fs) (rise_ents (h := 0) ht) hr (stands_good ht) hgd
  obtain ⟨g, hg, hk3, hes, hne, hin, hok⟩ := ht
  obtain ⟨W1, hW1⟩ : ∃ W1, ((w.alloc (.cells #[.pointer (some ⟨β, 0, none⟩), .int .i64 root, .slice ca cn cc] 82)).alloc (.cells #[.string s.lo, .string s.hi] 128)).alloc (.cells #[.slice xa cs.length xc] 80) = W1 := ⟨_, rfl⟩
  have B1 : Below w.heap.size w W1 := hW1 ▸ (((Below.refl _ _).alloc (Nat.le_refl _) _).alloc (by simp) _).alloc (by simp; omega) _
  have t1 : W1.heap[w.heap.size]? = some (.cells #[.pointer (some ⟨β, 0, none⟩), .int .i64 root, .slice ca cn cc] 82) := hW1 ▸ heap_keep _ (heap_keep _ (heap_new w _))
  have s1 : W1.heap[w.heap.size + 1]? = some (.cells #[.string s.lo, .string s.hi] 128) := by
    rw [← hW1]; refine heap_keep _ ?_; have := heap_new (w.alloc (.cells #[.pointer (some ⟨β, 0, none⟩), .int .i64 root, .slice ca cn cc] 82)) (.cells #[.string s.lo, .string s.hi] 128); simpa using this
  have c1 : W1.heap[w.heap.size + 1 + 1]? = some (.cells #[.slice xa cs.length xc] 80) := by
    rw [← hW1]; have := heap_new ((w.alloc (.cells #[.pointer (some ⟨β, 0, none⟩), .int .i64 root, .slice ca cn cc] 82)).alloc (.cells #[.string s.lo, .string s.hi] 128)) (.cells #[.slice xa cs.length xc] 80); simpa using this
  have z1 : W1.heap.size = w.heap.size + 3 := by rw [← hW1]; simp
  obtain ⟨tc0, tc1, tc2⟩ := box3 t1
  obtain ⟨sc0, sc1⟩ := box2 s1
  have hf1 : FileAt W1 β sv lv fs := hf.on (On.of_below B1 hf.lies)
  obtain ⟨sm1, sm2, sm3⟩ := read_small hg
  have he0 : 0 < g.ents.length := by rw [hes, List.length_map]; exact List.length_pos_iff.2 hne
  have hel : g.ents.length = es.length := by rw [hes, List.length_map]
  have hin' : ∀ e ∈ g.ents, s.has e.key = true := fun e he => by rw [hes, List.mem_map] at he; obtain ⟨x, hx, rfl⟩ := he; exact hin x hx
  have hNd := node_leaf β sv lv fs root ca cn cc p s g W1 hf1 hl hg (by simp [hk3]) (by simp [hk3]) he0 (hin' _ (List.getElem_mem _)) (hin' _ (List.getElem_mem _)) sm1 sm3
  have hk3b : (g.kind == 3) = true := by simp [hk3]
  have HE : Hid (g.ents = es.map (·.e)) := hes
  have HL : Hid (g.ents.length = es.length) := hel
  have HZ : Hid (W1.heap.size = w.heap.size + 3) := z1
  have HSM : Hid (g.ents.length ≤ 1000) := sm3
  clear hk3 hes hel z1 hin' hin hok
  go_enter Tryz.func158, Tryz.ntmps158
  go_wp2_with (first
    | (go_at_call 105; (with_reducible refine Calls.mono hNd ?_); rintro e W3 ⟨vv, rfl, ⟨ka, ia, ea, kc, ic, ec, rfl, q1, q2, q3, qq⟩, hb3⟩; have x4 := heap_new W3 (pgO g ka ia ea kc ic ec); obtain ⟨m0, m1, m2, m3, m4, m5, m6, m7⟩ := box8 x4))
  obtain ⟨W4, hW4⟩ : ∃ W4, W3.alloc (pgO g ka ia ea kc ic ec) = W4 := ⟨_, rfl⟩
  rw [hW4]
  rw [hW4] at x4 m0 m1 m2 m3 m4 m5 m6 m7
  have b4 : Below W3.heap.size W3 W4 := hW4 ▸ (Below.refl _ _).alloc (Nat.le_refl _) _
  have z3 := hb3.size
  have z4 : W3.heap.size < W4.heap.size := (Array.getElem?_eq_some_iff.1 x4).1
  have B4 : Below w.heap.size w W4 := (B1.trans (hb3.mono B1.size)).trans (b4.mono (Nat.le_trans B1.size z3))
  have c4 : W4.heap[w.heap.size + 1 + 1]? = some (.cells #[.slice xa cs.length xc] 80) := (b4.block _ (by have := HZ.out; omega)).trans ((hb3.block _ (by have := HZ.out; omega)).trans c1)
  have s6 : W4.cell? ⟨W3.heap.size, 6, none⟩ = some (.slice ea g.ents.length ec) := m6
  have sc : W4.cell? ⟨w.heap.size + 1 + 1, 0, none⟩ = some (.slice xa cs.length xc) := by simp [World.cell?, c4]
  have HF4 : Hid (∀ X, Below W4.heap.size W4 X → X.cell? ⟨W3.heap.size, 6, none⟩ = some (.slice ea g.ents.length ec) ∧ X.cell? ⟨w.heap.size + 1 + 1, 0, none⟩ = some (.slice xa cs.length xc)) := by
    intro X hX
    have h1 := (hX.block _ z4).trans x4
    have h2 := (hX.block _ (Array.getElem?_eq_some_iff.1 c4).1).trans c4
    exact ⟨(box8 h1).2.2.2.2.2.2.1, by simp [World.cell?, h2]⟩
  have hJ : Below W4.heap.size W4 W4 := Below.refl _ _
  have hq4 : RowOn W4 (fun k => k < W4.heap.size) ea (ecells es) := by
    have := (q3.on (On.of_below b4 (fun k hk => hk.2))).mono (S' := fun k => k < W4.heap.size) (fun k hk => by have := hk.2; omega)
    rw [ecells_ents HE.out] at this
    exact this
  have hec := qq.2.2
  have HC : Hid (∀ X, Below W4.heap.size W4 X → ∀ (bv be : Nat), X.heap[bv]? = some (.cells #[.slice ea g.ents.length ec] 70) → X.heap[be]? = some (.cells #[.func (.func 179) #[] #[.pointer (some ⟨bv, 0, none⟩)]] 125) → X.heap[be + 1]? = some (.cells #[.slice xa cs.length xc] 80) →
      Calls Tryz.prog 157 #[.func (.func 153) #[] #[.pointer (some ⟨be + 1, 0, none⟩), .pointer (some ⟨be, 0, none⟩)]] X fun e w' => ∃ v, e = .returned v ∧ w'.ownsRow 0 102 4 v (overE es cs).length (ecells (overE es cs)) ∧ Below X.heap.size X w' ∧ ∀ k, v.ownBlock = some k → X.heap.size ≤ k) := by
    intro X hX bv be hbv hbe hbc
    have hqX : RowOn X (fun k => k < X.heap.size) ea (ecells es) := (hq4.on (On.of_below hX (fun k hk => hk))).mono (fun k hk => Nat.lt_of_lt_of_le hk hX.size)
    have hRX : RowOn X (fun k => k < X.heap.size) xa (cs.flatMap Ch.cells) := ((hR.on (On.of_below B4 hS)).on (On.of_below hX (fun k hk => Nat.lt_of_lt_of_le (hS k hk) B4.size))).mono (fun k hk => Nat.lt_of_lt_of_le (Nat.lt_of_lt_of_le (hS k hk) B4.size) hX.size)
    rw [HL.out] at hbv
    have hV := values_iter bv ea ec es (fun k => k < X.heap.size) (fun k => k < X.heap.size) X hbv hqX (by have := HSM.out; have := HL.out; omega) (by have := HL.out; omega) (Array.getElem?_eq_some_iff.1 hbv).1 (fun k h => h)
    have hO := over_iter 179 #[.pointer (some ⟨bv, 0, none⟩)] (enters_of Tryz.func179 (by kernel_rfl) rfl) es (fun k => k < X.heap.size) (be + 1) be xa xc cs (fun k => k < X.heap.size) (fun k => k < X.heap.size) X hV hbc hbe hRX hr (by omega) hc hxa (Array.getElem?_eq_some_iff.1 hbc).1 (Array.getElem?_eq_some_iff.1 hbe).1 (fun k h => h) (fun k h => h)
    exact collect_any 153 _ (enters_of Tryz.func153 (by kernel_rfl) rfl) (overE es cs) (fun k => k < X.heap.size) X hO (fun k h => h) (by omega)
  obtain ⟨ys, hys⟩ : ∃ ys, overE es cs = ys := ⟨_, rfl⟩
  rw [hys] at HC hon hgood
  have HLV : Hid ((leavesP (overE es cs)).map nd0 = (cuts esz ys).map leafNd) := by show _ = _; rw [nd0_leaves, hys]
  have HG : Hid (∀ x ∈ ys, x.good fs) := hgood
  clear hgood hys hq4 hW4 x4 c4 m0 m1 m2 m3 m4 m5 m6 m7 q1 q2 q3 qq tc0 tc1 tc2 sc0 sc1 hNd
  go_region_held3 (fun X => X.cell? ⟨W3.heap.size, 6, none⟩ = some (.slice ea g.ents.length ec) ∧ X.cell? ⟨w.heap.size + 1 + 1, 0, none⟩ = some (.slice xa cs.length xc))
    ((first | (with_reducible exact ⟨s6, sc⟩) | (simp [s6, sc])))
    (first
      | (go_at_call 170; (with_reducible refine Calls.mono (values_call ea g.ents.length ec _) ?_); rintro e wv ⟨rfl, xv, hbv⟩; have hJv : Below W4.heap.size W4 wv := hJ.drew.trans hbv; obtain ⟨s6, sc⟩ := HF4.out wv hJv)
      | (go_at_call 136; (with_reducible refine Calls.mono (overlaid_call _ _ _ _ _ _) ?_); rintro e wo ⟨rfl, xo1, xo2, hbo⟩; have hJo : Below W4.heap.size W4 wo := hJv.trans (hbo.mono hJv.size); obtain ⟨s6, sc⟩ := HF4.out wo hJo; have xvo := (hbo.block _ (Array.getElem?_eq_some_iff.1 xv).1).trans xv; have hCl := HC.out wo hJo _ _ xvo xo1 xo2)
      | (go_at_call 157; (with_reducible refine Calls.mono hCl ?_); rintro e wc ⟨vC, rfl, hown, hbC, hlies⟩; have hJc : Below W4.heap.size W4 wc := hJo.trans (hbC.mono hJo.size); obtain ⟨s6, sc⟩ := HF4.out wc hJc; obtain ⟨va, vc, rfl, hvc, hrow⟩ := own_row0 hown; have hNL := newLeaves_any va vc ys (fun k => k < wc.heap.size ∧ wo.heap.size ≤ k) wc (hrow.mono (fun k hk => ⟨own_lt hown hk, hlies k hk⟩)) (fun k hk => hk.1) (by omega) hvc (fun x hx => good_fits (HG.out x hx)) (esz_250 HG.out))
      | (go_at_call 156; (with_reducible refine Calls.mono hNL ?_); rintro e wL ⟨vL, qs, rfl, hoL, hql, hqr, hbL, hlL⟩; have hJL : Below W4.heap.size W4 wL := hJc.trans (hbL.mono hJc.size); obtain ⟨s6, sc⟩ := HF4.out wL hJL))
  all_goals go_wp2
  all_goals go_ret
  all_goals
    have hsz1 := B4.size
    have hsz2 := hJo.size
    have hsz3 := hJc.size
    have hsz4 := hbL.size
    refine ⟨_, qs.map leafMN, rfl, by rw [List.length_map]; exact hoL, ?_, B4.trans (hJL.mono hsz1), fun k hk => Nat.le_trans (by omega) (hlL k hk)⟩
    rw [HLV.out, ← hql]
    exact (leaves_on hqr).mono (fun k hk => ⟨by have := hk.2; omega, by have := hk.1; omega⟩)
end Go.Proofs.YtngpplmndpmgiaaGreat.Tree
namespace Go.Proofs.YtngpplmndpmgiaaGreat.Tree
open Go.RowKit
set_option linter.unusedSimpArgs false
set_option linter.unusedVariables false
def noDefer (ops : Array Oper) : Bool := ops.all fun o => match o.op with | .defer _ => false | _ => true
theorem noDefer_at {ops : Array Oper} (h : noDefer ops = true) {i : Nat} {o : Oper} (hi : ops[i]? = some o) : ∀ c, o.op ≠ .defer c := by
  intro c hc
  obtain ⟨hl, rfl⟩ := Array.getElem?_eq_some_iff.1 hi
  have := (Array.all_eq_true.1 h) i hl
  rw [hc] at this
  simp at this
theorem wpOpIn_inRound {F : Fence} {n l : Nat} {P : Program} {ops : Array Oper} {Q : Exit → Act → World → Prop} (hro : F.round = none) (hnd : noDefer ops = true) {i : Nat} {K : Act → World → Prop} {a : Act} {w : World} (h : wpOpIn F n P ops Q i K a w) : wpOpIn (F.inRound l) n P ops Q i K a w := by
  unfold wpOpIn at h ⊢
  cases ho : ops[i]? with
  | none => simp only [ho] at h ⊢; exact h
  | some o =>
    have hd := noDefer_at hnd ho
    simp only [ho] at h ⊢
    unfold Oper.wpIn at h ⊢
    rw [Oper.semAt_eq _ _ _ hd] at h ⊢
    exact h
theorem wpAnyIn_inRound {F : Fence} {n l : Nat} {P : Program} {ops : Array Oper} {Q : Exit → Act → World → Prop} {md : Region.Mode} (hro : F.round = none) (hnd : noDefer ops = true) : ∀ (fuel : Nat) (listed : Array Bool) (a : Act) (w : World), wpAnyIn F n P md ops Q fuel listed a w → wpAnyIn (F.inRound l) n P md ops Q fuel listed a w
  | 0, _, _, _, h => h
  | fuel + 1, listed, a, w, h => ⟨h.1, fun i hi => wpOpIn_mono (fun a' w' h' => wpAnyIn_inRound hro hnd fuel _ a' w' h') (wpOpIn_inRound hro hnd (h.2 i hi))⟩
theorem wpIn_region_round {n l : Nat} {P : Program} {ops : Array Oper} {Q : Exit → Act → World → Prop} {id : Nat} {a : Act} {w : World} (hm : P.follows .mixedOrders = true) (hnd : noDefer ops = true)
    (h : wpAnyIn Fence.wide n P .any ops Q ops.size (Array.replicate ops.size false) a w.drew) : (Code.region id ops true).wpIn (Fence.wide.inRound l) n P Q a w :=
  wpIn_region_any hm (wpAnyIn_inRound rfl hnd _ _ _ _ h)
end Go.Proofs.YtngpplmndpmgiaaGreat.Tree
namespace Go.Proofs.YtngpplmndpmgiaaGreat.Tree
open Go.RowKit
set_option linter.unusedSimpArgs false
set_option linter.unusedVariables false
theorem rowsIn_any {n l : Nat} {P : Program} {row : String} {args : Array Value} {w : World} {R : Value → World → Prop} (h : Rows P row args w R) : RowsIn (Fence.wide.inRound l) n P row args w R := fun c cs _ =>
  let ⟨v, w', r, s⟩ := h c cs; ⟨v, w', r, stepsIn_wide.2 s⟩
theorem wpIn_of_oper {n l : Nat} {P : Program} {o : Oper} (hnd : ∀ c, o.op ≠ .defer c) {a : Act} {w : World} {K : Act → World → Prop} {Q : Exit → Act → World → Prop} (h : o.wp P a w K Q) : o.wpIn (Fence.wide.inRound l) n P a w K Q := by
  refine ⟨fun f _ => trivial, ?_⟩
  rw [Oper.semAt_eq _ _ _ hnd]
  unfold Oper.wp at h
  generalize (execOp a.eval o).run P w = r at *
  cases r with
  | ok x w' =>
    cases x <;> simp only [Oper.upon, Oper.uponIn] at h ⊢ <;>
      first
        | exact h
        | exact ⟨fun h => by simp [Fence.inRound, Fence.wide] at h, callsIn_wide.2 h⟩
        | exact ⟨fun h => by simp [Fence.inRound, Fence.wide] at h, rowsIn_any h⟩
        | exact h.elim
  | halt x w' => cases x <;> simp only [Oper.upon, Oper.uponIn] at h ⊢ <;> exact h
theorem wpOpIn_of {n l : Nat} {P : Program} {ops : Array Oper} {Q : Exit → Act → World → Prop} (hnd : noDefer ops = true) (hQ : ∀ a w, ¬ Q .outgrown a w) {i : Nat} {K : Act → World → Prop} {a : Act} {w : World} (h : wpOp P ops Q i K a w) : wpOpIn (Fence.wide.inRound l) n P ops Q i K a w := by
  unfold wpOp at h
  unfold wpOpIn
  cases ho : ops[i]? with
  | none => simp only [ho] at h ⊢; exact h
  | some o =>
    simp only [ho] at h ⊢
    split
    · rename_i hw
      rw [if_pos hw] at h
      rcases h with h | ⟨_, a, w, h⟩
      · exact wpIn_of_oper (noDefer_at hnd ho) h
      · exact absurd h (hQ a w)
    · rename_i hw
      rw [if_neg hw] at h
      exact ⟨fun f _ => trivial, h⟩
theorem wpAnyIn_of {n l : Nat} {P : Program} {ops : Array Oper} {Q : Exit → Act → World → Prop} {md : Region.Mode} (hnd : noDefer ops = true) (hQ : ∀ a w, ¬ Q .outgrown a w) : ∀ (fuel : Nat) (listed : Array Bool) (a : Act) (w : World), wpAny P md ops Q fuel listed a w → wpAnyIn (Fence.wide.inRound l) n P md ops Q fuel listed a w
  | 0, _, _, _, h => h
  | fuel + 1, listed, a, w, h => ⟨h.1, fun i hi => wpOpIn_mono (fun a' w' h' => wpAnyIn_of hnd hQ fuel _ a' w' h') (wpOpIn_of hnd hQ (h.2 i hi))⟩
theorem wpIn_region_held_round {n l : Nat} {P : Program} {ops : Array Oper} {Q : Exit → Act → World → Prop} {S : World → Prop} {id : Nat} {a : Act} {w : World} (hm : P.follows .mixedOrders = true) (hnd : noDefer ops = true) (hQ : ∀ a w, ¬ Q .outgrown a w) (hS : S w.drew)
    (h : S w.drew → wpAnyH P .any ops Q S ops.size (Array.replicate ops.size false) a w.drew) : (Code.region id ops true).wpIn (Fence.wide.inRound l) n P Q a w :=
  wpIn_region_any hm (wpAnyIn_of hnd hQ _ _ _ _ (wpAny_of_held _ _ _ _ (h hS)))
end Go.Proofs.YtngpplmndpmgiaaGreat.Tree
namespace Go.Proofs.YtngpplmndpmgiaaGreat.Tree
open Go.Conc.Locks
abbrev muLink : MuLink := { lock := 30, unlock := 31, ilock := 55, iunlock := 56, lockSlow := 84, unlockSlow := 87, disable := 80, enable := 82, acquire := 83, relMerge := 85, cas32 := 81, add32 := 86, tMutex := 69, tIMutex := 67, tPMutex := 114, tPIMutex := 139, tPI32 := 141, tUP := 143, tNoCopy := 64, tU32 := 65 }
theorem muLib : MuLib Tryz.prog muLink :=
  ⟨Tryz.func30, Tryz.func31, Tryz.func55, Tryz.func56, Tryz.func80, Tryz.func82, Tryz.func83, Tryz.func85, Tryz.func81, Tryz.func86,
   Tryz.underlying67, Tryz.runUnderlying67, Tryz.sizeOf67, Tryz.isAgg67, Tryz.zeroValue67,
   Tryz.underlying69, Tryz.runUnderlying69, Tryz.sizeOf69, Tryz.isAgg69, Tryz.zeroValue69,
   Tryz.underlying114, Tryz.runUnderlying114, Tryz.sizeOf114, Tryz.isAgg114, Tryz.zeroValue114,
   Tryz.underlying139, Tryz.runUnderlying139, Tryz.sizeOf139, Tryz.isAgg139, Tryz.zeroValue139,
   Tryz.underlying141, Tryz.runUnderlying141, Tryz.sizeOf141, Tryz.isAgg141, Tryz.zeroValue141,
   Tryz.underlying143, Tryz.runUnderlying143, Tryz.sizeOf143, Tryz.isAgg143, Tryz.zeroValue143,
   Tryz.underlying64, Tryz.runUnderlying64, Tryz.sizeOf64, Tryz.isAgg64, Tryz.zeroValue64,
   Tryz.underlying21, Tryz.runUnderlying21, Tryz.sizeOf21, Tryz.isAgg21, Tryz.zeroValue21,
   by kernel_rfl⟩
end Go.Proofs.YtngpplmndpmgiaaGreat.Tree
namespace Go.Proofs.YtngpplmndpmgiaaGreat.Tree
open Go.RowKit Go.MuLone
set_option linter.unusedSimpArgs false
set_option linter.unusedVariables false
set_option maxRecDepth 100000 in
theorem caught1_idle (p : Addr) (w : World) :
    CallsD Tryz.prog 72 #[.pointer (some p)] .returning w fun e u' w' => e = .returned (.tuple #[]) ∧ u' = .returning ∧ w' = w := by
  refine callsD_of_wpS Tryz.func72 rfl fun c₀ cs hu => ?_
  apply wpS_seq
  apply wpS_region
  simp [wpOpsS, go_sem, recoverD, hu, Tryz.ntmps72, Exit.thenS]
  apply wpS_seq
  apply wpS_seq
  apply wpS_region
  simp [wpOpsS, go_sem, recoverD, hu, Tryz.ntmps72, Exit.thenS]
  refine wpS_cond (t := true) (by simp [Act.eval, Array.replicate]) ?_
  simp only [if_true]
  refine wpS_of_wp (wp_ret ?_)
  cases c₀
  simp_all [bodyPostS, results, Exit.thenS, Tryz.results72]
set_option maxRecDepth 100000 in
set_option maxHeartbeats 1600000 in
theorem caught_any (g : Nat) (first lb : Array Value) (eg : ∀ args w, (callFunc g args).run Tryz.prog w = .ok (.enter g args) w) (w : World) (R : Int → World → Prop)
    (h : Calls Tryz.prog g (first ++ lb) (w.alloc (.cells #[.int .i64 0] 37)) fun e w' => ∃ z, e = .returned (.int .i64 z) ∧ w'.heap[w.heap.size]? = some (.cells #[.int .i64 0] 37) ∧ R z w') :
    Calls Tryz.prog 48 #[.func (.func g) first lb] w fun e w' => ∃ z W, e = .returned (.int .i64 z) ∧ R z W ∧ w' = W.setCell ⟨w.heap.size, 0, none⟩ (.int .i64 z) := by
  have hmf : ∀ (fn : Fn) (first cap : Array Value) (w : World), (Instr.makeFunc fn first cap).run Tryz.prog w = .ok (.func fn first cap) w := fun _ _ _ _ => rfl
  go_enter_defers Tryz.func48, Tryz.ntmps48
  go_wp2_with (fail)
  refine h.mono ?_
  rintro e W ⟨z, rfl, hb, hR⟩
  have hc : W.cell? ⟨w.heap.size, 0, none⟩ = some (.int .i64 0) := by simp [World.cell?, hb]
  have hz : W.frozen? ⟨w.heap.size, 0, none⟩ = false := by simp [World.frozen?, hb]
  go_wp2
  refine leaves_cons (f := 72) (args := #[.pointer (some ⟨w.heap.size, 0, none⟩)]) (by simp) (by simp [go_sem]) ?_
  refine (caught1_idle ⟨w.heap.size, 0, none⟩ _).mono ?_
  rintro e u' w'' ⟨rfl, rfl, rfl⟩
  have hs : (W.setCell ⟨w.heap.size, 0, none⟩ (.int .i64 z)).cell? ⟨w.heap.size, 0, none⟩ = some (.int .i64 z) := World.cell?_setCell_same _ _ _ hc
  simp only [Leaves, settle]
  refine ⟨.int .i64 z, ?_, z, W, rfl, hR, rfl⟩
  simp [results, Tryz.results48, go_sem, hs]
set_option maxRecDepth 100000 in
set_option maxHeartbeats 1600000 in
theorem face_any (d : Nat) (g : Nat) (first lb : Array Value) (eg : ∀ args w, (callFunc g args).run Tryz.prog w = .ok (.enter g args) w) (w : World) (R : Int → World → Prop) (cs : Array Value) (hd : w.heap[d]? = some (.cells cs 75)) (h0 : cs[0]? = some (.int .i32 0))
    (h : Calls Tryz.prog g (first ++ lb) ((w.setCell ⟨d, 0, none⟩ (.int .i32 1)).alloc (.cells #[.int .i64 0] 37)) fun e w' => ∃ z, e = .returned (.int .i64 z) ∧ w'.heap[w.heap.size]? = some (.cells #[.int .i64 0] 37) ∧ (∃ cs', w'.heap[d]? = some (.cells cs' 75) ∧ cs'[0]? = some (.int .i32 1)) ∧ R z w') :
    Calls Tryz.prog 28 #[.pointer (some ⟨d, 0, none⟩), .func (.func g) first lb] w fun e w' => ∃ z W, e = .returned (.int .i64 z) ∧ R z W ∧ w' = (W.setCell ⟨w.heap.size, 0, none⟩ (.int .i64 z)).setCell ⟨d, 0, none⟩ (.int .i32 0) := by
  have c0 : w.cell? ⟨d, 0, none⟩ = some (.int .i32 0) := by simp [World.cell?, hd, h0]
  have f0 : w.frozen? ⟨d, 0, none⟩ = false := by simp [World.frozen?, hd]
  have hdlt : d < w.heap.size := (Array.getElem?_eq_some_iff.1 hd).1
  have hC := caught_any g first lb eg (w.setCell ⟨d, 0, none⟩ (.int .i32 1)) (fun z w' => (∃ cs', w'.heap[d]? = some (.cells cs' 75) ∧ cs'[0]? = some (.int .i32 1)) ∧ R z w') (by simpa using h)
  go_enter_defers Tryz.func28, Tryz.ntmps28
  go_wp2_with (first
    | (go_at_call 30; refine (lock_free muLib ⟨d, 0, none⟩ _ c0 f0).mono ?_; rintro e w' ⟨rfl, rfl⟩)
    | (go_at_call 48; refine hC.mono ?_; rintro e w' ⟨z, W, rfl, ⟨⟨cs', hd', h1'⟩, hR⟩, rfl⟩))
  have e1 : (w.setCell ⟨d, 0, none⟩ (.int .i32 1)).heap.size = w.heap.size := by simp [World.setCell]
  refine leaves_cons (f := 31) (args := #[.pointer (some ⟨d, 0, none⟩)]) (by simp) (by simp [go_sem]) ?_
  refine (unlock_deferred muLib ⟨d, 0, none⟩ .returning _ ?_ ?_).mono ?_
  · rw [World.cell?_setCell_other _ _ _ _ (by simp)]
    simp [World.cell?, hd', h1']
  · rw [World.frozen?_setCell]
    simp [World.frozen?, hd']
  rintro e u' w'' ⟨rfl, rfl, rfl⟩
  exact ⟨_, results_tmp rfl _ _ _, z, W, rfl, hR, rfl⟩
end Go.Proofs.YtngpplmndpmgiaaGreat.Tree
namespace Go.Proofs.YtngpplmndpmgiaaGreat.Tree
open Go.RowKit Go.MuLone Go.Proofs.YtngpplmndpmgiaaGreat.Pages
set_option linter.unusedSimpArgs false
set_option linter.unusedVariables false
def Tk (w : World) (v : Value) (ks : List ByteArray) : Prop := v = .map none ∧ ks = []
structure Tx where
  b : Nat
  num : Int
  wr : Bool
  root : Nat
  cs : List Ch
  ca : Option Addr
  cc : Nat
  tk : Value
  ks : List ByteArray
abbrev Tx.cv (t : Tx) : Value := .slice t.ca t.cs.length t.cc
abbrev txO (β : Nat) (t : Tx) : Obj := .cells #[.int .i64 t.num, .bool t.wr, .pointer (some ⟨β, 0, none⟩), .int .i64 t.root, t.cv, t.tk] 86
structure TxAt (w : World) (β : Nat) (t : Tx) : Prop where
  box : w.heap[t.b]? = some (txO β t)
  row : w.ownsRow 0 100 3 t.cv t.cs.length (t.cs.flatMap Ch.cells)
  tk : Tk w t.tk t.ks
def fpT (t : Tx) : Bl := fun k => k = t.b ∨ t.cv.ownBlock = some k
theorem TxAt.on {w w' : World} {β : Nat} {t : Tx} (h : TxAt w β t) (ho : On (fpT t) w w') : TxAt w' β t := ⟨ho.heap h.box (.inl rfl), own_on h.row ho (fun k hk => .inr hk), h.tk⟩
theorem TxAt.lies {w : World} {β : Nat} {t : Tx} (h : TxAt w β t) : ∀ k, fpT t k → k < w.heap.size := by
  rintro k (rfl | hk)
  · exact (Array.getElem?_eq_some_iff.1 h.box).1
  · exact own_lt h.row hk
structure Db where
  d : Nat
  β : Nat
  sv : Value
  lv : Value
  fs : Fs
  ver : Int
  root : Nat
  aroot : Nat
  ka : Option Addr
  ia : Option Addr
  ea : Option Addr
  kc : Nat
  ic : Nat
  ec : Nat
  failed : Bool
  last : Int
  ov : Value
  ts : List Tx
abbrev dbC (st : Int) (D : Db) : Array Value := #[.int .i32 st, .int .u32 0, .pointer (some ⟨D.β, 0, none⟩), .int .i64 1, .int .i64 D.ver, .int .i64 D.root, .int .i64 0, .slice D.ka 0 D.kc, .slice D.ia 0 D.ic, .slice D.ea 0 D.ec, .string ⟨#[]⟩, .int .i64 D.aroot, .bool D.failed, .int .i64 D.last, D.ov]
abbrev dbO (st : Int) (D : Db) : Obj := .cells (dbC st D) 75
def ptrs (ts : List Tx) : List Value := ts.map fun t => .pointer (some ⟨t.b, 0, none⟩)
def TxApart (a b : Tx) : Prop := ∀ k, fpT a k → ¬ fpT b k
structure DbAt (w : World) (st : Int) (D : Db) : Prop where
  box : w.heap[D.d]? = some (dbO st D)
  file : FileAt w D.β D.sv D.lv D.fs
  row : w.ownsRow 0 78 1 D.ov D.ts.length (ptrs D.ts)
  each : ∀ t ∈ D.ts, TxAt w D.β t
  apart : D.ts.Pairwise TxApart
def fpD (D : Db) : Bl := fun k => k = D.d ∨ fpF D.β D.sv D.lv k ∨ D.ov.ownBlock = some k ∨ ∃ t ∈ D.ts, fpT t k
theorem DbAt.on {w w' : World} {st : Int} {D : Db} (h : DbAt w st D) (ho : On (fpD D) w w') : DbAt w' st D :=
  ⟨ho.heap h.box (.inl rfl), h.file.on (ho.mono (fun k hk => .inr (.inl hk))), own_on h.row ho (fun k hk => .inr (.inr (.inl hk))), fun t ht => (h.each t ht).on (ho.mono (fun k hk => .inr (.inr (.inr ⟨t, ht, hk⟩)))), h.apart⟩
theorem DbAt.lies {w : World} {st : Int} {D : Db} (h : DbAt w st D) : ∀ k, fpD D k → k < w.heap.size := by
  rintro k (rfl | hk | hk | ⟨t, ht, hk⟩)
  · exact (Array.getElem?_eq_some_iff.1 h.box).1
  · exact h.file.lies k hk
  · exact own_lt h.row hk
  · exact (h.each t ht).lies k hk
theorem file_apart {w : World} {β : Nat} {sv lv : Value} {fs : Fs} (h : FileAt w β sv lv fs) {k : Nat} {cs : Array Value} {t : TypeId} (hk : w.heap[k]? = some (.cells cs t)) (h1 : t ≠ 60) (h2 : t ≠ 9) (h3 : t ≠ 62) : ¬ fpF β sv lv k := by
  rintro (rfl | h' | h')
  · rw [h.box] at hk
    simp at hk
    exact h1 hk.2.symm
  · exact own_ne h.safe hk h2 h'
  · exact own_ne h.late hk h3 h'
theorem tx_apart {w : World} {β : Nat} {x : Tx} (h : TxAt w β x) {k : Nat} {cs : Array Value} {t : TypeId} (hk : w.heap[k]? = some (.cells cs t)) (h1 : t ≠ 86) (h2 : t ≠ 100) : ¬ fpT x k := by
  rintro (rfl | h')
  · rw [h.box] at hk
    simp at hk
    exact h1 hk.2.symm
  · exact own_ne h.row hk h2 h'
theorem DbAt.noFile {w : World} {st : Int} {D : Db} (h : DbAt w st D) : ¬ fpF D.β D.sv D.lv D.d := file_apart h.file h.box (by decide) (by decide) (by decide)
theorem DbAt.noTx {w : World} {st : Int} {D : Db} (h : DbAt w st D) {t : Tx} (ht : t ∈ D.ts) : ¬ fpT t D.d := tx_apart (h.each t ht) h.box (by decide) (by decide)
theorem DbAt.noRow {w : World} {st : Int} {D : Db} (h : DbAt w st D) : D.ov.ownBlock ≠ some D.d := own_ne h.row h.box (by decide)
theorem DbAt.rebox {w w' : World} {st st' : Int} {D D' : Db} (h : DbAt w st D) (f : Fr (Bl.one D.d) w w') (e1 : D'.d = D.d) (e2 : D'.β = D.β) (e3 : D'.sv = D.sv) (e4 : D'.lv = D.lv) (e5 : D'.fs = D.fs) (e6 : D'.ov = D.ov) (e7 : D'.ts = D.ts) (hb : w'.heap[D.d]? = some (dbO st' D')) : DbAt w' st' D' := by
  have one : ∀ {Z : Bl}, (∀ k, Z k → k < w.heap.size ∧ k ≠ D.d) → On Z w w' := fun hz => f.on (fun k hk => ⟨(hz k hk).1, fun e => (hz k hk).2 e⟩)
  refine ⟨by rw [e1]; exact hb, ?_, ?_, ?_, by rw [e7]; exact h.apart⟩
  · rw [e2, e3, e4, e5]
    exact h.file.on (one (fun k hk => ⟨h.file.lies k hk, fun e => h.noFile (e ▸ hk)⟩))
  · rw [e6, e7]
    exact own_on h.row (one (Z := fun k => D.ov.ownBlock = some k) (fun k hk => ⟨own_lt h.row hk, fun e => h.noRow (e ▸ hk)⟩)) (fun k hk => hk)
  · rw [e7, e2]
    intro t ht
    exact (h.each t ht).on (one (fun k hk => ⟨(h.each t ht).lies k hk, fun e => h.noTx ht (e ▸ hk)⟩))
theorem DbAt.lock {w : World} {st st' : Int} {D : Db} (h : DbAt w st D) : DbAt (w.setCell ⟨D.d, 0, none⟩ (.int .i32 st')) st' D :=
  h.rebox ((Fr.refl (Bl.one D.d) w).setCell (p := ⟨D.d, 0, none⟩) (.inl rfl) _) rfl rfl rfl rfl rfl rfl rfl (by have := set_of h.box 0 (.int .i32 st'); simpa using this)
theorem On.of_fr {Y Z : Bl} {w w' : World} (h : Fr Y w w') (hz : ∀ k, Z k → k < w.heap.size ∧ ¬ Y k) : On Z w w' := h.on hz
theorem box15 {w : World} {β : Nat} {a0 a1 a2 a3 a4 a5 a6 a7 a8 a9 a10 a11 a12 a13 a14 : Value} {t : TypeId} (h : w.heap[β]? = some (.cells #[a0, a1, a2, a3, a4, a5, a6, a7, a8, a9, a10, a11, a12, a13, a14] t)) :
    w.cell? ⟨β, 0, none⟩ = some a0 ∧ w.cell? ⟨β, 1, none⟩ = some a1 ∧ w.cell? ⟨β, 2, none⟩ = some a2 ∧ w.cell? ⟨β, 3, none⟩ = some a3 ∧ w.cell? ⟨β, 4, none⟩ = some a4 ∧ w.cell? ⟨β, 5, none⟩ = some a5 ∧ w.cell? ⟨β, 6, none⟩ = some a6 ∧ w.cell? ⟨β, 7, none⟩ = some a7 ∧ w.cell? ⟨β, 8, none⟩ = some a8 ∧ w.cell? ⟨β, 9, none⟩ = some a9 ∧ w.cell? ⟨β, 10, none⟩ = some a10 ∧ w.cell? ⟨β, 11, none⟩ = some a11 ∧ w.cell? ⟨β, 12, none⟩ = some a12 ∧ w.cell? ⟨β, 13, none⟩ = some a13 ∧ w.cell? ⟨β, 14, none⟩ = some a14 := by
  simp [World.cell?, h]
set_option maxRecDepth 100000 in
set_option maxHeartbeats 1600000 in
theorem version_any (D : Db) (w : World) (h : DbAt w 0 D) :
    Calls Tryz.prog 15 #[.pointer (some ⟨D.d, 0, none⟩)] w fun e w' => e = .returned (.int .i64 D.ver) ∧ DbAt w' 0 D ∧ Fr Bl.none w w' := by
  have h1 := h.lock (st' := 1)
  obtain ⟨c0, c1, c2, c3, c4, c5, c6, c7, c8, c9, c10, c11, c12, c13, c14⟩ := box15 h.box
  have f0 : w.frozen? ⟨D.d, 0, none⟩ = false := free_of h.box 0
  obtain ⟨W1, hW1⟩ : ∃ W1, w.setCell ⟨D.d, 0, none⟩ (.int .i32 1) = W1 := ⟨_, rfl⟩
  rw [hW1] at h1
  obtain ⟨d0, d1, d2, d3, d4, d5, d6, d7, d8, d9, d10, d11, d12, d13, d14⟩ := box15 h1.box
  have g0 : W1.frozen? ⟨D.d, 0, none⟩ = false := free_of h1.box 0
  have h2 := h1.lock (st' := 0)
  have hlt : D.d < w.heap.size := (Array.getElem?_eq_some_iff.1 h.box).1
  have F : Fr Bl.none w (W1.setCell ⟨D.d, 0, none⟩ (.int .i32 0)) := by
    have F1 : Fr (Bl.one D.d) w (W1.setCell ⟨D.d, 0, none⟩ (.int .i32 0)) := (hW1 ▸ (Fr.refl (Bl.one D.d) w).setCell (p := ⟨D.d, 0, none⟩) (.inl rfl) _ : Fr (Bl.one D.d) w W1).setCell (p := ⟨D.d, 0, none⟩) (.inl rfl) _
    refine ⟨F1.os, F1.tape, F1.output, F1.size, fun k hk _ => ?_⟩
    by_cases e : k = D.d
    · subst e; rw [h2.box, h.box]
    · exact F1.block k hk e
  go_enter_defers Tryz.func15, Tryz.ntmps15
  go_wp2_with (go_at_call 30; refine (lock_free muLib ⟨D.d, 0, none⟩ _ c0 f0).mono ?_; rintro e w' ⟨rfl, hw'⟩; rw [hW1] at hw'; subst w')
  refine leaves_cons (f := 31) (args := #[.pointer (some ⟨D.d, 0, none⟩)]) (by simp) (by simp [go_sem]) ?_
  refine (unlock_deferred muLib ⟨D.d, 0, none⟩ .returning _ d0 g0).mono ?_
  rintro e u' w'' ⟨rfl, rfl, rfl⟩
  exact ⟨_, results_tmp rfl _ _ _, rfl, h2, F⟩
end Go.Proofs.YtngpplmndpmgiaaGreat.Tree
namespace Go.Proofs.YtngpplmndpmgiaaGreat.Tree
open Go.RowKit Go.MuLone Go.Proofs.YtngpplmndpmgiaaGreat.Pages
set_option linter.unusedSimpArgs false
set_option linter.unusedVariables false
theorem lt_of_cell {w : World} {b o : Nat} {v : Value} (h : w.cell? ⟨b, o, none⟩ = some v) : b < w.heap.size := by
  rcases Nat.lt_or_ge b w.heap.size with h1 | h1
  · exact h1
  · have : w.heap[b]? = none := Array.getElem?_eq_none h1
    simp [World.cell?, this] at h
set_option maxRecDepth 100000 in
set_option maxHeartbeats 1600000 in
theorem treeAt_any (d β : Nat) (root : Int) (w : World) (hc : w.cell? ⟨d, 2, none⟩ = some (.pointer (some ⟨β, 0, none⟩))) :
    Calls Tryz.prog 32 #[.pointer (some ⟨d, 0, none⟩), .int .i64 root] w fun e w' => e = .returned (.agg #[.pointer (some ⟨β, 0, none⟩), .int .i64 root, .slice none 0 0]) ∧ Below w.heap.size w w' := by
  obtain ⟨W1, hW1⟩ : ∃ W1, w.alloc (.cells #[.pointer none, .int .i64 0, .slice none 0 0] 82) = W1 := ⟨_, rfl⟩
  have b1 : Below w.heap.size w W1 := hW1 ▸ (Below.refl _ _).alloc (Nat.le_refl _) _
  have x1 : W1.heap[w.heap.size]? = some (.cells #[.pointer none, .int .i64 0, .slice none 0 0] 82) := hW1 ▸ heap_new w _
  have hlt : d < w.heap.size := lt_of_cell hc
  have hc1 : W1.cell? ⟨d, 2, none⟩ = some (.pointer (some ⟨β, 0, none⟩)) := by
    rw [World.cell?_of_block (w := w) (b1.block d hlt)]; exact hc
  have m0 : W1.cell? ⟨w.heap.size, 0, none⟩ = some (.pointer none) := by simp [World.cell?, x1]
  have m1 : W1.cell? ⟨w.heap.size, 1, none⟩ = some (.int .i64 0) := by simp [World.cell?, x1]
  have m2 : W1.cell? ⟨w.heap.size, 2, none⟩ = some (.slice none 0 0) := by simp [World.cell?, x1]
  have mfr := free_of x1
  have e3 := set_of (set_of (set_of x1 0 (.pointer (some ⟨β, 0, none⟩))) 1 (.int .i64 root)) 2 (.slice none 0 0)
  have HB : Hid (Below w.heap.size w (((W1.setCell ⟨w.heap.size, 0, none⟩ (.pointer (some ⟨β, 0, none⟩))).setCell ⟨w.heap.size, 1, none⟩ (.int .i64 root)).setCell ⟨w.heap.size, 2, none⟩ (.slice none 0 0))) :=
    ((b1.setCell (p := ⟨w.heap.size, 0, none⟩) (Nat.le_refl _) _).setCell (p := ⟨w.heap.size, 1, none⟩) (Nat.le_refl _) _).setCell (p := ⟨w.heap.size, 2, none⟩) (Nat.le_refl _) _
  have E3 : Hid ((((W1.setCell ⟨w.heap.size, 0, none⟩ (.pointer (some ⟨β, 0, none⟩))).setCell ⟨w.heap.size, 1, none⟩ (.int .i64 root)).setCell ⟨w.heap.size, 2, none⟩ (.slice none 0 0)).heap[w.heap.size]? = some (.cells #[.pointer (some ⟨β, 0, none⟩), .int .i64 root, .slice none 0 0] 82)) := by
    show _ = _; simpa using e3
  clear e3
  go_enter Tryz.func32, Tryz.ntmps32
  go_wp2
  refine bodyPost_ret (v := .agg #[.pointer (some ⟨β, 0, none⟩), .int .i64 root, .slice none 0 0]) ?_ rfl ⟨rfl, HB.out⟩
  exact results_cell_row (p := 4) rfl _ _ w.heap.size _ _ _ _ rfl E3.out Tryz.underlying82 rfl (by kernel_rfl)
theorem DbAt.fileRow {w : World} {st : Int} {D : Db} (h : DbAt w st D) : ∀ k, fpF D.β D.sv D.lv k → D.ov.ownBlock ≠ some k := by
  rintro k (rfl | hk | hk) e
  · exact own_ne h.row h.file.box (by decide) e
  · rcases own_ne2 h.row h.file.safe (by decide) with h1 | h1
    · rw [h1] at e; cases e
    · exact h1 (e.trans hk.symm)
  · rcases own_ne2 h.row h.file.late (by decide) with h1 | h1
    · rw [h1] at e; cases e
    · exact h1 (e.trans hk.symm)
theorem DbAt.txRow {w : World} {st : Int} {D : Db} (h : DbAt w st D) {t : Tx} (ht : TxAt w D.β t) : ∀ k, fpT t k → D.ov.ownBlock ≠ some k := by
  rintro k (rfl | hk) e
  · exact own_ne h.row ht.box (by decide) e
  · rcases own_ne2 h.row ht.row (by decide) with h1 | h1
    · rw [h1] at e; cases e
    · exact h1 (e.trans hk.symm)
theorem DbAt.pushed {wX w3 : World} {st : Int} {D : Db} {t : Tx} {v3 : Value} (h : DbAt wX st D) (ht : TxAt wX D.β t) (hd : ¬ fpT t D.d) (hn : ∀ x ∈ D.ts, TxApart x t) (A : AppR 78 1 D.ov D.ts.length (ptrs D.ts) [.pointer (some ⟨t.b, 0, none⟩)] 1 wX v3 w3) :
    DbAt (w3.setCell ⟨D.d, 14, none⟩ v3) st { D with ov := v3, ts := D.ts ++ [t] } := by
  have on3 : ∀ {Z : Bl}, (∀ k, Z k → k < wX.heap.size ∧ D.ov.ownBlock ≠ some k ∧ k ≠ D.d) → On Z wX (w3.setCell ⟨D.d, 14, none⟩ v3) := fun hz => (A.fr.on (fun k hk => ⟨(hz k hk).1, (hz k hk).2.1⟩)).setCell (p := ⟨D.d, 14, none⟩) (fun hk => (hz _ hk).2.2 rfl) _
  have b3 := A.fr.heap h.box h.noRow
  refine ⟨by have := set_of b3 14 v3; simpa using this, ?_, ?_, ?_, ?_⟩
  · exact h.file.on (on3 (fun k hk => ⟨h.file.lies k hk, h.fileRow k hk, fun e => h.noFile (e ▸ hk)⟩))
  · have hr := A.row
    have hne := own_ne A.row b3 (by decide)
    have : w3.ownsRow 0 78 1 v3 (D.ts ++ [t]).length (ptrs (D.ts ++ [t])) := by
      rw [List.length_append, List.length_singleton, ptrs, List.map_append]; exact hr
    exact own_on this ((On.refl (fun k => v3.ownBlock = some k) w3).setCell (p := ⟨D.d, 14, none⟩) (fun hk => hne hk) _) (fun k hk => hk)
  · intro x hx
    rcases List.mem_append.1 hx with hx | hx
    · exact (h.each x hx).on (on3 (fun k hk => ⟨(h.each x hx).lies k hk, h.txRow (h.each x hx) k hk, fun e => h.noTx hx (e ▸ hk)⟩))
    · rw [List.mem_singleton] at hx
      subst hx
      exact ht.on (on3 (fun k hk => ⟨ht.lies k hk, h.txRow ht k hk, fun e => hd (e ▸ hk)⟩))
  · exact List.pairwise_append.2 ⟨h.apart, by simp, fun a ha b hb => by rw [List.mem_singleton] at hb; subst hb; exact hn a ha⟩
abbrev newTx (b : Nat) (num : Int) (wr : Bool) (root : Nat) : Tx := ⟨b, num, wr, root, [], none, 0, .map none, []⟩
theorem newTx_at {w : World} {b β : Nat} {num : Int} {wr : Bool} {root : Nat} (h : w.heap[b]? = some (txO β (newTx b num wr root))) : TxAt w β (newTx b num wr root) := ⟨h, World.ownsRow_nil _ _ _ _, rfl, rfl⟩
theorem newTx_fp {b : Nat} {num : Int} {wr : Bool} {root : Nat} {k : Nat} (h : fpT (newTx b num wr root) k) : k = b := by
  rcases h with h | h
  · exact h
  · simp [Value.ownBlock] at h
theorem wp_blind {P : Program} {c : Code} {K : Act → World → Prop} {Q : Exit → Act → World → Prop} {a : Act} {w : World} (h : c.wp P (Exit.then K (fun _ _ _ => False)) a w) : c.wp P (Exit.then K Q) a w :=
  Code.wp_mono (fun e a w h => by cases e <;> first | exact h | exact h.elim) h
theorem infoTx : (Tryz.prog.info? 78).map (fun i => (i.zero, i.size, i.bytes)) = some (some (.pointer none), 1, 8) := by kernel_rfl
set_option maxRecDepth 100000 in
set_option maxHeartbeats 4000000 in
theorem begin_any (D : Db) (wr : Bool) (w : World) (h : DbAt w 0 D) (hn : D.ts.length < 8) (hl0 : 0 ≤ D.last) (hl1 : D.last < 1000000000) :
    Calls Tryz.prog 16 #[.pointer (some ⟨D.d, 0, none⟩), .bool wr] w fun e w' => e = .returned (.tuple #[.int .i64 (D.last + 1), .int .i64 0]) ∧
      ∃ b ov', DbAt w' 0 { D with last := D.last + 1, ov := ov', ts := D.ts ++ [newTx b (D.last + 1) wr D.root] } ∧ Fr (fpD D) w w' ∧ w.heap.size ≤ b ∧ ∀ k, ov'.ownBlock = some k → D.ov.ownBlock = some k ∨ w.heap.size ≤ k := by
  obtain ⟨d, β, sv, lv, fs, ver, root, aroot, ka, ia, ea, kc, ic, ec, failed, last, ov, ts⟩ := D
  dsimp only at hn hl0 hl1 ⊢
  have hbox : w.heap[d]? = some (dbO 0 ⟨d, β, sv, lv, fs, ver, root, aroot, ka, ia, ea, kc, ic, ec, failed, last, ov, ts⟩) := h.box
  obtain ⟨c0, c1, c2, c3, c4, c5, c6, c7, c8, c9, c10, c11, c12, c13, c14⟩ := box15 hbox
  have f0 : w.frozen? ⟨d, 0, none⟩ = false := free_of hbox 0
  obtain ⟨W1, hW1⟩ : ∃ W1, w.setCell ⟨d, 0, none⟩ (.int .i32 1) = W1 := ⟨_, rfl⟩
  have h1 := h.lock (st' := 1)
  rw [hW1] at h1
  have hbox1 : W1.heap[d]? = some (dbO 1 ⟨d, β, sv, lv, fs, ver, root, aroot, ka, ia, ea, kc, ic, ec, failed, last, ov, ts⟩) := h1.box
  obtain ⟨d0, d1, d2, d3, d4, d5, d6, d7, d8, d9, d10, d11, d12, d13, d14⟩ := box15 hbox1
  have g0 := free_of hbox1
  obtain ⟨W2, hW2⟩ : ∃ W2, W1.setCell ⟨d, 13, none⟩ (.int .i64 (last + 1)) = W2 := ⟨_, rfl⟩
  have hbox2 : W2.heap[d]? = some (dbO 1 ⟨d, β, sv, lv, fs, ver, root, aroot, ka, ia, ea, kc, ic, ec, failed, last + 1, ov, ts⟩) := by rw [← hW2]; have := set_of hbox1 13 (.int .i64 (last + 1)); simpa using this
  have h2 : DbAt W2 1 ⟨d, β, sv, lv, fs, ver, root, aroot, ka, ia, ea, kc, ic, ec, failed, last + 1, ov, ts⟩ := h1.rebox (hW2 ▸ (Fr.refl (Bl.one d) W1).setCell (p := ⟨d, 13, none⟩) (.inl rfl) _) rfl rfl rfl rfl rfl rfl rfl hbox2
  have F2 : Fr (fpD ⟨d, β, sv, lv, fs, ver, root, aroot, ka, ia, ea, kc, ic, ec, failed, last, ov, ts⟩) w W2 := hW2 ▸ (hW1 ▸ (Fr.refl _ w).setCell (p := ⟨d, 0, none⟩) (.inl (.inl rfl)) _ : Fr _ w W1).setCell (p := ⟨d, 13, none⟩) (.inl (.inl rfl)) _
  obtain ⟨k0, k1, k2, k3, k4, k5, k6, k7, k8, k9, k10, k11, k12, k13, k14⟩ := box15 hbox2
  have hadd : IntKind.i64.wrap (last + 1) = last + 1 := by rw [IntKind.wrap_i64]; omega
  have hnb : ((ts.length : Int) == 8) = false := by simp; omega
  obtain ⟨oa, oc, hov⟩ := own_shape h.row
  dsimp only at hov
  subst hov
  have HH : Hid (DbAt W2 1 ⟨d, β, sv, lv, fs, ver, root, aroot, ka, ia, ea, kc, ic, ec, failed, last + 1, .slice oa ts.length oc, ts⟩) := h2
  have HF : Hid (Fr (fpD ⟨d, β, sv, lv, fs, ver, root, aroot, ka, ia, ea, kc, ic, ec, failed, last, .slice oa ts.length oc, ts⟩) w W2) := F2
  have dlt : d < W2.heap.size := (Array.getElem?_eq_some_iff.1 hbox2).1
  clear h h1 hbox hbox1 h2 F2
  go_enter_defers Tryz.func16, Tryz.ntmps16
  go_wp2_with (go_at_call 30; refine (lock_free muLib ⟨d, 0, none⟩ _ c0 f0).mono ?_; rintro e w' ⟨rfl, hw'⟩; rw [hW1] at hw'; subst w')
  clear c0 c1 c2 c3 c4 c5 c6 c7 c8 c9 c10 c11 c12 c13 c14 d0 d1 d2 d3 d4 d5 d6 d7 d8 d9 d10 d11 d12 d13 d14 k0 k1 k3 k4 k6 k7 k8 k9 k10 k11 k12
  refine wp_blind ?_
  go_region_law (first
    | (go_simp; go_at_call 32; refine (treeAt_any d β root _ (by simpa using k2)).mono ?_; rintro e wt ⟨rfl, hbt⟩; have Ft : Fr Bl.none W2 wt := (Fr.refl _ _).drew.trans (Fr.of_below hbt); have bt := Ft.heap hbox2 (fun h => h); obtain ⟨p0, p1, p2, p3, p4, p5, p6, p7, p8, p9, p10, p11, p12, p13, p14⟩ := box15 bt; clear p0 p1 p2 p3 p4 p5 p6 p7 p8 p9 p10 p11 p12; obtain ⟨WX, hWX⟩ : ∃ WX, wt.alloc (.cells #[.int .i64 (last + 1), .bool wr, .pointer (some ⟨β, 0, none⟩), .int .i64 root, .slice none 0 0, .map none] 86) = WX := ⟨_, rfl⟩; have bX : WX.heap[d]? = some (dbO 1 ⟨d, β, sv, lv, fs, ver, root, aroot, ka, ia, ea, kc, ic, ec, failed, last + 1, .slice oa ts.length oc, ts⟩) := hWX ▸ heap_keep _ bt; obtain ⟨q0, q1, q2, q3, q4, q5, q6, q7, q8, q9, q10, q11, q12, q13, q14⟩ := box15 bX; clear q0 q1 q2 q3 q4 q5 q6 q7 q8 q9 q10 q11 q12 q13; have bY := heap_keep (.cells #[.pointer (some ⟨wt.heap.size, 0, none⟩)] 78) bX; obtain ⟨r0, r1, r2, r3, r4, r5, r6, r7, r8, r9, r10, r11, r12, r13, r14⟩ := box15 bY; clear r0 r1 r2 r3 r4 r5 r6 r7 r8 r9 r10 r11 r12 r13; have HX : DbAt WX 1 ⟨d, β, sv, lv, fs, ver, root, aroot, ka, ia, ea, kc, ic, ec, failed, last + 1, .slice oa ts.length oc, ts⟩ := HH.out.on ((Ft.trans (hWX ▸ (Fr.refl _ wt).alloc _)).on (fun k hk => ⟨HH.out.lies k hk, fun h => h⟩)))
    | (refine step_app1 WX rfl (.tmp 30) (.tmp 45) 73 78 _ 1 8 rfl Tryz.underlying73 infoTx rfl (by decide) (.slice oa ts.length oc) ts.length (ptrs ts) (by simp [Act.eval, Act.put]) HX.row [.pointer (some ⟨wt.heap.size, 0, none⟩)] (by simp [Act.eval, Act.put]) rfl (by simp [Value.oneCell']) (by omega) (by omega) ?_; intro v3 w3 A3; obtain ⟨g3, k3, rfl⟩ := A3.shape (by decide); have b3 := A3.fr.heap bX (own_ne HX.row bX (by decide)); obtain ⟨m0, m1, m2, m3, m4, m5, m6, m7, m8, m9, m10, m11, m12, m13, m14⟩ := box15 b3; have mfr := free_of b3; clear m0 m1 m2 m3 m4 m5 m6 m7 m8 m9 m10 m11 m12))
  all_goals
    have hclt : d < w3.heap.size := (Array.getElem?_eq_some_iff.1 b3).1
    have xX : WX.heap[wt.heap.size]? = some (txO β (newTx wt.heap.size (last + 1) wr root)) := hWX ▸ heap_new wt _
    have hTx : TxAt WX β (newTx wt.heap.size (last + 1) wr root) := newTx_at xX
    have hbtd : d < wt.heap.size := (Array.getElem?_eq_some_iff.1 bt).1
    have HD := HX.pushed hTx (fun h => by have := newTx_fp h; dsimp only at this; omega) (fun x hx k hk hk' => by have h1 := HH.out.lies k (.inr (.inr (.inr ⟨x, hx, hk⟩))); have h2 := newTx_fp hk'; have h3 := Ft.size; omega) A3
    have HU := HD.lock (st' := 0)
    have u0 : (w3.setCell ⟨d, 14, none⟩ (.slice (some ⟨g3, 0, none⟩) (ts.length + 1) k3)).cell? ⟨d, 0, none⟩ = some (.int .i32 1) := (box15 HD.box).1
    have u13 : (w3.setCell ⟨d, 14, none⟩ (.slice (some ⟨g3, 0, none⟩) (ts.length + 1) k3)).cell? ⟨d, 13, none⟩ = some (.int .i64 (last + 1)) := (box15 HD.box).2.2.2.2.2.2.2.2.2.2.2.2.2.1
    have uf : (w3.setCell ⟨d, 14, none⟩ (.slice (some ⟨g3, 0, none⟩) (ts.length + 1) k3)).frozen? ⟨d, 0, none⟩ = false := free_of HD.box 0
    obtain ⟨W4, hW4⟩ : ∃ W4, w3.setCell ⟨d, 14, none⟩ (.slice (some ⟨g3, 0, none⟩) (ts.length + 1) k3) = W4 := ⟨_, rfl⟩
    rw [hW4] at u0 u13 uf HU
    have F4 : Fr (fpD ⟨d, β, sv, lv, fs, ver, root, aroot, ka, ia, ea, kc, ic, ec, failed, last, .slice oa ts.length oc, ts⟩) w (W4.setCell ⟨d, 0, none⟩ (.int .i32 0)) := by
      rw [← hW4]
      refine (((HF.out.trans (Ft.mono (fun _ h => h.elim))).trans ((hWX ▸ (Fr.refl _ wt).alloc _ : Fr (fpD ⟨d, β, sv, lv, fs, ver, root, aroot, ka, ia, ea, kc, ic, ec, failed, last, .slice oa ts.length oc, ts⟩) wt WX))).trans (A3.fr.mono (fun k hk => .inl (.inr (.inr (.inl hk)))))).setCell (p := ⟨d, 14, none⟩) (.inl (.inl rfl)) _ |>.setCell (p := ⟨d, 0, none⟩) (.inl (.inl rfl)) _
    have hsz : w.heap.size ≤ wt.heap.size := Nat.le_trans HF.out.size Ft.size
    have hlies : ∀ k, (Value.slice (some ⟨g3, 0, none⟩) (ts.length + 1) k3).ownBlock = some k → (Value.slice oa ts.length oc).ownBlock = some k ∨ w.heap.size ≤ k := fun k hk => (A3.lies k hk).imp id (fun h => by have : wt.heap.size ≤ WX.heap.size := hWX ▸ (by simp); omega)
    have HU' := HU
    clear HU HD hTx xX HX HH HF
    go_wp2
    refine leaves_cons (f := 31) (args := #[.pointer (some ⟨d, 0, none⟩)]) (by simp) (by simp [go_sem]) ?_
    refine (unlock_deferred muLib ⟨d, 0, none⟩ .returning _ (by simpa using u0) (by simpa using uf)).mono ?_
    rintro e u' w'' ⟨rfl, rfl, rfl⟩
    exact ⟨_, results_tmp2 rfl _ _ _, rfl, wt.heap.size, _, HU', F4, hsz, hlies⟩
end Go.Proofs.YtngpplmndpmgiaaGreat.Tree
namespace Go.Proofs.YtngpplmndpmgiaaGreat.Tree
open Go.RowKit Go.Proofs.YtngpplmndpmgiaaGreat.Pages
set_option linter.unusedSimpArgs false
set_option linter.unusedVariables false
def LoIn (K : List ByteArray) (n : NT) : Prop := (n.sp.lo = ⟨#[]⟩ ∨ n.sp.lo ∈ K) ∧ ∀ x ∈ n.ents0, x.e.key ∈ K
theorem leavesP_loIn {fs : Fs} {K : List ByteArray} {es : List En} (hg : ∀ x ∈ es, x.good fs) (hK : ∀ x ∈ es, x.e.key ∈ K) : ∀ n ∈ leavesP es, LoIn K n := by
  intro n hn
  obtain ⟨y, hy, e⟩ := leavesP_lo hg n hn
  exact ⟨.inr (by rw [e]; exact hK y hy), fun x hx => hK x (leavesP_in hg n hn x hx)⟩
theorem joinS_loIn {fs : Fs} {K : List ByteArray} {acc : List NT} {n : NT} {B : List NT} (h : Lst fs (acc ++ n :: B)) (hK : ∀ m ∈ acc ++ n :: B, LoIn K m) : ∀ m ∈ joinS tog0 acc n ++ B, LoIn K m := by
  unfold joinS
  rcases List.eq_nil_or_concat acc with rfl | ⟨A, l, rfl⟩
  · simpa using hK
  · simp only [List.concat_eq_append] at h hK ⊢
    rw [List.getLast?_append]
    simp only [List.getLast?_singleton, Option.some_or]
    split
    · rw [List.dropLast_concat, List.append_assoc]
      intro m hm
      simp only [List.mem_append] at hm
      rcases hm with hm | hm | hm
      · exact hK m (by simp [hm])
      · refine leavesP_loIn (fs := fs) (fun x hx => ?_) (fun x hx => ?_) m hm
        · rcases List.mem_append.1 hx with hx | hx
          · exact (ok0_ents (h.ok l (by simp))).2.2 x hx
          · exact (ok0_ents (h.ok n (by simp))).2.2 x hx
        · rcases List.mem_append.1 hx with hx | hx
          · exact (hK l (by simp)).2 x hx
          · exact (hK n (by simp)).2 x hx
      · exact hK m (by simp [hm])
    · simpa using hK
theorem join_loIn {fs : Fs} {K : List ByteArray} : ∀ {ns acc : List NT}, Lst fs (acc ++ ns) → (∀ m ∈ acc ++ ns, LoIn K m) → ∀ m ∈ ns.foldl (joinS tog0) acc, LoIn K m
  | [], acc, _, hK => by simpa using hK
  | n :: ns, acc, h, hK => join_loIn (ns := ns) (acc := joinS tog0 acc n) (joinS_lst h).1 (joinS_loIn h hK)
def TIn (K : List ByteArray) : Nat → T → Prop
  | _, .leaf _ es => ∀ x ∈ es, x.e.key ∈ K
  | 0, .branch _ _ _ => False
  | h + 1, .branch _ ks kids => (∀ k ∈ ks, k ∈ K) ∧ ∀ t ∈ kids, TIn K h t
theorem parts_lo {α : Type} : ∀ (s : Sp) (ks : List ByteArray) (kids : List α), kids.length = ks.length + 1 → ∀ x ∈ parts s ks kids, x.2.lo = s.lo ∨ x.2.lo ∈ ks
  | s, _, [], hl => by simp at hl
  | s, [], a :: kids, hl => by
    have : kids = [] := List.eq_nil_of_length_eq_zero (by simpa using hl)
    subst this
    simp [parts]
  | s, q :: ks, a :: kids, hl => by
    intro x hx
    simp only [parts, List.mem_cons] at hx
    rcases hx with rfl | hx
    · exact .inl rfl
    · rcases parts_lo ⟨q, s.hi⟩ ks kids (by simpa using hl) x hx with h | h
      · exact .inr (by rw [h]; simp)
      · exact .inr (by simp [h])
theorem kidP_loIn {fs : Fs} {K : List ByteArray} {t : T} {x : Sp} {cs : List Ch} (ht : Stands fs 0 t x) (hr : Rise cs) (hc : ∀ c ∈ cs, c.good) (hcK : ∀ c ∈ cs, c.key ∈ K) (htK : TIn K 0 t) (hx : x.lo = ⟨#[]⟩ ∨ x.lo ∈ K) : ∀ n ∈ kidP (t, x) cs, LoIn K n := by
  cases t with
  | branch => exact ht.elim
  | leaf p es =>
    have hre : RiseE es := rise_ents (h := 0) ht
    have hgd := stands_good ht
    by_cases h0 : (ownC cs x).length = 0
    · have e : kidP (.leaf p es, x) cs = [.kept (.leaf p es) x] := by simp [kidP, h0]
      rw [e]
      intro n hn
      rw [List.mem_singleton] at hn; subst hn
      exact ⟨hx, htK⟩
    · have e : kidP (.leaf p es, x) cs = leavesP (overE es (ownC cs x)) := by simp [kidP, h0]
      rw [e]
      have hro := rise_own hr x
      refine leavesP_loIn (over_good (fs := fs) hre hro hgd (fun c h => hc c (mem_own.1 h).1)) ?_
      intro y hy
      rcases (over_mem hre hro y).1 hy with ⟨c, h1, _, rfl⟩ | ⟨h1, _⟩
      · exact hcK c (mem_own.1 h1).1
      · exact htK y h1
theorem kidsP_loIn {fs : Fs} {K : List ByteArray} {p : Nat} {ks : List ByteArray} {kids : List T} {cs : List Ch} (ht : Stands fs 1 (.branch p ks kids) ⟨⟨#[]⟩, ⟨#[]⟩⟩) (hr : Rise cs) (hc : ∀ c ∈ cs, c.good) (hcK : ∀ c ∈ cs, c.key ∈ K) (htK : TIn K 1 (.branch p ks kids)) :
    ∀ n ∈ kidsP ⟨⟨#[]⟩, ⟨#[]⟩⟩ ks kids cs, LoIn K n := by
  obtain ⟨hl, hp, hb, _, hall⟩ := branch_keys ht
  have hpp := parts_pair _ ks kids hl hp hb
  have hk := fun x hx => kidP_in (x := x.2) (t := x.1) (hall x hx) hr hc
  obtain ⟨f1, f2⟩ := flat_lst (fun x => kidP x cs) (parts ⟨⟨#[]⟩, ⟨#[]⟩⟩ ks kids) (fun x hx => (hk x hx).1) hpp
  refine join_loIn (acc := []) f1 ?_
  intro m hm
  obtain ⟨x, hx, hm⟩ := List.mem_flatMap.1 hm
  have hmem : x.1 ∈ kids := by
    have : x.1 ∈ (parts ⟨⟨#[]⟩, ⟨#[]⟩⟩ ks kids).map (·.1) := List.mem_map.2 ⟨x, hx, rfl⟩
    rwa [parts_fst] at this
  refine kidP_loIn (hall x hx) hr hc hcK (htK.2 _ hmem) ?_ m hm
  rcases parts_lo _ ks kids hl x hx with h | h
  · exact .inl h
  · exact .inr (htK.1 _ h)
theorem tot_sub {α : Type} [DecidableEq α] (f : α → Nat) : ∀ {l m : List α}, l.Nodup → (∀ x ∈ l, x ∈ m) → tot f l ≤ tot f m
  | [], m, _, _ => Nat.zero_le _
  | x :: l, m, hn, hs => by
    obtain ⟨h1, h2⟩ := List.nodup_cons.1 hn
    have hm := hs x (by simp)
    have hp : m.Perm (x :: m.erase x) := List.perm_cons_erase hm
    have e : tot f m = f x + tot f (m.erase x) := by
      have := (hp.map f).sum_nat
      simpa [tot] using this
    have ih := tot_sub f (l := l) (m := m.erase x) h2 (fun y hy => by
      have hne : y ≠ x := fun e => h1 (e ▸ hy)
      exact (List.mem_erase_of_ne hne).2 (hs y (by simp [hy])))
    rw [tot_cons, e]; omega
theorem tot_one {α : Type} (l : List α) : tot (fun _ => 1) l = l.length := by
  induction l with
  | nil => rfl
  | cons x l ih => rw [tot_cons, ih, List.length_cons]; omega
theorem len_sub {α : Type} [DecidableEq α] {l m : List α} (hn : l.Nodup) (hs : ∀ x ∈ l, x ∈ m) : l.length ≤ m.length := by
  have := tot_sub (fun _ => 1) hn hs
  rwa [tot_one, tot_one] at this
theorem Lst.los {fs : Fs} {ns : List NT} (h : Lst fs ns) : (ns.map (fun n => n.sp.lo)).Pairwise (fun a b => lt a b = true) := by
  rw [List.pairwise_map]
  refine List.Pairwise.imp_of_mem ?_ h.sep
  intro a b ha hb hab
  obtain ⟨x, hx⟩ := List.exists_mem_of_ne_nil _ (ok0_ents (h.ok a ha)).1
  exact lt_of_le_of_lt (h.lo a ha x hx) (hab x hx)
theorem rise_nodup {l : List ByteArray} (h : l.Pairwise (fun a b => lt a b = true)) : l.Nodup := List.Pairwise.imp (fun h => lt_ne h) h
theorem Lst.size {fs : Fs} {K : List ByteArray} {ns : List NT} (h : Lst fs ns) (hK : ∀ n ∈ ns, LoIn K n) : tot kszT ns ≤ 3 + tot (fun k : ByteArray => k.size + 3) K := by
  have e : tot kszT ns = tot (fun k : ByteArray => k.size + 3) (ns.map (fun n => n.sp.lo)) := by rw [tot, tot, List.map_map]; rfl
  rw [e]
  have := tot_sub (fun k : ByteArray => k.size + 3) (l := ns.map (fun n => n.sp.lo)) (m := ⟨#[]⟩ :: K) (rise_nodup h.los) (fun x hx => by
    obtain ⟨n, hn, rfl⟩ := List.mem_map.1 hx
    rcases (hK n hn).1 with h | h
    · simp [h]
    · simp [h])
  rw [tot_cons] at this
  exact this
theorem Lst.keys {fs : Fs} {ns : List NT} (h : Lst fs ns) : ((entsL ns).map (fun x => x.e.key)).Pairwise (fun a b => lt a b = true) := by
  rw [List.pairwise_map]; exact h.rise
theorem Lst.many {fs : Fs} {K : List ByteArray} {ns : List NT} (h : Lst fs ns) (hK : ∀ n ∈ ns, LoIn K n) : (entsL ns).length ≤ K.length := by
  have := len_sub (l := (entsL ns).map (fun x => x.e.key)) (m := K) (rise_nodup h.keys) (fun x hx => by
    obtain ⟨y, hy, rfl⟩ := List.mem_map.1 hx
    obtain ⟨n, hn, hy⟩ := List.mem_flatMap.1 hy
    exact (hK n hn).2 y hy)
  simpa using this
theorem flat_len_ge {α β : Type} (f : α → List β) : ∀ (l : List α), (∀ x ∈ l, f x ≠ []) → l.length ≤ (l.flatMap f).length
  | [], _ => by simp
  | x :: l, h => by
    have h1 := List.length_pos_iff.2 (h x (by simp))
    have := flat_len_ge f l (fun y hy => h y (by simp [hy]))
    rw [List.flatMap_cons, List.length_append, List.length_cons]; omega
theorem Lst.count {fs : Fs} {ns : List NT} (h : Lst fs ns) : ns.length ≤ (entsL ns).length := flat_len_ge _ _ (fun n hn => (ok0_ents (h.ok n hn)).1)
end Go.Proofs.YtngpplmndpmgiaaGreat.Tree
