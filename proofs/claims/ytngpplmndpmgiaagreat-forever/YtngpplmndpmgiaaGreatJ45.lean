/-
  Joined: Meta, Meta2, Meta3, Txs, Confl, Del.
-/
import Derived.Test.YtngpplmndpmgiaaGreatJ39
import Derived.Test.YtngpplmndpmgiaaGreatJ37
import Derived.Test.YtngpplmndpmgiaaGreatJ22
import Derived.Test.YtngpplmndpmgiaaGreatJ40
import Derived.Deep.RegionHeld3
import Derived.Test.YtngpplmndpmgiaaGreatJ17
import Derived.Lib.SliceRun
import Derived.Deep.RegionLaw
namespace Go.Proofs.YtngpplmndpmgiaaGreat.Tree
open Go.RowKit Go.Proofs.YtngpplmndpmgiaaGreat.Pages
set_option linter.unusedSimpArgs false
set_option linter.unusedVariables false
theorem zeros_kind : (readP (zerosB 256).data.toList).kind = 0 := by
  have h0 : ((zerosB 256).data.toList).getD 0 0 = 0 := by
    show ((List.replicate 256 (0 : UInt8)).toArray.toList).getD 0 0 = 0
    rfl
  unfold readP
  rw [h0]
  rfl
theorem meta_ne {s : ByteArray} {v r : Int} (h : IsPg s (metaPg v r)) : s ≠ zerosB 256 := by
  rintro rfl
  have := congrArg Pg.kind h.2.2.2
  rw [zeros_kind] at this
  simp [metaPg] at this
abbrev metaV (p : Int) (ver root : Int) (ka ia ea : Option Addr) (kc ic ec : Nat) : Array Value := #[.int .i64 p, .bool true, .int .i64 1, .int .i64 ver, .int .i64 root, .int .i64 0, .slice ka 0 kc, .slice ia 0 ic, .slice ea 0 ec, .string ⟨#[]⟩]
abbrev metaO (ver root : Nat) (ka ia ea : Option Addr) (kc ic ec : Nat) : Obj := .cells #[.int .i64 1, .int .i64 ver, .int .i64 root, .int .i64 0, .slice ka 0 kc, .slice ia 0 ic, .slice ea 0 ec, .string ⟨#[]⟩] 72
abbrev meta0 : Obj := .cells #[.int .i64 0, .bool false, .int .i64 0, .int .i64 0, .int .i64 0, .int .i64 0, .slice none 0 0, .slice none 0 0, .slice none 0 0, .string ⟨#[]⟩] 108
theorem set_same {w : World} {b i : Nat} {cs : Array Value} {t : TypeId} {v : Value} (h : w.heap[b]? = some (.cells cs t)) (hv : cs[i]? = some v) : w.setCell ⟨b, i, none⟩ v = w := by
  obtain ⟨hb, he⟩ := Array.getElem?_eq_some_iff.1 h
  have hc : cs.setIfInBounds i v = cs := by
    apply Array.ext_getElem?
    intro j
    rw [Array.getElem?_setIfInBounds]
    split
    · next e => subst e; rw [hv]; split <;> simp_all
    · rfl
  have : (w.setCell ⟨b, i, none⟩ v).heap = w.heap := by
    apply Array.ext_getElem?
    intro k
    by_cases hk : b = k
    · subst hk; rw [set_of h, hc, h]
    · simp only [World.setCell]; rw [Array.getElem?_modify, if_neg hk]
  cases w
  simp only [World.setCell] at this ⊢
  simp only [this]
theorem box10 {w : World} {β : Nat} {a0 a1 a2 a3 a4 a5 a6 a7 a8 a9 : Value} {t : TypeId} (h : w.heap[β]? = some (.cells #[a0, a1, a2, a3, a4, a5, a6, a7, a8, a9] t)) :
    w.cell? ⟨β, 0, none⟩ = some a0 ∧ w.cell? ⟨β, 1, none⟩ = some a1 ∧ w.cell? ⟨β, 2, none⟩ = some a2 ∧ w.cell? ⟨β, 3, none⟩ = some a3 ∧ w.cell? ⟨β, 4, none⟩ = some a4 ∧ w.cell? ⟨β, 5, none⟩ = some a5 ∧ w.cell? ⟨β, 6, none⟩ = some a6 ∧ w.cell? ⟨β, 7, none⟩ = some a7 ∧ w.cell? ⟨β, 8, none⟩ = some a8 ∧ w.cell? ⟨β, 9, none⟩ = some a9 := by
  simp [World.cell?, h]
abbrev set10 (w : World) (b : Nat) (v0 v1 v2 v3 v4 v5 v6 v7 v8 v9 : Value) : World := (((((((((w.setCell ⟨b, 0, none⟩ v0).setCell ⟨b, 1, none⟩ v1).setCell ⟨b, 2, none⟩ v2).setCell ⟨b, 3, none⟩ v3).setCell ⟨b, 4, none⟩ v4).setCell ⟨b, 5, none⟩ v5).setCell ⟨b, 6, none⟩ v6).setCell ⟨b, 7, none⟩ v7).setCell ⟨b, 8, none⟩ v8).setCell ⟨b, 9, none⟩ v9
theorem set10_fr (w : World) (b : Nat) (v0 v1 v2 v3 v4 v5 v6 v7 v8 v9 : Value) : Fr (Bl.one b) w (set10 w b v0 v1 v2 v3 v4 v5 v6 v7 v8 v9) :=
  ((((((((((Fr.refl (Bl.one b) w).setCell (p := ⟨b, 0, none⟩) (.inl rfl) _).setCell (p := ⟨b, 1, none⟩) (.inl rfl) _).setCell (p := ⟨b, 2, none⟩) (.inl rfl) _).setCell (p := ⟨b, 3, none⟩) (.inl rfl) _).setCell (p := ⟨b, 4, none⟩) (.inl rfl) _).setCell (p := ⟨b, 5, none⟩) (.inl rfl) _).setCell (p := ⟨b, 6, none⟩) (.inl rfl) _).setCell (p := ⟨b, 7, none⟩) (.inl rfl) _).setCell (p := ⟨b, 8, none⟩) (.inl rfl) _).setCell (p := ⟨b, 9, none⟩) (.inl rfl) _
theorem set10_box {w : World} {b : Nat} {x0 x1 x2 x3 x4 x5 x6 x7 x8 x9 : Value} {t : TypeId} (h : w.heap[b]? = some (.cells #[x0, x1, x2, x3, x4, x5, x6, x7, x8, x9] t)) (v0 v1 v2 v3 v4 v5 v6 v7 v8 v9 : Value) : (set10 w b v0 v1 v2 v3 v4 v5 v6 v7 v8 v9).heap[b]? = some (.cells #[v0, v1, v2, v3, v4, v5, v6, v7, v8, v9] t) := by
  have := set_of (set_of (set_of (set_of (set_of (set_of (set_of (set_of (set_of (set_of h 0 v0) 1 v1) 2 v2) 3 v3) 4 v4) 5 v5) 6 v6) 7 v7) 8 v8) 9 v9
  simpa using this
set_option maxRecDepth 100000 in
set_option maxHeartbeats 4000000 in
theorem metaAt_any (β : Nat) (sv lv : Value) (fs : Fs) (hl : (fs.life == 0) = false) (p ver root : Nat) (w : World) (hf : FileAt w β sv lv fs) (hp : p < fs.safe.length) (hm : MetaAt fs p ver root) :
    Calls Tryz.prog 74 #[.pointer (some ⟨β, 0, none⟩), .int .i64 p] w fun e w' => ∃ ka ia ea kc ic ec, e = .returned (.agg (metaV p ver root ka ia ea kc ic ec)) ∧ Below w.heap.size w w' := by
  obtain ⟨W1, hW1⟩ : ∃ W1, w.alloc meta0 = W1 := ⟨_, rfl⟩
  have b1 : Below w.heap.size w W1 := hW1 ▸ (Below.refl _ _).alloc (Nat.le_refl _) _
  have x1 : W1.heap[w.heap.size]? = some meta0 := hW1 ▸ heap_new w _
  have hf1 := hf.on (On.of_below b1 hf.lies)
  have hRd := read_any β sv lv fs p W1 hf1
  have hrs : fs.readS p = fs.at p := by unfold Fs.readS; simp [hp, hl]
  have hrb : (decide (p < fs.safe.length) && !(fs.life == 0)) = true := by simp [hp, hl]
  rw [hrs, hrb] at hRd
  clear hrs hrb
  obtain ⟨i0, hi, hz0, hz1, hz2⟩ := info_parts info8
  obtain ⟨w1, hmk, hown, hg⟩ := run_makeSlice_full (P := Tryz.prog) W1 0 115 5 i0 (.int .u8 0) 1 Tryz.underlying115 hi hz0 hz1 .i64 .i64 256 (by omega) (by rw [hz2]; omega) (by unfold maxLen; omega) (Nat.zero_le _)
  rw [made_zeros] at hown
  have hbf : Buf w1 0 (.slice (some ⟨W1.heap.size, 0, none⟩) 256 256) (List.replicate 256 0) := by
    unfold Buf; rw [List.length_replicate]; exact hown
  have hcv := Buf.string hbf
  have HB : Below W1.heap.size W1 w1 := ⟨hg.os, hg.tape, hg.output, hg.size, fun k hk => hg.block k hk (by simp)⟩
  have hmk' : (Instr.makeSlice 115 (.int .i64 256) (.int .i64 256)).run Tryz.prog W1 = .ok (.slice (some ⟨W1.heap.size, 0, none⟩) 256 256) w1 := hmk
  obtain ⟨z, hz'⟩ : ∃ z, zerosB 256 = z := ⟨_, rfl⟩
  have hcv' : (convert 115 9 (.slice (some ⟨W1.heap.size, 0, none⟩) 256 256)).run Tryz.prog w1 = .ok (.string z) w1 := by rw [← hz']; exact hcv
  have x2 := (HB.block _ (Array.getElem?_eq_some_iff.1 x1).1).trans x1
  obtain ⟨c0, c1, c2, c3, c4, c5, c6, c7, c8, c9⟩ := box10 x2
  have cfr := free_of x2
  have B2 : Below w.heap.size w w1 := b1.trans (HB.mono b1.size)
  clear hbf hown hg hcv hmk hi hz0 hz1 hz2
  rcases hm with ⟨hz, rfl, rfl⟩ | hm
  · rw [hz, hz'] at hRd
    clear hz hz'
    have xF := set10_box x2 (.int .i64 p) (.bool true) (.int .i64 1) (.int .i64 0) (.int .i64 0) (.int .i64 0) (.slice none 0 0) (.slice none 0 0) (.slice none 0 0) (.string ⟨#[]⟩)
    have fF := set10_fr w1 w.heap.size (.int .i64 p) (.bool true) (.int .i64 1) (.int .i64 0) (.int .i64 0) (.int .i64 0) (.slice none 0 0) (.slice none 0 0) (.slice none 0 0) (.string ⟨#[]⟩)
    have HXF : Hid _ := xF
    have HFF : Hid _ := fF
    clear xF fF
    go_enter Tryz.func74, Tryz.ntmps74
    go_wp2_with (go_at_call 103; (with_reducible refine Calls.mono hRd ?_); rintro e w2 ⟨rfl, hw2⟩; subst w2)
    refine bodyPost_ret (v := .agg (metaV p 0 0 none none none 0 0 0)) ?_ rfl ⟨none, none, none, 0, 0, 0, rfl, B2.trans (HFF.out.below (by have := B2.size; omega) (fun k hk => by simp only [Bl.one] at hk; omega))⟩
    exact results_cell_row (p := 4) rfl _ _ w.heap.size _ _ _ _ rfl HXF.out Tryz.underlying108 rfl (by kernel_rfl)
  · have hne : ((fs.at p).toList == z.toList) = false := by rw [← hz']; exact list_ne (meta_ne hm)
    obtain ⟨s, hsd⟩ : ∃ s, fs.at p = s := ⟨_, rfl⟩
    rw [hsd] at hRd hm hne
    clear hz' hsd
    have hDec := decode_ok hm w1
    simp only [metaPg, List.length_nil, Int.ofNat_zero] at hDec
    have lw := (Array.getElem?_eq_some_iff.1 x2).1
    go_enter Tryz.func74, Tryz.ntmps74
    go_wp2_with (first
      | (go_at_call 103; (with_reducible refine Calls.mono hRd ?_); rintro e w2 ⟨rfl, hw2⟩; subst w2)
      | (go_at_call 104; (with_reducible refine Calls.mono hDec ?_); rintro e W2 ⟨ka, ia, ea, kc, ic, ec, rfl, q1, q2, q3, qq, hb2⟩; clear q1 q2 q3 qq hRd hDec; obtain ⟨W3, hW3⟩ : ∃ W3, W2.alloc (.cells #[.int .i64 1, .int .i64 ver, .int .i64 root, .int .i64 0, .slice ka 0 kc, .slice ia 0 ic, .slice ea 0 ec, .string ⟨#[]⟩] 72) = W3 := ⟨_, rfl⟩; have x3 : W3.heap[W2.heap.size]? = some (metaO ver root ka ia ea kc ic ec) := hW3 ▸ heap_new W2 _; obtain ⟨m0, m1, m2, m3, m4, m5, m6, m7⟩ := box8 x3; have mfr := free_of x3; have m8 : W3.setCell ⟨W2.heap.size, 7, none⟩ (.string ⟨#[]⟩) = W3 := set_same x3 rfl; have b3 : Below w1.heap.size w1 W3 := hb2.trans (hW3 ▸ (Below.refl _ _).alloc hb2.size _); have r3 := (b3.block _ lw).trans x2; clear c0 c1 c2 c3 c4 c5 c6 c7 c8 c9 cfr; obtain ⟨c0, c1, c2, c3, c4, c5, c6, c7, c8, c9⟩ := box10 r3; have nfr := free_of r3; have HB3 : Hid _ := b3; have HR3 : Hid _ := r3; clear b3 r3 x3))
    have xF := set10_box HR3.out (.int .i64 p) (.bool true) (.int .i64 1) (.int .i64 ver) (.int .i64 root) (.int .i64 0) (.slice ka 0 kc) (.slice ia 0 ic) (.slice ea 0 ec) (.string ⟨#[]⟩)
    have fF := set10_fr W3 w.heap.size (.int .i64 p) (.bool true) (.int .i64 1) (.int .i64 ver) (.int .i64 root) (.int .i64 0) (.slice ka 0 kc) (.slice ia 0 ic) (.slice ea 0 ec) (.string ⟨#[]⟩)
    have b3 := B2.trans (HB3.out.mono (by omega))
    refine bodyPost_ret (v := .agg (metaV p ver root ka ia ea kc ic ec)) ?_ rfl ⟨ka, ia, ea, kc, ic, ec, rfl, b3.trans (fF.below (by have := b3.size; omega) (fun k hk => by simp only [Bl.one] at hk; omega))⟩
    exact results_cell_row (p := 4) rfl _ _ w.heap.size _ _ _ _ rfl xF Tryz.underlying108 rfl (by kernel_rfl)
end Go.Proofs.YtngpplmndpmgiaaGreat.Tree
namespace Go.Proofs.YtngpplmndpmgiaaGreat.Tree
open Go.RowKit Go.Proofs.YtngpplmndpmgiaaGreat.Pages
set_option linter.unusedSimpArgs false
set_option linter.unusedVariables false
structure MV where
  p : Nat
  ver : Nat
  root : Nat
  ka : Option Addr
  ia : Option Addr
  ea : Option Addr
  kc : Nat
  ic : Nat
  ec : Nat
abbrev MV.cells (m : MV) : Array Value := #[.int .i64 m.p, .bool true, .int .i64 1, .int .i64 m.ver, .int .i64 m.root, .int .i64 0, .slice m.ka 0 m.kc, .slice m.ia 0 m.ic, .slice m.ea 0 m.ec, .string ⟨#[]⟩]
abbrev MV.obj (m : MV) : Obj := .cells m.cells 108
set_option maxRecDepth 100000 in
set_option maxHeartbeats 1000000 in
theorem older_any (m m' : MV) (w : World) :
    Calls Tryz.prog 75 #[.agg m.cells, .agg m'.cells] w fun e w' => e = .returned (.bool (decide (m.ver < m'.ver))) ∧ Below w.heap.size w w' := by
  obtain ⟨W1, hW1⟩ : ∃ W1, (w.alloc m.obj).alloc m'.obj = W1 := ⟨_, rfl⟩
  have B1 : Below w.heap.size w W1 := hW1 ▸ ((Below.refl _ _).alloc (Nat.le_refl _) _).alloc (by simp) _
  have t1 : W1.heap[w.heap.size]? = some m.obj := hW1 ▸ heap_keep _ (heap_new w _)
  have r1 : W1.heap[w.heap.size + 1]? = some m'.obj := by
    rw [← hW1]; have := heap_new (w.alloc m.obj) m'.obj; simpa using this
  obtain ⟨c0, c1, c2, c3, c4, c5, c6, c7, c8, c9⟩ := box10 t1
  obtain ⟨d0, d1, d2, d3, d4, d5, d6, d7, d8, d9⟩ := box10 r1
  go_enter Tryz.func75, Tryz.ntmps75
  go_wp2
  refine bodyPost_ret (v := .bool (decide (m.ver < m'.ver))) ?_ rfl ⟨rfl, B1⟩
  simp [results, Tryz.results75, go_sem]
theorem older_lt (m m' : MV) (h : m.ver < m'.ver) (w : World) :
    Calls Tryz.prog 75 #[.agg m.cells, .agg m'.cells] w fun e w' => e = .returned (.bool true) ∧ Below w.heap.size w w' := by
  have := older_any m m' w
  rwa [decide_eq_true h] at this
theorem older_ge (m m' : MV) (h : ¬ m.ver < m'.ver) (w : World) :
    Calls Tryz.prog 75 #[.agg m.cells, .agg m'.cells] w fun e w' => e = .returned (.bool false) ∧ Below w.heap.size w w' := by
  have := older_any m m' w
  rwa [decide_eq_false h] at this
set_option maxRecDepth 100000 in
set_option maxHeartbeats 1000000 in
theorem placeOf_any (m : MV) (w : World) :
    Calls Tryz.prog 129 #[.agg #[.int .i64 1, .int .i64 m.ver, .int .i64 m.root, .int .i64 0, .slice m.ka 0 m.kc, .slice m.ia 0 m.ic, .slice m.ea 0 m.ec, .string ⟨#[]⟩]] w fun e w' => e = .returned (.int .i64 ((m.ver % 2 : Nat) : Int)) ∧ Below w.heap.size w w' := by
  obtain ⟨W1, hW1⟩ : ∃ W1, w.alloc (.cells #[.int .i64 1, .int .i64 m.ver, .int .i64 m.root, .int .i64 0, .slice m.ka 0 m.kc, .slice m.ia 0 m.ic, .slice m.ea 0 m.ec, .string ⟨#[]⟩] 72) = W1 := ⟨_, rfl⟩
  have B1 : Below w.heap.size w W1 := hW1 ▸ (Below.refl _ _).alloc (Nat.le_refl _) _
  have t1 : W1.heap[w.heap.size]? = some (.cells #[.int .i64 1, .int .i64 m.ver, .int .i64 m.root, .int .i64 0, .slice m.ka 0 m.kc, .slice m.ia 0 m.ic, .slice m.ea 0 m.ec, .string ⟨#[]⟩] 72) := hW1 ▸ heap_new w _
  obtain ⟨c0, c1, c2, c3, c4, c5, c6, c7⟩ := box8 t1
  go_enter Tryz.func129, Tryz.ntmps129
  go_wp2
  refine bodyPost_ret (v := .int .i64 ((m.ver : Int) % 2)) ?_ rfl ⟨by simp, B1⟩
  simp [results, Tryz.results129, go_sem]
theorem results_rows2 {P : Program} {fn : Func} {p q : Tmp} {ty : TypeId} (h : fn.results = #[.cell p ty, .cell q ty]) (tmps : Array Value) (w : World) (g g' : Nat) (t : TypeId) (cs cs' : Array Value) (fr : Nat × Nat) (d : TypeDesc)
    (hp : tmps.getD p undef = .pointer (some ⟨g, 0, none⟩)) (hq : tmps.getD q undef = .pointer (some ⟨g', 0, none⟩)) (hg : w.heap[g]? = some (.cells cs t fr)) (hg' : w.heap[g']? = some (.cells cs' t fr))
    (hu : P.underlying ty = some d) (hd : (match d with | .struct _ | .array _ _ => true | _ => false) = true) (hi : (P.info? ty).map (·.size) = some cs.size) (hi' : (P.info? ty).map (·.size) = some cs'.size) :
    (results fn tmps).run P w = .ok (.tuple #[.agg cs, .agg cs']) w := by
  have hp' : tmps[p]?.getD undef = .pointer (some ⟨g, 0, none⟩) := by simpa using hp
  have hq' : tmps[q]?.getD undef = .pointer (some ⟨g', 0, none⟩) := by simpa using hq
  simp [results, h, hp', hq', asAddr, run_loadVar_row w g t ty cs fr d hg hu hd hi, run_loadVar_row w g' t ty cs' fr d hg' hu hd hi']
theorem c10 {w : World} {b k i : Nat} {v0 v1 v2 v3 v4 v5 v6 v7 v8 v9 x : Value} (hk : b ≠ k) (h : w.cell? ⟨k, i, none⟩ = some x) : (set10 w b v0 v1 v2 v3 v4 v5 v6 v7 v8 v9).cell? ⟨k, i, none⟩ = some x :=
  cell_other hk (cell_other hk (cell_other hk (cell_other hk (cell_other hk (cell_other hk (cell_other hk (cell_other hk (cell_other hk (cell_other hk h)))))))))
theorem cell_drew (w : World) (a : Addr) : w.drew.cell? a = w.cell? a := rfl
theorem c10d {w : World} {b k i : Nat} {v0 v1 v2 v3 v4 v5 v6 v7 v8 v9 x : Value} (hk : b ≠ k) (h : w.cell? ⟨k, i, none⟩ = some x) : (set10 w b v0 v1 v2 v3 v4 v5 v6 v7 v8 v9).drew.cell? ⟨k, i, none⟩ = some x := by
  rw [cell_drew]; exact c10 hk h
theorem heap_drew (w : World) : w.drew.heap = w.heap := rfl
abbrev MV.put (m : MV) (w : World) (b : Nat) : World := set10 w b (.int .i64 m.p) (.bool true) (.int .i64 1) (.int .i64 m.ver) (.int .i64 m.root) (.int .i64 0) (.slice m.ka 0 m.kc) (.slice m.ia 0 m.ic) (.slice m.ea 0 m.ec) (.string ⟨#[]⟩)
theorem MV.put_box (m : MV) {w : World} {b : Nat} {x0 x1 x2 x3 x4 x5 x6 x7 x8 x9 : Value} {t : TypeId} (h : w.heap[b]? = some (.cells #[x0, x1, x2, x3, x4, x5, x6, x7, x8, x9] t)) : (m.put w b).heap[b]? = some (.cells m.cells t) := set10_box h _ _ _ _ _ _ _ _ _ _
theorem MV.put_fr (m : MV) (w : World) (b : Nat) : Fr (Bl.one b) w (m.put w b) := set10_fr w b _ _ _ _ _ _ _ _ _ _
set_option maxRecDepth 100000 in
set_option maxHeartbeats 4000000 in
theorem readMetas_any (β : Nat) (sv lv : Value) (fs : Fs) (hl : (fs.life == 0) = false) (v0 r0 v1 r1 : Nat) (w : World) (hf : FileAt w β sv lv fs) (hp : 1 < fs.safe.length) (hm0 : MetaAt fs 0 v0 r0) (hm1 : MetaAt fs 1 v1 r1) :
    Calls Tryz.prog 51 #[.pointer (some ⟨β, 0, none⟩)] w fun e w' => ∃ m m' : MV, e = .returned (.tuple #[.agg m.cells, .agg m'.cells]) ∧ Below w.heap.size w w' ∧ ((v0 < v1 ∧ m.p = 1 ∧ m.ver = v1 ∧ m.root = r1 ∧ m'.p = 0 ∧ m'.ver = v0 ∧ m'.root = r0) ∨ (¬ v0 < v1 ∧ m.p = 0 ∧ m.ver = v0 ∧ m.root = r0 ∧ m'.p = 1 ∧ m'.ver = v1 ∧ m'.root = r1)) := by
  obtain ⟨W1, hW1⟩ : ∃ W1, (w.alloc meta0).alloc meta0 = W1 := ⟨_, rfl⟩
  have B1 : Below w.heap.size w W1 := hW1 ▸ ((Below.refl _ _).alloc (Nat.le_refl _) _).alloc (by simp) _
  have t1 : W1.heap[w.heap.size]? = some meta0 := hW1 ▸ heap_keep _ (heap_new w _)
  have r1' : W1.heap[w.heap.size + 1]? = some meta0 := by
    rw [← hW1]; have := heap_new (w.alloc meta0) meta0; simpa using this
  have HA : Hid (∀ X, Below w.heap.size w X → Calls Tryz.prog 74 #[.pointer (some ⟨β, 0, none⟩), .int .i64 0] X fun e w' => ∃ m : MV, e = .returned (.agg m.cells) ∧ (m.p = 0 ∧ m.ver = v0 ∧ m.root = r0) ∧ Below X.heap.size X w') := fun X hX => (metaAt_any β sv lv fs hl 0 v0 r0 X (hf.on (On.of_below hX hf.lies)) (by omega) hm0).mono fun e w' ⟨ka, ia, ea, kc, ic, ec, he, hb⟩ => ⟨⟨0, v0, r0, ka, ia, ea, kc, ic, ec⟩, he, ⟨rfl, rfl, rfl⟩, hb⟩
  have HB : Hid (∀ X, Below w.heap.size w X → Calls Tryz.prog 74 #[.pointer (some ⟨β, 0, none⟩), .int .i64 1] X fun e w' => ∃ m : MV, e = .returned (.agg m.cells) ∧ (m.p = 1 ∧ m.ver = v1 ∧ m.root = r1) ∧ Below X.heap.size X w') := fun X hX => (metaAt_any β sv lv fs hl 1 v1 r1 X (hf.on (On.of_below hX hf.lies)) hp hm1).mono fun e w' ⟨ka, ia, ea, kc, ic, ec, he, hb⟩ => ⟨⟨1, v1, r1, ka, ia, ea, kc, ic, ec⟩, he, ⟨rfl, rfl, rfl⟩, hb⟩
  by_cases hv : v0 < v1
  · have hA1 := HA.out W1 B1
    have HV : Hid _ := hv
    clear hv
    go_enter Tryz.func51, Tryz.ntmps51
    go_wp2_with (first
      | (go_at_call 74; (with_reducible refine Calls.mono hA1 ?_); rintro e X1 ⟨a, rfl, ha, hX1⟩; have BX1 := B1.trans (hX1.mono B1.size); have hB1 := HB.out X1 BX1; have HAa : Hid _ := ha; clear ha)
      | (go_at_call 74; (with_reducible refine Calls.mono hB1 ?_); rintro e X2 ⟨b, rfl, hb, hX2⟩; have HBb : Hid _ := hb; clear hb; have hO := older_lt a b (by rw [HAa.out.2.1, HBb.out.2.1]; exact HV.out) ((X2.alloc a.obj).alloc b.obj))
      | (go_at_call 75; (with_reducible refine Calls.mono hO ?_); rintro e X3 ⟨rfl, hX3⟩; have BX2 := BX1.trans (hX2.mono BX1.size); have BY : Below w.heap.size w X3 := (((BX2.alloc BX2.size a.obj).alloc (by have := BX2.size; simp; omega) b.obj).trans (hX3.mono (by have := BX2.size; simp; omega))); have FX : Below W1.heap.size W1 X3 := ((((hX1.trans (hX2.mono hX1.size)).alloc (by have := hX1.size; have := hX2.size; omega) a.obj).alloc (by have := hX1.size; have := hX2.size; simp; omega) b.obj).trans (hX3.mono (by have := hX1.size; have := hX2.size; simp; omega))); have e1 := (hX3.block X2.heap.size (by simp; omega)).trans (heap_keep b.obj (heap_new X2 a.obj)); have e2 : X3.heap[X2.heap.size + 1]? = some b.obj := (by have h0 := heap_new (X2.alloc a.obj) b.obj; have h1 : (X2.alloc a.obj).heap.size = X2.heap.size + 1 := (by simp); rw [h1] at h0; exact (hX3.block _ (by simp)).trans h0); have e3 := (FX.block _ (Array.getElem?_eq_some_iff.1 t1).1).trans t1; have e4 := (FX.block _ (Array.getElem?_eq_some_iff.1 r1').1).trans r1'; obtain ⟨x0, x1, x2, x3, x4, x5, x6, x7, x8, x9⟩ := box10 e1; obtain ⟨y0, y1, y2, y3, y4, y5, y6, y7, y8, y9⟩ := box10 e2; obtain ⟨z0, z1, z2, z3, z4, z5, z6, z7, z8, z9⟩ := box10 e3; obtain ⟨u0, u1, u2, u3, u4, u5, u6, u7, u8, u9⟩ := box10 e4; have zfr := free_of e3; have ufr := free_of e4; have lt3 := BX2.size; have lt4 : w.heap.size + 1 < X2.heap.size := (by have h1 := (Array.getElem?_eq_some_iff.1 r1').1; have h2 := hX1.size; have h3 := hX2.size; omega)))
    clear hA1 hB1 hO hW1
    have HE1 : Hid ((a.put (b.put X3 w.heap.size) (w.heap.size + 1)).drew.heap[w.heap.size]? = some b.obj) := by
      show _ = _
      rw [heap_drew]
      exact (a.put_fr _ _).heap (b.put_box e3) (fun e => by simp only [Bl.one] at e; omega)
    have HE2 : Hid ((a.put (b.put X3 w.heap.size) (w.heap.size + 1)).drew.heap[w.heap.size + 1]? = some a.obj) := by
      show _ = _
      rw [heap_drew]
      exact a.put_box ((b.put_fr _ _).heap e4 (fun e => by simp only [Bl.one] at e; omega))
    have HBL : Hid (Below w.heap.size w (a.put (b.put X3 w.heap.size) (w.heap.size + 1)).drew) :=
      Below.drew ((BY.trans ((b.put_fr X3 w.heap.size).below (by have := BY.size; omega) (fun k hk => by simp only [Bl.one] at hk; omega))).trans ((a.put_fr _ _).below (by have := BY.size; have := (b.put_fr X3 w.heap.size).size; omega) (fun k hk => by simp only [Bl.one] at hk; omega)))
    go_region_held3 (fun X => X.cell? ⟨X2.heap.size, 0, none⟩ = some (.int .i64 a.p) ∧ X.cell? ⟨X2.heap.size, 1, none⟩ = some (.bool true) ∧ X.cell? ⟨X2.heap.size, 2, none⟩ = some (.int .i64 1) ∧ X.cell? ⟨X2.heap.size, 3, none⟩ = some (.int .i64 a.ver) ∧ X.cell? ⟨X2.heap.size, 4, none⟩ = some (.int .i64 a.root) ∧ X.cell? ⟨X2.heap.size, 5, none⟩ = some (.int .i64 0) ∧ X.cell? ⟨X2.heap.size, 6, none⟩ = some (.slice a.ka 0 a.kc) ∧ X.cell? ⟨X2.heap.size, 7, none⟩ = some (.slice a.ia 0 a.ic) ∧ X.cell? ⟨X2.heap.size, 8, none⟩ = some (.slice a.ea 0 a.ec) ∧ X.cell? ⟨X2.heap.size, 9, none⟩ = some (.string ⟨#[]⟩) ∧ X.cell? ⟨X2.heap.size + 1, 0, none⟩ = some (.int .i64 b.p) ∧ X.cell? ⟨X2.heap.size + 1, 1, none⟩ = some (.bool true) ∧ X.cell? ⟨X2.heap.size + 1, 2, none⟩ = some (.int .i64 1) ∧ X.cell? ⟨X2.heap.size + 1, 3, none⟩ = some (.int .i64 b.ver) ∧ X.cell? ⟨X2.heap.size + 1, 4, none⟩ = some (.int .i64 b.root) ∧ X.cell? ⟨X2.heap.size + 1, 5, none⟩ = some (.int .i64 0) ∧ X.cell? ⟨X2.heap.size + 1, 6, none⟩ = some (.slice b.ka 0 b.kc) ∧ X.cell? ⟨X2.heap.size + 1, 7, none⟩ = some (.slice b.ia 0 b.ic) ∧ X.cell? ⟨X2.heap.size + 1, 8, none⟩ = some (.slice b.ea 0 b.ec) ∧ X.cell? ⟨X2.heap.size + 1, 9, none⟩ = some (.string ⟨#[]⟩))
      ((first | (with_reducible exact ⟨x0, x1, x2, x3, x4, x5, x6, x7, x8, x9, y0, y1, y2, y3, y4, y5, y6, y7, y8, y9⟩) | (with_reducible exact ⟨c10d (by omega) x0, c10d (by omega) x1, c10d (by omega) x2, c10d (by omega) x3, c10d (by omega) x4, c10d (by omega) x5, c10d (by omega) x6, c10d (by omega) x7, c10d (by omega) x8, c10d (by omega) x9, c10d (by omega) y0, c10d (by omega) y1, c10d (by omega) y2, c10d (by omega) y3, c10d (by omega) y4, c10d (by omega) y5, c10d (by omega) y6, c10d (by omega) y7, c10d (by omega) y8, c10d (by omega) y9⟩) | (with_reducible exact ⟨c10 (by omega) x0, c10 (by omega) x1, c10 (by omega) x2, c10 (by omega) x3, c10 (by omega) x4, c10 (by omega) x5, c10 (by omega) x6, c10 (by omega) x7, c10 (by omega) x8, c10 (by omega) x9, c10 (by omega) y0, c10 (by omega) y1, c10 (by omega) y2, c10 (by omega) y3, c10 (by omega) y4, c10 (by omega) y5, c10 (by omega) y6, c10 (by omega) y7, c10 (by omega) y8, c10 (by omega) y9⟩) | (with_reducible exact ⟨c10d (by omega) (c10 (by omega) x0), c10d (by omega) (c10 (by omega) x1), c10d (by omega) (c10 (by omega) x2), c10d (by omega) (c10 (by omega) x3), c10d (by omega) (c10 (by omega) x4), c10d (by omega) (c10 (by omega) x5), c10d (by omega) (c10 (by omega) x6), c10d (by omega) (c10 (by omega) x7), c10d (by omega) (c10 (by omega) x8), c10d (by omega) (c10 (by omega) x9), c10d (by omega) (c10 (by omega) y0), c10d (by omega) (c10 (by omega) y1), c10d (by omega) (c10 (by omega) y2), c10d (by omega) (c10 (by omega) y3), c10d (by omega) (c10 (by omega) y4), c10d (by omega) (c10 (by omega) y5), c10d (by omega) (c10 (by omega) y6), c10d (by omega) (c10 (by omega) y7), c10d (by omega) (c10 (by omega) y8), c10d (by omega) (c10 (by omega) y9)⟩) | (with_reducible exact ⟨c10d (by omega) (c10d (by omega) x0), c10d (by omega) (c10d (by omega) x1), c10d (by omega) (c10d (by omega) x2), c10d (by omega) (c10d (by omega) x3), c10d (by omega) (c10d (by omega) x4), c10d (by omega) (c10d (by omega) x5), c10d (by omega) (c10d (by omega) x6), c10d (by omega) (c10d (by omega) x7), c10d (by omega) (c10d (by omega) x8), c10d (by omega) (c10d (by omega) x9), c10d (by omega) (c10d (by omega) y0), c10d (by omega) (c10d (by omega) y1), c10d (by omega) (c10d (by omega) y2), c10d (by omega) (c10d (by omega) y3), c10d (by omega) (c10d (by omega) y4), c10d (by omega) (c10d (by omega) y5), c10d (by omega) (c10d (by omega) y6), c10d (by omega) (c10d (by omega) y7), c10d (by omega) (c10d (by omega) y8), c10d (by omega) (c10d (by omega) y9)⟩) | (with_reducible exact ⟨c10 (by omega) (c10d (by omega) x0), c10 (by omega) (c10d (by omega) x1), c10 (by omega) (c10d (by omega) x2), c10 (by omega) (c10d (by omega) x3), c10 (by omega) (c10d (by omega) x4), c10 (by omega) (c10d (by omega) x5), c10 (by omega) (c10d (by omega) x6), c10 (by omega) (c10d (by omega) x7), c10 (by omega) (c10d (by omega) x8), c10 (by omega) (c10d (by omega) x9), c10 (by omega) (c10d (by omega) y0), c10 (by omega) (c10d (by omega) y1), c10 (by omega) (c10d (by omega) y2), c10 (by omega) (c10d (by omega) y3), c10 (by omega) (c10d (by omega) y4), c10 (by omega) (c10d (by omega) y5), c10 (by omega) (c10d (by omega) y6), c10 (by omega) (c10d (by omega) y7), c10 (by omega) (c10d (by omega) y8), c10 (by omega) (c10d (by omega) y9)⟩) | (simp [x0, x1, x2, x3, x4, x5, x6, x7, x8, x9, y0, y1, y2, y3, y4, y5, y6, y7, y8, y9])))
      (fail)
    all_goals go_wp2
    all_goals
      refine bodyPost_ret (v := .tuple #[.agg b.cells, .agg a.cells]) ?_ rfl ⟨b, a, rfl, HBL.out, (.inl ⟨HV.out, HBb.out.1, HBb.out.2.1, HBb.out.2.2, HAa.out.1, HAa.out.2.1, HAa.out.2.2⟩)⟩
      exact results_rows2 (p := 2) (q := 3) rfl _ _ w.heap.size (w.heap.size + 1) _ _ _ _ _ rfl rfl HE1.out HE2.out Tryz.underlying108 rfl (by kernel_rfl) (by kernel_rfl)
  · have hA1 := HA.out W1 B1
    have HV : Hid _ := hv
    clear hv
    go_enter Tryz.func51, Tryz.ntmps51
    go_wp2_with (first
      | (go_at_call 74; (with_reducible refine Calls.mono hA1 ?_); rintro e X1 ⟨a, rfl, ha, hX1⟩; have BX1 := B1.trans (hX1.mono B1.size); have hB1 := HB.out X1 BX1; have HAa : Hid _ := ha; clear ha)
      | (go_at_call 74; (with_reducible refine Calls.mono hB1 ?_); rintro e X2 ⟨b, rfl, hb, hX2⟩; have HBb : Hid _ := hb; clear hb; have hO := older_ge a b (by rw [HAa.out.2.1, HBb.out.2.1]; exact HV.out) ((X2.alloc a.obj).alloc b.obj))
      | (go_at_call 75; (with_reducible refine Calls.mono hO ?_); rintro e X3 ⟨rfl, hX3⟩; have BX2 := BX1.trans (hX2.mono BX1.size); have BY : Below w.heap.size w X3 := (((BX2.alloc BX2.size a.obj).alloc (by have := BX2.size; simp; omega) b.obj).trans (hX3.mono (by have := BX2.size; simp; omega))); have FX : Below W1.heap.size W1 X3 := ((((hX1.trans (hX2.mono hX1.size)).alloc (by have := hX1.size; have := hX2.size; omega) a.obj).alloc (by have := hX1.size; have := hX2.size; simp; omega) b.obj).trans (hX3.mono (by have := hX1.size; have := hX2.size; simp; omega))); have e1 := (hX3.block X2.heap.size (by simp; omega)).trans (heap_keep b.obj (heap_new X2 a.obj)); have e2 : X3.heap[X2.heap.size + 1]? = some b.obj := (by have h0 := heap_new (X2.alloc a.obj) b.obj; have h1 : (X2.alloc a.obj).heap.size = X2.heap.size + 1 := (by simp); rw [h1] at h0; exact (hX3.block _ (by simp)).trans h0); have e3 := (FX.block _ (Array.getElem?_eq_some_iff.1 t1).1).trans t1; have e4 := (FX.block _ (Array.getElem?_eq_some_iff.1 r1').1).trans r1'; obtain ⟨x0, x1, x2, x3, x4, x5, x6, x7, x8, x9⟩ := box10 e1; obtain ⟨y0, y1, y2, y3, y4, y5, y6, y7, y8, y9⟩ := box10 e2; obtain ⟨z0, z1, z2, z3, z4, z5, z6, z7, z8, z9⟩ := box10 e3; obtain ⟨u0, u1, u2, u3, u4, u5, u6, u7, u8, u9⟩ := box10 e4; have zfr := free_of e3; have ufr := free_of e4; have lt3 := BX2.size; have lt4 : w.heap.size + 1 < X2.heap.size := (by have h1 := (Array.getElem?_eq_some_iff.1 r1').1; have h2 := hX1.size; have h3 := hX2.size; omega)))
    clear hA1 hB1 hO hW1
    have HE1 : Hid ((b.put (a.put X3 w.heap.size) (w.heap.size + 1)).drew.heap[w.heap.size]? = some a.obj) := by
      show _ = _
      rw [heap_drew]
      exact (b.put_fr _ _).heap (a.put_box e3) (fun e => by simp only [Bl.one] at e; omega)
    have HE2 : Hid ((b.put (a.put X3 w.heap.size) (w.heap.size + 1)).drew.heap[w.heap.size + 1]? = some b.obj) := by
      show _ = _
      rw [heap_drew]
      exact b.put_box ((a.put_fr _ _).heap e4 (fun e => by simp only [Bl.one] at e; omega))
    have HBL : Hid (Below w.heap.size w (b.put (a.put X3 w.heap.size) (w.heap.size + 1)).drew) :=
      Below.drew ((BY.trans ((a.put_fr X3 w.heap.size).below (by have := BY.size; omega) (fun k hk => by simp only [Bl.one] at hk; omega))).trans ((b.put_fr _ _).below (by have := BY.size; have := (a.put_fr X3 w.heap.size).size; omega) (fun k hk => by simp only [Bl.one] at hk; omega)))
    go_region_held3 (fun X => X.cell? ⟨X2.heap.size, 0, none⟩ = some (.int .i64 a.p) ∧ X.cell? ⟨X2.heap.size, 1, none⟩ = some (.bool true) ∧ X.cell? ⟨X2.heap.size, 2, none⟩ = some (.int .i64 1) ∧ X.cell? ⟨X2.heap.size, 3, none⟩ = some (.int .i64 a.ver) ∧ X.cell? ⟨X2.heap.size, 4, none⟩ = some (.int .i64 a.root) ∧ X.cell? ⟨X2.heap.size, 5, none⟩ = some (.int .i64 0) ∧ X.cell? ⟨X2.heap.size, 6, none⟩ = some (.slice a.ka 0 a.kc) ∧ X.cell? ⟨X2.heap.size, 7, none⟩ = some (.slice a.ia 0 a.ic) ∧ X.cell? ⟨X2.heap.size, 8, none⟩ = some (.slice a.ea 0 a.ec) ∧ X.cell? ⟨X2.heap.size, 9, none⟩ = some (.string ⟨#[]⟩) ∧ X.cell? ⟨X2.heap.size + 1, 0, none⟩ = some (.int .i64 b.p) ∧ X.cell? ⟨X2.heap.size + 1, 1, none⟩ = some (.bool true) ∧ X.cell? ⟨X2.heap.size + 1, 2, none⟩ = some (.int .i64 1) ∧ X.cell? ⟨X2.heap.size + 1, 3, none⟩ = some (.int .i64 b.ver) ∧ X.cell? ⟨X2.heap.size + 1, 4, none⟩ = some (.int .i64 b.root) ∧ X.cell? ⟨X2.heap.size + 1, 5, none⟩ = some (.int .i64 0) ∧ X.cell? ⟨X2.heap.size + 1, 6, none⟩ = some (.slice b.ka 0 b.kc) ∧ X.cell? ⟨X2.heap.size + 1, 7, none⟩ = some (.slice b.ia 0 b.ic) ∧ X.cell? ⟨X2.heap.size + 1, 8, none⟩ = some (.slice b.ea 0 b.ec) ∧ X.cell? ⟨X2.heap.size + 1, 9, none⟩ = some (.string ⟨#[]⟩))
      ((first | (with_reducible exact ⟨x0, x1, x2, x3, x4, x5, x6, x7, x8, x9, y0, y1, y2, y3, y4, y5, y6, y7, y8, y9⟩) | (with_reducible exact ⟨c10d (by omega) x0, c10d (by omega) x1, c10d (by omega) x2, c10d (by omega) x3, c10d (by omega) x4, c10d (by omega) x5, c10d (by omega) x6, c10d (by omega) x7, c10d (by omega) x8, c10d (by omega) x9, c10d (by omega) y0, c10d (by omega) y1, c10d (by omega) y2, c10d (by omega) y3, c10d (by omega) y4, c10d (by omega) y5, c10d (by omega) y6, c10d (by omega) y7, c10d (by omega) y8, c10d (by omega) y9⟩) | (with_reducible exact ⟨c10 (by omega) x0, c10 (by omega) x1, c10 (by omega) x2, c10 (by omega) x3, c10 (by omega) x4, c10 (by omega) x5, c10 (by omega) x6, c10 (by omega) x7, c10 (by omega) x8, c10 (by omega) x9, c10 (by omega) y0, c10 (by omega) y1, c10 (by omega) y2, c10 (by omega) y3, c10 (by omega) y4, c10 (by omega) y5, c10 (by omega) y6, c10 (by omega) y7, c10 (by omega) y8, c10 (by omega) y9⟩) | (with_reducible exact ⟨c10d (by omega) (c10 (by omega) x0), c10d (by omega) (c10 (by omega) x1), c10d (by omega) (c10 (by omega) x2), c10d (by omega) (c10 (by omega) x3), c10d (by omega) (c10 (by omega) x4), c10d (by omega) (c10 (by omega) x5), c10d (by omega) (c10 (by omega) x6), c10d (by omega) (c10 (by omega) x7), c10d (by omega) (c10 (by omega) x8), c10d (by omega) (c10 (by omega) x9), c10d (by omega) (c10 (by omega) y0), c10d (by omega) (c10 (by omega) y1), c10d (by omega) (c10 (by omega) y2), c10d (by omega) (c10 (by omega) y3), c10d (by omega) (c10 (by omega) y4), c10d (by omega) (c10 (by omega) y5), c10d (by omega) (c10 (by omega) y6), c10d (by omega) (c10 (by omega) y7), c10d (by omega) (c10 (by omega) y8), c10d (by omega) (c10 (by omega) y9)⟩) | (with_reducible exact ⟨c10d (by omega) (c10d (by omega) x0), c10d (by omega) (c10d (by omega) x1), c10d (by omega) (c10d (by omega) x2), c10d (by omega) (c10d (by omega) x3), c10d (by omega) (c10d (by omega) x4), c10d (by omega) (c10d (by omega) x5), c10d (by omega) (c10d (by omega) x6), c10d (by omega) (c10d (by omega) x7), c10d (by omega) (c10d (by omega) x8), c10d (by omega) (c10d (by omega) x9), c10d (by omega) (c10d (by omega) y0), c10d (by omega) (c10d (by omega) y1), c10d (by omega) (c10d (by omega) y2), c10d (by omega) (c10d (by omega) y3), c10d (by omega) (c10d (by omega) y4), c10d (by omega) (c10d (by omega) y5), c10d (by omega) (c10d (by omega) y6), c10d (by omega) (c10d (by omega) y7), c10d (by omega) (c10d (by omega) y8), c10d (by omega) (c10d (by omega) y9)⟩) | (with_reducible exact ⟨c10 (by omega) (c10d (by omega) x0), c10 (by omega) (c10d (by omega) x1), c10 (by omega) (c10d (by omega) x2), c10 (by omega) (c10d (by omega) x3), c10 (by omega) (c10d (by omega) x4), c10 (by omega) (c10d (by omega) x5), c10 (by omega) (c10d (by omega) x6), c10 (by omega) (c10d (by omega) x7), c10 (by omega) (c10d (by omega) x8), c10 (by omega) (c10d (by omega) x9), c10 (by omega) (c10d (by omega) y0), c10 (by omega) (c10d (by omega) y1), c10 (by omega) (c10d (by omega) y2), c10 (by omega) (c10d (by omega) y3), c10 (by omega) (c10d (by omega) y4), c10 (by omega) (c10d (by omega) y5), c10 (by omega) (c10d (by omega) y6), c10 (by omega) (c10d (by omega) y7), c10 (by omega) (c10d (by omega) y8), c10 (by omega) (c10d (by omega) y9)⟩) | (simp [x0, x1, x2, x3, x4, x5, x6, x7, x8, x9, y0, y1, y2, y3, y4, y5, y6, y7, y8, y9])))
      (fail)
    all_goals go_wp2
    all_goals
      refine bodyPost_ret (v := .tuple #[.agg a.cells, .agg b.cells]) ?_ rfl ⟨a, b, rfl, HBL.out, (.inr ⟨HV.out, HAa.out.1, HAa.out.2.1, HAa.out.2.2, HBb.out.1, HBb.out.2.1, HBb.out.2.2⟩)⟩
      exact results_rows2 (p := 2) (q := 3) rfl _ _ w.heap.size (w.heap.size + 1) _ _ _ _ _ rfl rfl HE1.out HE2.out Tryz.underlying108 rfl (by kernel_rfl) (by kernel_rfl)
end Go.Proofs.YtngpplmndpmgiaaGreat.Tree
namespace Go.Proofs.YtngpplmndpmgiaaGreat.Tree
open Go.RowKit Go.Proofs.YtngpplmndpmgiaaGreat.Pages
set_option linter.unusedSimpArgs false
set_option linter.unusedVariables false
set_option maxRecDepth 100000 in
set_option maxHeartbeats 4000000 in
theorem checkMeta_any (D : Db) (st : Int) (ver : Nat) (w : World) (h : DbAt w st D) (hv : D.ver = ver) (hl : (D.fs.life == 0) = false) (hp : 1 < D.fs.safe.length) (hm : MetaAt D.fs (ver % 2) ver D.root) :
    Calls Tryz.prog 126 #[.pointer (some ⟨D.d, 0, none⟩)] w fun e w' => e = .returned (.tuple #[]) ∧ Below w.heap.size w w' := by
  have hbox : w.heap[D.d]? = some (.cells #[.int .i32 st, .int .u32 0, .pointer (some ⟨D.β, 0, none⟩), .int .i64 1, .int .i64 ver, .int .i64 D.root, .int .i64 0, .slice D.ka 0 D.kc, .slice D.ia 0 D.ic, .slice D.ea 0 D.ec, .string ⟨#[]⟩, .int .i64 D.aroot, .bool D.failed, .int .i64 D.last, D.ov] 75) := by
    have := h.box
    rw [dbO, dbC, hv] at this
    exact this
  obtain ⟨c0, c1, c2, c3, c4, c5, c6, c7, c8, c9, c10, c11, c12, c13, c14⟩ := box15 hbox
  have hmod : (((ver % 2 : Nat)) : Int) = (ver : Int) % 2 := by simp
  have HM0 : Hid (∀ X, Below w.heap.size w X → Calls Tryz.prog 74 #[.pointer (some ⟨D.β, 0, none⟩), .int .i64 ((ver % 2 : Nat) : Int)] X fun e w' => ∃ m : MV, e = .returned (.agg #[.int .i64 m.p, .bool true, .int .i64 1, .int .i64 m.ver, .int .i64 m.root, .int .i64 0, .slice m.ka 0 m.kc, .slice m.ia 0 m.ic, .slice m.ea 0 m.ec, .string ⟨#[]⟩]) ∧ Below X.heap.size X w') := fun X hX => (metaAt_any D.β D.sv D.lv D.fs hl (ver % 2) ver D.root X (h.file.on (On.of_below hX h.file.lies)) (by omega) hm).mono fun e w' ⟨ka, ia, ea, kc, ic, ec, he, hb⟩ => ⟨⟨ver % 2, ver, D.root, ka, ia, ea, kc, ic, ec⟩, he, hb⟩
  have HM : Hid (∀ X, Below w.heap.size w X → Calls Tryz.prog 74 #[.pointer (some ⟨D.β, 0, none⟩), .int .i64 ((ver : Int) % 2)] X fun e w' => ∃ m : MV, e = .returned (.agg #[.int .i64 m.p, .bool true, .int .i64 1, .int .i64 m.ver, .int .i64 m.root, .int .i64 0, .slice m.ka 0 m.kc, .slice m.ia 0 m.ic, .slice m.ea 0 m.ec, .string ⟨#[]⟩]) ∧ Below X.heap.size X w') := by
    have := HM0.out
    rw [hmod] at this
    exact this
  have HBX : Hid (∀ X, Below w.heap.size w X → X.heap[D.d]? = some (.cells #[.int .i32 st, .int .u32 0, .pointer (some ⟨D.β, 0, none⟩), .int .i64 1, .int .i64 ver, .int .i64 D.root, .int .i64 0, .slice D.ka 0 D.kc, .slice D.ia 0 D.ic, .slice D.ea 0 D.ec, .string ⟨#[]⟩, .int .i64 D.aroot, .bool D.failed, .int .i64 D.last, D.ov] 75)) := fun X hX => (hX.block _ (Array.getElem?_eq_some_iff.1 hbox).1).trans hbox
  have hP : ∀ X, Calls Tryz.prog 129 #[.agg #[.int .i64 1, .int .i64 ver, .int .i64 D.root, .int .i64 0, .slice D.ka 0 D.kc, .slice D.ia 0 D.ic, .slice D.ea 0 D.ec, .string ⟨#[]⟩]] X fun e w' => e = .returned (.int .i64 ((ver % 2 : Nat) : Int)) ∧ Below X.heap.size X w' := fun X => placeOf_any ⟨0, ver, D.root, D.ka, D.ia, D.ea, D.kc, D.ic, D.ec⟩ X
  rw [hmod] at hP
  have HP : Hid _ := hP
  clear hP hm hp hl hv hmod HM0
  have hfd : ∀ (m : MV) (W : World), (Instr.field 108 (.agg #[.int .i64 m.p, .bool true, .int .i64 1, .int .i64 m.ver, .int .i64 m.root, .int .i64 0, .slice m.ka 0 m.kc, .slice m.ia 0 m.ic, .slice m.ea 0 m.ec, .string ⟨#[]⟩]) 1).run Tryz.prog W = .ok (.bool true) W := fun m W => by kernel_rfl
  go_enter Tryz.func126, Tryz.ntmps126
  go_wp2
  go_region_held3 (fun X => X.cell? ⟨D.d, 2, none⟩ = some (.pointer (some ⟨D.β, 0, none⟩)) ∧ X.cell? ⟨D.d, 3, none⟩ = some (.int .i64 1) ∧ X.cell? ⟨D.d, 4, none⟩ = some (.int .i64 ver) ∧ X.cell? ⟨D.d, 5, none⟩ = some (.int .i64 D.root) ∧ X.cell? ⟨D.d, 6, none⟩ = some (.int .i64 0) ∧ X.cell? ⟨D.d, 7, none⟩ = some (.slice D.ka 0 D.kc) ∧ X.cell? ⟨D.d, 8, none⟩ = some (.slice D.ia 0 D.ic) ∧ X.cell? ⟨D.d, 9, none⟩ = some (.slice D.ea 0 D.ec) ∧ X.cell? ⟨D.d, 10, none⟩ = some (.string ⟨#[]⟩))
    ((first | (with_reducible exact ⟨c2, c3, c4, c5, c6, c7, c8, c9, c10⟩) | (simp [c2, c3, c4, c5, c6, c7, c8, c9, c10])))
    (first
      | (go_at_call 129; (with_reducible refine Calls.mono (HP.out _) ?_); rintro e X1 ⟨rfl, hX1⟩; have BX1 : Below w.heap.size w X1 := (Below.refl _ w).drew.trans hX1; obtain ⟨c0, c1, c2, c3, c4, c5, c6, c7, c8, c9, c10, c11, c12, c13, c14⟩ := box15 (HBX.out X1 BX1))
      | (go_at_call 74; (with_reducible refine Calls.mono (HM.out _ ?_) ?_); (first | exact BX1.drew | exact BX1); rintro e X2 ⟨m, rfl, hX2⟩; have BX2 : Below w.heap.size w X2 := (by first | exact BX1.trans (hX2.mono BX1.size) | exact BX1.drew.trans (hX2.mono BX1.size)); obtain ⟨c0, c1, c2, c3, c4, c5, c6, c7, c8, c9, c10, c11, c12, c13, c14⟩ := box15 (HBX.out X2 BX2)))
  all_goals go_wp2
  all_goals
    refine bodyPost_end (v := .tuple #[]) ?_ rfl ⟨rfl, BX2⟩
    simp [results, Tryz.results126]
end Go.Proofs.YtngpplmndpmgiaaGreat.Tree
namespace Go.Proofs.YtngpplmndpmgiaaGreat.Tree
open Go.RowKit Go.Proofs.YtngpplmndpmgiaaGreat.Pages
set_option linter.unusedSimpArgs false
set_option linter.unusedVariables false
set_option maxRecDepth 100000 in
set_option maxHeartbeats 1000000 in
theorem isKey_any (k : ByteArray) (w : World) :
    Calls Tryz.prog 40 #[.string k] w fun e w' => e = .returned (.bool (decide (1 ≤ k.size ∧ k.size ≤ 24))) ∧ w' = w := by
  by_cases h1 : 1 ≤ k.size
  · by_cases h2 : k.size ≤ 24
    · have g1 : (1 : Int) ≤ (k.size : Int) := by omega
      have g2 : (k.size : Int) ≤ 24 := by omega
      go_enter Tryz.func40, Tryz.ntmps40
      go_wp2
      refine bodyPost_ret (v := .bool true) ?_ rfl ⟨by rw [decide_eq_true ⟨h1, h2⟩], rfl⟩
      simp [results, Tryz.results40, go_sem, h1, h2]
    · have g1 : (1 : Int) ≤ (k.size : Int) := by omega
      have g2 : ¬ (k.size : Int) ≤ 24 := by omega
      go_enter Tryz.func40, Tryz.ntmps40
      go_wp2
      refine bodyPost_ret (v := .bool false) ?_ rfl ⟨rfl, rfl⟩
      simp [results, Tryz.results40, go_sem, h1, h2]
  · have g1 : ¬ (1 : Int) ≤ (k.size : Int) := by omega
    go_enter Tryz.func40, Tryz.ntmps40
    go_wp2
    refine bodyPost_ret (v := .bool false) ?_ rfl ⟨rfl, rfl⟩
    simp [results, Tryz.results40, go_sem, h1]
set_option maxRecDepth 100000 in
set_option maxHeartbeats 1000000 in
theorem index1_any (β c : Nat) (t : Tx) (x : Int) (w : World) (hb : w.heap[t.b]? = some (txO β t)) (hc : w.heap[c]? = some (.cells #[.int .i64 x] 3)) :
    Calls Tryz.prog 93 #[.pointer (some ⟨t.b, 0, none⟩), .pointer (some ⟨c, 0, none⟩)] w fun e w' => e = .returned (.bool (t.num == x)) ∧ Below w.heap.size w w' := by
  have c0 : w.cell? ⟨t.b, 0, none⟩ = some (.int .i64 t.num) := by simp [World.cell?, hb]
  have d0 : w.cell? ⟨c, 0, none⟩ = some (.int .i64 x) := by simp [World.cell?, hc]
  go_enter Tryz.func93, Tryz.ntmps93
  go_wp2
  go_region_held3 (fun X => X.cell? ⟨t.b, 0, none⟩ = some (.int .i64 t.num) ∧ X.cell? ⟨c, 0, none⟩ = some (.int .i64 x))
    ((first | (with_reducible exact ⟨c0, d0⟩) | (simp [c0, d0])))
    (fail)
  all_goals go_wp2
  all_goals go_ret
  all_goals exact ⟨rfl, (Below.refl _ w).drew⟩
def idxT (ts : List Tx) (x : Int) : Int := match ts.findIdx? (fun t => t.num == x) with
  | some i => i
  | none => -1
theorem idxT_hit {ts : List Tx} {x : Int} {j : Nat} (h : j < ts.length) (hx : (ts[j].num == x) = true) (hb : ∀ m (hm : m < ts.length), m < j → (ts[m].num == x) = false) : idxT ts x = j := by
  have : ts.findIdx? (fun t => t.num == x) = some j := by
    rw [List.findIdx?_eq_some_iff_getElem]
    exact ⟨h, hx, fun m hm => by simpa using hb m (by omega) hm⟩
  unfold idxT
  rw [this]
theorem idxT_none {ts : List Tx} {x : Int} (hb : ∀ m (hm : m < ts.length), (ts[m].num == x) = false) : idxT ts x = -1 := by
  have : ts.findIdx? (fun t => t.num == x) = none := by
    rw [List.findIdx?_eq_none_iff]
    intro t ht
    obtain ⟨m, hm, rfl⟩ := List.getElem_of_mem ht
    exact hb m hm
  unfold idxT
  rw [this]
set_option maxRecDepth 100000 in
set_option maxHeartbeats 2000000 in
theorem indexFunc_any (β c : Nat) (oa : Option Addr) (oc : Nat) (ts : List Tx) (x : Int) (S : Bl) (w : World) (hR : RowOn w S oa (ptrs ts)) (hS : ∀ b, S b → b < w.heap.size) (hT : ∀ t ∈ ts, w.heap[t.b]? = some (txO β t)) (hc : w.heap[c]? = some (.cells #[.int .i64 x] 3)) (hn : ts.length ≤ 1000000) (hcc : ts.length ≤ oc) :
    Calls Tryz.prog 92 #[.slice oa ts.length oc, .func (.func 93) #[] #[.pointer (some ⟨c, 0, none⟩)]] w fun e w' => e = .returned (.int .i64 (idxT ts x)) ∧ Below w.heap.size w w' := by
  go_enter Tryz.func92, Tryz.ntmps92
  go_wp2
  go_loopw [8] (fun a wr => ∃ j : Nat, a = .int .i64 j ∧ j ≤ ts.length ∧ Below w.heap.size w wr ∧ Hid (∀ m (hm : m < ts.length), m < j → (ts[m].num == x) = false)) (fun a _ => ts.length - (intOf a).toNat)
  case atStart => exact ⟨0, rfl, Nat.zero_le _, Below.refl _ _, fun m hm h => by omega⟩
  case round =>
    obtain ⟨j, rfl, hj, hb, HI⟩ := hrel
    by_cases hlt : j < ts.length
    · have hlti : (j : Int) < (ts.length : Int) := by omega
      have hR1 := hR.on (On.of_below hb hS)
      have hne : ptrs ts ≠ [] := by
        intro e
        have := congrArg List.length e
        simp [ptrs] at this
        subst this
        simp at hlt
      rcases hR1 with h0 | ⟨g, o, rfl, hg, hcell⟩
      · exact absurd h0 hne
      obtain ⟨t, ht⟩ : ∃ t, ts[j] = t := ⟨_, rfl⟩
      have k0 : wr.cell? ⟨g, o + j, none⟩ = some (.pointer (some ⟨t.b, 0, none⟩)) := hcell j _ (by simp [ptrs, hlt, ht])
      have hC := index1_any β c t x wr ((hb.block _ (Array.getElem?_eq_some_iff.1 (hT t (ht ▸ List.getElem_mem hlt))).1).trans (hT t (ht ▸ List.getElem_mem hlt))) ((hb.block _ (Array.getElem?_eq_some_iff.1 hc).1).trans hc)
      have HT : Hid (ts[j] = t) := ht
      clear ht hcell hR hne
      cases he : (t.num == x)
      · rw [he] at hC
        go_wp2_with (go_at_call 93; (with_reducible refine Calls.mono hC ?_); rintro e w2 ⟨rfl, hb2⟩)
        refine ⟨⟨j + 1, by simp, by omega, hb.trans (hb2.mono hb.size), fun m hm hmj => ?_⟩, by simp [intOf]; omega⟩
        by_cases hmj' : m = j
        · subst hmj'; rw [HT.out]; exact he
        · exact HI.out m hm (by omega)
      · rw [he] at hC
        go_wp2_with (go_at_call 93; (with_reducible refine Calls.mono hC ?_); rintro e w2 ⟨rfl, hb2⟩)
        refine bodyPost_ret (v := .int .i64 j) ?_ rfl ⟨?_, hb.trans (hb2.mono hb.size)⟩
        · simp [results, Tryz.results92, go_sem]
        · rw [idxT_hit hlt (by rw [HT.out]; exact he) HI.out]
    · obtain rfl : j = ts.length := by omega
      have hlti : ¬ (ts.length : Int) < (ts.length : Int) := by omega
      go_wp2
      refine bodyPost_ret (v := .int .i64 (-1)) ?_ rfl ⟨?_, hb⟩
      · simp [results, Tryz.results92, go_sem]
      · rw [idxT_none (fun m hm => HI.out m hm hm)]
set_option maxRecDepth 100000 in
set_option maxHeartbeats 1000000 in
theorem index_any (D : Db) (st : Int) (x : Int) (w : World) (h : DbAt w st D) (hn : D.ts.length ≤ 1000000) :
    Calls Tryz.prog 62 #[.pointer (some ⟨D.d, 0, none⟩), .int .i64 x] w fun e w' => e = .returned (.int .i64 (idxT D.ts x)) ∧ Below w.heap.size w w' := by
  obtain ⟨oa, oc, hov, hoc, hrow⟩ := own_row0 h.row
  obtain ⟨W1, hW1⟩ : ∃ W1, w.alloc (.cells #[.int .i64 x] 3) = W1 := ⟨_, rfl⟩
  have B1 : Below w.heap.size w W1 := hW1 ▸ (Below.refl _ _).alloc (Nat.le_refl _) _
  have x1 : W1.heap[w.heap.size]? = some (.cells #[.int .i64 x] 3) := hW1 ▸ heap_new w _
  have h1 := h.on (On.of_below B1 h.lies)
  obtain ⟨c0, c1, c2, c3, c4, c5, c6, c7, c8, c9, c10, c11, c12, c13, c14⟩ := box15 h1.box
  rw [hov] at c14
  have hC := indexFunc_any D.β w.heap.size oa oc D.ts x (fun k => D.ov.ownBlock = some k) W1 (hrow.on (On.of_below B1 (fun k hk => own_lt h.row hk))) (fun k hk => Nat.lt_of_lt_of_le (own_lt h.row hk) B1.size) (fun t ht => (h1.each t ht).box) x1 hn hoc
  clear c0 c1 c2 c3 c4 c5 c6 c7 c8 c9 c10 c11 c12 c13 hov
  go_enter Tryz.func62, Tryz.ntmps62
  go_wp2_with (go_at_call 92; (with_reducible refine Calls.mono hC ?_); rintro e w2 ⟨rfl, hb2⟩)
  go_ret
  exact ⟨rfl, B1.trans (hb2.mono B1.size)⟩
set_option maxRecDepth 100000 in
set_option maxHeartbeats 1000000 in
theorem reader_hit (D : Db) (st : Int) (x : Int) (i : Nat) (t : Tx) (w : World) (h : DbAt w st D) (hn : D.ts.length ≤ 1000000) (hi : i < D.ts.length) (ht : D.ts[i] = t) (hx : idxT D.ts x = i) :
    Calls Tryz.prog 58 #[.pointer (some ⟨D.d, 0, none⟩), .int .i64 x] w fun e w' => e = .returned (.tuple #[.pointer (some ⟨t.b, 0, none⟩), .int .i64 0]) ∧ Below w.heap.size w w' := by
  obtain ⟨oa, oc, hov, hoc, hrow⟩ := own_row0 h.row
  have hC := index_any D st x w h hn
  rw [hx] at hC
  have HK : Hid (∀ X, Below w.heap.size w X → X.cell? ⟨D.d, 14, none⟩ = some (.slice oa D.ts.length oc) ∧ ∃ g o, oa = some ⟨g, o, none⟩ ∧ X.cell? ⟨g, o + i, none⟩ = some (.pointer (some ⟨t.b, 0, none⟩))) := by
    intro X hX
    have h1 := h.on (On.of_below hX h.lies)
    obtain ⟨c0, c1, c2, c3, c4, c5, c6, c7, c8, c9, c10, c11, c12, c13, c14⟩ := box15 h1.box
    rw [hov] at c14
    refine ⟨c14, ?_⟩
    rcases hrow.on (On.of_below hX (fun k hk => own_lt h.row hk)) with h0 | ⟨g, o, rfl, hg, hcell⟩
    · have := congrArg List.length h0
      simp [ptrs] at this
      rw [this] at hi
      simp at hi
    · exact ⟨g, o, rfl, hcell i _ (by simp [ptrs, hi, ht])⟩
  have hii : ¬ (i : Int) < 0 := by omega
  have hil : (i : Int) < (D.ts.length : Int) := by omega
  have hi0 : (0 : Int) ≤ (i : Int) := by omega
  clear hov hrow hx ht h
  go_enter Tryz.func58, Tryz.ntmps58
  go_wp2_with (go_at_call 62; (with_reducible refine Calls.mono hC ?_); rintro e w2 ⟨rfl, hb2⟩; obtain ⟨c14, g, o, rfl, k0⟩ := HK.out w2 hb2)
  go_ret2
  exact ⟨rfl, hb2⟩
set_option maxRecDepth 100000 in
set_option maxHeartbeats 1000000 in
theorem writer_hit (D : Db) (st : Int) (x : Int) (i : Nat) (t : Tx) (w : World) (h : DbAt w st D) (hn : D.ts.length ≤ 1000000) (hi : i < D.ts.length) (ht : D.ts[i] = t) (hx : idxT D.ts x = i) (hw : t.wr = true) :
    Calls Tryz.prog 39 #[.pointer (some ⟨D.d, 0, none⟩), .int .i64 x] w fun e w' => e = .returned (.tuple #[.pointer (some ⟨t.b, 0, none⟩), .int .i64 0]) ∧ Below w.heap.size w w' := by
  have hC := reader_hit D st x i t w h hn hi ht hx
  have HK : Hid (∀ X, Below w.heap.size w X → X.cell? ⟨t.b, 1, none⟩ = some (.bool true)) := by
    intro X hX
    have h1 := ((h.on (On.of_below hX h.lies)).each t (ht ▸ List.getElem_mem hi)).box
    rw [txO, hw] at h1
    simp [World.cell?, h1]
  clear h ht hx hw hn
  go_enter Tryz.func39, Tryz.ntmps39
  go_wp2_with (go_at_call 58; (with_reducible refine Calls.mono hC ?_); rintro e w2 ⟨rfl, hb2⟩; have k0 := HK.out w2 hb2)
  go_ret2
  exact ⟨rfl, hb2⟩
end Go.Proofs.YtngpplmndpmgiaaGreat.Tree
namespace Go.Proofs.YtngpplmndpmgiaaGreat.Tree
open Go.RowKit Go.Proofs.YtngpplmndpmgiaaGreat.Pages
set_option linter.unusedSimpArgs false
set_option linter.unusedVariables false
set_option maxRecDepth 100000 in
set_option maxHeartbeats 2000000 in
theorem conflicts_any (β : Nat) (t : Tx) (w : World) (h : TxAt w β t) (hn : t.cs.length ≤ 1000000) :
    Calls Tryz.prog 69 #[.pointer (some ⟨t.b, 0, none⟩)] w fun e w' => e = .returned (.bool false) ∧ Below w.heap.size w w' := by
  obtain ⟨oa, oc, hov, hoc, hrow⟩ := own_row0 h.row
  have hoc' : t.cs.length ≤ t.cc := by simp only [Tx.cv, Value.slice.injEq] at hov; omega
  have hoa : t.ca = oa := by simp only [Tx.cv, Value.slice.injEq] at hov; exact hov.1
  subst hoa
  have HB : Hid (∀ X, Below w.heap.size w X → X.cell? ⟨t.b, 4, none⟩ = some (.slice t.ca t.cs.length t.cc) ∧ X.cell? ⟨t.b, 5, none⟩ = some (.map none)) := by
    intro X hX
    have h1 := (hX.block _ (Array.getElem?_eq_some_iff.1 h.box).1).trans h.box
    rw [txO, h.tk.1] at h1
    simp [World.cell?, h1]
  have hS : ∀ k, t.cv.ownBlock = some k → k < w.heap.size := fun k hk => own_lt h.row hk
  have htl := (Array.getElem?_eq_some_iff.1 h.box).1
  obtain ⟨c4, c5⟩ := HB.out w (Below.refl _ _)
  clear hov h
  go_enter Tryz.func69, Tryz.ntmps69
  go_wp2
  go_loopw [13] (fun a wr => ∃ j : Nat, a = .int .i64 j ∧ j ≤ t.cs.length ∧ Below w.heap.size w wr) (fun a _ => t.cs.length - (intOf a).toNat)
  case atStart => exact ⟨0, rfl, Nat.zero_le _, Below.refl _ _⟩
  case round =>
    obtain ⟨j, rfl, hj, hb⟩ := hrel
    by_cases hlt : j < t.cs.length
    · have hlti : (j : Int) < (t.cs.length : Int) := by omega
      obtain ⟨rb, ro, hca, hrb, k0, k1, k2⟩ := (hrow.on (On.of_below hb hS)).ch hlt
      obtain ⟨c, hcc⟩ : ∃ c, t.cs[j] = c := ⟨_, rfl⟩
      rw [hcc] at k0 k1 k2
      obtain ⟨W1, hW1⟩ : ∃ W1, wr.alloc (.cells #[.string c.key, .string c.val, .bool c.gone] 100) = W1 := ⟨_, rfl⟩
      have x1 : W1.heap[wr.heap.size]? = some (.cells #[.string c.key, .string c.val, .bool c.gone] 100) := hW1 ▸ heap_new wr _
      have B1 : Below w.heap.size w W1 := hW1 ▸ hb.alloc hb.size _
      obtain ⟨d4, d5⟩ := HB.out W1 B1
      have d0 : W1.cell? ⟨wr.heap.size, 0, none⟩ = some (.string c.key) := by simp [World.cell?, x1]
      rw [hca]
      clear hrow hcc c4 c5
      go_wp2
      have lw := (Array.getElem?_eq_some_iff.1 x1).1
      have dA : (W1.alloc (.cells #[] 63)).cell? ⟨wr.heap.size, 0, none⟩ = some (.string c.key) ∧ (W1.alloc (.cells #[] 63)).cell? ⟨t.b, 5, none⟩ = some (.map none) := by
        have := heap_keep (.cells #[] 63) x1
        refine ⟨by simp [World.cell?, this], (HB.out _ (B1.alloc B1.size _)).2⟩
      obtain ⟨dA0, dA5⟩ := dA
      have hlk : ∀ (k : ByteArray) (W : World), (Instr.lookup 84 (.map none) (.string k) true).run Tryz.prog W = .ok (.tuple #[.agg #[], .bool false]) W := fun k W => by kernel_rfl
      go_region_held3 (fun X => X.cell? ⟨t.b, 5, none⟩ = some (.map none) ∧ X.cell? ⟨wr.heap.size, 0, none⟩ = some (.string c.key))
        ((first | (with_reducible exact ⟨d5, d0⟩) | (with_reducible exact ⟨dA5, dA0⟩) | (simp [d5, d0, dA5, dA0])))
        (fail)
      all_goals go_wp2
      all_goals exact ⟨⟨j + 1, by simp, by omega, (B1.alloc B1.size _).drew⟩, by simp [intOf]; omega⟩
    · obtain rfl : j = t.cs.length := by omega
      have hlti : ¬ (t.cs.length : Int) < (t.cs.length : Int) := by omega
      go_wp2
      go_ret
      exact ⟨rfl, hb⟩
end Go.Proofs.YtngpplmndpmgiaaGreat.Tree
namespace Go.Proofs.YtngpplmndpmgiaaGreat.Tree
open Go.RowKit Go.Proofs.YtngpplmndpmgiaaGreat.Pages
set_option linter.unusedSimpArgs false
set_option linter.unusedVariables false
theorem del_list {xs : List Value} {i : Nat} (z : Value) (hi : i < xs.length) : (putL (putL xs i (xs.drop (i + 1))) (xs.length - 1) [z]).take (xs.length - 1) = xs.eraseIdx i := by
  apply List.ext_getElem?
  intro t
  rw [List.getElem?_take, List.getElem?_eraseIdx]
  by_cases ht : t < xs.length - 1
  · rw [if_pos ht, putL_get _ _ _ (by rw [putL_len]; simp; omega), if_neg (by simp; omega), putL_get _ _ _ (by simp; omega)]
    by_cases h2 : t < i
    · rw [if_neg (by omega), if_pos h2]
    · rw [if_pos ⟨by omega, by simp; omega⟩, if_neg h2, List.getElem?_drop]
      congr 1
      omega
  · rw [if_neg ht]
    split
    · omega
    · rw [List.getElem?_eq_none]; omega
theorem own_free {w : World} {B : Nat} {e : TypeId} {g n c : Nat} {xs : List Value} (h : w.ownsRow B e 1 (.slice (some ⟨g, 0, none⟩) n c) n xs) (t : Nat) (ht : t < n) : (∃ u, xs[t]? = some u ∧ w.cell? ⟨g, t, none⟩ = some u) ∧ w.frozen? ⟨g, t, none⟩ = false := by
  obtain ⟨h1, h2⟩ := id h
  have hc := World.ownsRow.cells (w := w) h (g := g) rfl
  rcases h2 with ⟨h3, _⟩ | ⟨g', c', cur, h3, hb, hg, hnc, hcm, hcs, htake⟩
  · simp at h3
  · simp only [Value.slice.injEq, Option.some.injEq, Addr.mk.injEq, and_true, true_and] at h3
    obtain ⟨rfl, rfl⟩ := h3
    refine ⟨?_, free_of hg t⟩
    have hl : t < xs.length := by omega
    refine ⟨xs[t], List.getElem?_eq_getElem hl, ?_⟩
    have := hc t _ (List.getElem?_eq_getElem hl)
    rw [show (⟨g, 0, none⟩ : Addr).add t = ⟨g, t, none⟩ by unfold Addr.add; split <;> simp_all] at this
    exact this
set_option maxRecDepth 100000 in
set_option maxHeartbeats 2000000 in
theorem delete1_any (g n c i j : Nat) (B : Nat) (xs : List Value) (w : World) (h : w.ownsRow B 78 1 (.slice (some ⟨g, 0, none⟩) n c) n xs) (hx : ∀ u ∈ xs, u.oneCell' = true) (hij : j = i + 1) (hi : i < n) (hn : n ≤ 1000000) (hnc : n ≤ c) (hcm : c ≤ 9223372036854775807) :
    Calls Tryz.prog 63 #[.slice (some ⟨g, 0, none⟩) n c, .int .i64 i, .int .i64 j] w fun e w' => e = .returned (.slice (some ⟨g, 0, none⟩) (n - 1) c) ∧ w'.ownsRow B 78 1 (.slice (some ⟨g, 0, none⟩) (n - 1) c) (n - 1) (xs.eraseIdx i) ∧ Fr (Bl.one g) w w' := by
  have hlen : xs.length = n := by have := h.1; omega
  obtain ⟨news, hnews⟩ : ∃ news, news = xs.drop (i + 1) := ⟨_, rfl⟩
  have hnl : news.length = n - j := by rw [hnews]; simp; omega
  have hd : w.drew.ownsRow B 78 1 (.slice (some ⟨g, 0, none⟩) n c) n xs := h
  obtain ⟨A, hA, hsrc⟩ : ∃ A : Addr, (if c = j then some (⟨g, 0, none⟩ : Addr) else some ⟨g, j, none⟩) = some A ∧ Hid (∀ t u, news[t]? = some u → w.drew.cell? (A.add t) = some u) := by
    by_cases hc : c = j
    · refine ⟨⟨g, 0, none⟩, by simp [hc], fun t u hu => ?_⟩
      have h0 : news.length = 0 := by rw [hnl]; omega
      rw [List.length_eq_zero_iff.1 h0] at hu
      simp at hu
    · refine ⟨⟨g, j, none⟩, by simp [hc], fun t u hu => ?_⟩
      rw [hnews, List.getElem?_drop] at hu
      have ht : i + 1 + t < n := by have := (List.getElem?_eq_some_iff.1 hu).1; omega
      obtain ⟨⟨u', e1, e2⟩, _⟩ := own_free hd (i + 1 + t) ht
      rw [hu] at e1
      cases e1
      rw [show (⟨g, j, none⟩ : Addr).add t = ⟨g, i + 1 + t, none⟩ by unfold Addr.add; split <;> simp_all]
      exact e2
  have s1 : Hid (news.length = (n - j) * 1) := by rw [Nat.mul_one]; exact hnl
  have s2 : Hid (∀ u ∈ news, u.oneCell' = true) := fun u hu => hx u (List.mem_of_mem_drop (hnews ▸ hu))
  have s3 : Hid (∀ t, t < news.length → (w.drew.cell? ⟨g, 0 + i * 1 + t, none⟩).isSome = true ∧ w.drew.frozen? ⟨g, 0 + i * 1 + t, none⟩ = false) := by
    intro t ht
    rw [hnl] at ht
    obtain ⟨⟨u', e1, e2⟩, e3⟩ := own_free hd (i + t) (by omega)
    rw [show 0 + i * 1 + t = i + t by omega, e2]
    exact ⟨rfl, e3⟩
  obtain ⟨W1, hW1⟩ : ∃ W1, W1 = w.drew.setCells g (0 + i * 1) news := ⟨_, rfl⟩
  have hW1' : W1 = w.drew.setCells g i news := by rw [hW1]; congr 1; omega
  have ho1 : W1.ownsRow B 78 1 (.slice (some ⟨g, 0, none⟩) n c) n (putL xs i news) := by
    rw [hW1']; exact own_setCells news i hd (by omega)
  have F1 : Fr (Bl.one g) w W1 := by rw [hW1']; exact fr_setCells news i (Fr.refl _ w).drew
  have hcl : ∀ ty, (Builtin.clear_ #[73] ty #[.slice (some ⟨g, i + (n - j), none⟩) (n - (i + (n - j))) (c - (i + (n - j)))]).run Tryz.prog W1 = .ok (.tuple #[]) (W1.setCells g (i + (n - j)) (List.replicate (n - (i + (n - j))) (.pointer none))) :=
    fun ty => Lib.run_clear_slice W1 _ _ ty _ Tryz.underlying73 Tryz.zeroValue78 rfl rfl g (i + (n - j)) _ _ (by omega) (fun t ht => by obtain ⟨⟨u', e1, e2⟩, e3⟩ := own_free ho1 (i + (n - j) + t) (by omega); rw [e2]; rfl) (fun t ht => (own_free ho1 (i + (n - j) + t) (by omega)).2)
  have HO : Hid _ := ho1
  have HF : Hid _ := F1
  have hW : Hid (W1 = w.drew.setCells g (0 + i * 1) news) := hW1
  have HNE : Hid (news = xs.drop (i + 1)) := hnews
  have HIJ : Hid (j = i + 1) := hij
  have HL : Hid (xs.length = n) := hlen
  obtain ⟨i0, hi0, hz0, hz1, hz2⟩ := info_parts infoTx
  have hlt : i < j := by omega
  have hj : j ≤ n := by omega
  have hic : i ≤ c := by omega
  have hjc : j ≤ c := by omega
  have hne : ¬ (i : Int) = (j : Int) := by omega
  clear hW1 hW1' ho1 F1 hnews hnl hij hd hlen h
  go_enter Tryz.func63, Tryz.ntmps63
  go_wp2_with fail
  go_region_held3 (fun _ => True) (trivial)
    (first | (refine step_append_room rfl (.tmp 22) (.tmp 25) 73 rfl 78 i0 1 Tryz.underlying73 hi0 hz1 g 0 i c (by simp [Act.eval, Act.put]) A (n - j) (c - j) news (by simp [Act.eval, Act.put]) s1.out hsrc.out s2.out (by omega) s3.out ?_; rw [← hW.out]))
  all_goals go_wp2
  have e1 : i + (n - j) = n - 1 := by have := HIJ.out; omega
  refine bodyPost_ret (v := .slice (some ⟨g, 0, none⟩) (i + (n - j)) c) ?_ rfl ⟨by rw [e1], ?_, fr_setCells _ _ HF.out⟩
  · simp [results, Tryz.results63, go_sem]
  · rw [e1, show n - (n - 1) = 1 by omega]
    have hl := HL.out
    have h1 := own_setCells [.pointer none] (n - 1) HO.out (by rw [putL_len]; simp; omega)
    have h2 := own_cut h1 (m := n - 1) (by omega)
    have h3 := del_list (xs := xs) (i := i) (.pointer none) (by omega)
    rw [hl, ← HNE.out] at h3
    rw [Nat.mul_one, h3] at h2
    exact h2
end Go.Proofs.YtngpplmndpmgiaaGreat.Tree
