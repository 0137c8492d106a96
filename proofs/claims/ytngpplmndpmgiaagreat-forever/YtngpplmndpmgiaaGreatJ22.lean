/-
  Joined: Ld, Opn, Ins, With.
-/
import Derived.Test.YtngpplmndpmgiaaGreatJ21
import Derived.Test.YtngpplmndpmgiaaGreatJ18
import Derived.Test.YtngpplmndpmgiaaGreatJ19
import Derived.Test.YtngpplmndpmgiaaGreatJ11
import Derived.Test.YtngpplmndpmgiaaGreatJ14
import Derived.Lib.Overlaps
import Derived.Lib.AppendZerosOnto
import Derived.Laws.IdiomCopy
import Derived.Laws.Externs
import Derived.Laws.NewBlocks
import Derived.Laws.Entries
import Derived.Deep.RegionHeld3
import Derived.WalkKit
import Derived.KernelRfl
namespace Go.Proofs.YtngpplmndpmgiaaGreat.Tree
open Go.RowKit Go.Proofs.YtngpplmndpmgiaaGreat.Pages
set_option linter.unusedSimpArgs false
set_option linter.unusedVariables false
theorem metas_store {K : List ByteArray} {n : Nat} {fs : Fs} {v : Nat} {o ao : Option (Nat × T)} (S : Store K n fs v o ao) (h2 : 1 < fs.safe.length) (β : Nat) (sv lv : Value) (hl : (fs.life == 0) = false) (w : World) (hf : FileAt w β sv lv fs) :
    Calls Tryz.prog 51 #[.pointer (some ⟨β, 0, none⟩)] w fun e w' => ∃ m m' : MV, e = .returned (.tuple #[.agg m.cells, .agg m'.cells]) ∧ Below w.heap.size w w' ∧ m.ver = v ∧ m.root = rootOf o ∧ m'.root = rootOf ao := by
  have hm0 := S.meta0
  obtain ⟨v', hm1, hv'⟩ := S.meta1
  rcases Nat.mod_two_eq_zero_or_one v with h | h
  · rw [h] at hm0
    have h' : (v + 1) % 2 = 1 := by omega
    rw [h'] at hm1
    refine (readMetas_any β sv lv fs hl v (rootOf o) v' (rootOf ao) w hf h2 hm0 hm1).mono ?_
    rintro e w' ⟨m, m', rfl, hb, h | h⟩
    · omega
    · exact ⟨m, m', rfl, hb, h.2.2.1, h.2.2.2.1, h.2.2.2.2.2.2⟩
  · rw [h] at hm0
    have h' : (v + 1) % 2 = 0 := by omega
    rw [h'] at hm1
    refine (readMetas_any β sv lv fs hl v' (rootOf ao) v (rootOf o) w hf h2 hm1 hm0).mono ?_
    rintro e w' ⟨m, m', rfl, hb, h | h⟩
    · exact ⟨m, m', rfl, hb, h.2.2.1, h.2.2.2.1, h.2.2.2.2.2.2⟩
    · omega
abbrev db0 (st : Int) (β : Nat) : Array Value := #[.int .i32 st, .int .u32 0, .pointer (some ⟨β, 0, none⟩), .int .i64 0, .int .i64 0, .int .i64 0, .int .i64 0, .slice none 0 0, .slice none 0 0, .slice none 0 0, .string ⟨#[]⟩, .int .i64 0, .bool false, .int .i64 0, .slice none 0 0]
abbrev set9 (w : World) (b : Nat) (v3 v4 v5 v6 v7 v8 v9 v10 v11 : Value) : World := ((((((((w.setCell ⟨b, 3, none⟩ v3).setCell ⟨b, 4, none⟩ v4).setCell ⟨b, 5, none⟩ v5).setCell ⟨b, 6, none⟩ v6).setCell ⟨b, 7, none⟩ v7).setCell ⟨b, 8, none⟩ v8).setCell ⟨b, 9, none⟩ v9).setCell ⟨b, 10, none⟩ v10).setCell ⟨b, 11, none⟩ v11
theorem set9_fr (w : World) (b : Nat) (v3 v4 v5 v6 v7 v8 v9 v10 v11 : Value) : Fr (Bl.one b) w (set9 w b v3 v4 v5 v6 v7 v8 v9 v10 v11) :=
  (((((((((Fr.refl (Bl.one b) w).setCell (p := ⟨b, 3, none⟩) (.inl rfl) _).setCell (p := ⟨b, 4, none⟩) (.inl rfl) _).setCell (p := ⟨b, 5, none⟩) (.inl rfl) _).setCell (p := ⟨b, 6, none⟩) (.inl rfl) _).setCell (p := ⟨b, 7, none⟩) (.inl rfl) _).setCell (p := ⟨b, 8, none⟩) (.inl rfl) _).setCell (p := ⟨b, 9, none⟩) (.inl rfl) _).setCell (p := ⟨b, 10, none⟩) (.inl rfl) _).setCell (p := ⟨b, 11, none⟩) (.inl rfl) _
theorem set9_box {w : World} {b : Nat} {x0 x1 x2 x3 x4 x5 x6 x7 x8 x9 x10 x11 x12 x13 x14 : Value} {t : TypeId} (h : w.heap[b]? = some (.cells #[x0, x1, x2, x3, x4, x5, x6, x7, x8, x9, x10, x11, x12, x13, x14] t)) (v3 v4 v5 v6 v7 v8 v9 v10 v11 : Value) : (set9 w b v3 v4 v5 v6 v7 v8 v9 v10 v11).heap[b]? = some (.cells #[x0, x1, x2, v3, v4, v5, v6, v7, v8, v9, v10, v11, x12, x13, x14] t) := by
  have := set_of (set_of (set_of (set_of (set_of (set_of (set_of (set_of (set_of h 3 v3) 4 v4) 5 v5) 6 v6) 7 v7) 8 v8) 9 v9) 10 v10) 11 v11
  simpa using this
abbrev set8 (w : World) (b : Nat) (v3 v4 v5 v6 v7 v8 v9 v10 : Value) : World := (((((((w.setCell ⟨b, 3, none⟩ v3).setCell ⟨b, 4, none⟩ v4).setCell ⟨b, 5, none⟩ v5).setCell ⟨b, 6, none⟩ v6).setCell ⟨b, 7, none⟩ v7).setCell ⟨b, 8, none⟩ v8).setCell ⟨b, 9, none⟩ v9).setCell ⟨b, 10, none⟩ v10
theorem c8 {w : World} {b k i : Nat} {v3 v4 v5 v6 v7 v8 v9 v10 x : Value} (hk : b ≠ k) (h : w.cell? ⟨k, i, none⟩ = some x) : (set8 w b v3 v4 v5 v6 v7 v8 v9 v10).cell? ⟨k, i, none⟩ = some x :=
  cell_other hk (cell_other hk (cell_other hk (cell_other hk (cell_other hk (cell_other hk (cell_other hk (cell_other hk h)))))))
theorem c8d {w : World} {b k i : Nat} {v3 v4 v5 v6 v7 v8 v9 v10 x : Value} (hk : b ≠ k) (h : w.cell? ⟨k, i, none⟩ = some x) : (set8 w b v3 v4 v5 v6 v7 v8 v9 v10).drew.cell? ⟨k, i, none⟩ = some x := by
  rw [cell_drew]; exact c8 hk h
theorem c9 {w : World} {b k i : Nat} {v3 v4 v5 v6 v7 v8 v9 v10 v11 x : Value} (hk : b ≠ k) (h : w.cell? ⟨k, i, none⟩ = some x) : (set9 w b v3 v4 v5 v6 v7 v8 v9 v10 v11).cell? ⟨k, i, none⟩ = some x := cell_other hk (c8 hk h)
theorem c9d {w : World} {b k i : Nat} {v3 v4 v5 v6 v7 v8 v9 v10 v11 x : Value} (hk : b ≠ k) (h : w.cell? ⟨k, i, none⟩ = some x) : (set9 w b v3 v4 v5 v6 v7 v8 v9 v10 v11).drew.cell? ⟨k, i, none⟩ = some x := by
  rw [cell_drew]; exact c9 hk h
theorem synced_self {fs : Fs} (h : fs.late = []) : fs.synced = fs := by
  cases fs
  simp only at h
  subst h
  rfl
set_option maxRecDepth 100000 in
set_option maxHeartbeats 4000000 in
theorem dbload_any {K : List ByteArray} {n : Nat} {fs : Fs} {v : Nat} {o ao : Option (Nat × T)} (S : Store K n fs v o ao) (h2 : 2 ≤ n) (hw : fs.well) (d β : Nat) (sv lv : Value) (w : World) (hd : w.heap[d]? = some (.cells (db0 1 β) 75)) (hf : FileAt w β sv lv fs) :
    Calls Tryz.prog 29 #[.pointer (some ⟨d, 0, none⟩)] w fun e w' => e = .returned (.int .i64 0) ∧ ∃ D : Db, DbAt w' 1 D ∧ D.d = d ∧ D.β = β ∧ D.sv = sv ∧ D.fs = fs ∧ D.ver = v ∧ D.root = rootOf o ∧ D.aroot = rootOf ao ∧ D.failed = false ∧ D.last = 0 ∧ D.ov = .slice none 0 0 ∧ D.ts = [] ∧ Fr (Bl.or (Bl.one d) (fpF β sv lv)) w w' ∧ Grows w (fpF β sv lv) (fpF β sv D.lv) := by
  have hlen : 1 < fs.safe.length := by rw [S.len]; omega
  have hal := Fs.well_alive hw
  have hnf : ¬ fpF β sv lv d := file_apart hf hd (by decide) (by decide) (by decide)
  obtain ⟨c0, c1, c2, c3, c4, c5, c6, c7, c8, c9, c10, c11, c12, c13, c14⟩ := box15 hd
  have hSy := sync_well β sv lv fs w hf hw (fun x hx => by rw [S.late] at hx; simp at hx)
  rw [synced_self S.late] at hSy
  clear c0 c1 c3 c4 c5 c6 c7 c8 c9 c10 c11 c12 c13 c14
  go_enter Tryz.func29, Tryz.ntmps29
  go_wp2_with (first
    | (go_at_call 49; (with_reducible refine Calls.mono hSy ?_); rintro e X1 ⟨rfl, lv1, hf1, F1, G1⟩; have e1 := F1.heap hd hnf; obtain ⟨c0, c1, c2, c3, c4, c5, c6, c7, c8, c9, c10, c11, c12, c13, c14⟩ := box15 e1; clear c0 c1 c3 c4 c5 c6 c7 c8 c9 c10 c11 c12 c13 c14; have hDe := dead_any β sv lv1 fs X1 hf1; rw [hal] at hDe; have hMe := metas_store S hlen β sv lv1 hal X1 hf1)
    | (go_at_call 50; (with_reducible refine Calls.mono hDe ?_); rintro e X1' ⟨rfl, hX1'⟩; subst X1')
    | (go_at_call 51; (with_reducible refine Calls.mono hMe ?_); rintro e X2 ⟨m, m', rfl, hb2, hmv, hmr, hmr'⟩; have HMV : Hid _ := hmv; have HMR : Hid _ := hmr; have HMR' : Hid _ := hmr'; clear hmv hmr hmr'))
  obtain ⟨X3, hX3⟩ : ∃ X3, (X2.alloc m.obj).alloc m'.obj = X3 := ⟨_, rfl⟩
  rw [hX3]
  have b3 : Below X2.heap.size X2 X3 := hX3 ▸ ((Below.refl _ _).alloc (Nat.le_refl _) _).alloc (by simp) _
  have q3 : X3.heap[X2.heap.size]? = some m.obj := hX3 ▸ heap_keep _ (heap_new X2 _)
  have q4 : X3.heap[X2.heap.size + 1]? = some m'.obj := by rw [← hX3]; have := heap_new (X2.alloc m.obj) m'.obj; simpa using this
  have l4 := (Array.getElem?_eq_some_iff.1 q4).1
  have dlt1 := (Array.getElem?_eq_some_iff.1 e1).1
  have z2 := hb2.size
  have e3 := (b3.block d (by omega)).trans ((hb2.block d dlt1).trans e1)
  have B3 : Below X1.heap.size X1 X3 := hb2.trans (b3.mono z2)
  obtain ⟨x0, x1, x2, x3, x4, x5, x6, x7, x8, x9⟩ := box10 q3
  obtain ⟨y0, y1, y2, y3, y4, y5, y6, y7, y8, y9⟩ := box10 q4
  obtain ⟨d0, d1, d2, d3, d4, d5, d6, d7, d8, d9, d10, d11, d12, d13, d14⟩ := box15 e3
  have dfr := free_of e3
  clear hMe hDe hSy hX3
  go_region_held3 (fun X => X.cell? ⟨X2.heap.size, 2, none⟩ = some (.int .i64 1) ∧ X.cell? ⟨X2.heap.size, 3, none⟩ = some (.int .i64 m.ver) ∧ X.cell? ⟨X2.heap.size, 4, none⟩ = some (.int .i64 m.root) ∧ X.cell? ⟨X2.heap.size, 5, none⟩ = some (.int .i64 0) ∧ X.cell? ⟨X2.heap.size, 6, none⟩ = some (.slice m.ka 0 m.kc) ∧ X.cell? ⟨X2.heap.size, 7, none⟩ = some (.slice m.ia 0 m.ic) ∧ X.cell? ⟨X2.heap.size, 8, none⟩ = some (.slice m.ea 0 m.ec) ∧ X.cell? ⟨X2.heap.size, 9, none⟩ = some (.string ⟨#[]⟩) ∧ X.cell? ⟨X2.heap.size + 1, 4, none⟩ = some (.int .i64 m'.root))
    ((first | (with_reducible exact ⟨x2, x3, x4, x5, x6, x7, x8, x9, y4⟩) | (with_reducible exact ⟨c8 (by omega) x2, c8 (by omega) x3, c8 (by omega) x4, c8 (by omega) x5, c8 (by omega) x6, c8 (by omega) x7, c8 (by omega) x8, c8 (by omega) x9, c8 (by omega) y4⟩) | (with_reducible exact ⟨c8d (by omega) x2, c8d (by omega) x3, c8d (by omega) x4, c8d (by omega) x5, c8d (by omega) x6, c8d (by omega) x7, c8d (by omega) x8, c8d (by omega) x9, c8d (by omega) y4⟩) | (with_reducible exact ⟨c9 (by omega) x2, c9 (by omega) x3, c9 (by omega) x4, c9 (by omega) x5, c9 (by omega) x6, c9 (by omega) x7, c9 (by omega) x8, c9 (by omega) x9, c9 (by omega) y4⟩) | (with_reducible exact ⟨c9d (by omega) x2, c9d (by omega) x3, c9d (by omega) x4, c9d (by omega) x5, c9d (by omega) x6, c9d (by omega) x7, c9d (by omega) x8, c9d (by omega) x9, c9d (by omega) y4⟩) | (simp [x2, x3, x4, x5, x6, x7, x8, x9, y4])))
    (fail)
  rename_i hHeld1
  clear hHeld1 x0 x1 x2 x3 x4 x5 x6 x7 x8 x9 y0 y1 y2 y3 y4 y5 y6 y7 y8 y9 d0 d1 d2 d3 d4 d5 d6 d7 d8 d9 d10 d11 d12 d13 d14 dfr c2
  obtain ⟨X4, hX4⟩ : ∃ X4, (set9 X3 d (.int .i64 1) (.int .i64 m.ver) (.int .i64 m.root) (.int .i64 0) (.slice m.ka 0 m.kc) (.slice m.ia 0 m.ic) (.slice m.ea 0 m.ec) (.string ⟨#[]⟩) (.int .i64 m'.root)).drew = X4 := ⟨_, rfl⟩
  rw [hX4]
  have f4 : Fr (Bl.one d) X3 X4 := hX4 ▸ (set9_fr X3 d _ _ _ _ _ _ _ _ _).drew
  have e4 : X4.heap[d]? = some (dbO 1 ⟨d, β, sv, lv1, fs, m.ver, m.root, m'.root, m.ka, m.ia, m.ea, m.kc, m.ic, m.ec, false, 0, .slice none 0 0, []⟩) := by
    rw [← hX4, heap_drew]
    exact set9_box e3 _ _ _ _ _ _ _ _ _
  have q44 : X4.heap[X2.heap.size + 1]? = some m'.obj := f4.heap q4 (fun e => by simp only [Bl.one] at e; omega)
  have nf1 : ¬ fpF β sv lv1 d := file_apart hf1 e1 (by decide) (by decide) (by decide)
  have D4 : DbAt X4 1 ⟨d, β, sv, lv1, fs, m.ver, m.root, m'.root, m.ka, m.ia, m.ea, m.kc, m.ic, m.ec, false, 0, .slice none 0 0, []⟩ := by
    refine ⟨e4, ?_, World.ownsRow_nil _ _ _ _, by simp, .nil⟩
    exact (hf1.on (On.of_below B3 hf1.lies)).on (f4.on (fun k hk => ⟨Nat.lt_of_lt_of_le (hf1.lies k hk) B3.size, fun e => nf1 (by simp only [Bl.one] at e; exact e ▸ hk)⟩))
  have F4 : Fr (Bl.or (Bl.one d) (fpF β sv lv)) w X4 := ((F1.mono (fun k hk => .inl (.inr hk))).trans (Fr.of_below B3)).trans (f4.mono (fun k hk => .inl (.inl hk)))
  obtain ⟨w5, hmk, hU5, hb5⟩ := made_used X4
  have HK : Hid (∀ X, Below X4.heap.size X4 X → DbAt X 1 ⟨d, β, sv, lv1, fs, m.ver, m.root, m'.root, m.ka, m.ia, m.ea, m.kc, m.ic, m.ec, false, 0, .slice none 0 0, []⟩ ∧ X.cell? ⟨d, 2, none⟩ = some (.pointer (some ⟨β, 0, none⟩)) ∧ X.cell? ⟨d, 5, none⟩ = some (.int .i64 m.root) ∧ X.cell? ⟨d, 11, none⟩ = some (.int .i64 m'.root) ∧ X.cell? ⟨X2.heap.size + 1, 1, none⟩ = some (.bool true)) := by
    intro X hX
    have h1 := D4.on (On.of_below hX D4.lies)
    obtain ⟨c0, c1, c2, c3, c4, c5, c6, c7, c8, c9, c10, c11, c12, c13, c14⟩ := box15 h1.box
    have h2 := (hX.block _ (Array.getElem?_eq_some_iff.1 q44).1).trans q44
    exact ⟨h1, c2, c5, c11, (box10 h2).2.1⟩
  obtain ⟨_, k2, k5, k11, kr⟩ := HK.out w5 hb5
  have hro : Rooted fs m.root o := HMR.out ▸ S.sure.rooted
  have hrao : Rooted fs m'.root ao := HMR'.out ▸ S.ahead.rooted
  have hsm : fs.safe.length ≤ 4096 := hf.small
  have hTA := treeAt_any d β m.root w5 k2
  have HS : Hid _ := S
  have HRO : Hid _ := hro
  have HRA : Hid _ := hrao
  have HF4 : Hid _ := F4
  have HG1 : Hid _ := G1
  have HD4 : Hid _ := D4
  have HMT : Hid (∀ X os oo (root : Nat), Below X4.heap.size X4 X → Rooted fs root oo → OShut os oo → os.length = 4096 → UsedAt X X4.heap.size os → Calls Tryz.prog 52 #[.agg #[.pointer (some ⟨β, 0, none⟩), .int .i64 (root : Int), .slice none 0 0], .slice (some ⟨X4.heap.size, 0, none⟩) 4096 4096] X fun e w' => (∃ v, e = .returned v) ∧ UsedAt w' X4.heap.size (marks os (opages oo)) ∧ Below X4.heap.size X4 w') := by
    intro X os oo root hX hoo hsh hl hU
    exact (Mark_any β sv lv1 fs hal root none 0 0 X4.heap.size oo os X hoo hsh hl (HK.out X hX).1.file hU).mono fun e w' ⟨he, hu', hf'⟩ => ⟨he, hu', hX.trans (hf'.below hX.size (fun k hk => by simp only [Bl.one] at hk; omega))⟩
  clear hX4 hf hd hf1 F1 G1 e1 e3 e4 q3 q4 q44 b3 B3 f4 nf1 D4 F4 hro hrao S hw
  go_wp2_with (first
    | (go_at_call 32; (with_reducible refine Calls.mono hTA ?_); rintro e w6 ⟨rfl, hb6⟩; have B6 : Below X4.heap.size X4 w6 := hb5.trans (hb6.mono hb5.size); have U6 : UsedAt w6 X4.heap.size (List.replicate 4096 false) := hU5.on (Y := Bl.one X4.heap.size) (On.of_below hb6 (fun k hk => by simp only [Bl.one] at hk; have := hU5.lt; omega)) rfl; have hM := HMT.out w6 (List.replicate 4096 false) o m.root B6 HRO.out (oshut_base _ _) (by simp) U6)
    | (go_at_call 52; (with_reducible refine Calls.mono hM ?_); rintro e w7 ⟨⟨v7, rfl⟩, U7, B7⟩; obtain ⟨_, k2, k5, k11, kr⟩ := HK.out w7 B7; have hTB := treeAt_any d β m'.root w7 k2)
    | (go_at_call 32; (with_reducible refine Calls.mono hTB ?_); rintro e w8 ⟨rfl, hb8⟩; have B8 : Below X4.heap.size X4 w8 := B7.trans (hb8.mono B7.size); have U8 := U7.on (Y := Bl.one X4.heap.size) (On.of_below hb8 (fun k hk => by simp only [Bl.one] at hk; have := U7.lt; omega)) rfl; have hSt := stands_any β sv lv1 fs hal m'.root none 0 0 X4.heap.size ao (marks (List.replicate 4096 false) (opages o)) w8 HRA.out (oshut_after HRA.out HRO.out (by rw [List.length_replicate]; exact hsm) (oshut_base _ _)) (by rw [marks_length, List.length_replicate]) (HK.out w8 B8).1.file U8 U8.lt)
    | (go_at_call 53; (with_reducible refine Calls.mono hSt ?_); rintro e w9 ⟨rfl, U9, hF9⟩; have B9 : Below X4.heap.size X4 w9 := B8.trans (hF9.below B8.size (fun k hk => by simp only [Bl.one] at hk; omega))))
  go_ret
  refine ⟨rfl, _, HD4.out.on (On.of_below B9 HD4.out.lies), rfl, rfl, rfl, rfl, ?_, ?_, ?_, rfl, rfl, rfl, rfl, HF4.out.trans (Fr.of_below B9), HG1.out⟩
  · show ((m.ver : Nat) : Int) = _; rw [HMV.out]
  · exact HMR.out
  · exact HMR'.out
end Go.Proofs.YtngpplmndpmgiaaGreat.Tree
namespace Go.Proofs.YtngpplmndpmgiaaGreat.Tree
open Go.RowKit Go.Proofs.YtngpplmndpmgiaaGreat.Pages
set_option linter.unusedSimpArgs false
set_option linter.unusedVariables false
theorem DbAt.beside {w : World} {st : Int} {D : Db} (h : DbAt w st D) {k i : Nat} (hk : ¬ fpD D k) (v : Value) : DbAt (w.setCell ⟨k, i, none⟩ v) st D :=
  h.on ((On.refl (fpD D) w).setCell (p := ⟨k, i, none⟩) hk v)
theorem face_db (D : Db) (g : Nat) (first lb : Array Value) (eg : ∀ args w, (callFunc g args).run Tryz.prog w = .ok (.enter g args) w) (w : World) (h : DbAt w 0 D) (R : Int → Db → Prop)
    (hC : ∀ W0, DbAt W0 1 D → Fr (Bl.one D.d) w W0 → w.heap.size < W0.heap.size → Calls Tryz.prog g (first ++ lb) W0 fun e w' => ∃ z D', e = .returned (.int .i64 z) ∧ DbAt w' 1 D' ∧ D'.d = D.d ∧ Fr (fpD D) W0 w' ∧ Grows W0 (fpD D) (fpD D') ∧ R z D') :
    Calls Tryz.prog 28 #[.pointer (some ⟨D.d, 0, none⟩), .func (.func g) first lb] w fun e w' => ∃ z D', e = .returned (.int .i64 z) ∧ DbAt w' 0 D' ∧ D'.d = D.d ∧ Fr (fpD D) w w' ∧ Grows w (fpD D) (fpD D') ∧ R z D' := by
  have dlt : D.d < w.heap.size := (Array.getElem?_eq_some_iff.1 h.box).1
  obtain ⟨W1, hW1⟩ : ∃ W1, w.setCell ⟨D.d, 0, none⟩ (.int .i32 1) = W1 := ⟨_, rfl⟩
  have h1 : DbAt W1 1 D := hW1 ▸ h.lock
  have F1 : Fr (Bl.one D.d) w W1 := hW1 ▸ (Fr.refl (Bl.one D.d) w).setCell (p := ⟨D.d, 0, none⟩) (.inl rfl) _
  have s1 : W1.heap.size = w.heap.size := by rw [← hW1]; simp
  obtain ⟨W0, hW0⟩ : ∃ W0, W1.alloc (.cells #[.int .i64 0] 37) = W0 := ⟨_, rfl⟩
  have B0 : Below W1.heap.size W1 W0 := hW0 ▸ (Below.refl _ _).alloc (Nat.le_refl _) _
  have x0 : W0.heap[w.heap.size]? = some (.cells #[.int .i64 0] 37) := by rw [← hW0, ← s1]; exact heap_new W1 _
  have h0 : DbAt W0 1 D := h1.on (On.of_below B0 h1.lies)
  have F0 : Fr (Bl.one D.d) w W0 := F1.trans (Fr.of_below B0)
  have z0 : w.heap.size < W0.heap.size := (Array.getElem?_eq_some_iff.1 x0).1
  have nN : ¬ fpD D w.heap.size := fun hk => by have := h.lies _ hk; omega
  refine (face_any D.d g first lb eg w (fun z W => ∃ D', DbAt W 1 D' ∧ D'.d = D.d ∧ Fr (fpD D) W0 W ∧ Grows W0 (fpD D) (fpD D') ∧ R z D') _ h.box rfl ?_).mono ?_
  · rw [hW1, hW0]
    refine (hC W0 h0 F0 z0).mono ?_
    rintro e w' ⟨z, D', rfl, hD', hd', hF, hG, hR⟩
    exact ⟨z, rfl, hF.heap x0 nN, ⟨_, hd' ▸ hD'.box, rfl⟩, D', hD', hd', hF, hG, hR⟩
  · rintro e w' ⟨z, W, rfl, ⟨D', hD', hd', hF, hG, hR⟩, rfl⟩
    have nN' : ¬ fpD D' w.heap.size := fun hk => by
      rcases hG _ hk with h' | h'
      · exact nN h'
      · omega
    refine ⟨z, D', rfl, ?_, hd', ?_, ?_, hR⟩
    · have := (hD'.beside (i := 0) nN' (.int .i64 z)).lock (st' := 0)
      rw [hd'] at this
      exact this
    · exact (((F0.mono (fun k hk => .inl (.inl hk))).trans hF).setCell (p := ⟨w.heap.size, 0, none⟩) (.inr (Nat.le_refl _)) _).setCell (p := ⟨D.d, 0, none⟩) (.inl (.inl rfl)) _
    · intro k hk
      rcases hG k hk with h' | h'
      · exact .inl h'
      · exact .inr (by omega)
set_option maxRecDepth 100000 in
set_option maxHeartbeats 2000000 in
theorem open_any {K : List ByteArray} {n : Nat} {fs : Fs} {v : Nat} {o ao : Option (Nat × T)} (S : Store K n fs v o ao) (h2 : 40 ≤ n) (hw : fs.well) (β : Nat) (sv lv : Value) (w : World) (hf : FileAt w β sv lv fs) :
    Calls Tryz.prog 14 #[.pointer (some ⟨β, 0, none⟩)] w fun e w' => ∃ D : Db, e = .returned (.tuple #[.pointer (some ⟨D.d, 0, none⟩), .int .i64 0]) ∧ DbAt w' 0 D ∧ D.β = β ∧ D.sv = sv ∧ D.fs = fs ∧ D.ver = v ∧ D.root = rootOf o ∧ D.aroot = rootOf ao ∧ D.failed = false ∧ D.last = 0 ∧ D.ts = [] ∧ Fr (fpF β sv lv) w w' ∧ Grows w (fpF β sv lv) (fpD D) := by
  obtain ⟨W1, hW1⟩ : ∃ W1, w.alloc (.cells (db0 0 β) 75) = W1 := ⟨_, rfl⟩
  have B1 : Below w.heap.size w W1 := hW1 ▸ (Below.refl _ _).alloc (Nat.le_refl _) _
  have x1 : W1.heap[w.heap.size]? = some (.cells (db0 0 β) 75) := hW1 ▸ heap_new w _
  have z1 : W1.heap.size = w.heap.size + 1 := by rw [← hW1]; simp
  obtain ⟨W2, hW2⟩ : ∃ W2, W1.setCell ⟨w.heap.size, 0, none⟩ (.int .i32 1) = W2 := ⟨_, rfl⟩
  have x2 : W2.heap[w.heap.size]? = some (.cells (db0 1 β) 75) := by rw [← hW2]; have := set_of x1 0 (.int .i32 1); simpa using this
  have F2 : Fr (Bl.one w.heap.size) W1 W2 := hW2 ▸ (Fr.refl (Bl.one w.heap.size) W1).setCell (p := ⟨w.heap.size, 0, none⟩) (.inl rfl) _
  have z2 : W2.heap.size = w.heap.size + 1 := by rw [← hW2]; simp [z1]
  obtain ⟨W3, hW3⟩ : ∃ W3, W2.alloc (.cells #[.int .i64 0] 37) = W3 := ⟨_, rfl⟩
  have B3 : Below W2.heap.size W2 W3 := hW3 ▸ (Below.refl _ _).alloc (Nat.le_refl _) _
  have y3 : W3.heap[w.heap.size + 1]? = some (.cells #[.int .i64 0] 37) := by rw [← hW3, ← z2]; exact heap_new W2 _
  have x3 := (B3.block w.heap.size (by omega)).trans x2
  have z3 : W3.heap.size = w.heap.size + 2 := by rw [← hW3]; simp [z2]
  have BB3 : Below w.heap.size w W3 := (B1.trans (F2.below (by omega) (fun k hk => by simp only [Bl.one] at hk; omega))).trans (B3.mono (by omega))
  have hf3 : FileAt W3 β sv lv fs := hf.on (On.of_below BB3 hf.lies)
  have hLd := dbload_any S (by omega) hw w.heap.size β sv lv W3 x3 hf3
  have hPg := pages_any β sv lv fs w hf
  have hn : ¬ ((fs.safe.length : Int) < 40) := by rw [S.len]; omega
  have hFc := face_any w.heap.size 29 #[.pointer (some ⟨w.heap.size, 0, none⟩)] #[] (enters_of Tryz.func29 (by kernel_rfl) rfl) W1 (fun z W => z = 0 ∧ ∃ D : Db, DbAt W 1 D ∧ D.d = w.heap.size ∧ D.β = β ∧ D.sv = sv ∧ D.fs = fs ∧ D.ver = v ∧ D.root = rootOf o ∧ D.aroot = rootOf ao ∧ D.failed = false ∧ D.last = 0 ∧ D.ov = .slice none 0 0 ∧ D.ts = [] ∧ Fr (Bl.or (Bl.one w.heap.size) (fpF β sv lv)) W3 W ∧ Grows W3 (fpF β sv lv) (fpF β sv D.lv)) _ x1 rfl (by
    rw [hW2, hW3, z1]
    refine hLd.mono ?_
    rintro e w' ⟨rfl, D, hD, h1, h2, h3, h4, h5, h6, h7, h8, h9, h10, h11, hF, hG⟩
    refine ⟨0, rfl, hF.heap y3 ?_, ⟨_, h1 ▸ hD.box, rfl⟩, rfl, D, hD, h1, h2, h3, h4, h5, h6, h7, h8, h9, h10, h11, hF, hG⟩
    rintro (hk | hk)
    · simp only [Bl.one] at hk; omega
    · have := hf.lies _ hk; omega)
  clear hLd
  go_enter Tryz.func14, Tryz.ntmps14
  go_wp2_with (first
    | (go_at_call 27; (with_reducible refine Calls.mono hPg ?_); rintro e w' ⟨rfl, hw'⟩; subst w')
    | (go_at_call 28; (with_reducible refine Calls.mono hFc ?_); rintro e X ⟨z, W, rfl, ⟨rfl, D, hD, h1, h2, h3, h4, h5, h6, h7, h8, h9, h10, h11, hF, hG⟩, rfl⟩))
  go_ret2
  have nN : ¬ fpD D W1.heap.size := by
    rw [z1]
    rintro (hk | hk | hk | ⟨t, ht, hk⟩)
    · rw [h1] at hk; omega
    · rw [h2, h3] at hk
      rcases hG _ hk with hk | hk
      · have := hf.lies _ hk; omega
      · omega
    · rw [h10] at hk; simp [Value.ownBlock] at hk
    · rw [h11] at ht; simp at ht
  have hD0 := (hD.beside (i := 0) nN (.int .i64 0)).lock (st' := 0)
  rw [h1, z1] at hD0
  refine ⟨D, by rw [h1]; rfl, hD0, h2, h3, h4, h5, h6, h7, h8, h9, h11, ?_, ?_⟩
  · have : Fr (fpF β sv lv) w W := (Fr.of_below BB3).grow hF (fun k hk => by
      rcases hk with hk | hk
      · exact .inr (by simp only [Bl.one] at hk; omega)
      · exact .inl hk)
    exact (this.setCell (p := ⟨w.heap.size + 1, 0, none⟩) (.inr (by show w.heap.size ≤ w.heap.size + 1; omega)) _).setCell (p := ⟨w.heap.size, 0, none⟩) (.inr (Nat.le_refl _)) _
  · rintro k (hk | hk | hk | ⟨t, ht, hk⟩)
    · exact .inr (by rw [h1] at hk; omega)
    · rw [h2, h3] at hk
      exact (hG _ hk).imp id (fun h => by omega)
    · rw [h10] at hk; simp [Value.ownBlock] at hk
    · rw [h11] at ht; simp at ht
end Go.Proofs.YtngpplmndpmgiaaGreat.Tree
namespace Go.Proofs.YtngpplmndpmgiaaGreat.Tree
open Go.RowKit Go.Lib Go.Proofs.YtngpplmndpmgiaaGreat.Pages
set_option linter.unusedSimpArgs false
set_option linter.unusedVariables false
theorem run_copy_z {P : Program} (w : World) (dT sT ty elem : TypeId) (z : Nat) (b o dLen dCap : Nat) (a : Addr) (sLen sCap m : Nat) (cs : List Value)
    (hu : P.underlying dT = some (.slice elem)) (hs : (P.info? elem).map (·.size) = some z) (hn : m = Nat.min sLen dLen) (hm : cs.length = m * z)
    (hsrc : ∀ j v, cs[j]? = some v → w.cell? (a.add j) = some v) (hc : ∀ j, j < cs.length → (w.cell? ⟨b, o + j, none⟩).isSome = true) (hf : ∀ j, j < cs.length → w.frozen? ⟨b, o + j, none⟩ = false) (h1 : ∀ v ∈ cs, v.oneCell' = true) :
    (Builtin.copy_ #[dT, sT] ty #[.slice (some ⟨b, o, none⟩) dLen dCap, .slice (some a) sLen sCap]).run P w = .ok (goInt m) (w.setCells b o cs) := by
  have hl := run_loadCells_list (P := P) w a cs hsrc
  have hst := run_storeCells_cells (P := P) b o cs 0 w (by simpa using hc) (by simpa using hf) h1
  rw [hm] at hl
  cases hq : P.info? elem with
  | none => simp [hq] at hs
  | some i =>
    have hi : i.size = z := by simpa [hq] using hs
    simp [Builtin.copy_, run_underlying hu, Builtin.lenOf, Builtin.firstCells, sizeOf, typeInfo, hq, hi, ← hn, hl, hst]
theorem wpList_copy {P : Program} (w : World) {ops : Array Oper} {rest : List Oper} {o : Oper} {a : Act} {Q : Exit → Act → World → Prop} (hgd : o.guard = none) (d s : Operand) (t t' : TypeId)
    (ho : o.op = .call { callee := .builtin .copy, args := #[d, s], argTypes := #[t, t'] }) (v u : Value) (hd : a.eval d = v) (hs : a.eval s = u) {v' : Value} {w' : World}
    (hr : (Builtin.copy_ #[t, t'] o.type #[v, u]).run P w = .ok v' w') (h : wpList P ops Q rest (a.put o.dst v') w') : wpList P ops Q (o :: rest) a w :=
  wpList_plain hgd fun _ hK => by
    unfold Oper.wp execOp
    simp only [ho, resolve, invoke, builtin, Sem.run_bind, Sem.run_pure, Result.andThen_ok, List.map_toArray, List.map_cons, List.map_nil, hd, hs, hr]
    exact hK _ _ h
theorem step_copy {P : Program} {ops : Array Oper} {o : Oper} {a : Act} {w : World} {K : Act → World → Prop} {Q : Exit → Act → World → Prop} {E : Prop}
    (hg : o.guard = none) (d x : Operand) (dT sT : TypeId) (hop : o.op = Op.call { callee := Callee.builtin Builtin.copy, args := #[d, x], argTypes := #[dT, sT] })
    (v u : Value) (hd : a.eval d = v) (hx : a.eval x = u) {v' : Value} {w' : World} (hr : (Builtin.copy_ #[dT, sT] o.type #[v, u]).run P w = .ok v' w') (hK : K (a.put o.dst v') w') :
    if Region.wanted o (yielded ops a.tmps) = true then Oper.wp P o a w K Q else E := by
  have hw : Region.wanted o (yielded ops a.tmps) = true := by simp [Region.wanted, hg]
  rw [if_pos hw]
  unfold Oper.wp
  simp [execOp, hop, resolve, invoke, builtin, hd, hx, hr, Result.andThen]
  exact hK
theorem ins_list (R xs vs : List Value) (i n : Nat) (hx : xs.length = n * 3) (hv : vs.length = 3) (hi : i ≤ n) (hR : R.length = (n + 1) * 3) (ht : ∀ t, t < i * 3 → R[t]? = xs[t]?) :
    putL (putL R (i * 3) vs) ((i + 1) * 3) (xs.drop (i * 3)) = xs.take (i * 3) ++ vs ++ xs.drop (i * 3) ∧ putL (putL R ((i + 1) * 3) (xs.drop (i * 3))) (i * 3) vs = xs.take (i * 3) ++ vs ++ xs.drop (i * 3) := by
  have hd : (xs.drop (i * 3)).length = n * 3 - i * 3 := by rw [List.length_drop, hx]
  have hi3 : i * 3 ≤ n * 3 := Nat.mul_le_mul_right 3 hi
  have hi4 : (i + 1) * 3 = i * 3 + 3 := by omega
  have hn4 : (n + 1) * 3 = n * 3 + 3 := by omega
  have key : ∀ t, (xs.take (i * 3) ++ vs ++ xs.drop (i * 3))[t]? = if t < i * 3 then R[t]? else if t < (i + 1) * 3 then vs[t - i * 3]? else (xs.drop (i * 3))[t - (i + 1) * 3]? := by
    intro t
    have hl1 : (xs.take (i * 3)).length = i * 3 := by rw [List.length_take]; omega
    by_cases h1 : t < i * 3
    · rw [if_pos h1, List.append_assoc, List.getElem?_append_left (by omega), List.getElem?_take, if_pos h1, ht t h1]
    · rw [if_neg h1]
      by_cases h2 : t < (i + 1) * 3
      · rw [if_pos h2, List.getElem?_append_left (by rw [List.length_append]; omega), List.getElem?_append_right (by omega), hl1]
      · rw [if_neg h2, List.getElem?_append_right (by rw [List.length_append]; omega), List.length_append, hl1, hv, hi4]
  constructor
  · apply List.ext_getElem?
    intro t
    rw [key, putL_get _ _ _ (by rw [putL_len, hR, hd]; omega), putL_get _ _ _ (by rw [hR, hv]; omega), hd, hv]
    by_cases h1 : t < i * 3
    · rw [if_pos h1, if_neg (by omega), if_neg (by omega)]
    · rw [if_neg h1]
      by_cases h2 : t < (i + 1) * 3
      · rw [if_pos h2, if_neg (by omega), if_pos (by omega)]
      · rw [if_neg h2]
        by_cases h3 : (i + 1) * 3 ≤ t ∧ t < (i + 1) * 3 + (n * 3 - i * 3)
        · rw [if_pos h3]
        · rw [if_neg h3, if_neg (by omega), List.getElem?_eq_none (by omega), List.getElem?_eq_none (by rw [hd]; omega)]
  · apply List.ext_getElem?
    intro t
    rw [key, putL_get _ _ _ (by rw [putL_len, hR, hv]; omega), putL_get _ _ _ (by rw [hR, hd]; omega), hd, hv]
    by_cases h1 : t < i * 3
    · rw [if_pos h1, if_neg (by omega), if_neg (by omega)]
    · rw [if_neg h1]
      by_cases h2 : t < (i + 1) * 3
      · rw [if_pos h2, if_pos (by omega)]
      · rw [if_neg h2, if_neg (by omega)]
        by_cases h3 : (i + 1) * 3 ≤ t ∧ t < (i + 1) * 3 + (n * 3 - i * 3)
        · rw [if_pos h3]
        · rw [if_neg h3, List.getElem?_eq_none (by omega), List.getElem?_eq_none (by rw [hd]; omega)]
theorem infoCh : (Tryz.prog.info? 100).map (fun i => (i.zero, i.size, i.bytes)) = some (some (.agg #[.string ⟨#[]⟩, .string ⟨#[]⟩, .bool false]), 3, 40) := by kernel_rfl
theorem append_types {P : Program} (w : World) (T T' E ty : TypeId) (hT : P.underlying T = some (.slice E)) (hT' : P.underlying T' = some (.slice E)) (i0 : TypeInfo) (hi : P.info? E = some i0) (b : Option Addr) (n c : Nat) (x : Value) : (Builtin.append_ #[T, T'] ty #[.slice b n c, x]).run P w = (Builtin.append_ #[T, T] ty #[.slice b n c, x]).run P w := by
  simp [Builtin.append_, run_underlying hT, run_underlying hT', sizeOf, typeInfo, hi]
theorem wp_app' {P : Program} {ops : Array Oper} {rest : List Oper} {o : Oper} {a : Act} {Q : Exit → Act → World → Prop} (w : World) (hgd : o.guard = none) (sl x : Operand) (T T' E : TypeId) (zero : Value) (z bytes : Nat) (ho : o.op = .call { callee := .builtin .append, args := #[sl, x], argTypes := #[T, T'] }) (hT : P.underlying T = some (.slice E)) (hT' : P.underlying T' = some (.slice E)) (hi : (P.info? E).map (fun i => (i.zero, i.size, i.bytes)) = some (some zero, z, bytes)) (hzs : zero.cells.size = z) (hsz : 0 < z)
    (v : Value) (n : Nat) (xs : List Value) (hs : a.eval sl = v) (hv : w.ownsRow 0 E z v n xs) (ad : Addr) (m c : Nat) (news : List Value) (hx : a.eval x = .slice (some ad) m c) (hl : news.length = m * z) (hnews : ∀ j u, news[j]? = some u → w.cell? (ad.add j) = some u) (h1 : ∀ u ∈ news, u.oneCell' = true) (h63 : n + m ≤ 140737488355328) (hb : (n + m) * bytes ≤ 140737488355328)
    (h : ∀ v' w', AppR E z v n xs news m w v' w' → wpList P ops Q rest (a.put o.dst v') w') :
    wpList P ops Q (o :: rest) a w := by
  refine wpList_plain hgd fun K hK => ?_
  obtain ⟨v', w', hr, A⟩ := app_run (P := P) w T o.type E zero z bytes hT hi hzs hsz v n xs hv ad m c news hl hnews h1 h63 hb
  obtain ⟨i0, hi0, _, _, _⟩ := info_parts hi
  obtain ⟨a0, c0, rfl⟩ := own_shape hv
  rw [← append_types w T T' E o.type hT hT' i0 hi0] at hr
  unfold Oper.wp execOp
  simp only [ho, resolve, invoke, builtin, Sem.run_bind, Sem.run_pure, Result.andThen_ok, List.map_toArray, List.map_cons, List.map_nil, hs, hx, hr]
  exact hK _ _ (h v' w' A)
theorem own_cases {w : World} {e : TypeId} {z n : Nat} {v : Value} {xs : List Value} (h : w.ownsRow 0 e z v n xs) : (v = .slice none 0 0 ∧ n = 0 ∧ xs = []) ∨ ∃ g c cur, v = .slice (some ⟨g, 0, none⟩) n c ∧ w.heap[g]? = some (.cells cur e) ∧ n ≤ c ∧ c ≤ maxLen ∧ cur.size = c * z ∧ cur.toList.take (n * z) = xs := by
  obtain ⟨h1, h2⟩ := h
  rcases h2 with ⟨h3, h4⟩ | ⟨g, c, cur, h3, hb, hg, hnc, hcm, hcs, htake⟩
  · refine .inl ⟨h3, h4, ?_⟩
    rw [h4, Nat.zero_mul] at h1
    exact List.eq_nil_of_length_eq_zero h1
  · exact .inr ⟨g, c, cur, h3, hg, hnc, hcm, hcs, htake⟩
theorem news_at {w : World} {vb : Nat} {vs : List Value} {E : TypeId} (hvb : w.heap[vb]? = some (.cells vs.toArray E)) : ∀ j u, vs[j]? = some u → w.cell? ((⟨vb, 0, none⟩ : Addr).add j) = some u := fun j u hu => by
  rw [Addr.add_lit]
  simp [World.cell?, hvb, hu]
set_option maxRecDepth 100000 in
set_option maxHeartbeats 2000000 in
theorem insert_end (v : Value) (n vb : Nat) (xs vs : List Value) (w : World) (h : w.ownsRow 0 100 3 v n xs) (hv : vs.length = 3) (hvb : w.heap[vb]? = some (.cells vs.toArray 100)) (h1 : ∀ u ∈ vs, u.oneCell' = true) (hn : n ≤ 1000000) :
    Calls Tryz.prog 94 #[v, .int .i64 n, .slice (some ⟨vb, 0, none⟩) 1 1] w fun e w' => ∃ v', e = .returned v' ∧ AppR 100 3 v n xs vs 1 w v' w' := by
  have hnews := news_at hvb
  rcases own_cases h with ⟨rfl, rfl, rfl⟩ | ⟨g, c, cur, rfl, hg, hnc, hcm, hcs, htake⟩
  · go_enter Tryz.func94, Tryz.ntmps94
    go_wp2_with (at_builtin; refine wp_app' w rfl (.tmp 23) (.tmp 24) 80 79 100 _ 3 40 rfl Tryz.underlying80 Tryz.underlying79 infoCh rfl (by decide) (.slice none 0 0) 0 [] rfl h ⟨vb, 0, none⟩ 1 1 vs rfl (by omega) hnews h1 (by omega) (by omega) ?_; intro v3 w3 A3)
    go_ret
    exact ⟨_, rfl, A3⟩
  · by_cases hcn : c = n
    · subst c
      have hci : (n : Int) ≤ (n : Int) := by omega
      go_enter Tryz.func94, Tryz.ntmps94
      go_wp2_with (at_builtin; refine wp_app' w rfl (.tmp 23) (.tmp 24) 80 79 100 _ 3 40 rfl Tryz.underlying80 Tryz.underlying79 infoCh rfl (by decide) (.slice (some ⟨g, 0, none⟩) n n) n xs rfl h ⟨vb, 0, none⟩ 1 1 vs rfl (by omega) hnews h1 (by omega) (by omega) ?_; intro v3 w3 A3)
      go_ret
      exact ⟨_, rfl, A3⟩
    · have hci : (n : Int) ≤ (c : Int) := by omega
      go_enter Tryz.func94, Tryz.ntmps94
      go_wp2_with (at_builtin; refine wp_app' w rfl (.tmp 23) (.tmp 24) 80 79 100 _ 3 40 rfl Tryz.underlying80 Tryz.underlying79 infoCh rfl (by decide) (.slice (some ⟨g, 0, none⟩) n c) n xs rfl h ⟨vb, 0, none⟩ 1 1 vs rfl (by omega) hnews h1 (by omega) (by omega) ?_; intro v3 w3 A3)
      go_ret
      exact ⟨_, rfl, A3⟩
theorem own_cellZ {w : World} {e : TypeId} {z g n c : Nat} {xs : List Value} (h : w.ownsRow 0 e z (.slice (some ⟨g, 0, none⟩) n c) n xs) (t : Nat) (ht : t < n * z) : (w.cell? ⟨g, t, none⟩).isSome = true ∧ w.frozen? ⟨g, t, none⟩ = false := by
  rcases own_cases h with ⟨h0, _⟩ | ⟨g', c', cur, h3, hg, hnc, hcm, hcs, htake⟩
  · simp at h0
  · simp only [Value.slice.injEq, Option.some.injEq, Addr.mk.injEq, and_true, true_and] at h3
    obtain ⟨rfl, rfl⟩ := h3
    refine ⟨?_, free_of hg t⟩
    have : t < cur.size := by rw [hcs]; exact Nat.lt_of_lt_of_le ht (Nat.mul_le_mul_right z hnc)
    simp [World.cell?, hg, this]
set_option maxRecDepth 100000 in
set_option maxHeartbeats 2000000 in
theorem insert_grow (g n c i vb : Nat) (xs vs : List Value) (w : World) (h : w.ownsRow 0 100 3 (.slice (some ⟨g, 0, none⟩) n c) n xs) (hx : ∀ u ∈ xs, u.oneCell' = true) (hv : vs.length = 3) (hvb : w.heap[vb]? = some (.cells vs.toArray 100)) (h1 : ∀ u ∈ vs, u.oneCell' = true) (hn : n ≤ 1000000) (hi : i < n) (hc : c < n + 1) :
    Calls Tryz.prog 94 #[.slice (some ⟨g, 0, none⟩) n c, .int .i64 i, .slice (some ⟨vb, 0, none⟩) 1 1] w fun e w' => ∃ G, e = .returned (.slice (some ⟨w.heap.size, 0, none⟩) (n + 1) G) ∧ w'.ownsRow 0 100 3 (.slice (some ⟨w.heap.size, 0, none⟩) (n + 1) G) (n + 1) (xs.take (i * 3) ++ vs ++ xs.drop (i * 3)) ∧ Below w.heap.size w w' := by
  have hnews := news_at hvb
  have hxl : xs.length = n * 3 := h.1
  have hnc : n ≤ c := by
    rcases own_cases h with ⟨h0, _⟩ | ⟨g', c', cur, h3, hg, hnc, hcm, hcs, htake⟩
    · simp at h0
    · simp only [Value.slice.injEq, Option.some.injEq, Addr.mk.injEq, and_true, true_and] at h3
      obtain ⟨rfl, rfl⟩ := h3
      exact hnc
  have hcell := World.ownsRow.cells (w := w) h (g := g) rfl
  obtain ⟨i0, hi0, hz0, hzs, hzb⟩ := info_parts infoCh
  have hsz : (Tryz.prog.info? 100).map (·.size) = some 3 := by rw [hi0]; simp [hzs]
  have hgw : g < w.heap.size := own_lt h rfl
  have hvw : vb < w.heap.size := (Array.getElem?_eq_some_iff.1 hvb).1
  have hold : (Builtin.firstCells i0.size i (.slice (some ⟨g, 0, none⟩) i c)).run Tryz.prog w.drew = .ok (xs.take (i * 3)).toArray w.drew := by
    rw [hzs]
    exact run_firstCells_some w.drew 3 i ⟨g, 0, none⟩ i c (xs.take (i * 3)) (by rw [List.length_take]; omega) (fun j u hj => by
      rw [List.getElem?_take] at hj
      split at hj
      · exact hcell j u hj
      · cases hj)
  have hkk : (n : Int) + 1 - (i : Int) = ((n + 1 - i : Nat) : Int) := by omega
  have hik : i + (n + 1 - i) = n + 1 := by omega
  obtain ⟨G, hG⟩ : ∃ G, G = grownCap w (n + 1) c 100 := ⟨_, rfl⟩
  obtain ⟨ROW, hROW⟩ : ∃ ROW : Array Value, ROW = (xs.take (i * 3)).toArray ++ Builtin.zeroCells (Value.agg #[.string ⟨#[]⟩, .string ⟨#[]⟩, .bool false]).cells (n + 1 - i) ++ Builtin.zeroCells (Value.agg #[.string ⟨#[]⟩, .string ⟨#[]⟩, .bool false]).cells (G - (n + 1)) := ⟨_, rfl⟩
  have hrz : ∀ ty, (Builtin.append_ #[80, 3] ty #[.slice (some ⟨g, 0, none⟩) i c, .int .i64 ((n : Int) + 1 - (i : Int))]).run Tryz.prog w = .ok (.slice (some ⟨w.heap.size, 0, none⟩) (n + 1) G) (w.drew.alloc (.cells ROW 100)) := fun ty => by
    have h' := Lib.run_append_grow_zeros w 80 3 ty 100 i0 _ .i64 .i64 Tryz.underlying80 Tryz.underlying3 hi0 hz0 (some ⟨g, 0, none⟩) i c (xs.take (i * 3)) hold (n + 1 - i) (by omega) (by omega) (by omega) (by omega) (by rw [hzb]; omega) (by rw [hzb, hik]; exact growslice_fits hc (by omega))
    rw [hik] at h'
    rw [hkk, hROW, hG]
    exact h'
  have hGn : n + 1 ≤ G := by rw [hG]; exact grownCap_ge w _ _ _
  have hGm : G ≤ maxLen := by rw [hG]; exact grownCap_le_maxLen w (n + 1) c _ (by unfold maxLen; omega)
  have hRs : ROW.size = G * 3 := by
    rw [hROW]
    simp [Builtin.zeroCells, Value.cells, hxl]
    omega
  obtain ⟨W1, hW1⟩ : ∃ W1, W1 = w.drew.alloc (.cells ROW 100) := ⟨_, rfl⟩
  have hb1 : Below w.heap.size w W1 := by rw [hW1]; exact (Below.refl _ w).drew.alloc (Nat.le_refl _) _
  have hN : W1.heap[w.heap.size]? = some (.cells ROW 100) := by rw [hW1]; exact heap_new w.drew _
  have hoN : W1.ownsRow 0 100 3 (.slice (some ⟨w.heap.size, 0, none⟩) (n + 1) G) (n + 1) (ROW.toList.take ((n + 1) * 3)) :=
    ⟨by rw [List.length_take, Array.length_toList, hRs]; omega, .inr ⟨_, G, ROW, rfl, Nat.zero_le _, hN, hGn, hGm, hRs, rfl⟩⟩
  obtain ⟨W2, hW2⟩ : ∃ W2, W2 = W1.setCells w.heap.size (i * 3) vs := ⟨_, rfl⟩
  have hR0 : (ROW.toList.take ((n + 1) * 3)).length = (n + 1) * 3 := hoN.1
  have ho2 : W2.ownsRow 0 100 3 (.slice (some ⟨w.heap.size, 0, none⟩) (n + 1) G) (n + 1) (putL (ROW.toList.take ((n + 1) * 3)) (i * 3) vs) := by rw [hW2]; exact own_setCells vs (i * 3) hoN (by rw [hR0]; omega)
  have hF2 : Fr (Bl.one w.heap.size) W1 W2 := by rw [hW2]; exact fr_setCells vs (i * 3) (Fr.refl _ W1)
  have hb2 : Below w.heap.size w W2 := hb1.trans (hF2.below hb1.size (fun k hk => by simp only [Bl.one] at hk; omega))
  obtain ⟨news, hnw⟩ : ∃ news, news = xs.drop (i * 3) := ⟨_, rfl⟩
  have hnl : news.length = (n - i) * 3 := by rw [hnw, List.length_drop, hxl]; omega
  have hcpA : ∀ ty dc, (Builtin.copy_ #[80, 79] ty #[.slice (some ⟨w.heap.size, i * 3, none⟩) (n + 1 - i) dc, .slice (some ⟨vb, 0, none⟩) 1 1]).run Tryz.prog W1 = .ok (goInt 1) W2 := fun ty dc => by
    rw [hW2]
    exact run_copy_z W1 _ _ ty 100 3 w.heap.size (i * 3) (n + 1 - i) dc ⟨vb, 0, none⟩ 1 1 1 vs Tryz.underlying80 hsz (by simp only [Nat.min_def]; split <;> omega) (by omega)
      (news_at ((hb1.block _ hvw).trans hvb)) (fun j hj => (own_cellZ hoN _ (by omega)).1) (fun j hj => (own_cellZ hoN _ (by omega)).2) h1
  have hcpB : ∀ ty dc sc, (Builtin.copy_ #[80, 80] ty #[.slice (some ⟨w.heap.size, (i + 1) * 3, none⟩) (n + 1 - (i + 1)) dc, .slice (some ⟨g, i * 3, none⟩) (n - i) sc]).run Tryz.prog W2.drew = .ok (goInt ((n - i : Nat) : Int)) (W2.drew.setCells w.heap.size ((i + 1) * 3) news) := fun ty dc sc => by
    exact run_copy_z W2.drew _ _ ty 100 3 w.heap.size ((i + 1) * 3) (n + 1 - (i + 1)) dc ⟨g, i * 3, none⟩ (n - i) sc (n - i) news Tryz.underlying80 hsz (by simp only [Nat.min_def]; split <;> omega) hnl
      (fun j u hj => by
        rw [hnw, List.getElem?_drop] at hj
        have h3 := own_on h (On.of_below hb2 (Y := fun k => (Value.slice (some ⟨g, 0, none⟩) n c).ownBlock = some k) (fun k hk => own_lt h hk)) (fun k hk => hk)
        have := World.ownsRow.cells (w := W2) h3 (g := g) rfl (i * 3 + j) u hj
        rw [Addr.add_lit] at this ⊢
        rw [Nat.zero_add] at this
        exact this) (fun j hj => (own_cellZ (w := W2) ho2 _ (by rw [hnl] at hj; omega)).1) (fun j hj => (own_cellZ (w := W2) ho2 _ (by rw [hnl] at hj; omega)).2) (fun u hu => hx u (List.mem_of_mem_drop (hnw ▸ hu)))
  have HFIN : Hid ((W2.drew.setCells w.heap.size ((i + 1) * 3) news).ownsRow 0 100 3 (.slice (some ⟨w.heap.size, 0, none⟩) (n + 1) G) (n + 1) (xs.take (i * 3) ++ vs ++ xs.drop (i * 3)) ∧ Below w.heap.size w (W2.drew.setCells w.heap.size ((i + 1) * 3) news)) := by
    have ho3 := own_setCells (w := W2.drew) news ((i + 1) * 3) ho2 (by rw [putL_len, hR0, hnl]; omega)
    have e := (ins_list (ROW.toList.take ((n + 1) * 3)) xs vs i n hxl hv (by omega) hR0 (fun t ht => by
      rw [List.getElem?_take, if_pos (by omega), hROW]
      simp only [Array.toList_append, List.append_assoc]
      rw [List.getElem?_append_left (by rw [List.length_take]; omega), List.getElem?_take, if_pos ht])).1
    rw [← hnw] at e
    rw [e, hnw] at ho3
    rw [hnw]
    exact ⟨ho3, hb2.drew.trans ((fr_setCells _ _ (Fr.refl (Bl.one w.heap.size) W2.drew)).below (by have := hb2.size; exact this) (fun k hk => by simp only [Bl.one] at hk; omega))⟩
  have hci : ¬ (c = i) := by omega
  have hGi : ¬ (G = i) := by omega
  have hGi1 : ¬ (G = i + 1) := by omega
  have hz2 : ¬ ((i : Int) = (n : Int)) := by omega
  have hz3 : (c : Int) < (n : Int) + 1 := by omega
  have hic : i ≤ c := by omega
  have hin : i ≤ n := by omega
  have hGI : i + 1 ≤ n + 1 := by omega
  have hin1 : i ≤ n + 1 := by omega
  have hw1 : IntKind.i64.wrap ((i : Int) + 1) = (i : Int) + 1 := by rw [IntKind.wrap_i64]; omega
  have hb1' : (0 : Int) ≤ (i : Int) + 1 := by omega
  have htn : ((i : Int) + 1).toNat = i + 1 := by omega
  have hb3 : (i : Int) + 1 ≤ (n : Int) + 1 := by omega
  have hb4 : (i : Int) ≤ (n : Int) := by omega
  have hG63 : G ≤ 9223372036854775807 := by unfold maxLen at hGm; omega
  clear hkk hik hold hROW hG hRs hoN ho2 hnw hnl hb1 hb2 hF2 hW2 hN hcell hR0 hxl h hx h1 hnews hvb hsz
  rw [← hW1] at hrz
  clear hW1
  go_enter Tryz.func94, Tryz.ntmps94
  go_wp2_with (first
    | (at_builtin; refine Lib.wpList_append_run _ rfl _ _ _ _ rfl _ _ rfl rfl _ _ (hrz _) ?_)
    | (at_builtin; refine wpList_copy W1 rfl _ _ 80 79 rfl _ _ rfl rfl (hcpA _ _) ?_))
  go_region_held3 (fun _ => True) (trivial)
    (first | (refine step_copy rfl _ _ 80 80 rfl (.slice (some ⟨w.heap.size, (i + 1) * 3, none⟩) (n + 1 - (i + 1)) (G - (i + 1))) (.slice (some ⟨g, i * 3, none⟩) (n - i) (c - i)) (by simp [Act.eval, Act.put]) (by simp [Act.eval, Act.put]) (hcpB _ _ _) ?_))
  all_goals go_wp2
  go_ret
  exact ⟨G, rfl, HFIN.out.1, HFIN.out.2⟩
set_option maxRecDepth 100000 in
set_option maxHeartbeats 2000000 in
theorem insert_room (g n c i vb : Nat) (xs vs : List Value) (w : World) (h : w.ownsRow 0 100 3 (.slice (some ⟨g, 0, none⟩) n c) n xs) (hx : ∀ u ∈ xs, u.oneCell' = true) (hv : vs.length = 3) (hvb : w.heap[vb]? = some (.cells vs.toArray 100)) (h1 : ∀ u ∈ vs, u.oneCell' = true) (hne : vb ≠ g) (hn : n ≤ 1000000) (hi : i < n) (hc : n + 1 ≤ c) :
    Calls Tryz.prog 94 #[.slice (some ⟨g, 0, none⟩) n c, .int .i64 i, .slice (some ⟨vb, 0, none⟩) 1 1] w fun e w' => e = .returned (.slice (some ⟨g, 0, none⟩) (n + 1) c) ∧ w'.ownsRow 0 100 3 (.slice (some ⟨g, 0, none⟩) (n + 1) c) (n + 1) (xs.take (i * 3) ++ vs ++ xs.drop (i * 3)) ∧ Fr (Bl.one g) w w' := by
  have hxl : xs.length = n * 3 := h.1
  obtain ⟨cur, hg, hcm, hcs, htake⟩ : ∃ cur, w.heap[g]? = some (.cells cur 100) ∧ c ≤ maxLen ∧ cur.size = c * 3 ∧ cur.toList.take (n * 3) = xs := by
    rcases own_cases h with ⟨h0, _⟩ | ⟨g', c', cur, h3, hg, hnc, hcm, hcs, htake⟩
    · simp at h0
    · simp only [Value.slice.injEq, Option.some.injEq, Addr.mk.injEq, and_true, true_and] at h3
      obtain ⟨rfl, rfl⟩ := h3
      exact ⟨cur, hg, hcm, hcs, htake⟩
  have hsz : (Tryz.prog.info? 100).map (·.size) = some 3 := by
    obtain ⟨i0, hi0, hz0, hzs, hzb⟩ := info_parts infoCh
    rw [hi0]; simp [hzs]
  have hoN : w.ownsRow 0 100 3 (.slice (some ⟨g, 0, none⟩) (n + 1) c) (n + 1) (cur.toList.take ((n + 1) * 3)) :=
    ⟨by rw [List.length_take, Array.length_toList, hcs]; omega, .inr ⟨_, c, cur, rfl, Nat.zero_le _, hg, hc, hcm, hcs, rfl⟩⟩
  have hR0 : (cur.toList.take ((n + 1) * 3)).length = (n + 1) * 3 := hoN.1
  obtain ⟨news, hnw⟩ : ∃ news, news = xs.drop (i * 3) := ⟨_, rfl⟩
  have hnl : news.length = (n - i) * 3 := by rw [hnw, List.length_drop, hxl]; omega
  obtain ⟨W1, hW1⟩ : ∃ W1, W1 = w.drew.setCells g ((i + 1) * 3) news := ⟨_, rfl⟩
  have ho1 : W1.ownsRow 0 100 3 (.slice (some ⟨g, 0, none⟩) (n + 1) c) (n + 1) (putL (cur.toList.take ((n + 1) * 3)) ((i + 1) * 3) news) := by rw [hW1]; exact own_setCells (w := w.drew) news ((i + 1) * 3) hoN (by rw [hR0, hnl]; omega)
  have hF1 : Fr (Bl.one g) w W1 := by rw [hW1]; exact fr_setCells news ((i + 1) * 3) (Fr.refl _ w).drew
  have hcell := World.ownsRow.cells (w := w) h (g := g) rfl
  have hcpA : ∀ ty dc sc, (Builtin.copy_ #[80, 80] ty #[.slice (some ⟨g, (i + 1) * 3, none⟩) (n + 1 - (i + 1)) dc, .slice (some ⟨g, i * 3, none⟩) (n + 1 - i) sc]).run Tryz.prog w.drew = .ok (goInt ((n - i : Nat) : Int)) W1 := fun ty dc sc => by
    rw [hW1]
    exact run_copy_z w.drew _ _ ty 100 3 g ((i + 1) * 3) (n + 1 - (i + 1)) dc ⟨g, i * 3, none⟩ (n + 1 - i) sc (n - i) news Tryz.underlying80 hsz (by simp only [Nat.min_def]; split <;> omega) hnl
      (fun j u hj => by
        rw [hnw, List.getElem?_drop] at hj
        have := hcell (i * 3 + j) u hj
        rw [Addr.add_lit] at this ⊢
        rw [Nat.zero_add] at this
        exact this) (fun j hj => (own_cellZ (w := w) hoN _ (by rw [hnl] at hj; omega)).1) (fun j hj => (own_cellZ (w := w) hoN _ (by rw [hnl] at hj; omega)).2) (fun u hu => hx u (List.mem_of_mem_drop (hnw ▸ hu)))
  have hcpB : ∀ ty dc, (Builtin.copy_ #[80, 79] ty #[.slice (some ⟨g, i * 3, none⟩) (n + 1 - i) dc, .slice (some ⟨vb, 0, none⟩) 1 1]).run Tryz.prog W1 = .ok (goInt 1) (W1.setCells g (i * 3) vs) := fun ty dc => by
    exact run_copy_z W1 _ _ ty 100 3 g (i * 3) (n + 1 - i) dc ⟨vb, 0, none⟩ 1 1 1 vs Tryz.underlying80 hsz (by simp only [Nat.min_def]; split <;> omega) (by omega)
      (news_at (hF1.heap hvb (fun e => hne e))) (fun j hj => (own_cellZ ho1 _ (by omega)).1) (fun j hj => (own_cellZ ho1 _ (by omega)).2) h1
  have hov : ∀ lb cb, (callFunc 121 #[.slice (some ⟨vb, 0, none⟩) 1 1, .slice (some ⟨g, (i + 1) * 3, none⟩) lb cb]).run Tryz.prog w = .ok (.value (.bool false)) w := fun lb cb => by
    rw [run_callFunc_extern Tryz.func121 (by kernel_rfl) (by kernel_rfl) (by kernel_rfl) (e := Extern.SlicesOverlaps.overlaps #[79, 79] #[4]) (by kernel_rfl),
      Lib.run_overlaps_apart w 79 4 100 Tryz.underlying79 3 (fun w => by kernel_rfl) ⟨vb, 0, none⟩ ⟨g, (i + 1) * 3, none⟩ 1 1 lb cb hne 100 100 vs.length cur.size (by simp [World.shape?, hvb]) (by simp [World.shape?, hg]) (by rw [hcs]; omega) (free_of hvb _) (free_of hvb _)]
    rfl
  have HFIN : Hid ((W1.setCells g (i * 3) vs).ownsRow 0 100 3 (.slice (some ⟨g, 0, none⟩) (n + 1) c) (n + 1) (xs.take (i * 3) ++ vs ++ xs.drop (i * 3)) ∧ Fr (Bl.one g) w (W1.setCells g (i * 3) vs)) := by
    have ho3 := own_setCells (w := W1) vs (i * 3) ho1 (by rw [putL_len, hR0, hv]; omega)
    have e := (ins_list (cur.toList.take ((n + 1) * 3)) xs vs i n hxl hv (by omega) hR0 (fun t ht => by
      rw [← htake, List.getElem?_take, if_pos (by omega), List.getElem?_take, if_pos (by omega)])).2
    rw [← hnw] at e
    rw [e, hnw] at ho3
    exact ⟨ho3, fr_setCells vs (i * 3) hF1⟩
  have hci : ¬ (c = i) := by omega
  have hci1 : ¬ (c = i + 1) := by omega
  have hz2 : ¬ ((i : Int) = (n : Int)) := by omega
  have hz3 : ¬ ((c : Int) < (n : Int) + 1) := by omega
  have hic : i ≤ c := by omega
  have hin : i ≤ n := by omega
  have hin1 : i ≤ n + 1 := by omega
  have hw1 : IntKind.i64.wrap ((i : Int) + 1) = (i : Int) + 1 := by rw [IntKind.wrap_i64]; omega
  have hw2 : IntKind.i64.wrap ((n : Int) + 1) = (n : Int) + 1 := by rw [IntKind.wrap_i64]; omega
  have hb1' : (0 : Int) ≤ (i : Int) + 1 := by omega
  have hb2' : (0 : Int) ≤ (n : Int) + 1 := by omega
  have htn : ((i : Int) + 1).toNat = i + 1 := by omega
  have htn2 : ((n : Int) + 1).toNat = n + 1 := by omega
  have hb3 : (i : Int) + 1 ≤ (n : Int) + 1 := by omega
  have hb4 : (i : Int) ≤ (n : Int) := by omega
  have hb5 : (n : Int) + 1 ≤ (c : Int) := by omega
  have hb6 : (i : Int) ≤ (n : Int) + 1 := by omega
  have hc63 : c ≤ 9223372036854775807 := by unfold maxLen at hcm; omega
  clear hoN ho1 hnw hnl hF1 hcell hR0 hxl h hx h1 hvb hsz hg htake hcs hW1
  go_enter Tryz.func94, Tryz.ntmps94
  go_wp2_with (simp only [hov])
  go_region_held3 (fun _ => True) (trivial)
    (first | (refine step_copy rfl _ _ 80 80 rfl (.slice (some ⟨g, (i + 1) * 3, none⟩) (n + 1 - (i + 1)) (c - (i + 1))) (.slice (some ⟨g, i * 3, none⟩) (n + 1 - i) (c - i)) (by simp [Act.eval, Act.put]) (by simp [Act.eval, Act.put]) (hcpA _ _ _) ?_))
  all_goals go_wp2_with (at_builtin; refine wpList_copy W1 rfl _ _ 80 79 rfl _ _ rfl rfl (hcpB _ _) ?_)
  go_ret
  exact ⟨rfl, HFIN.out.1, HFIN.out.2⟩
theorem insert_any (v : Value) (n i vb : Nat) (xs vs : List Value) (w : World) (h : w.ownsRow 0 100 3 v n xs) (hx : ∀ u ∈ xs, u.oneCell' = true) (hv : vs.length = 3) (hvb : w.heap[vb]? = some (.cells vs.toArray 100)) (h1 : ∀ u ∈ vs, u.oneCell' = true) (hne : v.ownBlock ≠ some vb) (hn : n ≤ 1000000) (hi : i ≤ n) :
    Calls Tryz.prog 94 #[v, .int .i64 i, .slice (some ⟨vb, 0, none⟩) 1 1] w fun e w' => ∃ v', e = .returned v' ∧ w'.ownsRow 0 100 3 v' (n + 1) (xs.take (i * 3) ++ vs ++ xs.drop (i * 3)) ∧ Fr (fun k => v.ownBlock = some k) w w' ∧ ∀ k, v'.ownBlock = some k → v.ownBlock = some k ∨ w.heap.size ≤ k := by
  have hxl : xs.length = n * 3 := h.1
  rcases Nat.lt_or_eq_of_le hi with hlt | rfl
  · rcases own_cases h with ⟨rfl, rfl, rfl⟩ | ⟨g, c, cur, rfl, hg, hnc, hcm, hcs, htake⟩
    · omega
    · rcases Nat.lt_or_ge c (n + 1) with hc | hc
      · refine (insert_grow g n c i vb xs vs w h hx hv hvb h1 hn hlt hc).mono ?_
        rintro e w' ⟨G, rfl, ho, hb⟩
        exact ⟨_, rfl, ho, Fr.of_below hb, fun k hk => .inr (by simp [Value.ownBlock] at hk; omega)⟩
      · refine (insert_room g n c i vb xs vs w h hx hv hvb h1 (fun e => hne (by rw [e]; rfl)) hn hlt hc).mono ?_
        rintro e w' ⟨rfl, ho, hf⟩
        refine ⟨_, rfl, ho, hf.mono (fun k hk => .inl (by simp only [Bl.one] at hk; subst hk; rfl)), fun k hk => .inl hk⟩
  · refine (insert_end v i vb xs vs w h hv hvb h1 hn).mono ?_
    rintro e w' ⟨v', rfl, A⟩
    refine ⟨v', rfl, ?_, A.fr, A.lies⟩
    rw [← hxl, List.take_length, List.drop_length, List.append_nil]
    exact A.row
end Go.Proofs.YtngpplmndpmgiaaGreat.Tree
namespace Go.Proofs.YtngpplmndpmgiaaGreat.Tree
open Go.RowKit Go.Proofs.YtngpplmndpmgiaaGreat.Pages
set_option linter.unusedSimpArgs false
set_option linter.unusedVariables false
theorem ch_len (cs : List Ch) : (cs.flatMap Ch.cells).length = cs.length * 3 := by
  induction cs with
  | nil => rfl
  | cons c cs ih => rw [List.flatMap_cons, List.length_append, ih, List.length_cons]; simp [Ch.cells]; omega
theorem ch_take : ∀ (cs : List Ch) (i : Nat), (cs.flatMap Ch.cells).take (i * 3) = (cs.take i).flatMap Ch.cells
  | [], i => by simp
  | c :: cs, 0 => by simp
  | c :: cs, i + 1 => by
    rw [List.take_succ_cons, List.flatMap_cons, List.flatMap_cons, ← ch_take cs i, List.take_append, List.take_of_length_le (by simp [Ch.cells]; omega)]
    congr 2
    simp [Ch.cells]; omega
theorem ch_drop : ∀ (cs : List Ch) (i : Nat), (cs.flatMap Ch.cells).drop (i * 3) = (cs.drop i).flatMap Ch.cells
  | [], i => by simp
  | c :: cs, 0 => by simp
  | c :: cs, i + 1 => by
    rw [List.drop_succ_cons, List.flatMap_cons, ← ch_drop cs i, List.drop_append, List.drop_eq_nil_of_le (by simp [Ch.cells]; omega), List.nil_append]
    congr 1
    simp [Ch.cells]; omega
theorem ch_one (cs : List Ch) : ∀ u ∈ cs.flatMap Ch.cells, u.oneCell' = true := by
  intro u hu
  obtain ⟨c, _, hc⟩ := List.mem_flatMap.1 hu
  simp [Ch.cells] at hc
  rcases hc with rfl | rfl | rfl <;> rfl
theorem ch_set (cs : List Ch) (i : Nat) (c : Ch) (hi : i < cs.length) : (((cs.flatMap Ch.cells).set (i * 3) (.string c.key)).set (i * 3 + 1) (.string c.val)).set (i * 3 + 2) (.bool c.gone) = (cs.set i c).flatMap Ch.cells := by
  have hl := ch_len cs
  apply List.ext_getElem?
  intro t
  have e : cs.set i c = cs.take i ++ c :: cs.drop (i + 1) := by rw [List.set_eq_take_append_cons_drop, if_pos hi]
  have hR : ((cs.set i c).flatMap Ch.cells)[t]? = if t < i * 3 then (cs.flatMap Ch.cells)[t]? else if t < i * 3 + 3 then (Ch.cells c)[t - i * 3]? else (cs.flatMap Ch.cells)[t]? := by
    rw [e, List.flatMap_append, List.flatMap_cons, ← ch_take, ← ch_drop]
    have h1 : ((cs.flatMap Ch.cells).take (i * 3)).length = i * 3 := by rw [List.length_take]; omega
    by_cases h : t < i * 3
    · rw [if_pos h, List.getElem?_append_left (by omega), List.getElem?_take, if_pos h]
    · rw [if_neg h, List.getElem?_append_right (by omega), h1]
      by_cases h2 : t < i * 3 + 3
      · rw [if_pos h2, List.getElem?_append_left (by simp [Ch.cells]; omega)]
      · rw [if_neg h2, List.getElem?_append_right (by simp [Ch.cells]; omega), List.getElem?_drop]
        congr 1
        simp [Ch.cells]; omega
  rw [hR]
  simp only [List.getElem?_set, List.length_set]
  by_cases h : t < i * 3
  · rw [if_pos h, if_neg (by omega), if_neg (by omega), if_neg (by omega)]
  · rw [if_neg h]
    by_cases h2 : t < i * 3 + 3
    · rw [if_pos h2]
      have : t = i * 3 ∨ t = i * 3 + 1 ∨ t = i * 3 + 2 := by omega
      rcases this with rfl | rfl | rfl
      · rw [if_neg (by omega), if_neg (by omega), if_pos rfl, if_pos (by omega)]; simp [Ch.cells]
      · rw [if_neg (by omega), if_pos rfl, if_pos (by omega)]; simp [Ch.cells]
      · rw [if_pos rfl, if_pos (by omega)]; simp [Ch.cells]
    · rw [if_neg h2, if_neg (by omega), if_neg (by omega), if_neg (by omega)]
set_option maxRecDepth 100000 in
set_option maxHeartbeats 2000000 in
theorem with_any (v : Value) (cs : List Ch) (c : Ch) (w : World) (h : w.ownsRow 0 100 3 v cs.length (cs.flatMap Ch.cells)) (hr : Rise cs) (hn : cs.length ≤ 1000) :
    Calls Tryz.prog 64 #[v, .agg #[.string c.key, .string c.val, .bool c.gone]] w fun e w' => ∃ v', e = .returned v' ∧ w'.ownsRow 0 100 3 v' (withC cs c).length ((withC cs c).flatMap Ch.cells) ∧ Fr (fun k => v.ownBlock = some k) w w' ∧ ∀ k, v'.ownBlock = some k → v.ownBlock = some k ∨ w.heap.size ≤ k := by
  obtain ⟨ca, cc, rfl, hcc, hrow⟩ := own_row0 h
  obtain ⟨W1, hW1⟩ : ∃ W1, w.alloc (.cells #[.string c.key, .string c.val, .bool c.gone] 100) = W1 := ⟨_, rfl⟩
  have B1 : Below w.heap.size w W1 := hW1 ▸ (Below.refl _ _).alloc (Nat.le_refl _) _
  have x1 : W1.heap[w.heap.size]? = some (.cells #[.string c.key, .string c.val, .bool c.gone] 100) := hW1 ▸ heap_new w _
  have z1 : w.heap.size < W1.heap.size := (Array.getElem?_eq_some_iff.1 x1).1
  have hS : ∀ k, (Value.slice ca cs.length cc).ownBlock = some k → k < w.heap.size := fun k hk => own_lt h hk
  have hSe := search_any ca cc cs c.key (fun k => (Value.slice ca cs.length cc).ownBlock = some k) W1 (hrow.on (On.of_below B1 hS)) (fun k hk => Nat.lt_of_lt_of_le (hS k hk) B1.size) hr (by omega) hcc
  obtain ⟨c0, c1, c2⟩ := box3 x1
  have HX : Hid (∀ X, Below W1.heap.size W1 X → X.ownsRow 0 100 3 (.slice ca cs.length cc) cs.length (cs.flatMap Ch.cells) ∧ X.heap[w.heap.size]? = some (.cells #[.string c.key, .string c.val, .bool c.gone] 100) ∧ Below w.heap.size w X) := by
    intro X hX
    have hb := B1.trans (hX.mono B1.size)
    exact ⟨own_on h (On.of_below hb (Y := fun k => (Value.slice ca cs.length cc).ownBlock = some k) hS) (fun k hk => hk), (hX.block _ z1).trans x1, hb⟩
  by_cases hf : fnd cs c.key = true
  · obtain ⟨h0, _⟩ := fnd_at hf hr
    have HW : Hid (withC cs c = cs.set (srch cs c.key) c) := by show _ = _; unfold withC; rw [if_pos hf]
    rw [hf] at hSe
    obtain ⟨i, hi⟩ : ∃ i, srch cs c.key = i := ⟨_, rfl⟩
    rw [hi] at hSe h0 HW
    have hii : (i : Int) < (cs.length : Int) := by omega
    rcases own_cases h with ⟨e1, e2, e3⟩ | ⟨g, c', cur, e1, hg, hnc, hcm, hcs, htake⟩
    · omega
    simp only [Value.slice.injEq, true_and] at e1
    obtain ⟨rfl, rfl⟩ := e1
    clear hi hf hrow
    go_enter Tryz.func64, Tryz.ntmps64
    go_wp2_with (go_at_call 66; (with_reducible refine Calls.mono hSe ?_); rintro e X ⟨rfl, hX⟩; obtain ⟨hoX, xX, hbX⟩ := HX.out X hX; obtain ⟨d0, d1, d2⟩ := box3 xX; have q0 := own_cellZ hoX (i * 3) (by omega); have q1 := own_cellZ hoX (i * 3 + 1) (by omega); have q2 := own_cellZ hoX (i * 3 + 2) (by omega); obtain ⟨u0, hu0⟩ := Option.isSome_iff_exists.1 q0.1; obtain ⟨u1, hu1⟩ := Option.isSome_iff_exists.1 q1.1; obtain ⟨u2, hu2⟩ := Option.isSome_iff_exists.1 q2.1; have f0 := q0.2; have f1 := q1.2; have f2 := q2.2; clear q0 q1 q2)
    go_ret
    have hl := ch_len cs
    have s1 := own_setP hoX (i * 3) (by omega) (.string c.key)
    have s2 := own_setP s1 (i * 3 + 1) (by rw [List.length_set]; omega) (.string c.val)
    have s3 := own_setP s2 (i * 3 + 2) (by rw [List.length_set, List.length_set]; omega) (.bool c.gone)
    rw [ch_set cs i c h0] at s3
    refine ⟨_, rfl, ?_, ?_, fun k hk => .inl hk⟩
    · rw [HW.out, List.length_set]; exact s3
    · exact (((Fr.of_below (Y := fun k => (Value.slice (some ⟨g, 0, none⟩) cs.length cc).ownBlock = some k) hbX).setCell (p := ⟨g, i * 3, none⟩) (.inl rfl) _).setCell (p := ⟨g, i * 3 + 1, none⟩) (.inl rfl) _).setCell (p := ⟨g, i * 3 + 2, none⟩) (.inl rfl) _
  · have HW : Hid (withC cs c = cs.take (srch cs c.key) ++ c :: cs.drop (srch cs c.key)) := by show _ = _; unfold withC; rw [if_neg hf]
    have hfe : fnd cs c.key = false := by simpa using hf
    rw [hfe] at hSe
    obtain ⟨i, hi⟩ : ∃ i, srch cs c.key = i := ⟨_, rfl⟩
    have hile : i ≤ cs.length := hi ▸ srch_le cs c.key
    rw [hi] at hSe HW
    have hl := ch_len cs
    clear hi hf hfe hrow
    go_enter Tryz.func64, Tryz.ntmps64
    go_wp2_with (first
      | (go_at_call 66; (with_reducible refine Calls.mono hSe ?_); rintro e X ⟨rfl, hX⟩; obtain ⟨hoX, xX, hbX⟩ := HX.out X hX; obtain ⟨d0, d1, d2⟩ := box3 xX; obtain ⟨Y, hY⟩ : ∃ Y, X.alloc (.cells #[.string c.key, .string c.val, .bool c.gone] 100) = Y := ⟨_, rfl⟩; have bY : Below X.heap.size X Y := hY ▸ (Below.refl _ _).alloc (Nat.le_refl _) _; have yY : Y.heap[X.heap.size]? = some (.cells (Ch.cells c).toArray 100) := hY ▸ heap_new X _; have hoY : Y.ownsRow 0 100 3 (.slice ca cs.length cc) cs.length (cs.flatMap Ch.cells) := own_on hoX (On.of_below bY (Y := fun k => (Value.slice ca cs.length cc).ownBlock = some k) (fun k hk => own_lt hoX hk)) (fun k hk => hk); have hIn := insert_any (.slice ca cs.length cc) cs.length i X.heap.size (cs.flatMap Ch.cells) (Ch.cells c) Y hoY (ch_one cs) rfl yY (fun u hu => ch_one [c] u (by simpa using hu)) (fun e => by have h1 := own_lt hoX e; omega) (by omega) hile)
      | (go_at_call 94; (try rw [hY]); (with_reducible refine Calls.mono hIn ?_); rintro e Z ⟨v', rfl, hoZ, hFZ, hli⟩))
    go_ret
    refine ⟨_, rfl, ?_, ((Fr.of_below hbX).trans (Fr.of_below bY)).trans hFZ, fun k hk => (hli k hk).imp id (fun h => by have h1 := hbX.size; have h2 := bY.size; omega)⟩
    rw [HW.out, List.length_append, List.length_cons, List.length_take, List.length_drop, List.flatMap_append, List.flatMap_cons, ← ch_take, ← ch_drop, ← List.append_assoc]
    rw [show min i cs.length + (cs.length - i + 1) = cs.length + 1 by omega]
    exact hoZ
end Go.Proofs.YtngpplmndpmgiaaGreat.Tree
