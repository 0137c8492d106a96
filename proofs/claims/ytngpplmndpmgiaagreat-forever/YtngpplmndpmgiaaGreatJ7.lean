/-
  Joined: Kids2, NodeB, NodeL, Leave, Mark, MarkL.
-/
import Derived.Test.YtngpplmndpmgiaaGreatJ5
import Derived.Test.YtngpplmndpmgiaaGreatJ6
set_option linter.unusedSimpArgs false
namespace Go.Proofs.YtngpplmndpmgiaaGreat.Tree
open Go.RowKit Go.Shelf Go.Proofs.YtngpplmndpmgiaaGreat.Pages
set_option linter.unusedSimpArgs false
set_option linter.unusedVariables false
theorem kids_call (g : Pg) (s : Sp) (ka ia ea : Option Addr) (kc ic ec : Nat) (w : World) :
    Calls Tryz.prog 106 #[.agg #[.int .i64 g.kind, .int .i64 g.ver, .int .i64 g.root, .int .i64 g.next, .slice ka g.keys.length kc, .slice ia g.kids.length ic, .slice ea g.ents.length ec, .string g.data], .agg #[.string s.lo, .string s.hi]] w fun e w' =>
      e = .returned (.func (.func 131) #[] #[.pointer (some ⟨w.heap.size + 1, 0, none⟩), .pointer (some ⟨w.heap.size, 0, none⟩)]) ∧
      w'.heap[w.heap.size]? = some (pgO g ka ia ea kc ic ec) ∧ w'.heap[w.heap.size + 1]? = some (.cells #[.string s.lo, .string s.hi] 128) ∧ Below w.heap.size w w' := by
  have B : Below w.heap.size w ((w.alloc (pgO g ka ia ea kc ic ec)).alloc (.cells #[.string s.lo, .string s.hi] 128)) := ((Below.refl _ _).alloc (Nat.le_refl _) _).alloc (by simp) _
  have h1 : ((w.alloc (pgO g ka ia ea kc ic ec)).alloc (.cells #[.string s.lo, .string s.hi] 128)).heap[w.heap.size]? = some (pgO g ka ia ea kc ic ec) := heap_keep _ (heap_new w _)
  have h2 : ((w.alloc (pgO g ka ia ea kc ic ec)).alloc (.cells #[.string s.lo, .string s.hi] 128)).heap[w.heap.size + 1]? = some (.cells #[.string s.lo, .string s.hi] 128) := by
    have := heap_new (w.alloc (pgO g ka ia ea kc ic ec)) (.cells #[.string s.lo, .string s.hi] 128); simpa using this
  go_enter Tryz.func106, Tryz.ntmps106
  go_wp2
  go_ret
  exact ⟨rfl, h1, h2, B⟩
theorem chain_call (root : Int) (β : Nat) (ca : Option Addr) (cn cc : Nat) (k v : ByteArray) (size over : Int) (w : World) :
    Calls Tryz.prog 89 #[.agg #[.pointer (some ⟨β, 0, none⟩), .int .i64 root, .slice ca cn cc], .agg #[.string k, .string v, .int .i64 size, .int .i64 over]] w fun e w' =>
      e = .returned (.func (.func 118) #[] #[.pointer (some ⟨w.heap.size + 1, 0, none⟩), .pointer (some ⟨w.heap.size, 0, none⟩)]) ∧
      w'.heap[w.heap.size]? = some (.cells #[.pointer (some ⟨β, 0, none⟩), .int .i64 root, .slice ca cn cc] 82) ∧ w'.heap[w.heap.size + 1]? = some (.cells #[.string k, .string v, .int .i64 size, .int .i64 over] 102) ∧ Below w.heap.size w w' := by
  have B : Below w.heap.size w ((w.alloc (.cells #[.pointer (some ⟨β, 0, none⟩), .int .i64 root, .slice ca cn cc] 82)).alloc (.cells #[.string k, .string v, .int .i64 size, .int .i64 over] 102)) := ((Below.refl _ _).alloc (Nat.le_refl _) _).alloc (by simp) _
  have h1 : ((w.alloc (.cells #[.pointer (some ⟨β, 0, none⟩), .int .i64 root, .slice ca cn cc] 82)).alloc (.cells #[.string k, .string v, .int .i64 size, .int .i64 over] 102)).heap[w.heap.size]? = some (.cells #[.pointer (some ⟨β, 0, none⟩), .int .i64 root, .slice ca cn cc] 82) := heap_keep _ (heap_new w _)
  have h2 : ((w.alloc (.cells #[.pointer (some ⟨β, 0, none⟩), .int .i64 root, .slice ca cn cc] 82)).alloc (.cells #[.string k, .string v, .int .i64 size, .int .i64 over] 102)).heap[w.heap.size + 1]? = some (.cells #[.string k, .string v, .int .i64 size, .int .i64 over] 102) := by
    have := heap_new (w.alloc (.cells #[.pointer (some ⟨β, 0, none⟩), .int .i64 root, .slice ca cn cc] 82)) (.cells #[.string k, .string v, .int .i64 size, .int .i64 over] 102); simpa using this
  go_enter Tryz.func89, Tryz.ntmps89
  go_wp2
  go_ret
  exact ⟨rfl, h1, h2, B⟩
end Go.Proofs.YtngpplmndpmgiaaGreat.Tree
namespace Go.Proofs.YtngpplmndpmgiaaGreat.Tree
open Go.RowKit Go.Proofs.YtngpplmndpmgiaaGreat.Pages
set_option linter.unusedSimpArgs false
set_option linter.unusedVariables false
set_option maxRecDepth 100000 in
set_option maxHeartbeats 4000000 in
theorem node_branch (β : Nat) (sv lv : Value) (fs : Fs) (root : Int) (ca : Option Addr) (cn cc : Nat) (p : Nat) (s : Sp) (g : Pg) (w : World) (h : FileAt w β sv lv fs) (hl : (fs.life == 0) = false) (hg : fs.has p g) (kb2 : (g.kind == 2) = true) (hk0 : 0 < g.keys.length) (c1 : lt s.lo g.keys[0] = true) (c2 : s.has (g.keys[g.keys.length - 1]) = true) (hkn : g.keys.length ≤ 1000) (hen : g.ents.length ≤ 1000) :
    Calls Tryz.prog 105 #[.agg #[.pointer (some ⟨β, 0, none⟩), .int .i64 root, .slice ca cn cc], .int .i64 p, .agg #[.string s.lo, .string s.hi]] w fun e w' => ∃ v, e = .returned v ∧ PgOn w' (New w w') g v ∧ Below w.heap.size w w' := by
  obtain ⟨W1, hW1⟩ : ∃ W1, ((w.alloc (.cells #[.pointer (some ⟨β, 0, none⟩), .int .i64 root, .slice ca cn cc] 82)).alloc (.cells #[.string s.lo, .string s.hi] 128)).alloc page00 = W1 := ⟨_, rfl⟩
  have B1 : Below w.heap.size w W1 := hW1 ▸ (((Below.refl _ _).alloc (Nat.le_refl _) _).alloc (by simp) _).alloc (by simp; omega) _
  have h1 := h.on (On.of_below B1 h.lies)
  have t1 : W1.heap[w.heap.size]? = some (.cells #[.pointer (some ⟨β, 0, none⟩), .int .i64 root, .slice ca cn cc] 82) := hW1 ▸ heap_keep _ (heap_keep _ (heap_new w _))
  have s1 : W1.heap[w.heap.size + 1]? = some (.cells #[.string s.lo, .string s.hi] 128) := by
    rw [← hW1]; refine heap_keep _ ?_; have := heap_new (w.alloc (.cells #[.pointer (some ⟨β, 0, none⟩), .int .i64 root, .slice ca cn cc] 82)) (.cells #[.string s.lo, .string s.hi] 128); simpa using this
  have r1 : W1.heap[w.heap.size + 1 + 1]? = some page00 := by
    rw [← hW1]; have := heap_new ((w.alloc (.cells #[.pointer (some ⟨β, 0, none⟩), .int .i64 root, .slice ca cn cc] 82)).alloc (.cells #[.string s.lo, .string s.hi] 128)) page00; simpa using this
  have lβ1 : w.heap.size + 1 + 1 < W1.heap.size := (Array.getElem?_eq_some_iff.1 r1).1
  have tc : W1.cell? ⟨w.heap.size, 0, none⟩ = some (.pointer (some ⟨β, 0, none⟩)) ∧ W1.cell? ⟨w.heap.size, 1, none⟩ = some (.int .i64 root) ∧ W1.cell? ⟨w.heap.size, 2, none⟩ = some (.slice ca cn cc) := by simp [World.cell?, t1]
  obtain ⟨tc0, tc1, tc2⟩ := tc
  have hLd := load_any β sv lv fs root ca cn cc p g W1 h1 hl hg
  have g1 : Op.bytesLess (g.keys[0]).toList s.lo.toList = false := lt_asymm c1
  have g2 : ((g.keys[0]).toList == s.lo.toList) = false := list_ne (fun e => lt_ne c1 e.symm)
  have hH := fun W => has_any s (g.keys[g.keys.length - 1]) W
  rw [c2] at hH
  go_enter Tryz.func105, Tryz.ntmps105
  go_wp2_with (go_at_call 119; refine hLd.mono ?_; rintro e W2 ⟨v, rfl, ⟨ka, ia, ea, kc, ic, ec, rfl, q1, q2, q3, qq⟩, hb2⟩; obtain ⟨W3, hW3⟩ : ∃ W3, W2.alloc (pgO g ka ia ea kc ic ec) = W3 := ⟨_, rfl⟩; have x3 : W3.heap[W2.heap.size]? = some (pgO g ka ia ea kc ic ec) := hW3 ▸ heap_new W2 _; obtain ⟨m0, m1, m2, m3, m4, m5, m6, m7⟩ := box8 x3; have b3 : Below W1.heap.size W1 W3 := hb2.trans (hW3 ▸ (Below.refl _ _).alloc hb2.size _); have r3 := (b3.block _ lβ1).trans r1; have s3 := (b3.block _ (Nat.lt_of_succ_lt lβ1)).trans s1; obtain ⟨u0, u1⟩ := box2 s3; have sz2 := hb2.size)
  have o3 : On (New W1 W2) W2 W3 := hW3 ▸ (On.refl _ W2).alloc (fun k hk => hk.2) _
  obtain ⟨kb, ko, hka, hkb, kc0⟩ := (q1.on o3).at hk0
  obtain ⟨kb', ko', hka', _, kcl⟩ := (q1.on o3).at (j := g.keys.length - 1) (by omega)
  subst hka
  cases hka'
  have hwr : IntKind.i64.wrap ((g.keys.length : Int) - 1) = ((g.keys.length - 1 : Nat) : Int) := by rw [show (g.keys.length : Int) - 1 = ((g.keys.length - 1 : Nat) : Int) by omega]; exact wrap_small (by omega)
  have hin : 0 ≤ ((g.keys.length - 1 : Nat) : Int) ∧ ((g.keys.length - 1 : Nat) : Int) < (g.keys.length : Int) := by omega
  have hkc := qq.1
  simp only [Nat.add_zero] at kc0
  have hk0i : (0 : Int) < (g.keys.length : Int) := by omega
  go_region_law (go_simp; go_at_call 100; refine (hH _).mono ?_; rintro e w4 ⟨rfl, hb4⟩; have x4 := (hb4.block _ (Array.getElem?_eq_some_iff.1 x3).1).trans x3; have R := (hb4.block _ (Array.getElem?_eq_some_iff.1 r3).1).trans r3; obtain ⟨i0, i1, i2, i3, i4, i5, i6, i7⟩ := box8 x4; obtain ⟨n0, n1, n2, n3, n4, n5, n6, n7⟩ := box8 R; have nfr := free_of R; have F4 : Fr Bl.none W3 w4 := (Fr.refl _ W3).drew.trans (Fr.of_below hb4))
  all_goals go_wp2
  all_goals
    have x5 := put8_box R (.int .i64 g.kind) (.int .i64 g.ver) (.int .i64 g.root) (.int .i64 g.next) (.slice (some ⟨kb, ko, none⟩) g.keys.length kc) (.slice ia g.kids.length ic) (.slice ea g.ents.length ec) (.string g.data)
    have f5 := put8_fr w4 (w.heap.size + 1 + 1) (.int .i64 g.kind) (.int .i64 g.ver) (.int .i64 g.root) (.int .i64 g.next) (.slice (some ⟨kb, ko, none⟩) g.keys.length kc) (.slice ia g.kids.length ic) (.slice ea g.ents.length ec) (.string g.data)
    obtain ⟨y0, y1, y2, y3, y4, y5, y6, y7⟩ := box8 x5
    unfold put8 at y0 y1 y2 y3 y4 y5 y6 y7
    have F3 : Fr Bl.none W2 w4 := (hW3 ▸ (Fr.refl _ W2).alloc _ : Fr Bl.none W2 W3).trans F4
    have F5 : Fr (Bl.one (w.heap.size + 1 + 1)) W2 (put8 w4 (w.heap.size + 1 + 1) (.int .i64 g.kind) (.int .i64 g.ver) (.int .i64 g.root) (.int .i64 g.next) (.slice (some ⟨kb, ko, none⟩) g.keys.length kc) (.slice ia g.kids.length ic) (.slice ea g.ents.length ec) (.string g.data)) := (F3.mono (fun k hk => hk.elim)).trans f5
    have o5 := F5.on (Z := New W1 W2) (fun k hk => ⟨hk.2, fun e => by simp only [Bl.one] at e; have := hk.1; omega⟩)
    have hN : ∀ k, New W1 W2 k → New w (put8 w4 (w.heap.size + 1 + 1) (.int .i64 g.kind) (.int .i64 g.ver) (.int .i64 g.root) (.int .i64 g.next) (.slice (some ⟨kb, ko, none⟩) g.keys.length kc) (.slice ia g.kids.length ic) (.slice ea g.ents.length ec) (.string g.data)) k := fun k hk => ⟨by have := hk.1; have := B1.size; omega, Nat.lt_of_lt_of_le hk.2 F5.size⟩
    refine bodyPost_ret (v := .agg #[.int .i64 g.kind, .int .i64 g.ver, .int .i64 g.root, .int .i64 g.next, .slice (some ⟨kb, ko, none⟩) g.keys.length kc, .slice ia g.kids.length ic, .slice ea g.ents.length ec, .string g.data]) ?_ rfl ⟨_, rfl, ⟨(some ⟨kb, ko, none⟩), ia, ea, kc, ic, ec, rfl, (q1.on o5).mono hN, (q2.on o5).mono hN, (q3.on o5).mono hN, qq⟩, ?_⟩
    · simp [results, Tryz.results105, go_sem, y0, y1, y2, y3, y4, y5, y6, y7]
    · exact (B1.trans (hb2.mono (by omega))).trans (F5.below (by omega) (fun k hk => by simp only [Bl.one] at hk; omega))
end Go.Proofs.YtngpplmndpmgiaaGreat.Tree
namespace Go.Proofs.YtngpplmndpmgiaaGreat.Tree
open Go.RowKit Go.Proofs.YtngpplmndpmgiaaGreat.Pages
set_option linter.unusedSimpArgs false
set_option linter.unusedVariables false
set_option maxRecDepth 100000 in
set_option maxHeartbeats 4000000 in
theorem node_leaf (β : Nat) (sv lv : Value) (fs : Fs) (root : Int) (ca : Option Addr) (cn cc : Nat) (p : Nat) (s : Sp) (g : Pg) (w : World) (h : FileAt w β sv lv fs) (hl : (fs.life == 0) = false) (hg : fs.has p g) (kb2 : (g.kind == 2) = false) (kb3 : (g.kind == 3) = true) (he0 : 0 < g.ents.length) (c1 : s.has (g.ents[0]).key = true) (c2 : s.has (g.ents[g.ents.length - 1]).key = true) (hkn : g.keys.length ≤ 1000) (hen : g.ents.length ≤ 1000) :
    Calls Tryz.prog 105 #[.agg #[.pointer (some ⟨β, 0, none⟩), .int .i64 root, .slice ca cn cc], .int .i64 p, .agg #[.string s.lo, .string s.hi]] w fun e w' => ∃ v, e = .returned v ∧ PgOn w' (New w w') g v ∧ Below w.heap.size w w' := by
  obtain ⟨W1, hW1⟩ : ∃ W1, ((w.alloc (.cells #[.pointer (some ⟨β, 0, none⟩), .int .i64 root, .slice ca cn cc] 82)).alloc (.cells #[.string s.lo, .string s.hi] 128)).alloc page00 = W1 := ⟨_, rfl⟩
  have B1 : Below w.heap.size w W1 := hW1 ▸ (((Below.refl _ _).alloc (Nat.le_refl _) _).alloc (by simp) _).alloc (by simp; omega) _
  have h1 := h.on (On.of_below B1 h.lies)
  have t1 : W1.heap[w.heap.size]? = some (.cells #[.pointer (some ⟨β, 0, none⟩), .int .i64 root, .slice ca cn cc] 82) := hW1 ▸ heap_keep _ (heap_keep _ (heap_new w _))
  have s1 : W1.heap[w.heap.size + 1]? = some (.cells #[.string s.lo, .string s.hi] 128) := by
    rw [← hW1]; refine heap_keep _ ?_; have := heap_new (w.alloc (.cells #[.pointer (some ⟨β, 0, none⟩), .int .i64 root, .slice ca cn cc] 82)) (.cells #[.string s.lo, .string s.hi] 128); simpa using this
  have r1 : W1.heap[w.heap.size + 1 + 1]? = some page00 := by
    rw [← hW1]; have := heap_new ((w.alloc (.cells #[.pointer (some ⟨β, 0, none⟩), .int .i64 root, .slice ca cn cc] 82)).alloc (.cells #[.string s.lo, .string s.hi] 128)) page00; simpa using this
  have lβ1 : w.heap.size + 1 + 1 < W1.heap.size := (Array.getElem?_eq_some_iff.1 r1).1
  have tc : W1.cell? ⟨w.heap.size, 0, none⟩ = some (.pointer (some ⟨β, 0, none⟩)) ∧ W1.cell? ⟨w.heap.size, 1, none⟩ = some (.int .i64 root) ∧ W1.cell? ⟨w.heap.size, 2, none⟩ = some (.slice ca cn cc) := by simp [World.cell?, t1]
  obtain ⟨tc0, tc1, tc2⟩ := tc
  have hLd := load_any β sv lv fs root ca cn cc p g W1 h1 hl hg
  have hH0 := fun W => has_any s (g.ents[0]).key W
  have hHl := fun W => has_any s (g.ents[g.ents.length - 1]).key W
  rw [c1] at hH0
  rw [c2] at hHl
  go_enter Tryz.func105, Tryz.ntmps105
  go_wp2_with (go_at_call 119; refine hLd.mono ?_; rintro e W2 ⟨v, rfl, ⟨ka, ia, ea, kc, ic, ec, rfl, q1, q2, q3, qq⟩, hb2⟩; obtain ⟨W3, hW3⟩ : ∃ W3, W2.alloc (pgO g ka ia ea kc ic ec) = W3 := ⟨_, rfl⟩; have x3 : W3.heap[W2.heap.size]? = some (pgO g ka ia ea kc ic ec) := hW3 ▸ heap_new W2 _; obtain ⟨m0, m1, m2, m3, m4, m5, m6, m7⟩ := box8 x3; have b3 : Below W1.heap.size W1 W3 := hb2.trans (hW3 ▸ (Below.refl _ _).alloc hb2.size _); have r3 := (b3.block _ lβ1).trans r1; have s3 := (b3.block _ (Nat.lt_of_succ_lt lβ1)).trans s1; obtain ⟨u0, u1⟩ := box2 s3; have sz2 := hb2.size)
  have o3 : On (New W1 W2) W2 W3 := hW3 ▸ (On.refl _ W2).alloc (fun k hk => hk.2) _
  obtain ⟨eb, eo, hea, heb, ec0, _⟩ := (q3.on o3).ent he0
  have hea2 := hea
  subst hea
  have hwr : IntKind.i64.wrap ((g.ents.length : Int) - 1) = ((g.ents.length - 1 : Nat) : Int) := by rw [show (g.ents.length : Int) - 1 = ((g.ents.length - 1 : Nat) : Int) by omega]; exact wrap_small (by omega)
  have hin : 0 ≤ ((g.ents.length - 1 : Nat) : Int) ∧ ((g.ents.length - 1 : Nat) : Int) < (g.ents.length : Int) := by omega
  have hkc := qq.2.2
  simp only [Nat.zero_mul, Nat.add_zero] at ec0
  have hk0i : (0 : Int) < (g.ents.length : Int) := by omega
  go_region_law (first
    | (go_simp; go_at_call 100; refine (hH0 _).mono ?_; clear hH0; rintro e w3 ⟨rfl, hb3⟩; have x4 := (hb3.block _ (Array.getElem?_eq_some_iff.1 x3).1).trans x3; have r4 := (hb3.block _ (Array.getElem?_eq_some_iff.1 r3).1).trans r3; have s4 := (hb3.block _ (Array.getElem?_eq_some_iff.1 s3).1).trans s3; obtain ⟨i0, i1, i2, i3, i4, i5, i6, i7⟩ := box8 x4; obtain ⟨v0, v1⟩ := box2 s4; have F3' : Fr Bl.none W3 w3 := (Fr.refl _ W3).drew.trans (Fr.of_below hb3); obtain ⟨eb', eo', hea', heb', ecl, _⟩ := (q3.on (o3.trans (F3'.on (fun k hk => ⟨Nat.lt_of_lt_of_le hk.2 o3.size, fun h => h⟩)))).ent (j := g.ents.length - 1) (by omega); cases hea')
    | (go_simp; go_at_call 100; refine (hHl _).mono ?_; rintro e w4 ⟨rfl, hb4⟩; have x5' := (hb4.block _ (Array.getElem?_eq_some_iff.1 x4).1).trans x4; have R := (hb4.block _ (Array.getElem?_eq_some_iff.1 r4).1).trans r4; obtain ⟨j0, j1, j2, j3, j4, j5, j6, j7⟩ := box8 x5'; obtain ⟨n0, n1, n2, n3, n4, n5, n6, n7⟩ := box8 R; have nfr := free_of R; have F4 : Fr Bl.none W3 w4 := F3'.trans (Fr.of_below hb4)))
  all_goals go_wp2
  all_goals
    have x5 := put8_box R (.int .i64 g.kind) (.int .i64 g.ver) (.int .i64 g.root) (.int .i64 g.next) (.slice ka g.keys.length kc) (.slice ia g.kids.length ic) (.slice (some ⟨eb, eo, none⟩) g.ents.length ec) (.string g.data)
    have f5 := put8_fr w4 (w.heap.size + 1 + 1) (.int .i64 g.kind) (.int .i64 g.ver) (.int .i64 g.root) (.int .i64 g.next) (.slice ka g.keys.length kc) (.slice ia g.kids.length ic) (.slice (some ⟨eb, eo, none⟩) g.ents.length ec) (.string g.data)
    obtain ⟨y0, y1, y2, y3, y4, y5, y6, y7⟩ := box8 x5
    unfold put8 at y0 y1 y2 y3 y4 y5 y6 y7
    have F3 : Fr Bl.none W2 w4 := (hW3 ▸ (Fr.refl _ W2).alloc _ : Fr Bl.none W2 W3).trans F4
    have F5 : Fr (Bl.one (w.heap.size + 1 + 1)) W2 (put8 w4 (w.heap.size + 1 + 1) (.int .i64 g.kind) (.int .i64 g.ver) (.int .i64 g.root) (.int .i64 g.next) (.slice ka g.keys.length kc) (.slice ia g.kids.length ic) (.slice (some ⟨eb, eo, none⟩) g.ents.length ec) (.string g.data)) := (F3.mono (fun k hk => hk.elim)).trans f5
    have o5 := F5.on (Z := New W1 W2) (fun k hk => ⟨hk.2, fun e => by simp only [Bl.one] at e; have := hk.1; omega⟩)
    have hN : ∀ k, New W1 W2 k → New w (put8 w4 (w.heap.size + 1 + 1) (.int .i64 g.kind) (.int .i64 g.ver) (.int .i64 g.root) (.int .i64 g.next) (.slice ka g.keys.length kc) (.slice ia g.kids.length ic) (.slice (some ⟨eb, eo, none⟩) g.ents.length ec) (.string g.data)) k := fun k hk => ⟨by have := hk.1; have := B1.size; omega, Nat.lt_of_lt_of_le hk.2 F5.size⟩
    refine bodyPost_ret (v := .agg #[.int .i64 g.kind, .int .i64 g.ver, .int .i64 g.root, .int .i64 g.next, .slice ka g.keys.length kc, .slice ia g.kids.length ic, .slice (some ⟨eb, eo, none⟩) g.ents.length ec, .string g.data]) ?_ rfl ⟨_, rfl, ⟨ka, ia, (some ⟨eb, eo, none⟩), kc, ic, ec, rfl, (q1.on o5).mono hN, (q2.on o5).mono hN, (q3.on o5).mono hN, qq⟩, ?_⟩
    · simp [results, Tryz.results105, go_sem, y0, y1, y2, y3, y4, y5, y6, y7]
    · exact (B1.trans (hb2.mono (by omega))).trans (F5.below (by omega) (fun k hk => by simp only [Bl.one] at hk; omega))
end Go.Proofs.YtngpplmndpmgiaaGreat.Tree
namespace Go.Proofs.YtngpplmndpmgiaaGreat.Tree
open Go.RowKit
set_option linter.unusedVariables false
def mk (D : Nat) : Deferred := { target := .collected D, args := #[] }
def Marks (B : Nat) (ds : List Deferred) (w : World) : Prop := ∃ Ds : List Nat, ds = Ds.map mk ∧ Ds.Nodup ∧ ∀ D ∈ Ds, B ≤ D ∧ w.heap[D]? = some (.deferred (some []))
structure Took (B : Nat) (w w' : World) : Prop where
  os : w'.os = w.os
  tape : w'.tape = w.tape
  output : w'.output = w.output
  size : w'.heap.size = w.heap.size
  low : ∀ (k : Nat), k < B → w'.heap[k]? = w.heap[k]?
  cells : ∀ (k : Nat) (c : Array Value) (e : TypeId) (f : Nat × Nat), w.heap[k]? = some (Obj.cells c e f) → w'.heap[k]? = some (Obj.cells c e f)
theorem Took.refl (B : Nat) (w : World) : Took B w w := ⟨rfl, rfl, rfl, rfl, fun _ _ => rfl, fun _ _ _ _ h => h⟩
theorem Took.trans {B : Nat} {a b c : World} (h : Took B a b) (k : Took B b c) : Took B a c :=
  ⟨k.os.trans h.os, k.tape.trans h.tape, k.output.trans h.output, k.size.trans h.size, fun i hi => (k.low i hi).trans (h.low i hi), fun i _ _ _ hc => k.cells i _ _ _ (h.cells i _ _ _ hc)⟩
theorem Took.below {B : Nat} {w w' : World} (h : Took B w w') : Below B w w' := ⟨h.os, h.tape, h.output, by rw [h.size]; omega, h.low⟩
theorem Took.put {B D : Nat} {w : World} (hB : B ≤ D) (hD : w.heap[D]? = some (.deferred (some []))) : Took B w (w.putObj D (.deferred none)) :=
  ⟨rfl, rfl, rfl, by simp, fun k hk => World.putObj_heap_other (by omega), fun k c e f hc => (World.putObj_heap_other (fun e' => by subst e'; rw [hc] at hD; simp at hD)).trans hc⟩
theorem Marks.nil (B : Nat) (w : World) : Marks B [] w := ⟨[], rfl, by simp, by simp⟩
theorem Marks.on {B : Nat} {ds : List Deferred} {w w' : World} (h : Marks B ds w) (ho : ∀ D, B ≤ D → w.heap[D]? = some (.deferred (some [])) → w'.heap[D]? = some (.deferred (some []))) : Marks B ds w' := by
  obtain ⟨Ds, rfl, hn, hd⟩ := h
  exact ⟨Ds, rfl, hn, fun D hD => ⟨(hd D hD).1, ho D (hd D hD).1 (hd D hD).2⟩⟩
theorem Marks.cons {B D : Nat} {ds : List Deferred} {w w' : World} (h : Marks B ds w) (ho : ∀ D, B ≤ D → w.heap[D]? = some (.deferred (some [])) → w'.heap[D]? = some (.deferred (some []))) (hB : B ≤ D) (hD : w'.heap[D]? = some (.deferred (some []))) (hs : w.heap.size ≤ D) : Marks B (mk D :: ds) w' := by
  obtain ⟨Ds, rfl, hn, hd⟩ := h
  refine ⟨D :: Ds, rfl, List.nodup_cons.2 ⟨fun hm => ?_, hn⟩, ?_⟩
  · have := (Array.getElem?_eq_some_iff.1 (hd D hm).2).1; omega
  · intro E hE
    rcases List.mem_cons.1 hE with rfl | hE
    · exact ⟨hB, hD⟩
    · exact ⟨(hd E hE).1, ho E (hd E hE).1 (hd E hE).2⟩
theorem leave_marks {P : Program} {n : Nat} {fn : Func} {tmps : Array Value} {R : Ending → World → Prop} {B : Nat} {u : FrameMode} (hu : u ≠ .run) : ∀ {ds : List Deferred} {w : World}, Marks B ds w →
    (∀ w', Took B w w' → LeavesInM Fence.wide n P fn tmps R [] u w') → LeavesInM Fence.wide n P fn tmps R ds u w := by
  rintro ds w ⟨Ds, rfl, hn, hd⟩
  induction Ds generalizing w with
  | nil => exact fun h => h w (Took.refl _ _)
  | cons D Ds ih =>
    intro h
    obtain ⟨h1, h2⟩ := List.nodup_cons.1 hn
    obtain ⟨hB, hD⟩ := hd D (by simp)
    refine ⟨hu, .inl ⟨D, _, rfl, run_takeDeferred hD, ?_⟩⟩
    refine ih h2 (fun E hE => ⟨(hd E (by simp [hE])).1, ?_⟩) (fun w' ht => h w' ((Took.put hB hD).trans ht))
    exact (World.putObj_heap_other (fun e => by subst e; exact h1 hE)).trans (hd E (by simp [hE])).2
theorem ends0 {P : Program} {n : Nat} {fn : Func} {tmps : Array Value} {R : Ending → World → Prop} {B : Nat} {ds : List Deferred} {w : World} (hr : fn.results = #[]) (hm : Marks B ds w) (h : ∀ w', Took B w w' → R (.returned (.tuple #[])) w') :
    LeavesInM Fence.wide n P fn tmps R ds .returning w :=
  leave_marks (by simp) hm (fun w' ht => ⟨_, results_none hr _ _ _, h w' ht⟩)
theorem ends1 {P : Program} {n : Nat} {fn : Func} {tmps : Array Value} {R : Ending → World → Prop} {B : Nat} {ds : List Deferred} {w : World} {t : Nat} (hr : fn.results = #[.tmp t]) (hm : Marks B ds w) (h : ∀ w', Took B w w' → R (.returned (tmps.getD t undef)) w') :
    LeavesInM Fence.wide n P fn tmps R ds .returning w :=
  leave_marks (by simp) hm (fun w' ht => ⟨_, results_tmp hr _ _ _, h w' ht⟩)
end Go.Proofs.YtngpplmndpmgiaaGreat.Tree
namespace Go.Proofs.YtngpplmndpmgiaaGreat.Tree
open Go.RowKit Go.Shelf Go.Proofs.YtngpplmndpmgiaaGreat.Pages
set_option linter.unusedSimpArgs false
set_option linter.unusedVariables false
attribute [local go_sem] Oper.semAt_some
def UsedAt (w : World) (ub : Nat) (u : List Bool) : Prop := w.ownsRow 0 4 1 (.slice (some ⟨ub, 0, none⟩) 4096 4096) 4096 (u.map .bool)
theorem UsedAt.cell {w : World} {ub : Nat} {u : List Bool} (h : UsedAt w ub u) {p : Nat} (hp : p < 4096) (hu : u.length = 4096) : w.cell? ⟨ub, p, none⟩ = some (.bool (u[p]'(by omega))) := by
  have := World.ownsRow.cellAt (w := w) h p (by omega)
  rw [this]
  simp [hu, hp]
theorem UsedAt.free {w : World} {ub : Nat} {u : List Bool} (h : UsedAt w ub u) (p : Nat) : w.frozen? ⟨ub, p, none⟩ = false := World.ownsRow.frozenAt (w := w) h p
theorem UsedAt.set {w : World} {ub : Nat} {u : List Bool} (h : UsedAt w ub u) (p : Nat) : UsedAt (w.setCell ⟨ub, p, none⟩ (.bool true)) ub (u.set p true) := by
  have := (World.ownsRow.stored (w := w) h p (.bool true)).1
  unfold UsedAt
  rw [List.map_set]
  exact this
theorem UsedAt.on {w w' : World} {ub : Nat} {u : List Bool} {Y : Bl} (h : UsedAt w ub u) (ho : On Y w w') (hy : Y ub) : UsedAt w' ub u := own_on h ho (fun k hk => by simp [Value.ownBlock] at hk; subst hk; exact hy)
theorem UsedAt.lt {w : World} {ub : Nat} {u : List Bool} (h : UsedAt w ub u) : ub < w.heap.size := own_lt h (k := ub) rfl
theorem UsedAt.fr {w w' : World} {ub : Nat} {u : List Bool} {Y : Bl} (h : UsedAt w ub u) (f : Fr Y w w') (hy : ¬ Y ub) : UsedAt w' ub u := h.on (f.on (Z := Bl.one ub) (fun k hk => by simp only [Bl.one] at hk; subst hk; exact ⟨h.lt, hy⟩)) rfl
theorem UsedAt.apart {w : World} {ub β : Nat} {sv lv : Value} {fs : Fs} {u : List Bool} (h : UsedAt w ub u) (hf : FileAt w β sv lv fs) : ¬ fpF β sv lv ub := by
  obtain ⟨_, h2⟩ := id h
  rcases h2 with ⟨h', _⟩ | ⟨g, cap, cur, hv, _, hg, _⟩
  · simp at h'
  · simp only [Value.slice.injEq, Option.some.injEq, Addr.mk.injEq, and_true, true_and] at hv
    obtain ⟨rfl, _⟩ := hv
    rintro (rfl | hk | hk)
    · have := hf.box; rw [hg] at this; simp at this
    · exact own_ne hf.safe hg (by decide) hk
    · exact own_ne hf.late hg (by decide) hk
theorem UsedAt.nodef {w : World} {ub : Nat} {u : List Bool} (h : UsedAt w ub u) (hd : w.heap[ub]? = some (.deferred (some []))) : False := by
  obtain ⟨_, hv⟩ := h
  rcases hv with ⟨hv, _⟩ | ⟨g', cap, cur, hv, _, hg', _⟩
  · simp at hv
  · simp at hv
    obtain ⟨rfl, _⟩ := hv
    rw [hd] at hg'
    simp at hg'
theorem own_took {w w' : World} {B : Nat} {e : TypeId} {z : Nat} {v : Value} {n : Nat} {xs : List Value} {C : Nat} (h : w.ownsRow B e z v n xs) (ht : Took C w w') : w'.ownsRow B e z v n xs := by
  obtain ⟨h1, h2⟩ := h
  refine ⟨h1, ?_⟩
  rcases h2 with h2 | ⟨g, cap, cur, rfl, hb, hg, r⟩
  · exact .inl h2
  · exact .inr ⟨g, cap, cur, rfl, hb, ht.cells _ _ _ _ hg, r⟩
theorem UsedAt.took {w w' : World} {ub B : Nat} {u : List Bool} (h : UsedAt w ub u) (ht : Took B w w') : UsedAt w' ub u := own_took h ht
theorem Fr.took {Y : Bl} {a w w' : World} {B : Nat} (h : Fr Y a w) (ht : Took B w w') (hB : a.heap.size ≤ B) : Fr Y a w' :=
  ⟨ht.os.trans h.os, ht.tape.trans h.tape, ht.output.trans h.output, by rw [ht.size]; exact h.size, fun k hk hy => (ht.low k (by omega)).trans (h.block k hk hy)⟩
theorem read_leaf_kids {fs : Fs} {p : Nat} {g : Pg} (h : fs.has p g) (hk : g.kind = 3) : g.keys = [] ∧ g.kids = [] := by
  obtain ⟨_, _, _, _, rfl⟩ := h
  revert hk
  unfold readP readK
  split
  · intro h; simp at h
  · split
    · intro h; simp at h
    · split
      · intro _; exact ⟨rfl, rfl⟩
      · split
        · intro h; simp at h
        · rename_i h3 _
          intro h; simp only at h; omega
theorem read_branch_ents {fs : Fs} {p : Nat} {g : Pg} (h : fs.has p g) (hk : g.kind = 2) : g.ents = [] := by
  obtain ⟨_, _, _, _, rfl⟩ := h
  revert hk
  unfold readP readK
  split
  · intro h; simp at h
  · split
    · intro _; rfl
    · split
      · intro h; simp at h
      · split
        · intro h; simp at h
        · intro _; rfl
theorem read_small {fs : Fs} {p : Nat} {g : Pg} (h : fs.has p g) : g.keys.length ≤ 1000 ∧ g.kids.length ≤ 1000 ∧ g.ents.length ≤ 1000 := by
  obtain ⟨_, _, _, _, rfl⟩ := h
  have hp := ((fs.at p).data.toList.getD (posB (fs.at p).data.toList 0 1) 0).toNat_lt
  unfold readP readK
  split
  · simp
  · split
    · refine ⟨?_, ?_, by simp⟩
      · simp only [keysR_len]; omega
      · simp only [kidsR_len]; omega
    · split
      · refine ⟨by simp, by simp, ?_⟩
        simp only [entsR_len]; omega
      · split <;> simp
theorem Shut.afters {fs : Fs} {h : Nat} {t : T} {s : Sp} : ∀ {l : List T} {u : List Bool}, (∀ k ∈ l, ∃ s', Stands fs h k s') → Stands fs h t s → fs.safe.length ≤ u.length → Shut u h t → Shut (marks u (l.flatMap (T.pages h))) h t
  | [], u, _, _, _, hs => hs
  | k :: l, u, hl, ht, hu, hs => by
    obtain ⟨s', hs'⟩ := hl k (by simp)
    rw [List.flatMap_cons, marks_append]
    exact Shut.afters (fun k hk => hl k (by simp [hk])) ht (by rw [marks_length]; exact hu) (hs.after ht hs' hu)
set_option maxRecDepth 100000 in
set_option maxHeartbeats 2000000 in
theorem mark_branch (β : Nat) (sv lv : Value) (fs : Fs) (hl : (fs.life == 0) = false) (root : Int) (ca : Option Addr) (cn cc : Nat) (ub : Nat) (h : Nat)
    (ih : ∀ (t : T) (s : Sp) (u : List Bool) (w : World), Stands fs h t s → Shut u h t → u.length = 4096 → FileAt w β sv lv fs → UsedAt w ub u →
      Calls Tryz.prog 76 #[.agg #[.pointer (some ⟨β, 0, none⟩), .int .i64 root, .slice ca cn cc], .int .i64 t.place, .agg #[.string s.lo, .string s.hi], .slice (some ⟨ub, 0, none⟩) 4096 4096] w fun e w' =>
        (∃ v, e = .returned v) ∧ UsedAt w' ub (marks u (T.pages h t)) ∧ Fr (Bl.one ub) w w')
    (p : Nat) (ks : List ByteArray) (kids : List T) (s : Sp) (u : List Bool) (w : World) (ht : Stands fs (h + 1) (.branch p ks kids) s) (hs : Shut u (h + 1) (.branch p ks kids)) (hu : u.length = 4096) (hf : FileAt w β sv lv fs) (hU : UsedAt w ub u) (hnot : ¬ on u p) :
    Calls Tryz.prog 76 #[.agg #[.pointer (some ⟨β, 0, none⟩), .int .i64 root, .slice ca cn cc], .int .i64 p, .agg #[.string s.lo, .string s.hi], .slice (some ⟨ub, 0, none⟩) 4096 4096] w fun e w' =>
        (∃ v, e = .returned v) ∧ UsedAt w' ub (marks u (T.pages (h + 1) (.branch p ks kids))) ∧ Fr (Bl.one ub) w w' := by
  have ht0 := ht
  obtain ⟨g, hg, hk2, hks, hkd, hlen, ⟨h0, c1, c2⟩, hall⟩ := ht
  have hp : p < 4096 := Nat.lt_of_lt_of_le hg.1 hf.small
  have hpi : (p : Int) < 4096 := by omega
  obtain ⟨W1, hW1⟩ : ∃ W1, ((w.alloc (.cells #[.pointer (some ⟨β, 0, none⟩), .int .i64 root, .slice ca cn cc] 82)).alloc (.cells #[.string s.lo, .string s.hi] 128)).alloc (.cells #[.slice (some ⟨ub, 0, none⟩) 4096 4096] 111) = W1 := ⟨_, rfl⟩
  have B1 : Below w.heap.size w W1 := hW1 ▸ (((Below.refl _ _).alloc (Nat.le_refl _) _).alloc (by simp) _).alloc (by simp; omega) _
  have t1 : W1.heap[w.heap.size]? = some (.cells #[.pointer (some ⟨β, 0, none⟩), .int .i64 root, .slice ca cn cc] 82) := hW1 ▸ heap_keep _ (heap_keep _ (heap_new w _))
  have s1 : W1.heap[w.heap.size + 1]? = some (.cells #[.string s.lo, .string s.hi] 128) := by
    rw [← hW1]; refine heap_keep _ ?_; have := heap_new (w.alloc (.cells #[.pointer (some ⟨β, 0, none⟩), .int .i64 root, .slice ca cn cc] 82)) (.cells #[.string s.lo, .string s.hi] 128); simpa using this
  have b1 : W1.heap[w.heap.size + 1 + 1]? = some (.cells #[.slice (some ⟨ub, 0, none⟩) 4096 4096] 111) := by
    rw [← hW1]; have := heap_new ((w.alloc (.cells #[.pointer (some ⟨β, 0, none⟩), .int .i64 root, .slice ca cn cc] 82)).alloc (.cells #[.string s.lo, .string s.hi] 128)) (.cells #[.slice (some ⟨ub, 0, none⟩) 4096 4096] 111); simpa using this
  have z1 : W1.heap.size = w.heap.size + 3 := by rw [← hW1]; simp
  have hU1 : UsedAt W1 ub u := hU.on (On.of_below B1 (Y := Bl.one ub) (fun k hk => by simp only [Bl.one] at hk; subst hk; exact hU.lt)) rfl
  have hcu := hU1.cell hp hu
  have hval : u[p]'(by omega) = false := by
    cases hv : u[p]'(by omega) with
    | false => rfl
    | true => exact absurd (List.getElem?_eq_some_iff.2 ⟨by omega, hv⟩) hnot
  rw [hval] at hcu
  have hfz := hU1.free
  obtain ⟨W2, hW2⟩ : ∃ W2, W1.setCell ⟨ub, p, none⟩ (.bool true) = W2 := ⟨_, rfl⟩
  have lub := hU.lt
  have f2 : Fr (Bl.one ub) W1 W2 := hW2 ▸ (Fr.refl (Bl.one ub) W1).setCell (p := ⟨ub, p, none⟩) (.inl rfl) _
  have hU2 : UsedAt W2 ub (u.set p true) := hW2 ▸ hU1.set p
  have t2 := f2.heap t1 (fun h => by simp only [Bl.one] at h; omega)
  have s2 := f2.heap s1 (fun h => by simp only [Bl.one] at h; omega)
  have b2 := f2.heap b1 (fun h => by simp only [Bl.one] at h; omega)
  obtain ⟨tc0, tc1, tc2⟩ := box3 t2
  obtain ⟨sc0, sc1⟩ := box2 s2
  have bc0 : W2.cell? ⟨w.heap.size + 1 + 1, 0, none⟩ = some (.slice (some ⟨ub, 0, none⟩) 4096 4096) := by simp [World.cell?, b2]
  have bc1 : W1.cell? ⟨w.heap.size + 1 + 1, 0, none⟩ = some (.slice (some ⟨ub, 0, none⟩) 4096 4096) := by simp [World.cell?, b1]
  have hf1 : FileAt W1 β sv lv fs := hf.on (On.of_below B1 hf.lies)
  have hf2 : FileAt W2 β sv lv fs := hf1.on (f2.on (fun k hk => ⟨hf1.lies k hk, fun h => by simp only [Bl.one] at h; subst h; exact hU1.apart hf1 hk⟩))
  obtain ⟨sm1, sm2, sm3⟩ := read_small hg
  have hNd := node_branch β sv lv fs root ca cn cc p s g W2 hf2 hl hg (by simp [hk2]) (by rw [hks]; exact h0) (by simp only [hks]; exact c1) (by simp only [hks]; exact c2) sm1 sm3
  have HK2 : Hid (g.kind = 2) := hk2
  have HKS : Hid (g.keys = ks) := hks
  have HKD : Hid (g.kids = kids.map (fun t => (t.place : Int))) := hkd
  have HLN : Hid (kids.length = ks.length + 1) := hlen
  have HU : Hid (u.length = 4096) := hu
  clear hk2 hks hkd hlen hu hval z1
  refine (callsIn_wide (n := 0)).1 (callsIn_of_wp_marks Tryz.func76 rfl trivial ?_ rfl)
  simp only [Tryz.ntmps76, List.size_toArray, List.length_cons, List.length_nil, Nat.reduceAdd, Nat.reduceSub, Array.replicate_succ, Array.replicate_zero, List.push_toArray, List.append_toArray, List.nil_append, List.cons_append]
  gi_wp2_with (first
    | (refine ⟨trivial, rfl, ?_⟩; gi_at_call 105; refine (callsIn_wide.2 hNd).mono ?_; clear hNd; rintro e W3 ⟨vv, rfl, ⟨ka, ia, ea, kc, ic, ec, rfl, q1, q2, q3, qq⟩, hb3⟩; obtain ⟨W4, hW4⟩ : ∃ W4, W3.alloc (pgO g ka ia ea kc ic ec) = W4 := ⟨_, rfl⟩; have x4 : W4.heap[W3.heap.size]? = some (pgO g ka ia ea kc ic ec) := hW4 ▸ heap_new W3 _; obtain ⟨m0, m1, m2, m3, m4, m5, m6, m7⟩ := box8 x4; have f4 : Fr Bl.none W2 W4 := (Fr.of_below hb3).trans (hW4 ▸ (Fr.refl _ W3).alloc _); have s4 := f4.heap s2 (fun h => h); obtain ⟨sd0, sd1⟩ := box2 s4; have hKc := kids_call g s ka ia ea kc ic ec W4)
    | (refine ⟨trivial, rfl, ?_⟩; gi_at_call 106; refine (callsIn_wide.2 hKc).mono ?_; clear hKc; rintro e W5 ⟨rfl, y1, y2, hb5⟩))
  have f5 : Fr Bl.none W2 W5 := f4.trans (Fr.of_below hb5)
  have z4 : W3.heap.size < W4.heap.size := (Array.getElem?_eq_some_iff.1 x4).1
  have z3 := hb3.size
  have hU5 : UsedAt W5 ub (u.set p true) := hU2.fr f5 (fun h => h)
  have hf5 : FileAt W5 β sv lv fs := hf2.on (f5.on (fun k hk => ⟨hf2.lies k hk, fun h => h⟩))
  have z5 : W4.heap.size + 1 < W5.heap.size := (Array.getElem?_eq_some_iff.1 y2).1
  have zW2 : w.heap.size + 1 + 1 < W2.heap.size := (Array.getElem?_eq_some_iff.1 b2).1
  have o35 : On (New W2 W3) W3 W5 := (hW4 ▸ (On.refl _ W3).alloc (fun k hk => hk.2) _ : On (New W2 W3) W3 W4).trans (On.of_below hb5 (fun k hk => by have := hk.2; omega))
  let Rd : Bl := fun k => k = W4.heap.size ∨ k = W4.heap.size + 1 ∨ New W2 W3 k
  have hseq := kids_iter (W4.heap.size + 1) W4.heap.size s g.kind g.ver g.root g.next ka ia ea kc ic g.ents.length ec g.data g.keys g.kids Rd W5 y2 y1 ((q1.on o35).mono (fun k hk => .inr (.inr hk))) ((q2.on o35).mono (fun k hk => .inr (.inr hk))) (.inr (.inl rfl)) (.inl rfl) sm1 sm2 qq.1 qq.2.1
  have hxs : parts s g.keys g.kids = (parts s ks kids).map (fun x => ((x.1.place : Int), x.2)) := by rw [HKS.out, HKD.out, parts_map]
  let I : List (Int × Sp) → Bl → World → Prop := fun pre Y W => UsedAt W ub (marks (u.set p true) ((kids.take pre.length).flatMap (T.pages h))) ∧ Y = Bl.one ub
  have t5 := f5.heap t2 (fun h => h)
  have b5 := f5.heap b2 (fun h => h)
  have x5 := (hb5.block _ z4).trans x4
  refine wp_range (P := Tryz.prog) (Has := HasKid) (Rd := Rd) rfl (enters_of Tryz.func131 (by kernel_rfl) rfl) hseq (fun x args S W hH => by rw [hH]; rfl) I (fun _ _ _ _ => False) ?_ (fun _ _ _ _ _ h => h.elim) ?_ (fun _ _ _ _ h => h.elim) (Bl.one ub) ⟨by simpa [marks_nil] using hU5, rfl⟩ ?_ ?_ ?_ (fun _ _ _ _ _ _ _ _ _ h => h.elim)
  · rintro pre Y W W' ⟨h1, rfl⟩ ho
    exact ⟨h1.on ho rfl, rfl⟩
  · rintro pre Y W ⟨h1, rfl⟩ k hk
    simp only [Bl.one] at hk; subst hk; exact h1.lt
  · rintro k (rfl | rfl | hk)
    · exact ⟨fun h => by simp only [Bl.one] at h; omega, by omega⟩
    · exact ⟨fun h => by simp only [Bl.one] at h; omega, by omega⟩
    · exact ⟨fun h => by simp only [Bl.one] at h; have := hk.1; omega, by have := hk.2; omega⟩
  · -- a round
    rintro l pre x rest args S Y' W hx ⟨hUp, rfl⟩ hH hS hFW hGW hl0 hl1 hl2 ⟨r, hr⟩
    have hjl : pre.length < kids.length := by
      have := congrArg List.length hx
      rw [hxs] at this
      simp [parts_length] at this
      omega
    obtain ⟨kid, hkid⟩ : ∃ kid, kids[pre.length]'hjl = kid := ⟨_, rfl⟩
    obtain ⟨sp, hsp⟩ : ∃ sp, (⟨loAt s ks pre.length, hiAt s ks pre.length⟩ : Sp) = sp := ⟨_, rfl⟩
    have hpa := parts_at s ks kids pre.length hjl
    rw [hkid, hsp] at hpa
    have hxe : x = ((kid.place : Int), sp) := by
      have h1 : (parts s g.keys g.kids)[pre.length]? = some x := by rw [hx]; simp
      rw [hxs, List.getElem?_map, hpa] at h1
      simpa using h1.symm
    have hst : Stands fs h kid sp := hall _ (List.mem_of_getElem? hpa)
    have hkm : kid ∈ kids := hkid ▸ List.getElem_mem hjl
    subst hxe
    have hH' : args = #[.int .i64 kid.place, .agg #[.string sp.lo, .string sp.hi]] := hH
    subst hH'
    have zW : W5.heap.size ≤ W.heap.size := hFW.size
    obtain ⟨um, hum⟩ : ∃ um, marks (u.set p true) ((kids.take pre.length).flatMap (T.pages h)) = um := ⟨_, rfl⟩
    rw [hum] at hUp
    have hlm : um.length = 4096 := by rw [← hum, marks_length]; simpa using HU.out
    have hsh : Shut um h kid := by
      rw [← hum]
      exact Shut.afters (fs := fs) (fun k hk => by obtain ⟨s', hs'⟩ := part_mem (s := s) (ks := ks) (List.mem_of_mem_take hk); exact ⟨s', hall _ hs'⟩) hst (by simp [HU.out]; exact hf.small) (hs.down ht0 hkm)
    have tW := hFW.heap t5 (fun h => by simp only [Bl.one] at h; omega)
    have bW := hFW.heap b5 (fun h => by simp only [Bl.one] at h; omega)
    have hfW : FileAt W β sv lv fs := hf5.on (hFW.on (fun k hk => ⟨hf5.lies k hk, fun h => by simp only [Bl.one] at h; subst h; exact hU5.apart hf5 hk⟩))
    have HM : Hid (marks um (T.pages h kid) = marks (u.set p true) ((kids.take (pre.length + 1)).flatMap (T.pages h))) := by
      show _ = _
      rw [← hum, ← marks_append, List.take_succ_eq_append_getElem hjl, List.flatMap_append, hkid]
      simp
    have ihk := fun W' hf' hU' => ih kid sp um W' hst hsh hlm hf' hU'
    clear hum hlm hkid hsp hpa hxs hx hsh
    unfold RoundW
    gi_wp2
    refine ⟨(Fr.refl _ W).alloc _, ?_⟩
    intro W₂ hT
    have aW : Fr Bl.none W (W.alloc (.cells #[.string sp.lo, .string sp.hi] 128)) := (Fr.refl _ W).alloc _
    have x2 := hT.heap (heap_new W (.cells #[.string sp.lo, .string sp.hi] 128)) (by omega)
    have tX := hT.heap (aW.heap tW (fun h => h)) (by omega)
    have bX := hT.heap (aW.heap bW (fun h => h)) (by omega)
    have fX : Fr (Bl.one l) W W₂ := (aW.mono (fun _ h => h.elim)).trans hT.fr
    have hUX : UsedAt W₂ ub um := hUp.fr fX (fun h => by simp only [Bl.one] at h; omega)
    have hfX : FileAt W₂ β sv lv fs := hfW.on (fX.on (fun k hk => ⟨hfW.lies k hk, fun h => by simp only [Bl.one] at h; have := hf5.lies k hk; omega⟩))
    obtain ⟨d0, d1, d2⟩ := box3 tX
    obtain ⟨e0, e1⟩ := box2 x2
    have c0 : W₂.cell? ⟨w.heap.size + 1 + 1, 0, none⟩ = some (.slice (some ⟨ub, 0, none⟩) 4096 4096) := by simp [World.cell?, bX]
    have hC := ihk W₂ hfX hUX
    clear ihk
    gi_wp2_with (refine ⟨trivial, rfl, ?_⟩; gi_at_call 76; refine (CallsIn.inRound l (callsIn_wide.2 hC)).mono ?_; rintro e W₃ ⟨⟨v, rfl⟩, hU3, f3⟩)
    refine ⟨Bl.one ub, ⟨?_, rfl⟩, f3, Grows.refl _ _⟩
    rw [List.length_append, List.length_singleton, ← HM.out]
    exact hU3
  · -- behind the loop
    rintro D Y' W hD hYD ⟨hUp, rfl⟩ hFW hGW hDW
    have xW := hFW.heap x5 (fun h => by simp only [Bl.one] at h; omega)
    obtain ⟨n0, n1, n2, n3, n4, n5, n6, n7⟩ := box8 xW
    have he0 : g.ents.length = 0 := by rw [read_branch_ents hg HK2.out]; rfl
    have hm : Marks w.heap.size [mk D] W := (Marks.nil w.heap.size W5).cons (fun D' _ h => hFW.heap h (fun e => by simp only [Bl.one] at e; subst e; exact hU5.nodef h)) (by have := B1.size; omega) hDW hD
    have F0 : Fr (Bl.one ub) w W := ((Fr.of_below B1).trans f2).trans ((f5.mono (fun _ h => h.elim)).trans hFW)
    have HX : Hid (marks (u.set p true) ((kids.take (parts s g.keys g.kids).length).flatMap (T.pages h)) = marks u (T.pages (h + 1) (.branch p ks kids))) := by
      show _ = _
      rw [parts_length, show g.kids.length = kids.length by rw [HKD.out]; simp, List.take_length]
      rfl
    have HU' : Hid (UsedAt W ub (marks u (T.pages (h + 1) (.branch p ks kids)))) := by rw [← HX.out]; exact hUp
    clear hUp HX hxs
    gi_wp2
    gi_loopw [38] (fun i wr => i = .int .i64 0 ∧ wr = W) (fun _ _ => 0)
    case atStart => exact ⟨rfl, rfl⟩
    case round =>
      obtain ⟨rfl, hwr⟩ := hrel
      subst wr
      gi_wp2
      refine ends0 rfl hm ?_
      intro w' ht'
      exact ⟨⟨_, rfl⟩, HU'.out.took ht', F0.took ht' (Nat.le_refl _)⟩
end Go.Proofs.YtngpplmndpmgiaaGreat.Tree
namespace Go.Proofs.YtngpplmndpmgiaaGreat.Tree
open Go.RowKit Go.Shelf Go.Proofs.YtngpplmndpmgiaaGreat.Pages
set_option linter.unusedSimpArgs false
set_option linter.unusedVariables false
attribute [local go_sem] Oper.semAt_some
set_option maxRecDepth 100000 in
set_option maxHeartbeats 2000000 in
theorem mark_leaf (β : Nat) (sv lv : Value) (fs : Fs) (hl : (fs.life == 0) = false) (root : Int) (ca : Option Addr) (cn cc : Nat) (ub : Nat)
    (p : Nat) (es : List En) (s : Sp) (u : List Bool) (w : World) (ht : Stands fs 0 (.leaf p es) s) (hs : Shut u 0 (.leaf p es)) (hu : u.length = 4096) (hf : FileAt w β sv lv fs) (hU : UsedAt w ub u) (hnot : ¬ on u p) :
    Calls Tryz.prog 76 #[.agg #[.pointer (some ⟨β, 0, none⟩), .int .i64 root, .slice ca cn cc], .int .i64 p, .agg #[.string s.lo, .string s.hi], .slice (some ⟨ub, 0, none⟩) 4096 4096] w fun e w' =>
        (∃ v, e = .returned v) ∧ UsedAt w' ub (marks u (T.pages 0 (.leaf p es))) ∧ Fr (Bl.one ub) w w' := by
  have ht0 := ht
  obtain ⟨g, hg, hk3, hes, hne, hin, hok⟩ := ht
  have hp : p < 4096 := Nat.lt_of_lt_of_le hg.1 hf.small
  have hpi : (p : Int) < 4096 := by omega
  obtain ⟨W1, hW1⟩ : ∃ W1, ((w.alloc (.cells #[.pointer (some ⟨β, 0, none⟩), .int .i64 root, .slice ca cn cc] 82)).alloc (.cells #[.string s.lo, .string s.hi] 128)).alloc (.cells #[.slice (some ⟨ub, 0, none⟩) 4096 4096] 111) = W1 := ⟨_, rfl⟩
  have B1 : Below w.heap.size w W1 := hW1 ▸ (((Below.refl _ _).alloc (Nat.le_refl _) _).alloc (by simp) _).alloc (by simp; omega) _
  have t1 : W1.heap[w.heap.size]? = some (.cells #[.pointer (some ⟨β, 0, none⟩), .int .i64 root, .slice ca cn cc] 82) := hW1 ▸ heap_keep _ (heap_keep _ (heap_new w _))
  have s1 : W1.heap[w.heap.size + 1]? = some (.cells #[.string s.lo, .string s.hi] 128) := by
    rw [← hW1]; refine heap_keep _ ?_; have := heap_new (w.alloc (.cells #[.pointer (some ⟨β, 0, none⟩), .int .i64 root, .slice ca cn cc] 82)) (.cells #[.string s.lo, .string s.hi] 128); simpa using this
  have b1 : W1.heap[w.heap.size + 1 + 1]? = some (.cells #[.slice (some ⟨ub, 0, none⟩) 4096 4096] 111) := by
    rw [← hW1]; have := heap_new ((w.alloc (.cells #[.pointer (some ⟨β, 0, none⟩), .int .i64 root, .slice ca cn cc] 82)).alloc (.cells #[.string s.lo, .string s.hi] 128)) (.cells #[.slice (some ⟨ub, 0, none⟩) 4096 4096] 111); simpa using this
  have z1 : W1.heap.size = w.heap.size + 3 := by rw [← hW1]; simp
  have hU1 : UsedAt W1 ub u := hU.on (On.of_below B1 (Y := Bl.one ub) (fun k hk => by simp only [Bl.one] at hk; subst hk; exact hU.lt)) rfl
  have hcu := hU1.cell hp hu
  have hval : u[p]'(by omega) = false := by
    cases hv : u[p]'(by omega) with
    | false => rfl
    | true => exact absurd (List.getElem?_eq_some_iff.2 ⟨by omega, hv⟩) hnot
  rw [hval] at hcu
  have hfz := hU1.free
  obtain ⟨W2, hW2⟩ : ∃ W2, W1.setCell ⟨ub, p, none⟩ (.bool true) = W2 := ⟨_, rfl⟩
  have lub := hU.lt
  have f2 : Fr (Bl.one ub) W1 W2 := hW2 ▸ (Fr.refl (Bl.one ub) W1).setCell (p := ⟨ub, p, none⟩) (.inl rfl) _
  have hU2 : UsedAt W2 ub (u.set p true) := hW2 ▸ hU1.set p
  have t2 := f2.heap t1 (fun h => by simp only [Bl.one] at h; omega)
  have s2 := f2.heap s1 (fun h => by simp only [Bl.one] at h; omega)
  have b2 := f2.heap b1 (fun h => by simp only [Bl.one] at h; omega)
  obtain ⟨tc0, tc1, tc2⟩ := box3 t2
  obtain ⟨sc0, sc1⟩ := box2 s2
  have bc0 : W2.cell? ⟨w.heap.size + 1 + 1, 0, none⟩ = some (.slice (some ⟨ub, 0, none⟩) 4096 4096) := by simp [World.cell?, b2]
  have bc1 : W1.cell? ⟨w.heap.size + 1 + 1, 0, none⟩ = some (.slice (some ⟨ub, 0, none⟩) 4096 4096) := by simp [World.cell?, b1]
  have hf1 : FileAt W1 β sv lv fs := hf.on (On.of_below B1 hf.lies)
  have hf2 : FileAt W2 β sv lv fs := hf1.on (f2.on (fun k hk => ⟨hf1.lies k hk, fun h => by simp only [Bl.one] at h; subst h; exact hU1.apart hf1 hk⟩))
  obtain ⟨sm1, sm2, sm3⟩ := read_small hg
  have he0 : 0 < g.ents.length := by rw [hes, List.length_map]; exact List.length_pos_iff.2 hne
  have hel : g.ents.length = es.length := by rw [hes, List.length_map]
  have hin' : ∀ e ∈ g.ents, s.has e.key = true := fun e he => by rw [hes, List.mem_map] at he; obtain ⟨x, hx, rfl⟩ := he; exact hin x hx
  have hNd := node_leaf β sv lv fs root ca cn cc p s g W2 hf2 hl hg (by simp [hk3]) (by simp [hk3]) he0 (hin' _ (List.getElem_mem _)) (hin' _ (List.getElem_mem _)) sm1 sm3
  obtain ⟨nk, nkd⟩ := read_leaf_kids hg hk3
  have HK : Hid (g.kids = []) := nkd
  have HE : Hid (g.ents = es.map (·.e)) := hes
  have HL : Hid (g.ents.length = es.length) := hel
  have HU : Hid (u.length = 4096) := hu
  clear hk3 hes nk nkd hel hu hval z1
  refine (callsIn_wide (n := 0)).1 (callsIn_of_wp_marks Tryz.func76 rfl trivial ?_ rfl)
  simp only [Tryz.ntmps76, List.size_toArray, List.length_cons, List.length_nil, Nat.reduceAdd, Nat.reduceSub, Array.replicate_succ, Array.replicate_zero, List.push_toArray, List.append_toArray, List.nil_append, List.cons_append]
  gi_wp2_with (first
    | (refine ⟨trivial, rfl, ?_⟩; gi_at_call 105; refine (callsIn_wide.2 hNd).mono ?_; clear hNd; rintro e W3 ⟨vv, rfl, ⟨ka, ia, ea, kc, ic, ec, rfl, q1, q2, q3, qq⟩, hb3⟩; obtain ⟨W4, hW4⟩ : ∃ W4, W3.alloc (pgO g ka ia ea kc ic ec) = W4 := ⟨_, rfl⟩; have x4 : W4.heap[W3.heap.size]? = some (pgO g ka ia ea kc ic ec) := hW4 ▸ heap_new W3 _; obtain ⟨m0, m1, m2, m3, m4, m5, m6, m7⟩ := box8 x4; have f4 : Fr Bl.none W2 W4 := (Fr.of_below hb3).trans (hW4 ▸ (Fr.refl _ W3).alloc _); have s4 := f4.heap s2 (fun h => h); obtain ⟨sd0, sd1⟩ := box2 s4; have hKc := kids_call g s ka ia ea kc ic ec W4)
    | (refine ⟨trivial, rfl, ?_⟩; gi_at_call 106; refine (callsIn_wide.2 hKc).mono ?_; clear hKc; rintro e W5 ⟨rfl, y1, y2, hb5⟩))
  have f5 : Fr Bl.none W2 W5 := f4.trans (Fr.of_below hb5)
  have z4 : W3.heap.size < W4.heap.size := (Array.getElem?_eq_some_iff.1 x4).1
  have z3 := hb3.size
  have hU5 : UsedAt W5 ub (u.set p true) := hU2.fr f5 (fun h => h)
  have hf5 : FileAt W5 β sv lv fs := hf2.on (f5.on (fun k hk => ⟨hf2.lies k hk, fun h => h⟩))
  have z5 : W4.heap.size + 1 < W5.heap.size := (Array.getElem?_eq_some_iff.1 y2).1
  have zW2 : w.heap.size + 1 + 1 < W2.heap.size := (Array.getElem?_eq_some_iff.1 b2).1
  have o35 : On (New W2 W3) W3 W5 := (hW4 ▸ (On.refl _ W3).alloc (fun k hk => hk.2) _ : On (New W2 W3) W3 W4).trans (On.of_below hb5 (fun k hk => by have := hk.2; omega))
  let Rd : Bl := fun k => k = W4.heap.size ∨ k = W4.heap.size + 1 ∨ New W2 W3 k
  have hseq := kids_iter (W4.heap.size + 1) W4.heap.size s g.kind g.ver g.root g.next ka ia ea kc ic g.ents.length ec g.data g.keys g.kids Rd W5 y2 y1 ((q1.on o35).mono (fun k hk => .inr (.inr hk))) ((q2.on o35).mono (fun k hk => .inr (.inr hk))) (.inr (.inl rfl)) (.inl rfl) sm1 sm2 qq.1 qq.2.1
  have hxs : parts s g.keys g.kids = [] := by rw [HK.out]; cases g.keys <;> rfl
  have HXS : Hid (parts s g.keys g.kids = []) := hxs
  clear hxs
  let I : List (Int × Sp) → Bl → World → Prop := fun pre Y W => UsedAt W ub (u.set p true) ∧ Y = Bl.one ub
  have t5 := f5.heap t2 (fun h => h)
  have b5 := f5.heap b2 (fun h => h)
  have x5 := (hb5.block _ z4).trans x4
  refine wp_range (P := Tryz.prog) (Has := HasKid) (Rd := Rd) rfl (enters_of Tryz.func131 (by kernel_rfl) rfl) hseq (fun x args S W hH => by rw [hH]; rfl) I (fun _ _ _ _ => False) ?_ (fun _ _ _ _ _ h => h.elim) ?_ (fun _ _ _ _ h => h.elim) (Bl.one ub) ⟨hU5, rfl⟩ ?_ ?_ ?_ (fun _ _ _ _ _ _ _ _ _ h => h.elim)
  · rintro pre Y W W' ⟨h1, rfl⟩ ho
    exact ⟨h1.on ho rfl, rfl⟩
  · rintro pre Y W ⟨h1, rfl⟩ k hk
    simp only [Bl.one] at hk; subst hk; exact h1.lt
  · rintro k (rfl | rfl | hk)
    · exact ⟨fun h => by simp only [Bl.one] at h; omega, by omega⟩
    · exact ⟨fun h => by simp only [Bl.one] at h; omega, by omega⟩
    · exact ⟨fun h => by simp only [Bl.one] at h; have := hk.1; omega, by have := hk.2; omega⟩
  · intro l pre x rest args S Y' W hx
    rw [HXS.out] at hx
    simp at hx
  · -- behind the loop
    rintro D Y' W hD hYD ⟨hUp, rfl⟩ hFW hGW hDW
    have xW := hFW.heap x5 (fun h => by simp only [Bl.one] at h; omega)
    obtain ⟨n0, n1, n2, n3, n4, n5, n6, n7⟩ := box8 xW
    have hm : Marks w.heap.size [mk D] W := (Marks.nil w.heap.size W5).cons (fun D' _ h => hFW.heap h (fun e => by simp only [Bl.one] at e; subst e; exact hU5.nodef h)) (by have := B1.size; omega) hDW hD
    have F0 : Fr (Bl.one ub) w W := ((Fr.of_below B1).trans f2).trans ((f5.mono (fun _ h => h.elim)).trans hFW)
    have tW := hFW.heap t5 (fun h => by simp only [Bl.one] at h; omega)
    have bW := hFW.heap b5 (fun h => by simp only [Bl.one] at h; omega)
    have hfW : FileAt W β sv lv fs := hf5.on (hFW.on (fun k hk => ⟨hf5.lies k hk, fun h => by simp only [Bl.one] at h; subst h; exact hU5.apart hf5 hk⟩))
    have zW : W5.heap.size ≤ W.heap.size := hFW.size
    have qW : RowOn W (New W2 W3) ea (g.ents.flatMap Ent.cells) := (q3.on o35).on (hFW.on (fun k hk => ⟨by have := hk.2; omega, fun h => by simp only [Bl.one] at h; have := hk.1; omega⟩))
    have hec := qq.2.2
    clear q1 q2 q3
    gi_wp2
    refine wpIn_loop (fun a wr => ∃ (j : Nat) (ds : List Deferred) (x12 x39 x40 x41 x42 x43 x44 x50 : Value), j ≤ g.ents.length ∧ a = { tmps := #[.agg #[.pointer (some ⟨β, 0, none⟩), .int .i64 root, .slice ca cn cc], .int .i64 p, .agg #[.string s.lo, .string s.hi], .slice (some ⟨ub, 0, none⟩) 4096 4096, .pointer (some ⟨w.heap.size, 0, none⟩), undef, .pointer (some ⟨w.heap.size + 1, 0, none⟩), .pointer (some ⟨w.heap.size + 1 + 1, 0, none⟩), .pointer (some ⟨W3.heap.size, 0, none⟩), undef, undef, undef, x12, undef, .slice (some ⟨ub, 0, none⟩) 4096 4096, .int .i64 p, .pointer (some ⟨ub, p, none⟩), .bool false, .slice (some ⟨ub, 0, none⟩) 4096 4096, .int .i64 p, .pointer (some ⟨ub, p, none⟩), .agg #[.pointer (some ⟨β, 0, none⟩), .int .i64 root, .slice ca cn cc], .int .i64 p, .agg #[.string s.lo, .string s.hi], .agg #[.int .i64 g.kind, .int .i64 g.ver, .int .i64 g.root, .int .i64 g.next, .slice ka g.keys.length kc, .slice ia g.kids.length ic, .slice ea g.ents.length ec, .string g.data], .agg #[.int .i64 g.kind, .int .i64 g.ver, .int .i64 g.root, .int .i64 g.next, .slice ka g.keys.length kc, .slice ia g.kids.length ic, .slice ea g.ents.length ec, .string g.data], .agg #[.string s.lo, .string s.hi], .func (.func 131) #[] #[.pointer (some ⟨W4.heap.size + 1, 0, none⟩), .pointer (some ⟨W4.heap.size, 0, none⟩)], undef, undef, undef, undef, undef, undef, undef, .pointer (some ⟨W3.heap.size, 6, none⟩), .slice ea g.ents.length ec, .int .i64 g.ents.length, .int .i64 j, x39, x40, x41, x42, x43, x44, undef, undef, undef, undef, undef, x50], defers := ds } ∧
        UsedAt wr ub (marks (u.set p true) ((es.take j).flatMap En.pages)) ∧ Fr (Bl.one ub) W wr ∧ Marks w.heap.size ds wr) (fun a _ => g.ents.length - (intOf (a.tmps.getD 38 undef)).toNat) ?_ ?_
    · exact ⟨0, _, undef, undef, undef, undef, undef, undef, undef, undef, Nat.zero_le _, rfl, by simpa [marks_nil] using hUp, Fr.refl _ _, hm⟩
    · rintro a wr ⟨j, ds, x12, x39, x40, x41, x42, x43, x44, x50, hj, rfl, hUr, hFr, hMr⟩
      have tR := hFr.heap tW (fun h => by simp only [Bl.one] at h; omega)
      have bR := hFr.heap bW (fun h => by simp only [Bl.one] at h; omega)
      have hfR : FileAt wr β sv lv fs := hfW.on (hFr.on (fun k hk => ⟨hfW.lies k hk, fun h => by simp only [Bl.one] at h; subst h; exact hUp.apart hfW hk⟩))
      have zR : W.heap.size ≤ wr.heap.size := hFr.size
      have qR := qW.on (hFr.on (fun k hk => ⟨by have := hk.2; omega, fun h => by simp only [Bl.one] at h; have := hk.1; omega⟩))
      by_cases hlt : j < g.ents.length
      · have hje : j < es.length := by rw [← HL.out]; exact hlt
        obtain ⟨E, hE⟩ : ∃ E, g.ents[j] = E := ⟨_, rfl⟩
        obtain ⟨X, hX⟩ : ∃ X, es[j] = X := ⟨_, rfl⟩
        have hEX : E = X.e := by rw [← hE, ← hX]; simp only [HE.out]; simp
        have hXok : X.ok fs := hok X (hX ▸ List.getElem_mem hje)
        obtain ⟨eb, eo, hea, hebS, r0, r1, r2, r3⟩ := qR.ent hlt
        rw [hE] at r0 r1 r2 r3
        subst hea
        obtain ⟨d0, d1, d2⟩ := box3 tR
        have d3 : wr.cell? ⟨w.heap.size + 1 + 1, 0, none⟩ = some (.slice (some ⟨ub, 0, none⟩) 4096 4096) := by simp [World.cell?, bR]
        obtain ⟨Wa, hWa⟩ : ∃ Wa, wr.alloc (.cells #[.string E.key, .string E.val, .int .i64 E.size, .int .i64 E.over] 102) = Wa := ⟨_, rfl⟩
        have xa : Wa.heap[wr.heap.size]? = some (.cells #[.string E.key, .string E.val, .int .i64 E.size, .int .i64 E.over] 102) := hWa ▸ heap_new wr _
        obtain ⟨g0, g1, g2, g3⟩ := box4 xa
        have fa : Fr Bl.none wr Wa := hWa ▸ (Fr.refl _ wr).alloc _
        have tA := fa.heap tR (fun h => h)
        obtain ⟨k0, k1, k2⟩ := box3 tA
        have hCc := chain_call root β ca cn cc E.key E.val E.size E.over Wa
        have HEX : Hid (E = X.e) := hEX
        have HXX : Hid (es[j] = X) := hX
        clear hEX hE hX
        gi_wp2_with (refine ⟨trivial, rfl, ?_⟩; gi_at_call 89; refine (callsIn_wide.2 hCc).mono ?_; clear hCc; rintro e Wb ⟨rfl, v1, v2, hbb⟩)
        obtain ⟨size, over, hsz, hov, hle, hch⟩ := hXok
        rw [HEX.out, hsz, hov] at v2
        have fb : Fr Bl.none wr Wb := fa.trans (Fr.of_below hbb)
        have zb : Wa.heap.size + 1 < Wb.heap.size := (Array.getElem?_eq_some_iff.1 v2).1
        have za : wr.heap.size < Wa.heap.size := (Array.getElem?_eq_some_iff.1 xa).1
        have hfB : FileAt Wb β sv lv fs := hfR.on (fb.on (fun k hk => ⟨hfR.lies k hk, fun h => h⟩))
        have hUB := hUr.fr fb (fun h => h)
        have bB := fb.heap bR (fun h => h)
        let Rc : Bl := fun k => k = Wa.heap.size ∨ k = Wa.heap.size + 1 ∨ fpF β sv lv k
        have hit := chain_iter (Wa.heap.size + 1) Wa.heap.size β sv lv fs root ca cn cc X.e.key X.e.val size over X.ch Rc Wb v2 v1 hfB hl (.inr (.inl rfl)) (.inl rfl) (fun k hk => .inr (.inr hk)) (by omega) hch
        let Ic : List (Nat × Pg) → Bl → World → Prop := fun pre Y W' => UsedAt W' ub (marks (marks (u.set p true) ((es.take j).flatMap En.pages)) (pre.map (·.1))) ∧ Y = Bl.one ub
        refine wp_range (P := Tryz.prog) (Has := HasPg) (Rd := Rc) rfl (enters_of Tryz.func118 (by kernel_rfl) rfl) hit (fun x args S W hH => by obtain ⟨v, rfl, _⟩ := hH; rfl) Ic (fun _ _ _ _ => False) ?_ (fun _ _ _ _ _ h => h.elim) ?_ (fun _ _ _ _ h => h.elim) (Bl.one ub) ⟨by simpa [marks_nil] using hUB, rfl⟩ ?_ ?_ ?_ (fun _ _ _ _ _ _ _ _ _ h => h.elim)
        · rintro pre Y W W' ⟨h1, rfl⟩ ho
          exact ⟨h1.on ho rfl, rfl⟩
        · rintro pre Y W ⟨h1, rfl⟩ k hk
          simp only [Bl.one] at hk; subst hk; exact h1.lt
        · have lu := hUr.lt
          rintro k (rfl | rfl | hk)
          · exact ⟨fun h => by simp only [Bl.one] at h; omega, by omega⟩
          · exact ⟨fun h => by simp only [Bl.one] at h; omega, by omega⟩
          · exact ⟨fun h => by simp only [Bl.one] at h; subst h; exact hUB.apart hfB hk, hfB.lies k hk⟩
        · -- a round
          rintro l pre x rest args S Y' Wc hx ⟨hUp2, rfl⟩ hH hS hFW2 hGW2 hl0 hl1 hl2 ⟨rr, hrr⟩
          obtain ⟨v, rfl, _⟩ := hH
          obtain ⟨q, gq⟩ := x
          have hq : q < 4096 := by
            have hm2 : (q, gq) ∈ X.ch := by rw [hx]; simp
            obtain ⟨gg, hgg, _⟩ := en_pages_has (fs := fs) (x := X) ⟨size, over, hsz, hov, hle, hch⟩ q (by simp only [En.pages, List.mem_map]; exact ⟨_, hm2, rfl⟩)
            exact Nat.lt_of_lt_of_le hgg.1 hf.small
          have hqi : (q : Int) < 4096 := by omega
          obtain ⟨um, hum⟩ : ∃ um, marks (marks (u.set p true) ((es.take j).flatMap En.pages)) (pre.map (·.1)) = um := ⟨_, rfl⟩
          have HM : Hid (um.set q true = marks (marks (u.set p true) ((es.take j).flatMap En.pages)) ((pre ++ [(q, gq)]).map (·.1))) := by
            show _ = _
            rw [List.map_append, marks_append, hum]
            rfl
          rw [hum] at hUp2
          have hlm : um.length = 4096 := by rw [← hum, marks_length, marks_length]; simpa using HU.out
          have bC := hFW2.heap bB (fun h => by simp only [Bl.one] at h; omega)
          clear hum
          unfold RoundW
          gi_wp2
          refine ⟨Fr.refl _ _, ?_⟩
          intro W₂ hT
          have zc : Wb.heap.size ≤ Wc.heap.size := hFW2.size
          have bX := hT.heap bC (by omega)
          have hUX : UsedAt W₂ ub um := hUp2.fr hT.fr (fun h => by simp only [Bl.one] at h; have := hUr.lt; omega)
          have c0 : W₂.cell? ⟨w.heap.size + 1 + 1, 0, none⟩ = some (.slice (some ⟨ub, 0, none⟩) 4096 4096) := by simp [World.cell?, bX]
          have c1 := hUX.cell hq hlm
          have c2 := hUX.free
          gi_wp2
          refine ⟨Bl.one ub, ⟨?_, rfl⟩, (Fr.refl (Bl.one ub) W₂).setCell (p := ⟨ub, q, none⟩) (.inl rfl) _, Grows.refl _ _⟩
          rw [← HM.out]
          exact hUX.set q
        · -- behind it
          rintro D2 Y' Wd hD2 hYD2 ⟨hUd, rfl⟩ hFd hGd hDd
          have HX2 : Hid (UsedAt Wd ub (marks (u.set p true) ((es.take (j + 1)).flatMap En.pages))) := by
            show UsedAt _ _ _
            rw [List.take_succ_eq_append_getElem hje, List.flatMap_append, marks_append, HXX.out]
            simpa [En.pages] using hUd
          have hMb : Marks w.heap.size ds Wb := hMr.on (fun D' _ h => fb.heap h (fun h => h))
          have hMd : Marks w.heap.size (mk D2 :: ds) Wd := hMb.cons (fun D' _ h => hFd.heap h (fun e => by simp only [Bl.one] at e; subst e; exact hUB.nodef h)) (by have := hUr.lt; have := B1.size; have := F0.size; omega) hDd hD2
          have Fd : Fr (Bl.one ub) W Wd := hFr.trans ((fb.mono (fun _ h => h.elim)).trans hFd)
          have hj1 : ((j + 1 : Nat) : Int) = (j : Int) + 1 := by omega
          clear hUd
          gi_wp2
          refine ⟨⟨j + 1, _, _, _, _, _, _, _, _, _, by omega, by rw [hj1]; rfl, HX2.out, Fd, hMd⟩, ?_⟩
          simp [intOf]
          omega
      · obtain rfl : j = g.ents.length := by omega
        have HX3 : Hid (UsedAt wr ub (marks u (T.pages 0 (.leaf p es)))) := by
          show UsedAt _ _ _
          rw [HL.out, List.take_length] at hUr
          exact hUr
        clear hUr
        gi_wp2
        refine ends0 rfl hMr ?_
        intro w' ht'
        exact ⟨⟨_, rfl⟩, HX3.out.took ht', (F0.trans hFr).took ht' (Nat.le_refl _)⟩
end Go.Proofs.YtngpplmndpmgiaaGreat.Tree
