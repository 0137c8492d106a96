/-
  What page.read answers and leaves: leaves.
-/
import Derived.Test.YtjmmfpolkkglaaaRead6
import Derived.Deep.RegionWith
import Derived.Deep.CutBlock
import Derived.Deep.RegionLaw
namespace Go.Proofs.Ytjmmfpolkkglaaa.Pages
open Go.RowKit
set_option linter.unusedSimpArgs false
set_option linter.unusedVariables false

/-- the page, with its entries so far -/
abbrev pageE (ve : Value) : Obj := .cells #[.int .i64 3, .int .i64 0, .int .i64 0, .int .i64 0, .slice none 0 0, .slice none 0 0, ve, .string ⟨#[]⟩] 28

theorem Rd.drew {w : World} {ρ g c : Nat} {bs : List UInt8} {a : Nat} (h : Rd w ρ g c bs a) : Rd w.drew ρ g c bs a := ⟨h.box, h.bytes, h.ne, h.lt, h.le, h.len, h.cap⟩
/-- one entry more, as a step of a region that draws -/
theorem step_append_ent {ops : Array Oper} {o : Oper} {a : Act} {K : Act → World → Prop} {Q : Exit → Act → World → Prop} {F : Prop} (w : World) (hgd : o.guard = none) (sl x : Operand)
    (ho : o.op = .call { callee := .builtin .append, args := #[sl, x], argTypes := #[26, 26] }) (B : Nat) (es : List Ent) (v : Value) (hs : a.eval sl = v) (hv : EntsR w B v es) (hB : B ≤ w.heap.size)
    (k : Ent) (hx : a.eval x = .slice (some ⟨w.heap.size, 0, none⟩) 1 1) (hl : es.length + 1 ≤ 4294967296)
    (h : ∀ v' w', EntsR w' B v' (es ++ [k]) → Below B w w' → K (a.put o.dst v') w') :
    if Region.wanted o (yielded ops a.tmps) = true then Oper.wp Try.prog o a (w.alloc (.cells #[.string k.key, .string k.val, .int .i64 k.size, .int .i64 k.over] 52)) K Q else F := by
  have hw : Region.wanted o (yielded ops a.tmps) = true := by simp [Region.wanted, hgd]
  rw [if_pos hw]
  obtain ⟨i0, hi, hz0, hz1, hz2⟩ := info_parts infoEnt
  refine wp_append_own _ sl x 26 ho B 52 i0 (.agg #[.string ⟨#[]⟩, .string ⟨#[]⟩, .int .i64 0, .int .i64 0]) 4 48 Try.underlying26 hi hz0 hz1 hz2 rfl (by decide) v es.length (es.flatMap Ent.cells) hs (hv.alloc _) ⟨w.heap.size, 0, none⟩ 1 1 k.cells hx rfl (four_cells _ _ _ _ _ _) (by intro u hu; simp [Ent.cells] at hu; rcases hu with rfl | rfl | rfl | rfl <;> rfl) (by unfold maxLen; omega) (by omega) (by simp; omega) ?_
  intro v1 w1 ho1 hg1 _
  refine h v1 w1 ?_ (((Below.refl B w).alloc hB _).grown hg1 (by simp; omega) (fun k' hk' => (World.ownsRow.lt (w := w) hv k' hk').1))
  unfold EntsR
  rw [List.flatMap_append, List.length_append]
  have e : [k].flatMap Ent.cells = k.cells := by simp
  rw [e]
  exact ho1
set_option maxRecDepth 100000 in
set_option maxHeartbeats 1000000 in
theorem read_leaf (s : ByteArray) (w : World) (hs : s.size = 256) (hk : (s.data.toList.getD 0 0).toNat = 3) (p : Nat) (hp : p = posB s.data.toList 0 1) (m : Nat) (hm : m = (s.data.toList.getD p 0).toNat) (P : Nat) (hP : P = posB s.data.toList p 1) :
    Calls Try.prog 28 #[.string s] w fun e w' => ∃ ve, e = .returned (.agg #[.int .i64 3, .int .i64 0, .int .i64 0, .int .i64 0, .slice none 0 0, .slice none 0 0, ve, .string ⟨#[]⟩]) ∧
      EntsR w' w.heap.size ve (entsR s.data.toList P m) ∧ Below w.heap.size w w' := by
  obtain ⟨c, v, hcv, hvs, hrd, hzz, hbb⟩ := read_head s w hs
  obtain ⟨bs, hbs⟩ : ∃ bs, bs = s.data.toList := ⟨_, rfl⟩
  rw [← hbs] at hrd hk hm hp hP ⊢
  have hN := number_1 _ _ _ _ _ _ hrd
  rw [hk, ← hp] at hN
  have hM := fun w2 (h2 : Rd w2 (w.heap.size + 1 + 1) (w.heap.size + 1) c bs p) => number_1 _ _ _ _ _ _ h2
  rw [← hm, ← hP] at hM
  have hmt : m < 256 := by rw [hm]; exact (bs.getD p 0).toNat_lt
  clear hs hp hk hbs hm hP
  go_enter Try.func28, Try.ntmps28
  go_upto_region 4 with (go_at_call 45; refine hN.mono ?_; rintro e w1 ⟨rfl, hr1, ho1⟩)
  have hZ1 := ho1.keep (by omega) hzz
  have hE1 := heap_new w1 (pageK 3)
  have hz1 := size_one w1 (pageK 3)
  have hγ : w1.heap.size ≠ w.heap.size + 1 + 1 := Nat.ne_of_gt hr1.lt'
  have hγg : w1.heap.size ≠ w.heap.size + 1 := Nat.ne_of_gt hr1.lt
  have hγz : w.heap.size < w1.heap.size := by have := hr1.lt; omega
  have hγ' : w.heap.size + 1 + 1 < w1.heap.size := hr1.lt'
  have hM1 := hM _ (hr1.alloc (pageK 3))
  have ho0 := (Only.refl (w.heap.size + 1 + 1) w1).alloc (pageK 3)
  clear hM hN hcv
  go_wp2_with (go_at_call 45; refine hM1.mono ?_; rintro e w2 ⟨rfl, hr2, ho2⟩; have hE2 := ho2.keep hγ hE1; have hO2 := ho0.trans ho2)
  go_loopw [29] (fun i wr => ∃ (j : Nat) (ve : Value), j ≤ m ∧ i = .int .i64 j ∧ wr.heap[w1.heap.size]? = some (pageE ve) ∧ EntsR wr (w1.heap.size + 1) ve (entsR bs P j) ∧ Rd wr (w.heap.size + 1 + 1) (w.heap.size + 1) c bs (entPos bs P j) ∧ Only (w.heap.size + 1 + 1) w1 wr) (fun i _ => m - (intOf i).toNat)
  case atStart => exact ⟨0, .slice none 0 0, Nat.zero_le _, rfl, hE2, EntsR.nil _ _, hr2, hO2⟩
  case round =>
    clear hr2 hE2 hO2 ho2 hM1 ho0 hE1
    obtain ⟨j, ve, hj, rfl, hE, hes, hr, ho⟩ := hrel
    obtain ⟨ea, ec, rfl⟩ := hes.slice
    obtain ⟨c0, c1, c2, c3, c4, c5, c6, c7⟩ := box8 hE
    have hf1 := free_of hE
    by_cases hlt : j < m
    · have hX := fun u (hu : Rd u (w.heap.size + 1 + 1) (w.heap.size + 1) c bs (entPos bs P j)) => entry_read _ _ _ _ _ _ hu
      have hen := entsR_succ bs P j
      have hlen : (entsR bs P j).length = j := by simp [entsR]
      have hpos : entA bs (entPos bs P j) = entPos bs P (j + 1) := rfl
      rw [hpos] at hX
      obtain ⟨E, hEE⟩ : ∃ E, E = entR bs (entPos bs P j) := ⟨_, rfl⟩
      rw [← hEE] at hX hen
      have HK : Hid (entsR bs P (j + 1) = entsR bs P j ++ [E]) := hen
      clear hen hEE hpos
      have lk : (entsR bs P j).length + 1 ≤ 4294967296 := by omega
      have hsz : w1.heap.size + 1 ≤ wr.heap.size := (Array.getElem?_eq_some_iff.1 hE).1
      clear hlen
      go_wp2_with (fail)
      go_region_law (first | (go_simp; go_at_call 47; refine (hX _ (by first | exact hr | exact hr.drew | exact hr.drew.drew | exact hr.drew.drew.drew)).mono ?_; rintro e w3 ⟨rfl, hr3, ho3⟩; have ho3' : Only (w.heap.size + 1 + 1) wr w3 := ⟨ho3.os, ho3.tape, ho3.output, ho3.size, ho3.block⟩; have hE3 : w3.heap[w1.heap.size]? = some (pageE (.slice ea (entsR bs P j).length ec)) := ho3'.keep hγ hE; obtain ⟨d0, d1, d2, d3, d4, d5, d6, d7⟩ := box8 hE3; have hf3 := free_of hE3; have hq6 := (box8 (keep_alloc (x := .cells #[.string E.key, .string E.val, .int .i64 E.size, .int .i64 E.over] 52) hE3)).2.2.2.2.2.2.1; have hes3 : EntsR w3 (w1.heap.size + 1) (.slice ea (entsR bs P j).length ec) (entsR bs P j) := hes.only ho3' (by omega); have hs3 : w1.heap.size + 1 ≤ w3.heap.size := Nat.le_trans hsz ho3'.size) | (refine step_append_ent w3 rfl (.tmp 32) (.tmp 34) rfl (w1.heap.size + 1) (entsR bs P j) (.slice ea (entsR bs P j).length ec) (by simp [Act.eval, Act.put]) hes3 hs3 E (by simp [Act.eval, Act.put]) lk ?_; intro v4 w4 hes4 hb4; obtain ⟨ea4, ec4, rfl⟩ := hes4.slice; have hE4 := (hb4.block w1.heap.size (Nat.lt_succ_self _)).trans hE3; obtain ⟨g0, g1, g2, g3, g4, g5, g6, g7⟩ := box8 hE4; have hf4 := free_of hE4))
      all_goals go_wp2
      all_goals go_roundw
      all_goals first
        | (exact (by simp [intOf]; omega))
        | (refine ⟨j + 1, .slice ea4 (entsR bs P j ++ [E]).length ec4, by omega, by go_num, ?_, by rw [HK.out]; exact hes4.set (Nat.lt_succ_self _) 6 _, (hr3.below hb4 (by omega) (by omega)).set hγ hγg 6 _, ((ho.trans ho3').below hb4 (Nat.le_succ _)).set (Nat.le_refl _) 6 _⟩; have h5 := set_of hE4 6 (.slice ea4 (entsR bs P j ++ [E]).length ec4); simpa using h5)
        | (repeat apply Exists.intro
           exact ⟨⟨j + 1, .slice ea4 (entsR bs P j ++ [E]).length ec4, by omega, by go_num, set_of hE4 6 (.slice ea4 (entsR bs P j ++ [E]).length ec4), by rw [HK.out]; exact hes4.set (Nat.lt_succ_self _) 6 _, (hr3.below hb4 (by omega) (by omega)).set hγ hγg 6 _, ((ho.trans ho3').below hb4 (Nat.le_succ _)).set (Nat.le_refl _) 6 _⟩, rfl⟩)
    · obtain rfl : j = m := by omega
      have hZ := ho.keep (by omega) hZ1
      obtain ⟨z0, z1, z2, z3, z4, z5, z6, z7⟩ := box8 hZ
      have hf3 := free_of hZ
      have hU := set8r hZ (.int .i64 3) (.int .i64 0) (.int .i64 0) (.int .i64 0) (.slice none 0 0) (.slice none 0 0) (.slice ea (entsR bs P j).length ec) (.string ⟨#[]⟩)
      obtain ⟨y0, y1, y2, y3, y4, y5, y6, y7⟩ := box8 hU
      have hB := below8r (below_only hbb (ho1.trans ho) (by omega) (by rw [size_one]; omega)) (β := w.heap.size) (Nat.le_refl _) (.int .i64 3) (.int .i64 0) (.int .i64 0) (.int .i64 0) (.slice none 0 0) (.slice none 0 0) (.slice ea (entsR bs P j).length ec) (.string ⟨#[]⟩)
      have hlz : w.heap.size < w1.heap.size + 1 := by omega
      have hes6 := (((((((((hes.set hlz 0 (.int .i64 3)).set hlz 1 (.int .i64 0)).set hlz 2 (.int .i64 0)).set hlz 3 (.int .i64 0)).set hlz 4 (.slice none 0 0)).set hlz 5 (.slice none 0 0)).set hlz 6 (.slice ea (entsR bs P j).length ec)).set hlz 7 (.string ⟨#[]⟩)).mono (B' := w.heap.size) (by omega))
      clear hrd hbb ho1
      go_wp2
      refine bodyPost_ret (v := .agg #[.int .i64 3, .int .i64 0, .int .i64 0, .int .i64 0, .slice none 0 0, .slice none 0 0, .slice ea (entsR bs P j).length ec, .string ⟨#[]⟩]) ?_ rfl ⟨_, rfl, hes6, hB⟩
      simp [results, Try.results28, go_sem, y0, y1, y2, y3, y4, y5, y6, y7]
end Go.Proofs.Ytjmmfpolkkglaaa.Pages
