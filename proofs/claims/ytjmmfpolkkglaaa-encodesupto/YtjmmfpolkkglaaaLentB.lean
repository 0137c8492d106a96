/-
  What lent answers: a page that tells the same, with lists of its own, each with eight marked places behind it.
-/
import Derived.Test.YtjmmfpolkkglaaaLentA
namespace Go.Proofs.Ytjmmfpolkkglaaa.Pages
open Go.RowKit
set_option linter.unusedSimpArgs false
set_option linter.unusedVariables false

def mK : Nat → Value := fun _ => .string ⟨#[126, 126]⟩
def zK : Nat → Value := fun _ => .string ⟨#[]⟩
def mI : Nat → Value := fun _ => .int .i64 (-77)
def zI : Nat → Value := fun _ => .int .i64 0
def mE : Nat → Value
  | 2 => .int .i64 (-77)
  | 3 => .int .i64 0
  | _ => .string ⟨#[]⟩
def zE : Nat → Value
  | 2 => .int .i64 0
  | 3 => .int .i64 0
  | _ => .string ⟨#[]⟩
theorem info9s : (Try.prog.info? 9).map (fun i => (i.zero, i.size, i.bytes)) = some (some (.string ⟨#[]⟩), 1, 16) := by kernel_rfl
theorem info3 : (Try.prog.info? 3).map (fun i => (i.zero, i.size, i.bytes)) = some (some (.int .i64 0), 1, 8) := by kernel_rfl
theorem info52 : (Try.prog.info? 52).map (fun i => (i.zero, i.size, i.bytes)) = some (some (.agg #[.string ⟨#[]⟩, .string ⟨#[]⟩, .int .i64 0, .int .i64 0]), 4, 48) := by kernel_rfl

theorem make_keys (n : Nat) (hn : n ≤ 1073741824) (u : World) : (Instr.makeSlice 24 (.int .i64 ((n : Int) + 8)) (.int .i64 ((n : Int) + 8))).run Try.prog u =
    .ok (.slice (some ⟨u.heap.size, 0, none⟩) (n + 8) (n + 8)) (u.alloc (.cells (rowF 1 (n + 8) 0 mK zK) 9)) := by
  obtain ⟨i0, hi, hz0, hz1, hz2⟩ := info_parts info9s
  have h := run_make (P := Try.prog) u 24 9 i0 (.string ⟨#[]⟩) Try.underlying24 hi hz0 .i64 .i64 ((n : Int) + 8) ((n : Int) + 8) (by omega) (Int.le_refl _) (by rw [hz2]; omega) (by omega)
  have e : ((n : Int) + 8).toNat = n + 8 := by omega
  rw [e] at h
  rw [← made_rowF1]
  simpa [hz1, Value.cells, zK] using h
theorem make_kids (n : Nat) (hn : n ≤ 1073741824) (u : World) : (Instr.makeSlice 25 (.int .i64 ((n : Int) + 8)) (.int .i64 ((n : Int) + 8))).run Try.prog u =
    .ok (.slice (some ⟨u.heap.size, 0, none⟩) (n + 8) (n + 8)) (u.alloc (.cells (rowF 1 (n + 8) 0 mI zI) 3)) := by
  obtain ⟨i0, hi, hz0, hz1, hz2⟩ := info_parts info3
  have h := run_make (P := Try.prog) u 25 3 i0 (.int .i64 0) Try.underlying25 hi hz0 .i64 .i64 ((n : Int) + 8) ((n : Int) + 8) (by omega) (Int.le_refl _) (by rw [hz2]; omega) (by omega)
  have e : ((n : Int) + 8).toNat = n + 8 := by omega
  rw [e] at h
  rw [← made_rowF1]
  simpa [hz1, Value.cells, zI] using h
theorem make_ents (n : Nat) (hn : n ≤ 1073741824) (u : World) : (Instr.makeSlice 26 (.int .i64 ((n : Int) + 8)) (.int .i64 ((n : Int) + 8))).run Try.prog u =
    .ok (.slice (some ⟨u.heap.size, 0, none⟩) (n + 8) (n + 8)) (u.alloc (.cells (rowF 4 (n + 8) 0 mE zE) 52)) := by
  obtain ⟨i0, hi, hz0, hz1, hz2⟩ := info_parts info52
  have h := run_make (P := Try.prog) u 26 52 i0 (.agg #[.string ⟨#[]⟩, .string ⟨#[]⟩, .int .i64 0, .int .i64 0]) Try.underlying26 hi hz0 .i64 .i64 ((n : Int) + 8) ((n : Int) + 8) (by omega) (Int.le_refl _) (by rw [hz2]; omega) (by omega)
  have e : ((n : Int) + 8).toNat = n + 8 := by omega
  rw [e] at h
  rw [← made_rowF4]
  simpa [hz1, Value.cells, zE] using h

theorem heap_alloc_keep (u : World) (o : Obj) (k : Nat) (x : Obj) (h : u.heap[k]? = some x) : (u.alloc o).heap[k]? = some x := by
  rw [Below.heap_alloc _ _ _ (Array.getElem?_eq_some_iff.1 h).1]; exact h

set_option maxRecDepth 100000 in
set_option maxHeartbeats 2000000 in
theorem lent_any (kind ver root next : Int) (ka ia ea : Option Addr) (kc ic ec : Nat) (data : ByteArray) (keys : List ByteArray) (kids : List Int) (ents : List Ent) (w : World)
    (hK : RowAt w w.heap.size ka (keys.map .string)) (hI : RowAt w w.heap.size ia (kids.map (.int .i64))) (hE : RowAt w w.heap.size ea (ents.flatMap Ent.cells))
    (nK : ka = none → keys = [] ∧ kc = 0) (nI : ia = none → kids = [] ∧ ic = 0) (nE : ea = none → ents = [] ∧ ec = 0)
    (hkn : keys.length ≤ 1073741824) (hin : kids.length ≤ 1073741824) (hen : ents.length ≤ 1073741824) :
    Calls Try.prog 10 #[.agg #[.int .i64 kind, .int .i64 ver, .int .i64 root, .int .i64 next, (.slice ka keys.length kc), (.slice ia kids.length ic), (.slice ea ents.length ec), .string data]] w fun e w' => ∃ k' i' e', e = .returned (.agg #[.int .i64 kind, .int .i64 ver, .int .i64 root, .int .i64 next, k', i', e', .string data]) ∧ Below w.heap.size w w' ∧
      Lent w' (w.heap.size + 3) ka k' keys.length 1 (keys.map .string) 9 mK ∧ Lent w' (w.heap.size + 3) ia i' kids.length 1 (kids.map (.int .i64)) 3 mI ∧ Lent w' (w.heap.size + 3) ea e' ents.length 4 (ents.flatMap Ent.cells) 52 mE := by
  have HnK : Hid (ka = none → keys = [] ∧ kc = 0) := nK
  have HnI : Hid (ia = none → kids = [] ∧ ic = 0) := nI
  have HnE : Hid (ea = none → ents = [] ∧ ec = 0) := nE
  clear nK nI nE
  have hq1 := fun (u : World) (a : Option Addr) (n c : Nat) => run_neq_slice_nil_any (P := Try.prog) u 24 9 a n c 0 0 Try.underlying24
  have hq2 := fun (u : World) (a : Option Addr) (n c : Nat) => run_neq_slice_nil_any (P := Try.prog) u 25 3 a n c 0 0 Try.underlying25
  have hq3 := fun (u : World) (a : Option Addr) (n c : Nat) => run_neq_slice_nil_any (P := Try.prog) u 26 52 a n c 0 0 Try.underlying26
  go_enter Try.func10, Try.ntmps10
  go_upto_region 2 with fail
  go_cut [13] (fun s13 wx => s13 = .bool ka.isSome ∧ Below w.heap.size w wx ∧ w.heap.size + 3 ≤ wx.heap.size ∧ wx.heap[w.heap.size]? = some (Obj.cells #[.int .i64 kind, .int .i64 ver, .int .i64 root, .int .i64 next, (.slice ka keys.length kc), (.slice ia kids.length ic), (.slice ea ents.length ec), .string data] 28) ∧ wx.heap[w.heap.size + 1]? = some (Obj.cells #[.int .i64 0, .int .i64 0, .int .i64 0, .int .i64 0, .slice none 0 0, .slice none 0 0, .slice none 0 0, .string ⟨#[]⟩] 28) ∧ wx.heap[w.heap.size + 2]? = some (Obj.cells #[.int .i64 kind, .int .i64 ver, .int .i64 root, .int .i64 next, .slice ka keys.length kc, .slice ia kids.length ic, .slice ea ents.length ec, .string data] 28))
  case first =>
    go_wp2_with fail
    go_meet
    refine ⟨rfl, (((Below.refl w.heap.size w).alloc (Nat.le_refl _) _).alloc (by simp) _).alloc (by simp; omega) _, by simp, ?_, ?_, ?_⟩
    · exact heap_alloc_keep _ _ _ _ (heap_alloc_keep _ _ _ _ (heap_new _ _))
    · refine heap_alloc_keep _ _ _ _ ?_
      have := heap_new (w.alloc (Obj.cells #[.int .i64 kind, .int .i64 ver, .int .i64 root, .int .i64 next, (.slice ka keys.length kc), (.slice ia kids.length ic), (.slice ea ents.length ec), .string data] 28)) (Obj.cells #[.int .i64 0, .int .i64 0, .int .i64 0, .int .i64 0, .slice none 0 0, .slice none 0 0, .slice none 0 0, .string ⟨#[]⟩] 28)
      simpa using this
    · have := heap_new ((w.alloc (Obj.cells #[.int .i64 kind, .int .i64 ver, .int .i64 root, .int .i64 next, (.slice ka keys.length kc), (.slice ia kids.length ic), (.slice ea ents.length ec), .string data] 28)).alloc (Obj.cells #[.int .i64 0, .int .i64 0, .int .i64 0, .int .i64 0, .slice none 0 0, .slice none 0 0, .slice none 0 0, .string ⟨#[]⟩] 28)) (Obj.cells #[.int .i64 kind, .int .i64 ver, .int .i64 root, .int .i64 next, (.slice ka keys.length kc), (.slice ia kids.length ic), (.slice ea ents.length ec), .string data] 28)
      simpa using this
  case rest =>
  obtain ⟨rfl, hb1, hz1, hx1, hr1, ho1⟩ := hcut
  clear hq1
  go_upto_if 13 with fail
  go_cut [] (fun wx => ∃ k', Below w.heap.size w wx ∧ w.heap.size + 3 ≤ wx.heap.size ∧ wx.heap[w.heap.size]? = some (Obj.cells #[.int .i64 kind, .int .i64 ver, .int .i64 root, .int .i64 next, (.slice ka keys.length kc), (.slice ia kids.length ic), (.slice ea ents.length ec), .string data] 28) ∧ wx.heap[w.heap.size + 1]? = some (Obj.cells #[.int .i64 0, .int .i64 0, .int .i64 0, .int .i64 0, .slice none 0 0, .slice none 0 0, .slice none 0 0, .string ⟨#[]⟩] 28) ∧ wx.heap[w.heap.size + 2]? = some (Obj.cells #[.int .i64 kind, .int .i64 ver, .int .i64 root, .int .i64 next, k', .slice ia kids.length ic, .slice ea ents.length ec, .string data] 28) ∧ Lent wx (w.heap.size + 3) ka k' keys.length 1 (keys.map .string) 9 mK)
  case first =>
    cases ka with
    | none =>
      have HK0 : Hid (keys = [] ∧ kc = 0) := HnK.out rfl
      clear HnK
      go_wp2_with fail
      go_meet
      exact ⟨_, hb1, hz1, hx1, hr1, ho1, .inl ⟨rfl, by rw [HK0.out.1, HK0.out.2]; rfl, by rw [HK0.out.1]; rfl, by rw [HK0.out.1]; rfl⟩⟩
    | some ad =>
      have hmk := make_keys keys.length hkn
      obtain ⟨i0, hi, hy0, hy1, hy2⟩ := info_parts info9s
      obtain ⟨x0, x1, x2, x3, x4, x5, x6, x7⟩ := box8 hx1
      go_wp2_with fail
      go_loopw [5] (fun i wr => ∃ j : Nat, j ≤ (keys.length + 8) ∧ i = .int .i64 j ∧ wr = wc.alloc (.cells (rowF 1 (keys.length + 8) j mK zK) 9)) (fun i _ => (keys.length + 8) - (intOf i).toNat)
      case atStart => exact ⟨0, Nat.zero_le _, rfl, rfl⟩
      case round =>
        obtain ⟨j, hj, rfl, rfl⟩ := hrel
        by_cases hlt : j < (keys.length + 8)
        · have hset : (rowF 1 (keys.length + 8) j mK zK).setIfInBounds j (.string ⟨#[126, 126]⟩) = rowF 1 (keys.length + 8) (j + 1) mK zK := rowF_set1 _ _ _ _ hlt
          have hat := rowF_at 1 (keys.length + 8) j mK zK j (by omega)
          go_wp2_with fail
          go_roundw
          case rel => exact ⟨j + 1, by omega, by go_num, by first | rfl | rw [hset]⟩
          case measure => simp [intOf]; omega
        · obtain rfl : j = (keys.length + 8) := by omega
          have hbA : Below w.heap.size w (wc.alloc (.cells (rowF 1 (keys.length + 8) (keys.length + 8) mK zK) 9)) := hb1.alloc (by omega) _
          have hsrc := (hK.below hbA).mono hbA.size
          obtain ⟨p0, p1, p2, p3, p4, p5, p6, p7⟩ := box8 (heap_alloc_keep wc (.cells (rowF 1 (keys.length + 8) (keys.length + 8) mK zK) 9) _ _ hx1)
          have hcl : (keys.map Value.string).length = keys.length * 1 := by simp
          have hfit : (keys.map Value.string).length ≤ (rowF 1 (keys.length + 8) (keys.length + 8) mK zK).size := by rw [rowF_size, hcl]; omega
          have h1c : ∀ v ∈ (keys.map Value.string), v.oneCell' = true := by intro v hv; simp only [List.mem_map] at hv; obtain ⟨b, _, rfl⟩ := hv; rfl
          obtain ⟨A, hA⟩ : ∃ A, A = ((keys.map Value.string) ++ (rowF 1 (keys.length + 8) (keys.length + 8) mK zK).toList.drop (keys.map Value.string).length).toArray := ⟨_, rfl⟩
          have HA := lent_row (M := mK) (Z := zK) (sz := 1) (by omega) hcl
          rw [← hA] at HA
          have hcp := run_copy_any (wc.alloc (.cells (rowF 1 (keys.length + 8) (keys.length + 8) mK zK) 9)) 24 24 3 9 i0 1 Try.underlying24 hi hy1 wc.heap.size (keys.length + 8) (keys.length + 8) (some ad) keys.length kc _ (heap_new _ _) (keys.map Value.string) hcl (by omega) hfit hsrc (by intro h; cases h) h1c
          rw [← hA, setRow_alloc] at hcp
          clear hA hsrc hcl hfit h1c
          obtain ⟨q0, q1, q2, q3, q4, q5, q6, q7⟩ := box8 (heap_alloc_keep wc (.cells A 9) _ _ hx1)
          obtain ⟨t0, t1, t2, t3, t4, t5, t6, t7⟩ := box8 (heap_alloc_keep wc (.cells A 9) _ _ ho1)
          have hfr := box_free (heap_alloc_keep wc (.cells A 9) _ _ ho1)
          go_wp2_with fail
          go_meet
          obtain ⟨f1, f2, f3, f4, f5, f6, f7⟩ := store_facts (A := A) (e := 9) hb1 hz1 hx1 hr1 ho1 4 (.slice (some ⟨wc.heap.size, 0, none⟩) keys.length (keys.length + 8))
          exact ⟨_, f1, f2, f3, f4, by simpa using f5, .inr ⟨wc.heap.size, A, rfl, hz1, f6, HA⟩⟩
  case rest =>
  obtain ⟨k', hb1, hz1, hx1, hr1, ho1, lk⟩ := hcut
  clear hK HnK
  go_upto_region 10 with fail
  go_cut [40] (fun s40 wx => s40 = .bool ia.isSome ∧ wx = wc)
  case first =>
    obtain ⟨x0, x1, x2, x3, x4, x5, x6, x7⟩ := box8 hx1
    go_wp2_with fail
    go_meet
    exact ⟨rfl, rfl⟩
  case rest =>
  obtain ⟨rfl, rfl⟩ := hcut
  clear hq2
  go_upto_if 40 with fail
  go_cut [] (fun wx => ∃ i', Below w.heap.size w wx ∧ w.heap.size + 3 ≤ wx.heap.size ∧ wx.heap[w.heap.size]? = some (Obj.cells #[.int .i64 kind, .int .i64 ver, .int .i64 root, .int .i64 next, (.slice ka keys.length kc), (.slice ia kids.length ic), (.slice ea ents.length ec), .string data] 28) ∧ wx.heap[w.heap.size + 1]? = some (Obj.cells #[.int .i64 0, .int .i64 0, .int .i64 0, .int .i64 0, .slice none 0 0, .slice none 0 0, .slice none 0 0, .string ⟨#[]⟩] 28) ∧ wx.heap[w.heap.size + 2]? = some (Obj.cells #[.int .i64 kind, .int .i64 ver, .int .i64 root, .int .i64 next, k', i', .slice ea ents.length ec, .string data] 28) ∧ Lent wx (w.heap.size + 3) ka k' keys.length 1 (keys.map .string) 9 mK ∧ Lent wx (w.heap.size + 3) ia i' kids.length 1 (kids.map (.int .i64)) 3 mI)
  case first =>
    cases ia with
    | none =>
      have HK0 : Hid (kids = [] ∧ ic = 0) := HnI.out rfl
      clear HnI
      go_wp2_with fail
      go_meet
      exact ⟨_, hb1, hz1, hx1, hr1, ho1, lk, .inl ⟨rfl, by rw [HK0.out.1, HK0.out.2]; rfl, by rw [HK0.out.1]; rfl, by rw [HK0.out.1]; rfl⟩⟩
    | some ad =>
      have hmk := make_kids kids.length hin
      obtain ⟨i0, hi, hy0, hy1, hy2⟩ := info_parts info3
      obtain ⟨x0, x1, x2, x3, x4, x5, x6, x7⟩ := box8 hx1
      go_wp2_with fail
      go_loopw [7] (fun i wr => ∃ j : Nat, j ≤ (kids.length + 8) ∧ i = .int .i64 j ∧ wr = wc.alloc (.cells (rowF 1 (kids.length + 8) j mI zI) 3)) (fun i _ => (kids.length + 8) - (intOf i).toNat)
      case atStart => exact ⟨0, Nat.zero_le _, rfl, rfl⟩
      case round =>
        obtain ⟨j, hj, rfl, rfl⟩ := hrel
        by_cases hlt : j < (kids.length + 8)
        · have hset : (rowF 1 (kids.length + 8) j mI zI).setIfInBounds j (.int .i64 (-77)) = rowF 1 (kids.length + 8) (j + 1) mI zI := rowF_set1 _ _ _ _ hlt
          have hat := rowF_at 1 (kids.length + 8) j mI zI j (by omega)
          go_wp2_with fail
          go_roundw
          case rel => exact ⟨j + 1, by omega, by go_num, by first | rfl | rw [hset]⟩
          case measure => simp [intOf]; omega
        · obtain rfl : j = (kids.length + 8) := by omega
          have hbA : Below w.heap.size w (wc.alloc (.cells (rowF 1 (kids.length + 8) (kids.length + 8) mI zI) 3)) := hb1.alloc (by omega) _
          have hsrc := (hI.below hbA).mono hbA.size
          obtain ⟨p0, p1, p2, p3, p4, p5, p6, p7⟩ := box8 (heap_alloc_keep wc (.cells (rowF 1 (kids.length + 8) (kids.length + 8) mI zI) 3) _ _ hx1)
          have hcl : (kids.map (Value.int .i64)).length = kids.length * 1 := by simp
          have hfit : (kids.map (Value.int .i64)).length ≤ (rowF 1 (kids.length + 8) (kids.length + 8) mI zI).size := by rw [rowF_size, hcl]; omega
          have h1c : ∀ v ∈ (kids.map (Value.int .i64)), v.oneCell' = true := by intro v hv; simp only [List.mem_map] at hv; obtain ⟨b, _, rfl⟩ := hv; rfl
          obtain ⟨A, hA⟩ : ∃ A, A = ((kids.map (Value.int .i64)) ++ (rowF 1 (kids.length + 8) (kids.length + 8) mI zI).toList.drop (kids.map (Value.int .i64)).length).toArray := ⟨_, rfl⟩
          have HA := lent_row (M := mI) (Z := zI) (sz := 1) (by omega) hcl
          rw [← hA] at HA
          have hcp := run_copy_any (wc.alloc (.cells (rowF 1 (kids.length + 8) (kids.length + 8) mI zI) 3)) 25 25 3 3 i0 1 Try.underlying25 hi hy1 wc.heap.size (kids.length + 8) (kids.length + 8) (some ad) kids.length ic _ (heap_new _ _) (kids.map (Value.int .i64)) hcl (by omega) hfit hsrc (by intro h; cases h) h1c
          rw [← hA, setRow_alloc] at hcp
          clear hA hsrc hcl hfit h1c
          obtain ⟨q0, q1, q2, q3, q4, q5, q6, q7⟩ := box8 (heap_alloc_keep wc (.cells A 3) _ _ hx1)
          obtain ⟨t0, t1, t2, t3, t4, t5, t6, t7⟩ := box8 (heap_alloc_keep wc (.cells A 3) _ _ ho1)
          have hfr := box_free (heap_alloc_keep wc (.cells A 3) _ _ ho1)
          go_wp2_with fail
          go_meet
          obtain ⟨f1, f2, f3, f4, f5, f6, f7⟩ := store_facts (A := A) (e := 3) hb1 hz1 hx1 hr1 ho1 5 (.slice (some ⟨wc.heap.size, 0, none⟩) kids.length (kids.length + 8))
          exact ⟨_, f1, f2, f3, f4, by simpa using f5, lk.keep f7, .inr ⟨wc.heap.size, A, rfl, hz1, f6, HA⟩⟩
  case rest =>
  obtain ⟨i', hb1, hz1, hx1, hr1, ho1, lk, li⟩ := hcut
  clear hI HnI
  go_upto_region 18 with fail
  go_cut [67] (fun s67 wx => s67 = .bool ea.isSome ∧ wx = wc)
  case first =>
    obtain ⟨x0, x1, x2, x3, x4, x5, x6, x7⟩ := box8 hx1
    go_wp2_with fail
    go_meet
    exact ⟨rfl, rfl⟩
  case rest =>
  obtain ⟨rfl, rfl⟩ := hcut
  clear hq3
  go_upto_if 67 with fail
  go_cut [] (fun wx => ∃ e', Below w.heap.size w wx ∧ w.heap.size + 3 ≤ wx.heap.size ∧ wx.heap[w.heap.size]? = some (Obj.cells #[.int .i64 kind, .int .i64 ver, .int .i64 root, .int .i64 next, (.slice ka keys.length kc), (.slice ia kids.length ic), (.slice ea ents.length ec), .string data] 28) ∧ wx.heap[w.heap.size + 1]? = some (Obj.cells #[.int .i64 0, .int .i64 0, .int .i64 0, .int .i64 0, .slice none 0 0, .slice none 0 0, .slice none 0 0, .string ⟨#[]⟩] 28) ∧ wx.heap[w.heap.size + 2]? = some (Obj.cells #[.int .i64 kind, .int .i64 ver, .int .i64 root, .int .i64 next, k', i', e', .string data] 28) ∧ Lent wx (w.heap.size + 3) ka k' keys.length 1 (keys.map .string) 9 mK ∧ Lent wx (w.heap.size + 3) ia i' kids.length 1 (kids.map (.int .i64)) 3 mI ∧ Lent wx (w.heap.size + 3) ea e' ents.length 4 (ents.flatMap Ent.cells) 52 mE)
  case first =>
    cases ea with
    | none =>
      have HK0 : Hid (ents = [] ∧ ec = 0) := HnE.out rfl
      clear HnE
      go_wp2_with fail
      go_meet
      exact ⟨_, hb1, hz1, hx1, hr1, ho1, lk, li, .inl ⟨rfl, by rw [HK0.out.1, HK0.out.2]; rfl, by rw [HK0.out.1]; rfl, by rw [HK0.out.1]; rfl⟩⟩
    | some ad =>
      have hmk := make_ents ents.length hen
      obtain ⟨i0, hi, hy0, hy1, hy2⟩ := info_parts info52
      obtain ⟨x0, x1, x2, x3, x4, x5, x6, x7⟩ := box8 hx1
      go_wp2_with fail
      go_loopw [9] (fun i wr => ∃ j : Nat, j ≤ (ents.length + 8) ∧ i = .int .i64 j ∧ wr = wc.alloc (.cells (rowF 4 (ents.length + 8) j mE zE) 52)) (fun i _ => (ents.length + 8) - (intOf i).toNat)
      case atStart => exact ⟨0, Nat.zero_le _, rfl, rfl⟩
      case round =>
        obtain ⟨j, hj, rfl, rfl⟩ := hrel
        by_cases hlt : j < (ents.length + 8)
        · have hset : ((((rowF 4 (ents.length + 8) j mE zE).setIfInBounds (j * 4) (.string ⟨#[]⟩)).setIfInBounds (j * 4 + 1) (.string ⟨#[]⟩)).setIfInBounds (j * 4 + 2) (.int .i64 (-77))).setIfInBounds (j * 4 + 3) (.int .i64 0) = rowF 4 (ents.length + 8) (j + 1) mE zE := rowF_set4 _ _ _ _ hlt
          have hjw : j * 4 ≤ 8589934592 := by omega
          have hat0 := rowF_at 4 (ents.length + 8) j mE zE (j * 4) (by omega)
          have hat1 := rowF_at 4 (ents.length + 8) j mE zE (j * 4 + 1) (by omega)
          have hat2 := rowF_at 4 (ents.length + 8) j mE zE (j * 4 + 2) (by omega)
          have hat3 := rowF_at 4 (ents.length + 8) j mE zE (j * 4 + 3) (by omega)
          go_wp2_with fail
          go_roundw
          case rel => exact ⟨j + 1, by omega, by go_num, by first | rfl | rw [hset]⟩
          case measure => simp [intOf]; omega
        · obtain rfl : j = (ents.length + 8) := by omega
          have hbA : Below w.heap.size w (wc.alloc (.cells (rowF 4 (ents.length + 8) (ents.length + 8) mE zE) 52)) := hb1.alloc (by omega) _
          have hsrc := (hE.below hbA).mono hbA.size
          obtain ⟨p0, p1, p2, p3, p4, p5, p6, p7⟩ := box8 (heap_alloc_keep wc (.cells (rowF 4 (ents.length + 8) (ents.length + 8) mE zE) 52) _ _ hx1)
          have hcl : (ents.flatMap Ent.cells).length = ents.length * 4 := ents_cells _
          have hfit : (ents.flatMap Ent.cells).length ≤ (rowF 4 (ents.length + 8) (ents.length + 8) mE zE).size := by rw [rowF_size, hcl]; omega
          have h1c : ∀ v ∈ (ents.flatMap Ent.cells), v.oneCell' = true := ents_one _
          obtain ⟨A, hA⟩ : ∃ A, A = ((ents.flatMap Ent.cells) ++ (rowF 4 (ents.length + 8) (ents.length + 8) mE zE).toList.drop (ents.flatMap Ent.cells).length).toArray := ⟨_, rfl⟩
          have HA := lent_row (M := mE) (Z := zE) (sz := 4) (by omega) hcl
          rw [← hA] at HA
          have hcp := run_copy_any (wc.alloc (.cells (rowF 4 (ents.length + 8) (ents.length + 8) mE zE) 52)) 26 26 3 52 i0 4 Try.underlying26 hi hy1 wc.heap.size (ents.length + 8) (ents.length + 8) (some ad) ents.length ec _ (heap_new _ _) (ents.flatMap Ent.cells) hcl (by omega) hfit hsrc (by intro h; cases h) h1c
          rw [← hA, setRow_alloc] at hcp
          clear hA hsrc hcl hfit h1c
          obtain ⟨q0, q1, q2, q3, q4, q5, q6, q7⟩ := box8 (heap_alloc_keep wc (.cells A 52) _ _ hx1)
          obtain ⟨t0, t1, t2, t3, t4, t5, t6, t7⟩ := box8 (heap_alloc_keep wc (.cells A 52) _ _ ho1)
          have hfr := box_free (heap_alloc_keep wc (.cells A 52) _ _ ho1)
          go_wp2_with fail
          go_meet
          obtain ⟨f1, f2, f3, f4, f5, f6, f7⟩ := store_facts (A := A) (e := 52) hb1 hz1 hx1 hr1 ho1 6 (.slice (some ⟨wc.heap.size, 0, none⟩) ents.length (ents.length + 8))
          exact ⟨_, f1, f2, f3, f4, by simpa using f5, lk.keep f7, li.keep f7, .inr ⟨wc.heap.size, A, rfl, hz1, f6, HA⟩⟩
  case rest =>
  obtain ⟨e', hb1, hz1, hx1, hr1, ho1, lk, li, le⟩ := hcut
  clear hE HnE
  obtain ⟨ak, ck, hvk, _⟩ := lk.row
  obtain ⟨ai, ci, hvi, _⟩ := li.row
  obtain ⟨ae, ce, hve, _⟩ := le.row
  subst hvk
  subst hvi
  subst hve
  obtain ⟨x0, x1, x2, x3, x4, x5, x6, x7⟩ := box8 ho1
  obtain ⟨y0, y1, y2, y3, y4, y5, y6, y7⟩ := box8 hr1
  have hfr := box_free hr1
  have q := set8 hr1 (.int .i64 kind) (.int .i64 ver) (.int .i64 root) (.int .i64 next) (.slice ak keys.length ck) (.slice ai kids.length ci) (.slice ae ents.length ce) (.string data)
  obtain ⟨q0, q1, q2, q3, q4, q5, q6, q7⟩ := box8 q
  have kp := fun (g : Nat) (o : Obj) (hg : w.heap.size + 3 ≤ g) (ho : wc.heap[g]? = some o) => (keep8 (u := wc) (β := w.heap.size + 1) (k := g) (by omega) (.int .i64 kind) (.int .i64 ver) (.int .i64 root) (.int .i64 next) (.slice ak keys.length ck) (.slice ai kids.length ci) (.slice ae ents.length ce) (.string data)).trans ho
  have bl := hb1.trans (below8 (u := wc) (β := w.heap.size + 1) (B := w.heap.size) (by omega) (.int .i64 kind) (.int .i64 ver) (.int .i64 root) (.int .i64 next) (.slice ak keys.length ck) (.slice ai kids.length ci) (.slice ae ents.length ce) (.string data))
  go_wp2_with fail
  refine bodyPost_ret (v := .agg #[.int .i64 kind, .int .i64 ver, .int .i64 root, .int .i64 next, .slice ak keys.length ck, .slice ai kids.length ci, .slice ae ents.length ce, .string data]) ?_ rfl ⟨_, _, _, rfl, bl, lk.keep kp, li.keep kp, le.keep kp⟩
  simp [results, Try.results10, go_sem, q0, q1, q2, q3, q4, q5, q6, q7]
end Go.Proofs.Ytjmmfpolkkglaaa.Pages
