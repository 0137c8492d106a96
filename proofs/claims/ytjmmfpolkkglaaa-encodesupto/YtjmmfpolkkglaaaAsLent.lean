/-
  What asLent answers of a page that was lent and is as it was: true.
-/
import Derived.Test.YtjmmfpolkkglaaaLentB
namespace Go.Proofs.Ytjmmfpolkkglaaa.Pages
open Go.RowKit
set_option linter.unusedSimpArgs false
set_option linter.unusedVariables false

set_option maxRecDepth 100000 in
set_option maxHeartbeats 2000000 in
theorem asLent_any (kind ver root next : Int) (xk xi xe ka ia ea : Option Addr) (yk yi ye kc ic ec : Nat) (data : ByteArray) (keys : List ByteArray) (kids : List Int) (ents : List Ent) (w : World) (B : Nat)
    (hK : RowAt w w.heap.size ka (keys.map .string)) (hI : RowAt w w.heap.size ia (kids.map (.int .i64))) (hE : RowAt w w.heap.size ea (ents.flatMap Ent.cells))
    (lk : Lent w B ka (.slice xk keys.length yk) keys.length 1 (keys.map .string) 9 mK) (li : Lent w B ia (.slice xi kids.length yi) kids.length 1 (kids.map (.int .i64)) 3 mI) (le : Lent w B ea (.slice xe ents.length ye) ents.length 4 (ents.flatMap Ent.cells) 52 mE)
    (hkn : keys.length ≤ 1073741824) (hin : kids.length ≤ 1073741824) (hen : ents.length ≤ 1073741824) :
    Calls Try.prog 12 #[.agg #[.int .i64 kind, .int .i64 ver, .int .i64 root, .int .i64 next, .slice xk keys.length yk, .slice xi kids.length yi, .slice xe ents.length ye, .string data], .agg #[.int .i64 kind, .int .i64 ver, .int .i64 root, .int .i64 next, .slice ka keys.length kc, .slice ia kids.length ic, .slice ea ents.length ec, .string data]] w fun e w' => e = .returned (.bool true) ∧ Below w.heap.size w w' := by
  have hb0 : Below w.heap.size w ((w.alloc (Obj.cells #[.int .i64 kind, .int .i64 ver, .int .i64 root, .int .i64 next, .slice xk keys.length yk, .slice xi kids.length yi, .slice xe ents.length ye, .string data] 28)).alloc (Obj.cells #[.int .i64 kind, .int .i64 ver, .int .i64 root, .int .i64 next, .slice ka keys.length kc, .slice ia kids.length ic, .slice ea ents.length ec, .string data] 28)) := ((Below.refl w.heap.size w).alloc (Nat.le_refl _) _).alloc (by simp) _
  have hle : w.heap.size ≤ ((w.alloc (Obj.cells #[.int .i64 kind, .int .i64 ver, .int .i64 root, .int .i64 next, .slice xk keys.length yk, .slice xi kids.length yi, .slice xe ents.length ye, .string data] 28)).alloc (Obj.cells #[.int .i64 kind, .int .i64 ver, .int .i64 root, .int .i64 next, .slice ka keys.length kc, .slice ia kids.length ic, .slice ea ents.length ec, .string data] 28)).heap.size := by simp; omega
  have hx1 : ((w.alloc (Obj.cells #[.int .i64 kind, .int .i64 ver, .int .i64 root, .int .i64 next, .slice xk keys.length yk, .slice xi kids.length yi, .slice xe ents.length ye, .string data] 28)).alloc (Obj.cells #[.int .i64 kind, .int .i64 ver, .int .i64 root, .int .i64 next, .slice ka keys.length kc, .slice ia kids.length ic, .slice ea ents.length ec, .string data] 28)).heap[w.heap.size]? = some (Obj.cells #[.int .i64 kind, .int .i64 ver, .int .i64 root, .int .i64 next, .slice xk keys.length yk, .slice xi kids.length yi, .slice xe ents.length ye, .string data] 28) := by rw [Below.heap_alloc _ _ _ (by simp)]; exact heap_new _ _
  have hx2 : ((w.alloc (Obj.cells #[.int .i64 kind, .int .i64 ver, .int .i64 root, .int .i64 next, .slice xk keys.length yk, .slice xi kids.length yi, .slice xe ents.length ye, .string data] 28)).alloc (Obj.cells #[.int .i64 kind, .int .i64 ver, .int .i64 root, .int .i64 next, .slice ka keys.length kc, .slice ia kids.length ic, .slice ea ents.length ec, .string data] 28)).heap[w.heap.size + 1]? = some (Obj.cells #[.int .i64 kind, .int .i64 ver, .int .i64 root, .int .i64 next, .slice ka keys.length kc, .slice ia kids.length ic, .slice ea ents.length ec, .string data] 28) := by have := heap_new (w.alloc (Obj.cells #[.int .i64 kind, .int .i64 ver, .int .i64 root, .int .i64 next, .slice xk keys.length yk, .slice xi kids.length yi, .slice xe ents.length ye, .string data] 28)) (Obj.cells #[.int .i64 kind, .int .i64 ver, .int .i64 root, .int .i64 next, .slice ka keys.length kc, .slice ia kids.length ic, .slice ea ents.length ec, .string data] 28); simpa using this
  have r1 : RowAt ((w.alloc (Obj.cells #[.int .i64 kind, .int .i64 ver, .int .i64 root, .int .i64 next, .slice xk keys.length yk, .slice xi kids.length yi, .slice xe ents.length ye, .string data] 28)).alloc (Obj.cells #[.int .i64 kind, .int .i64 ver, .int .i64 root, .int .i64 next, .slice ka keys.length kc, .slice ia kids.length ic, .slice ea ents.length ec, .string data] 28)) ((w.alloc (Obj.cells #[.int .i64 kind, .int .i64 ver, .int .i64 root, .int .i64 next, .slice xk keys.length yk, .slice xi kids.length yi, .slice xe ents.length ye, .string data] 28)).alloc (Obj.cells #[.int .i64 kind, .int .i64 ver, .int .i64 root, .int .i64 next, .slice ka keys.length kc, .slice ia kids.length ic, .slice ea ents.length ec, .string data] 28)).heap.size xk (keys.map .string) := by
    obtain ⟨a, c, hv, hr⟩ := lk.row
    simp only [Value.slice.injEq] at hv
    rw [← hv.1] at hr; exact (hr.below hb0).mono hle
  have r2 : RowAt ((w.alloc (Obj.cells #[.int .i64 kind, .int .i64 ver, .int .i64 root, .int .i64 next, .slice xk keys.length yk, .slice xi kids.length yi, .slice xe ents.length ye, .string data] 28)).alloc (Obj.cells #[.int .i64 kind, .int .i64 ver, .int .i64 root, .int .i64 next, .slice ka keys.length kc, .slice ia kids.length ic, .slice ea ents.length ec, .string data] 28)) ((w.alloc (Obj.cells #[.int .i64 kind, .int .i64 ver, .int .i64 root, .int .i64 next, .slice xk keys.length yk, .slice xi kids.length yi, .slice xe ents.length ye, .string data] 28)).alloc (Obj.cells #[.int .i64 kind, .int .i64 ver, .int .i64 root, .int .i64 next, .slice ka keys.length kc, .slice ia kids.length ic, .slice ea ents.length ec, .string data] 28)).heap.size xi (kids.map (.int .i64)) := by
    obtain ⟨a, c, hv, hr⟩ := li.row
    simp only [Value.slice.injEq] at hv
    rw [← hv.1] at hr; exact (hr.below hb0).mono hle
  have r3 : RowAt ((w.alloc (Obj.cells #[.int .i64 kind, .int .i64 ver, .int .i64 root, .int .i64 next, .slice xk keys.length yk, .slice xi kids.length yi, .slice xe ents.length ye, .string data] 28)).alloc (Obj.cells #[.int .i64 kind, .int .i64 ver, .int .i64 root, .int .i64 next, .slice ka keys.length kc, .slice ia kids.length ic, .slice ea ents.length ec, .string data] 28)) ((w.alloc (Obj.cells #[.int .i64 kind, .int .i64 ver, .int .i64 root, .int .i64 next, .slice xk keys.length yk, .slice xi kids.length yi, .slice xe ents.length ye, .string data] 28)).alloc (Obj.cells #[.int .i64 kind, .int .i64 ver, .int .i64 root, .int .i64 next, .slice ka keys.length kc, .slice ia kids.length ic, .slice ea ents.length ec, .string data] 28)).heap.size xe (ents.flatMap Ent.cells) := by
    obtain ⟨a, c, hv, hr⟩ := le.row
    simp only [Value.slice.injEq] at hv
    rw [← hv.1] at hr; exact (hr.below hb0).mono hle
  have r4 := (hK.below hb0).mono hle
  have r5 := (hI.below hb0).mono hle
  have r6 := (hE.below hb0).mono hle
  have hsm := same_same kind ver root next xk xi xe ka ia ea yk yi ye kc ic ec data keys kids ents ((w.alloc (Obj.cells #[.int .i64 kind, .int .i64 ver, .int .i64 root, .int .i64 next, .slice xk keys.length yk, .slice xi kids.length yi, .slice xe ents.length ye, .string data] 28)).alloc (Obj.cells #[.int .i64 kind, .int .i64 ver, .int .i64 root, .int .i64 next, .slice ka keys.length kc, .slice ia kids.length ic, .slice ea ents.length ec, .string data] 28)) r1 r2 r3 r4 r5 r6 hkn hin hen
  clear r1 r2 r3 r4 r5 r6 hK hI hE
  have hq1 := fun (u : World) (a : Option Addr) (n c : Nat) => run_neq_slice_nil_any (P := Try.prog) u 24 9 a n c 0 0 Try.underlying24
  have hq2 := fun (u : World) (a : Option Addr) (n c : Nat) => run_neq_slice_nil_any (P := Try.prog) u 25 3 a n c 0 0 Try.underlying25
  have hq3 := fun (u : World) (a : Option Addr) (n c : Nat) => run_neq_slice_nil_any (P := Try.prog) u 26 52 a n c 0 0 Try.underlying26
  go_enter Try.func12, Try.ntmps12
  go_upto_region 1 with fail
  go_cut [5] (fun s5 wx => s5 = .bool true ∧ Below ((w.alloc (Obj.cells #[.int .i64 kind, .int .i64 ver, .int .i64 root, .int .i64 next, .slice xk keys.length yk, .slice xi kids.length yi, .slice xe ents.length ye, .string data] 28)).alloc (Obj.cells #[.int .i64 kind, .int .i64 ver, .int .i64 root, .int .i64 next, .slice ka keys.length kc, .slice ia kids.length ic, .slice ea ents.length ec, .string data] 28)).heap.size ((w.alloc (Obj.cells #[.int .i64 kind, .int .i64 ver, .int .i64 root, .int .i64 next, .slice xk keys.length yk, .slice xi kids.length yi, .slice xe ents.length ye, .string data] 28)).alloc (Obj.cells #[.int .i64 kind, .int .i64 ver, .int .i64 root, .int .i64 next, .slice ka keys.length kc, .slice ia kids.length ic, .slice ea ents.length ec, .string data] 28)) wx)
  case first =>
    go_wp2_with (go_at_call 17; refine hsm.mono ?_; rintro e wn ⟨rfl, hbn⟩)
    go_meet
    exact ⟨rfl, hbn⟩
  case rest =>
  obtain ⟨rfl, hbn⟩ := hcut
  have HB : Below w.heap.size w wc := hb0.trans (hbn.mono hle)
  replace hx1 := (hbn.block w.heap.size (by simp; omega)).trans hx1
  replace hx2 := (hbn.block (w.heap.size + 1) (by simp)).trans hx2
  replace lk := lk.below HB (Nat.le_refl _)
  replace li := li.below HB (Nat.le_refl _)
  replace le := le.below HB (Nat.le_refl _)
  clear hsm hbn hb0 hle
  go_upto_region 4 with fail
  go_cut [19] (fun s wx => s = .bool ka.isSome ∧ wx = wc)
  case first =>
    obtain ⟨a0, a1, a2, a3, a4, a5, a6, a7⟩ := box8 hx1; obtain ⟨b0, b1, b2, b3, b4, b5, b6, b7⟩ := box8 hx2
    go_wp2_with fail
    go_meet
    exact ⟨rfl, rfl⟩
  case rest =>
  obtain ⟨rfl, hcut⟩ := hcut
  subst hcut
  clear hq1
  go_upto_if 19 with fail
  go_cut [] (fun wx => wx = wc)
  case first =>
    cases ka with
    | none =>
      go_wp2_with fail
      go_meet
      rfl
    | some ad =>
      rcases lk with ⟨h0, _⟩ | ⟨g, A, hv, hg, hA, hs, hc, hm⟩
      · cases h0
      · obtain ⟨hxa, hya⟩ : xk = some ⟨g, 0, none⟩ ∧ yk = keys.length + 8 := by
          simp only [Value.slice.injEq] at hv; exact ⟨hv.1, hv.2.2⟩
        subst hxa
        subst hya
        obtain ⟨a0, a1, a2, a3, a4, a5, a6, a7⟩ := box8 hx1; obtain ⟨b0, b1, b2, b3, b4, b5, b6, b7⟩ := box8 hx2
        go_wp2_with fail
        go_loop [7] (fun i => ∃ j : Nat, keys.length ≤ j ∧ j ≤ keys.length + 8 ∧ i = .int .i64 j) (fun i => keys.length + 8 - (intOf i).toNat)
        case atStart => exact ⟨keys.length, Nat.le_refl _, by omega, rfl⟩
        case round =>
          obtain ⟨j, hj0, hj, rfl⟩ := hrel
          by_cases hlt : j < keys.length + 8
          · have hcj : wc.cell? ⟨g, j, none⟩ = some (.string ⟨#[126, 126]⟩) := by
              have := hm (j - keys.length) (by omega)
              rw [show keys.length * 1 + (j - keys.length) = j by omega] at this
              simp only [World.cell?, hA, this]; rfl
            go_wp2_with fail
            go_round
            case rel => exact ⟨j + 1, by omega, by omega, by go_num⟩
            case measure => simp [intOf]; omega
          · go_wp2_with fail
            go_meet
            rfl
  case rest =>
  subst hcut
  go_upto_region 11 with fail
  go_cut [43] (fun s wx => s = .bool ia.isSome ∧ wx = wc)
  case first =>
    obtain ⟨a0, a1, a2, a3, a4, a5, a6, a7⟩ := box8 hx1; obtain ⟨b0, b1, b2, b3, b4, b5, b6, b7⟩ := box8 hx2
    go_wp2_with fail
    go_meet
    exact ⟨rfl, rfl⟩
  case rest =>
  obtain ⟨rfl, hcut⟩ := hcut
  subst hcut
  clear hq2
  go_upto_if 43 with fail
  go_cut [] (fun wx => wx = wc)
  case first =>
    cases ia with
    | none =>
      go_wp2_with fail
      go_meet
      rfl
    | some ad =>
      rcases li with ⟨h0, _⟩ | ⟨g, A, hv, hg, hA, hs, hc, hm⟩
      · cases h0
      · obtain ⟨hxa, hya⟩ : xi = some ⟨g, 0, none⟩ ∧ yi = kids.length + 8 := by
          simp only [Value.slice.injEq] at hv; exact ⟨hv.1, hv.2.2⟩
        subst hxa
        subst hya
        obtain ⟨a0, a1, a2, a3, a4, a5, a6, a7⟩ := box8 hx1; obtain ⟨b0, b1, b2, b3, b4, b5, b6, b7⟩ := box8 hx2
        go_wp2_with fail
        go_loop [9] (fun i => ∃ j : Nat, kids.length ≤ j ∧ j ≤ kids.length + 8 ∧ i = .int .i64 j) (fun i => kids.length + 8 - (intOf i).toNat)
        case atStart => exact ⟨kids.length, Nat.le_refl _, by omega, rfl⟩
        case round =>
          obtain ⟨j, hj0, hj, rfl⟩ := hrel
          by_cases hlt : j < kids.length + 8
          · have hcj : wc.cell? ⟨g, j, none⟩ = some (.int .i64 (-77)) := by
              have := hm (j - kids.length) (by omega)
              rw [show kids.length * 1 + (j - kids.length) = j by omega] at this
              simp only [World.cell?, hA, this]; rfl
            go_wp2_with fail
            go_round
            case rel => exact ⟨j + 1, by omega, by omega, by go_num⟩
            case measure => simp [intOf]; omega
          · go_wp2_with fail
            go_meet
            rfl
  case rest =>
  subst hcut
  go_upto_region 18 with fail
  go_cut [67] (fun s wx => s = .bool ea.isSome ∧ wx = wc)
  case first =>
    obtain ⟨a0, a1, a2, a3, a4, a5, a6, a7⟩ := box8 hx1; obtain ⟨b0, b1, b2, b3, b4, b5, b6, b7⟩ := box8 hx2
    go_wp2_with fail
    go_meet
    exact ⟨rfl, rfl⟩
  case rest =>
  obtain ⟨rfl, hcut⟩ := hcut
  subst hcut
  clear hq3
  go_upto_if 67 with fail
  go_cut [] (fun wx => wx = wc)
  case first =>
    cases ea with
    | none =>
      go_wp2_with fail
      go_meet
      rfl
    | some ad =>
      rcases le with ⟨h0, _⟩ | ⟨g, A, hv, hg, hA, hs, hc, hm⟩
      · cases h0
      · obtain ⟨hxa, hya⟩ : xe = some ⟨g, 0, none⟩ ∧ ye = ents.length + 8 := by
          simp only [Value.slice.injEq] at hv; exact ⟨hv.1, hv.2.2⟩
        subst hxa
        subst hya
        obtain ⟨a0, a1, a2, a3, a4, a5, a6, a7⟩ := box8 hx1; obtain ⟨b0, b1, b2, b3, b4, b5, b6, b7⟩ := box8 hx2
        go_wp2_with fail
        go_loop [11] (fun i => ∃ j : Nat, ents.length ≤ j ∧ j ≤ ents.length + 8 ∧ i = .int .i64 j) (fun i => ents.length + 8 - (intOf i).toNat)
        case atStart => exact ⟨ents.length, Nat.le_refl _, by omega, rfl⟩
        case round =>
          obtain ⟨j, hj0, hj, rfl⟩ := hrel
          by_cases hlt : j < ents.length + 8
          · have hjw : j * 4 ≤ 8589934592 := by omega
            have hcj : ∀ c, c < 4 → wc.cell? ⟨g, j * 4 + c, none⟩ = some (mE c) := fun c hc4 => by
              have := hm ((j - ents.length) * 4 + c) (by omega)
              rw [show ents.length * 4 + ((j - ents.length) * 4 + c) = j * 4 + c by omega, show ((j - ents.length) * 4 + c) % 4 = c by omega] at this
              simp only [World.cell?, hA, this]; rfl
            have c0 : wc.cell? ⟨g, j * 4, none⟩ = some (.string ⟨#[]⟩) := hcj 0 (by omega)
            have c1 : wc.cell? ⟨g, j * 4 + 1, none⟩ = some (.string ⟨#[]⟩) := hcj 1 (by omega)
            have c2 : wc.cell? ⟨g, j * 4 + 2, none⟩ = some (.int .i64 (-77)) := hcj 2 (by omega)
            have c3 : wc.cell? ⟨g, j * 4 + 3, none⟩ = some (.int .i64 0) := hcj 3 (by omega)
            clear hcj
            go_wp2_with fail
            go_round
            case rel => exact ⟨j + 1, by omega, by omega, by go_num⟩
            case measure => simp [intOf]; omega
          · go_wp2_with fail
            go_meet
            rfl
  case rest =>
  subst hcut
  go_wp2_with fail
  go_ret
  exact ⟨rfl, HB⟩
end Go.Proofs.Ytjmmfpolkkglaaa.Pages
