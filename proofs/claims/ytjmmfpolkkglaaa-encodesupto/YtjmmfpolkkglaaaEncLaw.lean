/-
  The walk of the law Encodes: it answers true of every page that is not too great.
-/
import Derived.Test.YtjmmfpolkkglaaaAsLent
import Derived.Test.YtjmmfpolkkglaaaEncLaw0
namespace Go.Proofs.Ytjmmfpolkkglaaa.Pages
open Go.RowKit
set_option linter.unusedSimpArgs false
set_option linter.unusedVariables false

set_option maxRecDepth 100000 in
set_option maxHeartbeats 2000000 in
theorem encodes_walk (kind ver root next : Int) (ka ia ea : Option Addr) (kc ic ec : Nat) (data : ByteArray) (keys : List ByteArray) (kids : List Int) (ents : List Ent) (w : World)
    (hK : RowAt w w.heap.size ka (keys.map .string)) (hI : RowAt w w.heap.size ia (kids.map (.int .i64))) (hE : RowAt w w.heap.size ea (ents.flatMap Ent.cells))
    (nK : ka = none → keys = [] ∧ kc = 0) (nI : ia = none → kids = [] ∧ ic = 0) (nE : ea = none → ents = [] ∧ ec = 0)
    (hs : Small keys kids ents data) (hks : ∀ (j : Nat) (hj : j < keys.length), keys[j].size ≤ 1073741824) :
    Calls Try.prog 4 #[.agg #[.int .i64 kind, .int .i64 ver, .int .i64 root, .int .i64 next, .slice ka keys.length kc, .slice ia kids.length ic, .slice ea ents.length ec, .string data]] w fun e w' => e = .returned (.bool true) ∧ Below w.heap.size w w' := by
  have hb := (Below.refl w.heap.size w).alloc (Nat.le_refl _) (Obj.cells #[.int .i64 kind, .int .i64 ver, .int .i64 root, .int .i64 next, .slice ka keys.length kc, .slice ia kids.length ic, .slice ea ents.length ec, .string data] 28)
  have hbox := heap_new w (Obj.cells #[.int .i64 kind, .int .i64 ver, .int .i64 root, .int .i64 next, .slice ka keys.length kc, .slice ia kids.length ic, .slice ea ents.length ec, .string data] 28)
  have hz : w.heap.size < (w.alloc (Obj.cells #[.int .i64 kind, .int .i64 ver, .int .i64 root, .int .i64 next, .slice ka keys.length kc, .slice ia kids.length ic, .slice ea ents.length ec, .string data] 28)).heap.size := by simp
  have HnK : Hid (ka = none → keys = [] ∧ kc = 0) := nK
  have HnI : Hid (ia = none → kids = [] ∧ ic = 0) := nI
  have HnE : Hid (ea = none → ents = [] ∧ ec = 0) := nE
  clear nK nI nE
  obtain ⟨S, hS⟩ : ∃ S, S = encS kind ver root next keys kids ents data := ⟨_, rfl⟩
  obtain ⟨R, hR⟩ : ∃ R, R = encE kind ver root next keys kids ents data := ⟨_, rfl⟩
  have C1 := fun ka ia ea kc ic ec w (a : RowAt w w.heap.size ka (keys.map .string)) (b : RowAt w w.heap.size ia (kids.map (.int .i64))) (c : RowAt w w.heap.size ea (ents.flatMap Ent.cells)) => encode_any kind ver root next ka ia ea kc ic ec data keys kids ents w a b c hs
  have C2 := fun ka ia ea kc ic ec w (a : RowAt w w.heap.size ka (keys.map .string)) (b : RowAt w w.heap.size ia (kids.map (.int .i64))) (c : RowAt w w.heap.size ea (ents.flatMap Ent.cells)) => ref_encode_any kind ver root next ka ia ea kc ic ec data keys kids ents w a b c hs hks
  rw [← hS, ← hR] at C1 C2
  clear hS hR
  go_enter Try.func4, Try.ntmps4
  go_wp2_with (first
    | (go_at_call 9; refine (first_any _).mono ?_; rintro e w1 ⟨rfl, hb1⟩; have HB1 : Below w.heap.size w w1 := hb.trans (hb1.mono (Nat.le_of_lt hz)); have hx1 := (hb1.block w.heap.size hz).trans hbox; obtain ⟨x0, x1, x2, x3, x4, x5, x6, x7⟩ := box8 hx1)
    | (go_at_call 10; refine (lent_any _ _ _ _ _ _ _ _ _ _ _ _ _ _ w1 ((hK.below HB1).mono HB1.size) ((hI.below HB1).mono HB1.size) ((hE.below HB1).mono HB1.size) HnK.out HnI.out HnE.out hs.nKeys hs.nKids hs.nEnts).mono ?_; rintro e w2 ⟨k', i', e', rfl, hb2, lk, li, le⟩; obtain ⟨ak, ck, rfl, rk⟩ := lk.row; obtain ⟨ai, ci, rfl, ri⟩ := li.row; obtain ⟨ae, ce, rfl, re⟩ := le.row; have bY := (Below.refl w2.heap.size w2).alloc (Nat.le_refl _) (Obj.cells #[.int .i64 kind, .int .i64 ver, .int .i64 root, .int .i64 next, .slice ak keys.length ck, .slice ai kids.length ci, .slice ae ents.length ce, .string data] 28); have zY : w2.heap.size < (w2.alloc (Obj.cells #[.int .i64 kind, .int .i64 ver, .int .i64 root, .int .i64 next, .slice ak keys.length ck, .slice ai kids.length ci, .slice ae ents.length ce, .string data] 28)).heap.size := heap_lt _ _; have z1 : w.heap.size < w1.heap.size := Nat.lt_of_lt_of_le hz hb1.size; have hp2 := (hb2.block w.heap.size z1).trans hx1; have z2 : w.heap.size < w2.heap.size := Nat.lt_of_lt_of_le z1 hb2.size; have HB2 : Below w.heap.size w w2 := HB1.trans (hb2.mono (Nat.le_of_lt z1)))
    | (go_at_call 11; refine (C1 _ _ _ _ _ _ _ ((rk.below bY).mono (Nat.le_of_lt zY)) ((ri.below bY).mono (Nat.le_of_lt zY)) ((re.below bY).mono (Nat.le_of_lt zY))).mono ?_; rintro e w3 ⟨rfl, hb3⟩; have hx3 := (hb3.block w2.heap.size zY).trans (heap_new _ _); have z2' := Nat.lt_trans z2 zY; have hp3 := (hb3.block w.heap.size z2').trans (heap_alloc_keep' _ _ _ _ hp2); obtain ⟨c0, c1, c2, c3, c4, c5, c6, c7⟩ := box8 hx3; obtain ⟨d0, d1, d2, d3, d4, d5, d6, d7⟩ := box8 hp3; have lk3 := (lk.below bY (Nat.le_refl _)).below hb3 (Nat.le_refl _); have li3 := (li.below bY (Nat.le_refl _)).below hb3 (Nat.le_refl _); have le3 := (le.below bY (Nat.le_refl _)).below hb3 (Nat.le_refl _); have HB3 : Below w.heap.size w w3 := HB2.trans ((bY.mono (Nat.le_of_lt z2)).trans (hb3.mono (Nat.le_of_lt z2'))))
    | (go_at_call 12; refine (asLent_any _ _ _ _ _ _ _ _ _ _ _ _ _ _ _ _ _ _ _ _ w3 (w1.heap.size + 3) ((hK.below HB3).mono HB3.size) ((hI.below HB3).mono HB3.size) ((hE.below HB3).mono HB3.size) lk3 li3 le3 hs.nKeys hs.nKids hs.nEnts).mono ?_; rintro e w4 ⟨rfl, hb4⟩; have z3 : w.heap.size < w3.heap.size := Nat.lt_of_lt_of_le z2' hb3.size; have hp4 := (hb4.block w.heap.size z3).trans hp3; obtain ⟨f0, f1, f2, f3, f4, f5, f6, f7⟩ := box8 hp4; have HB4 : Below w.heap.size w w4 := HB3.trans (hb4.mono (Nat.le_of_lt z3)))
    | (go_at_call 13; refine (C2 _ _ _ _ _ _ w4 ((hK.below HB4).mono HB4.size) ((hI.below HB4).mono HB4.size) ((hE.below HB4).mono HB4.size)).mono ?_; rintro e w5 ⟨rfl, hb5⟩; have HB5 : Below w.heap.size w w5 := HB4.trans (hb5.mono HB4.size)))
  go_ret
  exact ⟨rfl, HB5⟩
end Go.Proofs.Ytjmmfpolkkglaaa.Pages
