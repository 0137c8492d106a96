/-
  What sameTexts, sameInts and same answer where two pages tell the same: true.
-/
import Derived.Test.YtjmmfpolkkglaaaRising
namespace Go.Proofs.Ytjmmfpolkkglaaa.Pages
open Go.RowKit
set_option linter.unusedSimpArgs false
set_option linter.unusedVariables false

set_option maxHeartbeats 1000000 in
theorem sameTexts_same (a b : Option Addr) (ac bc : Nat) (l : List ByteArray) (w : World) (ha : RowAt w w.heap.size a (l.map .string)) (hb : RowAt w w.heap.size b (l.map .string)) (hn : l.length ≤ 1073741824) :
    Calls Try.prog 32 #[.slice a l.length ac, .slice b l.length bc] w fun e w' => e = .returned (.bool true) ∧ Below w.heap.size w w' := by
  go_enter Try.func32, Try.ntmps32
  go_wp2
  go_loopw [5] (fun i wr => ∃ j : Nat, j ≤ l.length ∧ i = .int .i64 j ∧ Below w.heap.size w wr) (fun i _ => l.length - (intOf i).toNat)
  case atStart => exact ⟨0, Nat.zero_le _, rfl, Below.refl _ _⟩
  case round =>
    obtain ⟨j, hj, rfl, hbr⟩ := hrel
    by_cases hlt : j < l.length
    · obtain ⟨ab, ao, hae, hab, hac⟩ := (ha.below hbr).at hlt
      obtain ⟨bb, bo, hbe, hbb, hbc⟩ := (hb.below hbr).at hlt
      have hj1 : (j : Int) < (l.length : Int) := by omega
      subst hae
      subst hbe
      clear ha hb
      go_wp2
      go_quiet (fail)
      go_wp2
      go_roundw
      case rel => exact ⟨j + 1, by omega, by go_num, below_drewN hbr _⟩
      case measure => simp [intOf]; omega
    · clear ha hb
      go_wp2
      go_ret
      exact ⟨rfl, hbr⟩

set_option maxHeartbeats 1000000 in
theorem sameInts_same (a b : Option Addr) (ac bc : Nat) (l : List Int) (w : World) (ha : RowAt w w.heap.size a (l.map (.int .i64))) (hb : RowAt w w.heap.size b (l.map (.int .i64))) (hn : l.length ≤ 1073741824) :
    Calls Try.prog 33 #[.slice a l.length ac, .slice b l.length bc] w fun e w' => e = .returned (.bool true) ∧ Below w.heap.size w w' := by
  go_enter Try.func33, Try.ntmps33
  go_wp2
  go_loopw [5] (fun i wr => ∃ j : Nat, j ≤ l.length ∧ i = .int .i64 j ∧ Below w.heap.size w wr) (fun i _ => l.length - (intOf i).toNat)
  case atStart => exact ⟨0, Nat.zero_le _, rfl, Below.refl _ _⟩
  case round =>
    obtain ⟨j, hj, rfl, hbr⟩ := hrel
    by_cases hlt : j < l.length
    · obtain ⟨ab, ao, hae, hab, hac⟩ := (ha.below hbr).at hlt
      obtain ⟨bb, bo, hbe, hbb, hbc⟩ := (hb.below hbr).at hlt
      have hj1 : (j : Int) < (l.length : Int) := by omega
      subst hae
      subst hbe
      clear ha hb
      go_wp2
      go_quiet (fail)
      go_wp2
      go_roundw
      case rel => exact ⟨j + 1, by omega, by go_num, below_drewN hbr _⟩
      case measure => simp [intOf]; omega
    · clear ha hb
      go_wp2
      go_ret
      exact ⟨rfl, hbr⟩

theorem inv_step' {B : Nat} {W a wn : World} (hJ : Below B W a) (hW : B ≤ W.heap.size) (hbn : Below a.heap.size a wn) : Below B W wn := hJ.trans (hbn.mono (Nat.le_trans hW hJ.size))
set_option maxRecDepth 100000 in
set_option maxHeartbeats 2000000 in
theorem same_same (kind ver root next : Int) (ka ia ea ka2 ia2 ea2 : Option Addr) (kc ic ec kc2 ic2 ec2 : Nat) (data : ByteArray) (keys : List ByteArray) (kids : List Int) (ents : List Ent) (w : World)
    (hK : RowAt w w.heap.size ka (keys.map .string)) (hI : RowAt w w.heap.size ia (kids.map (.int .i64))) (hE : RowAt w w.heap.size ea (ents.flatMap Ent.cells))
    (hK2 : RowAt w w.heap.size ka2 (keys.map .string)) (hI2 : RowAt w w.heap.size ia2 (kids.map (.int .i64))) (hE2 : RowAt w w.heap.size ea2 (ents.flatMap Ent.cells))
    (hkn : keys.length ≤ 1073741824) (hin : kids.length ≤ 1073741824) (hen : ents.length ≤ 1073741824) :
    Calls Try.prog 17 #[.agg #[.int .i64 kind, .int .i64 ver, .int .i64 root, .int .i64 next, .slice ka keys.length kc, .slice ia kids.length ic, .slice ea ents.length ec, .string data], .agg #[.int .i64 kind, .int .i64 ver, .int .i64 root, .int .i64 next, .slice ka2 keys.length kc2, .slice ia2 kids.length ic2, .slice ea2 ents.length ec2, .string data]] w fun e w' => e = .returned (.bool true) ∧ Below w.heap.size w w' := by
  have hb0 : Below w.heap.size w ((w.alloc (Obj.cells #[.int .i64 kind, .int .i64 ver, .int .i64 root, .int .i64 next, .slice ka keys.length kc, .slice ia kids.length ic, .slice ea ents.length ec, .string data] 28)).alloc (Obj.cells #[.int .i64 kind, .int .i64 ver, .int .i64 root, .int .i64 next, .slice ka2 keys.length kc2, .slice ia2 kids.length ic2, .slice ea2 ents.length ec2, .string data] 28)) := ((Below.refl w.heap.size w).alloc (Nat.le_refl _) _).alloc (by simp) _
  have hJ := Below.refl (w.heap.size + 2) ((w.alloc (Obj.cells #[.int .i64 kind, .int .i64 ver, .int .i64 root, .int .i64 next, .slice ka keys.length kc, .slice ia kids.length ic, .slice ea ents.length ec, .string data] 28)).alloc (Obj.cells #[.int .i64 kind, .int .i64 ver, .int .i64 root, .int .i64 next, .slice ka2 keys.length kc2, .slice ia2 kids.length ic2, .slice ea2 ents.length ec2, .string data] 28))
  have hWz : w.heap.size + 2 ≤ ((w.alloc (Obj.cells #[.int .i64 kind, .int .i64 ver, .int .i64 root, .int .i64 next, .slice ka keys.length kc, .slice ia kids.length ic, .slice ea ents.length ec, .string data] 28)).alloc (Obj.cells #[.int .i64 kind, .int .i64 ver, .int .i64 root, .int .i64 next, .slice ka2 keys.length kc2, .slice ia2 kids.length ic2, .slice ea2 ents.length ec2, .string data] 28)).heap.size := by simp
  have hx1 : ((w.alloc (Obj.cells #[.int .i64 kind, .int .i64 ver, .int .i64 root, .int .i64 next, .slice ka keys.length kc, .slice ia kids.length ic, .slice ea ents.length ec, .string data] 28)).alloc (Obj.cells #[.int .i64 kind, .int .i64 ver, .int .i64 root, .int .i64 next, .slice ka2 keys.length kc2, .slice ia2 kids.length ic2, .slice ea2 ents.length ec2, .string data] 28)).heap[w.heap.size]? = some (Obj.cells #[.int .i64 kind, .int .i64 ver, .int .i64 root, .int .i64 next, .slice ka keys.length kc, .slice ia kids.length ic, .slice ea ents.length ec, .string data] 28) := by rw [Below.heap_alloc _ _ _ (by simp)]; exact heap_new _ _
  have hx2 : ((w.alloc (Obj.cells #[.int .i64 kind, .int .i64 ver, .int .i64 root, .int .i64 next, .slice ka keys.length kc, .slice ia kids.length ic, .slice ea ents.length ec, .string data] 28)).alloc (Obj.cells #[.int .i64 kind, .int .i64 ver, .int .i64 root, .int .i64 next, .slice ka2 keys.length kc2, .slice ia2 kids.length ic2, .slice ea2 ents.length ec2, .string data] 28)).heap[w.heap.size + 1]? = some (Obj.cells #[.int .i64 kind, .int .i64 ver, .int .i64 root, .int .i64 next, .slice ka2 keys.length kc2, .slice ia2 kids.length ic2, .slice ea2 ents.length ec2, .string data] 28) := by have := heap_new (w.alloc (Obj.cells #[.int .i64 kind, .int .i64 ver, .int .i64 root, .int .i64 next, .slice ka keys.length kc, .slice ia kids.length ic, .slice ea ents.length ec, .string data] 28)) (Obj.cells #[.int .i64 kind, .int .i64 ver, .int .i64 root, .int .i64 next, .slice ka2 keys.length kc2, .slice ia2 kids.length ic2, .slice ea2 ents.length ec2, .string data] 28); simpa using this
  have hle : w.heap.size ≤ ((w.alloc (Obj.cells #[.int .i64 kind, .int .i64 ver, .int .i64 root, .int .i64 next, .slice ka keys.length kc, .slice ia kids.length ic, .slice ea ents.length ec, .string data] 28)).alloc (Obj.cells #[.int .i64 kind, .int .i64 ver, .int .i64 root, .int .i64 next, .slice ka2 keys.length kc2, .slice ia2 kids.length ic2, .slice ea2 ents.length ec2, .string data] 28)).heap.size := by simp; omega
  have k1 := (hK.below hb0).mono hle
  have k2 := (hK2.below hb0).mono hle
  have i1 := fun wn (h : Below (w.heap.size + 2) ((w.alloc (Obj.cells #[.int .i64 kind, .int .i64 ver, .int .i64 root, .int .i64 next, .slice ka keys.length kc, .slice ia kids.length ic, .slice ea ents.length ec, .string data] 28)).alloc (Obj.cells #[.int .i64 kind, .int .i64 ver, .int .i64 root, .int .i64 next, .slice ka2 keys.length kc2, .slice ia2 kids.length ic2, .slice ea2 ents.length ec2, .string data] 28)) wn) => (hI.below (hb0.trans (h.mono (by omega)))).mono (Nat.le_trans hle h.size)
  have i2 := fun wn (h : Below (w.heap.size + 2) ((w.alloc (Obj.cells #[.int .i64 kind, .int .i64 ver, .int .i64 root, .int .i64 next, .slice ka keys.length kc, .slice ia kids.length ic, .slice ea ents.length ec, .string data] 28)).alloc (Obj.cells #[.int .i64 kind, .int .i64 ver, .int .i64 root, .int .i64 next, .slice ka2 keys.length kc2, .slice ia2 kids.length ic2, .slice ea2 ents.length ec2, .string data] 28)) wn) => (hI2.below (hb0.trans (h.mono (by omega)))).mono (Nat.le_trans hle h.size)
  have j1 := fun wn (h : Below (w.heap.size + 2) ((w.alloc (Obj.cells #[.int .i64 kind, .int .i64 ver, .int .i64 root, .int .i64 next, .slice ka keys.length kc, .slice ia kids.length ic, .slice ea ents.length ec, .string data] 28)).alloc (Obj.cells #[.int .i64 kind, .int .i64 ver, .int .i64 root, .int .i64 next, .slice ka2 keys.length kc2, .slice ia2 kids.length ic2, .slice ea2 ents.length ec2, .string data] 28)) wn) => (hE.below (hb0.trans (h.mono (by omega)))).mono (Nat.le_trans hle h.size)
  have j2 := fun wn (h : Below (w.heap.size + 2) ((w.alloc (Obj.cells #[.int .i64 kind, .int .i64 ver, .int .i64 root, .int .i64 next, .slice ka keys.length kc, .slice ia kids.length ic, .slice ea ents.length ec, .string data] 28)).alloc (Obj.cells #[.int .i64 kind, .int .i64 ver, .int .i64 root, .int .i64 next, .slice ka2 keys.length kc2, .slice ia2 kids.length ic2, .slice ea2 ents.length ec2, .string data] 28)) wn) => (hE2.below (hb0.trans (h.mono (by omega)))).mono (Nat.le_trans hle h.size)
  clear hK hK2 hI hI2 hE hE2
  go_enter Try.func17, Try.ntmps17
  go_wp2_with (first | (go_at_call 32; refine (sameTexts_same _ _ _ _ _ _ k1 k2 hkn).mono ?_; rintro e wn ⟨rfl, hbn⟩; have hJ : Below (w.heap.size + 2) ((w.alloc (Obj.cells #[.int .i64 kind, .int .i64 ver, .int .i64 root, .int .i64 next, .slice ka keys.length kc, .slice ia kids.length ic, .slice ea ents.length ec, .string data] 28)).alloc (Obj.cells #[.int .i64 kind, .int .i64 ver, .int .i64 root, .int .i64 next, .slice ka2 keys.length kc2, .slice ia2 kids.length ic2, .slice ea2 ents.length ec2, .string data] 28)) wn := inv_step' hJ hWz hbn; obtain ⟨a0, a1, a2, a3, a4, a5, a6, a7⟩ := box8 ((hJ.block w.heap.size (by omega)).trans hx1); obtain ⟨b0, b1, b2, b3, b4, b5, b6, b7⟩ := box8 ((hJ.block (w.heap.size + 1) (by omega)).trans hx2)) | (go_at_call 33; refine (sameInts_same _ _ _ _ _ _ (i1 _ hJ) (i2 _ hJ) hin).mono ?_; rintro e wn ⟨rfl, hbn⟩; have hJ : Below (w.heap.size + 2) ((w.alloc (Obj.cells #[.int .i64 kind, .int .i64 ver, .int .i64 root, .int .i64 next, .slice ka keys.length kc, .slice ia kids.length ic, .slice ea ents.length ec, .string data] 28)).alloc (Obj.cells #[.int .i64 kind, .int .i64 ver, .int .i64 root, .int .i64 next, .slice ka2 keys.length kc2, .slice ia2 kids.length ic2, .slice ea2 ents.length ec2, .string data] 28)) wn := inv_step' hJ hWz hbn; obtain ⟨a0, a1, a2, a3, a4, a5, a6, a7⟩ := box8 ((hJ.block w.heap.size (by omega)).trans hx1); obtain ⟨b0, b1, b2, b3, b4, b5, b6, b7⟩ := box8 ((hJ.block (w.heap.size + 1) (by omega)).trans hx2)))
  clear k1 k2 i1 i2
  go_loopw [7] (fun i wr => ∃ j : Nat, j ≤ ents.length ∧ i = .int .i64 j ∧ Below (w.heap.size + 2) ((w.alloc (Obj.cells #[.int .i64 kind, .int .i64 ver, .int .i64 root, .int .i64 next, .slice ka keys.length kc, .slice ia kids.length ic, .slice ea ents.length ec, .string data] 28)).alloc (Obj.cells #[.int .i64 kind, .int .i64 ver, .int .i64 root, .int .i64 next, .slice ka2 keys.length kc2, .slice ia2 kids.length ic2, .slice ea2 ents.length ec2, .string data] 28)) wr) (fun i _ => ents.length - (intOf i).toNat)
  case atStart => exact ⟨0, Nat.zero_le _, rfl, hJ⟩
  case round =>
    clear hJ hbn a0 a1 a2 a3 a4 a5 a6 a7 b0 b1 b2 b3 b4 b5 b6 b7
    obtain ⟨j, hj, rfl, hJ⟩ := hrel
    obtain ⟨a0, a1, a2, a3, a4, a5, a6, a7⟩ := box8 ((hJ.block w.heap.size (by omega)).trans hx1); obtain ⟨b0, b1, b2, b3, b4, b5, b6, b7⟩ := box8 ((hJ.block (w.heap.size + 1) (by omega)).trans hx2)
    by_cases hlt : j < ents.length
    · obtain ⟨ib, io, hia, hib, d0, d1, d2, d3⟩ := (j1 _ hJ).ent hlt
      obtain ⟨ib2, io2, hia2, hib2, f0, f1, f2, f3⟩ := (j2 _ hJ).ent hlt
      have hjw : j * 4 ≤ 4294967296 := by omega
      have hj1 : (j : Int) < (ents.length : Int) := by omega
      clear j1 j2
      subst hia
      subst hia2
      go_wp2
      go_quiet (fail)
      go_wp2
      go_roundw
      case rel => exact ⟨j + 1, by omega, by go_num, below_drewN hJ _⟩
      case measure => simp [intOf]; omega
    · clear j1 j2
      go_wp2
      all_goals go_ret
      exact ⟨rfl, hb0.trans (hJ.mono (by omega))⟩
end Go.Proofs.Ytjmmfpolkkglaaa.Pages
