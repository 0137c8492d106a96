/-
  What the reference's reader answers and leaves: bytes, number.
-/
import Derived.Test.YtjmmfpolkkglaaaDec3
import Derived.Deep.DeepCutAuto
import Derived.Deep.RegionWith
import Derived.Deep.CutBlock
import Derived.Deep.RegionLaw
namespace Go.Proofs.Ytjmmfpolkkglaaa.Pages
open Go.RowKit
set_option linter.unusedSimpArgs false
set_option linter.unusedVariables false

/-- the reference's reader: what is left, and whether there was too little -/
structure RS where
  l : List UInt8
  bad : Bool
def RS.bytes (s : RS) (n : Nat) : List UInt8 := if s.l.length < n then [] else s.l.take n
def RS.past (s : RS) (n : Nat) : RS := if s.l.length < n then ⟨s.l, true⟩ else ⟨s.l.drop n, s.bad⟩
/-- it lies in memory at block ρ -/
def RAt (w : World) (ρ : Nat) (s : RS) : Prop := w.heap[ρ]? = some (.cells #[.string (strB s.l), .bool s.bad] 63) ∧ s.l.length ≤ 1000

theorem str_take (l : List UInt8) (n : Nat) : (strB l).extract 0 n = strB (l.take n) := by
  apply ByteArray.ext
  rw [ByteArray.data_extract]
  apply Array.ext'
  simp [strB]
theorem str_drop (l : List UInt8) (n : Nat) : (strB l).extract n l.length = strB (l.drop n) := by
  apply ByteArray.ext
  rw [ByteArray.data_extract]
  apply Array.ext'
  simp [strB, List.take_of_length_le]
set_option maxHeartbeats 1000000 in
theorem rbytes_any (ρ : Nat) (s : RS) (n : Nat) (w : World) (h : RAt w ρ s) (hn : n ≤ 1000) :
    Calls Try.prog 30 #[.pointer (some ⟨ρ, 0, none⟩), .int .i64 n] w fun e w' => e = .returned (.string (strB (s.bytes n))) ∧ RAt w' ρ (s.past n) ∧ Only ρ w w' := by
  obtain ⟨hbox, hln⟩ := h
  obtain ⟨r0, r1⟩ := box2 hbox
  have hfr := free_of hbox
  have hsz := strB_size s.l
  by_cases hlt : s.l.length < n
  · have hlt' : ((strB s.l).size : Int) < (n : Int) := by rw [hsz]; omega
    go_enter Try.func30, Try.ntmps30
    go_wp2
    go_ret
    have h2 := set_of hbox 1 (.bool true)
    unfold RS.bytes RS.past
    rw [if_pos hlt, if_pos hlt]
    exact ⟨rfl, ⟨by simpa using h2, hln⟩, (Only.refl ρ w).setCell 1 _⟩
  · have hlt' : ¬ ((strB s.l).size : Int) < (n : Int) := by rw [hsz]; omega
    go_enter Try.func30, Try.ntmps30
    go_wp2
    go_ret
    have h2 := set_of hbox 0 (.string ((strB s.l).extract n s.l.length))
    unfold RS.bytes RS.past
    rw [if_neg hlt, if_neg hlt]
    refine ⟨ret_v (congrArg Value.string (str_take _ _)), ⟨?_, by simp; omega⟩, (Only.refl ρ w).setCell 0 _⟩
    rw [h2, str_drop]
    simp
theorem rbytes_z (ρ : Nat) (s : RS) (z : Int) (w : World) (h : RAt w ρ s) (h0 : 0 ≤ z) (hn : z ≤ 1000) :
    Calls Try.prog 30 #[.pointer (some ⟨ρ, 0, none⟩), .int .i64 z] w fun e w' => e = .returned (.string (strB (s.bytes z.toNat))) ∧ RAt w' ρ (s.past z.toNat) ∧ Only ρ w w' := by
  obtain ⟨k, rfl⟩ : ∃ k : Nat, z = k := ⟨z.toNat, by omega⟩
  exact rbytes_any ρ s k w h (by omega)
/-- what number makes of bytes -/
def stepI (n : Int) (b : UInt8) : Int := bits BinOp.or IntKind.i64 (wrap64 (n * 256)) (wrap64 (b.toNat : Int))
def numI (l : List UInt8) : Int := l.foldl stepI 0
theorem numI_take (l : List UInt8) (j : Nat) (h : j < l.length) : numI (l.take (j + 1)) = stepI (numI (l.take j)) l[j] := by
  unfold numI
  rw [List.take_succ_eq_append_getElem h, List.foldl_append]; rfl
set_option maxHeartbeats 1000000 in
theorem rnum_any (ρ : Nat) (s : RS) (k : Nat) (w : World) (h : RAt w ρ s) (hn : k ≤ 8) :
    Calls Try.prog 29 #[.pointer (some ⟨ρ, 0, none⟩), .int .i64 k] w fun e w' => e = .returned (.int .i64 (numI (s.bytes k))) ∧ RAt w' ρ (s.past k) ∧ Only ρ w w' := by
  have hB := rbytes_any ρ s k w h (by omega)
  have hlk : (s.bytes k).length ≤ 8 := by unfold RS.bytes; split <;> simp <;> omega
  obtain ⟨bs, hbs⟩ : ∃ bs, s.bytes k = bs := ⟨_, rfl⟩
  rw [hbs] at hB hlk ⊢
  obtain ⟨S, hS⟩ : ∃ S, strB bs = S := ⟨_, rfl⟩
  have hsz : S.size = bs.length := by rw [← hS, strB_size]
  have hat : ∀ (j : Nat) (h : j < S.size), S[j] = bs[j]'(by omega) := by subst hS; intro j h; rfl
  have HAT : Hid (∀ (j : Nat) (h : j < S.size), S[j] = bs[j]'(by omega)) := hat
  rw [hS] at hB
  clear hbs hS hat
  go_enter Try.func29, Try.ntmps29
  go_wp2_with (go_at_call 30; refine hB.mono ?_; rintro e w1 ⟨rfl, hr1, ho1⟩)
  go_loop [6, 7] (fun u i => ∃ j : Nat, ∃ n : Int, j ≤ bs.length ∧ i = .int .i64 j ∧ u = .int .i64 n ∧ Hid (n = numI (bs.take j))) (fun _ i => bs.length - (intOf i).toNat)
  case atStart => exact ⟨0, 0, Nat.zero_le _, rfl, rfl, rfl⟩
  case round =>
    obtain ⟨j, n, hj, rfl, rfl, HN⟩ := hrel
    by_cases hlt : j < bs.length
    · have hlt' : j < S.size := by omega
      go_wp2
      go_round
      case rel => exact ⟨j + 1, _, by omega, by go_num, rfl, by show _ = _; rw [numI_take bs j hlt, ← HN.out, HAT.out j hlt', stepI]⟩
      case measure => simp [intOf]; omega
    · have hlt' : ¬ j < S.size := by omega
      have HJ : Hid (j = bs.length) := by show _ = _; omega
      go_wp2
      go_ret
      exact ⟨ret_v (u := .int .i64 n) (congrArg (Value.int .i64) (by rw [HN.out, HJ.out, List.take_length])), hr1, ho1⟩
theorem rnum_z (ρ : Nat) (s : RS) (z : Int) (w : World) (h : RAt w ρ s) (h0 : 0 ≤ z) (hn : z ≤ 8) :
    Calls Try.prog 29 #[.pointer (some ⟨ρ, 0, none⟩), .int .i64 z] w fun e w' => e = .returned (.int .i64 (numI (s.bytes z.toNat))) ∧ RAt w' ρ (s.past z.toNat) ∧ Only ρ w w' := by
  obtain ⟨k, rfl⟩ : ∃ k : Nat, z = k := ⟨z.toNat, by omega⟩
  exact rnum_any ρ s k w h (by omega)
theorem stepI_small {V : Nat} (b : UInt8) (hV : V < 36028797018963968) : stepI (V : Int) b = ((V * 256 + b.toNat : Nat) : Int) := by
  have hb := b.toNat_lt
  unfold stepI
  have e1 : wrap64 ((V : Int) * 256) = ((V * 256 : Nat) : Int) := by unfold wrap64; omega
  have e2 : wrap64 (b.toNat : Int) = (b.toNat : Int) := by unfold wrap64; omega
  rw [e1, e2]
  have hj : V * 256 ||| b.toNat = V * 256 + b.toNat := nat_join 8 (V * 256) b.toNat (by omega) (by omega)
  show IntKind.i64.wrap ((BitVec.ofInt 64 ((V * 256 : Nat) : Int) ||| BitVec.ofInt 64 ((b.toNat : Nat) : Int)).toNat : Int) = _
  rw [BitVec.toNat_or, ofInt_u64 _ (by omega), ofInt_u64 _ (by omega), hj, IntKind.wrap_i64]
  omega
theorem num_byte (b : UInt8) : numI [b] = (b.toNat : Int) := by
  have h := stepI_small (V := 0) b (by omega)
  rw [Nat.zero_mul, Nat.zero_add] at h
  have e : numI [b] = stepI 0 b := by unfold numI; rw [List.foldl_cons, List.foldl_nil]
  have e0 : ((0 : Nat) : Int) = 0 := Int.natCast_zero
  rw [e0] at h
  rw [e, h]
/-- one byte as a number -/
def RS.one (s : RS) : Nat := (numI (s.bytes 1)).toNat
theorem one_of (s : RS) : numI (s.bytes 1) = (s.one : Int) ∧ s.one < 256 := by
  unfold RS.one RS.bytes
  split
  · have e : numI [] = 0 := by unfold numI; rw [List.foldl_nil]
    rw [e]
    exact ⟨by simp, by simp⟩
  · rename_i h
    obtain ⟨b, r, hl⟩ : ∃ b r, s.l = b :: r := by
      cases hs : s.l with
      | nil => rw [hs] at h; simp at h
      | cons b r => exact ⟨b, r, rfl⟩
    have e : s.l.take 1 = [b] := by rw [hl]; rfl
    have hb := b.toNat_lt
    rw [e, num_byte]
    exact ⟨by omega, by omega⟩
theorem rnum_1 (ρ : Nat) (s : RS) (w : World) (h : RAt w ρ s) :
    Calls Try.prog 29 #[.pointer (some ⟨ρ, 0, none⟩), .int .i64 1] w fun e w' => e = .returned (.int .i64 (s.one : Int)) ∧ RAt w' ρ (s.past 1) ∧ Only ρ w w' := by
  have := rnum_any ρ s 1 w h (by omega)
  rwa [(one_of s).1] at this
end Go.Proofs.Ytjmmfpolkkglaaa.Pages
