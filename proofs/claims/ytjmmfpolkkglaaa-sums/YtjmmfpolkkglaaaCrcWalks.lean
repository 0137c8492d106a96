/-
  What page.Crc32 and rowanref.Crc32 answer, for every text: the sum of CrcMath; nothing in memory turns.
-/
import Derived.Test.YtjmmfpolkkglaaaProg
import Derived.Test.YtjmmfpolkkglaaaCrcMath
import Derived.WalkKit
import Derived.WalkLawsBesides
import Derived.Outline
import Derived.RowKit
namespace Go.Proofs.Ytjmmfpolkkglaaa.Crc
open Go.RowKit

theorem ret_int {k : IntKind} {a b : Int} (h : a = b) : Ending.returned (.int k a) = .returned (.int k b) := by rw [h]
theorem val_int {k : IntKind} {a b : Int} (h : a = b) : Value.int k a = .int k b := by rw [h]

theorem first_xor (r : Nat) (b : UInt8) (hr : r < 4294967296) : bits BinOp.xor IntKind.u32 (r : Int) ((b.toNat : Int) % 4294967296) = ((shN 0 (r ^^^ b.toNat) : Nat) : Int) := by
  have hb := byte_lt b
  have e : (b.toNat : Int) % 4294967296 = (b.toNat : Int) := by omega
  rw [e, u32_xor_nat _ _ hr hb]; rfl
theorem and_one (r : Nat) (hr : r < 4294967296) : bits BinOp.and IntKind.u32 (r : Int) 1 = ((r % 2 : Nat) : Int) := by
  rw [show (1 : Int) = ((1 : Nat) : Int) from rfl, u32_and_nat _ _ hr (by omega), nat_mask1]
theorem odd_step (r : Nat) (hr : r < 4294967296) (h : r % 2 = 1) : bits BinOp.xor IntKind.u32 ((r : Int) / 2) 3988292384 = (sh r : Int) := by
  have e : (r : Int) / 2 = ((r / 2 : Nat) : Int) := by omega
  rw [e, show (3988292384 : Int) = ((3988292384 : Nat) : Int) from rfl, u32_xor_nat _ _ (by omega) (by omega)]
  unfold sh; rw [if_pos h]
theorem even_step (r : Nat) (h : ¬ r % 2 = 1) : (r : Int) / 2 = (sh r : Int) := by
  unfold sh; rw [if_neg h]; omega

theorem odd_of {r : Nat} (hr : r < 4294967296) (h : (bits BinOp.and IntKind.u32 (r : Int) 1 == 1) = true) : r % 2 = 1 := by
  rw [and_one _ hr] at h; have := eq_of_beq h; omega
theorem even_of {r : Nat} (hr : r < 4294967296) (h : (bits BinOp.and IntKind.u32 (r : Int) 1 == 1) = false) : ¬ r % 2 = 1 := by
  rw [and_one _ hr] at h; have := ne_of_beq_false h; omega
theorem last_not (l : List UInt8) {m : Nat} (hm : l.length ≤ m) : wrap64 (bits BinOp.xor IntKind.u32 IntKind.u32.max (crcR (l.take m) : Nat)) = (crc l : Nat) := by
  have hl : l.take m = l := List.take_of_length_le hm
  have hR := crcR_lt l
  have hc := crc_lt l
  rw [hl, show IntKind.u32.max = ((4294967295 : Nat) : Int) from rfl, u32_xor_nat _ _ (by omega) hR, compl hR]
  unfold crc at hc ⊢
  unfold wrap64
  omega

set_option maxHeartbeats 1000000 in
theorem page_crc (s : ByteArray) (w : World) (hs : s.size ≤ maxLen) :
    Calls Try.prog 7 #[.string s] w fun e w' => e = .returned (.int .i64 (crc s.data.toList)) ∧ w' = w := by
  unfold maxLen at hs
  go_enter Try.func7, Try.ntmps7
  go_wp2
  go_loop [3, 8] (fun r i => ∃ k : Nat, k ≤ s.size ∧ i = .int .i64 k ∧ r = .int .u32 (crcR (s.data.toList.take k) : Nat)) (fun _ i => s.size - (intOf i).toNat)
  case atStart => exact ⟨0, Nat.zero_le _, rfl, rfl⟩
  case round =>
    obtain ⟨k, hk, rfl, rfl⟩ := hrel
    have hd := crcR_lt (s.data.toList.take k)
    by_cases hlt : k < s.size
    · go_wp2
      go_loop [3, 17] (fun r i => ∃ j : Nat, j ≤ 8 ∧ i = .int .i64 j ∧ r = .int .u32 (shN j (crcR (s.data.toList.take k) ^^^ (s[k]).toNat) : Nat)) (fun _ i => 8 - (intOf i).toNat)
      case atStart => exact ⟨0, by omega, rfl, val_int (first_xor _ _ hd)⟩
      case round =>
        obtain ⟨j, hj, rfl, rfl⟩ := hrel
        have hR := shN_lt j (xor_lt hd (byte_lt s[k]))
        by_cases hjl : j < 8
        · go_wp2
          all_goals
            go_round
            case rel =>
              rename_i hb
              refine ⟨j + 1, by omega, by go_num, val_int ?_⟩
              first | exact odd_step _ hR (odd_of hR hb) | exact even_step _ (even_of hR hb)
            case measure => simp [intOf]; omega
        · go_wp2
          go_round
          case rel =>
            obtain rfl : j = 8 := by omega
            exact ⟨k + 1, by omega, by go_num, val_int (by rw [crcR_take s k hlt]; rfl)⟩
          case measure => simp [intOf]; omega
    · go_wp2
      go_ret
      obtain rfl : k = s.size := by omega
      exact ⟨ret_int (last_not _ (by simp)), rfl⟩

set_option maxHeartbeats 1000000 in
theorem ref_crc (s : ByteArray) (w : World) (hs : s.size ≤ maxLen) :
    Calls Try.prog 8 #[.string s] w fun e w' => e = .returned (.int .i64 (crc s.data.toList)) ∧ w' = w := by
  unfold maxLen at hs
  go_enter Try.func8, Try.ntmps8
  go_wp2
  go_loop [3, 4] (fun r i => ∃ k : Nat, k ≤ s.size ∧ i = .int .i64 k ∧ r = .int .u32 (crcR (s.data.toList.take k) : Nat)) (fun _ i => s.size - (intOf i).toNat)
  case atStart => exact ⟨0, Nat.zero_le _, rfl, rfl⟩
  case round =>
    obtain ⟨k, hk, rfl, rfl⟩ := hrel
    have hd := crcR_lt (s.data.toList.take k)
    by_cases hlt : k < s.size
    · go_wp2
      go_loop [3, 5] (fun r i => ∃ j : Nat, j ≤ 8 ∧ i = .int .i64 j ∧ r = .int .u32 (shN j (crcR (s.data.toList.take k) ^^^ (s[k]).toNat) : Nat)) (fun _ i => 8 - (intOf i).toNat)
      case atStart => exact ⟨0, by omega, rfl, val_int (first_xor _ _ hd)⟩
      case round =>
        obtain ⟨j, hj, rfl, rfl⟩ := hrel
        have hR := shN_lt j (xor_lt hd (byte_lt s[k]))
        by_cases hjl : j < 8
        · go_wp2
          all_goals
            go_round
            case rel =>
              rename_i hb
              refine ⟨j + 1, by omega, by go_num, val_int ?_⟩
              first | exact odd_step _ hR (by have := eq_of_beq hb; omega) | exact even_step _ (by have := ne_of_beq_false hb; omega)
            case measure => simp [intOf]; omega
        · go_wp2
          go_round
          case rel =>
            obtain rfl : j = 8 := by omega
            exact ⟨k + 1, by omega, by go_num, val_int (by rw [crcR_take s k hlt]; rfl)⟩
          case measure => simp [intOf]; omega
    · go_wp2
      go_ret
      obtain rfl : k = s.size := by omega
      exact ⟨ret_int (last_not _ (by simp)), rfl⟩

/-- the sum of a text, under a name that the walk does not open -/
def sumOf (s : ByteArray) : Int := crc s.data.toList
theorem page_sum (s : ByteArray) (w : World) (hs : s.size ≤ maxLen) :
    Calls Try.prog 7 #[.string s] w fun e w' => e = .returned (.int .i64 (sumOf s)) ∧ w' = w := page_crc s w hs
theorem ref_sum (s : ByteArray) (w : World) (hs : s.size ≤ maxLen) :
    Calls Try.prog 8 #[.string s] w fun e w' => e = .returned (.int .i64 (sumOf s)) ∧ w' = w := ref_crc s w hs
theorem sumOf_example : sumOf { data := #[49, 50, 51, 52, 53, 54, 55, 56, 57] } = 3421780262 := by
  unfold sumOf; rw [show crc _ = 3421780262 from example_crc]; rfl
end Go.Proofs.Ytjmmfpolkkglaaa.Crc
