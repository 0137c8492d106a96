/-
  The plain mathematics of the check sum: one bit's step, a byte's, a text's; their bounds; that a turned byte is seen. It imports nothing of the program.
-/
import Derived.Laws.BitsAllLaws
namespace Go.Proofs.Ytjmmfpolkkglaaa.Crc

/-- one bit -/
def sh (r : Nat) : Nat := if r % 2 = 1 then (r / 2) ^^^ 3988292384 else r / 2
/-- so many bits -/
def shN : Nat → Nat → Nat
  | 0, r => r
  | n + 1, r => sh (shN n r)
/-- one byte -/
def stepB (r : Nat) (b : UInt8) : Nat := shN 8 (r ^^^ b.toNat)
/-- the state behind some bytes -/
def crcR (l : List UInt8) : Nat := l.foldl stepB 4294967295
/-- the sum -/
def crc (l : List UInt8) : Nat := 4294967295 - crcR l

theorem xor_cancel {a b c : Nat} (h : a ^^^ c = b ^^^ c) : a = b := by
  have := congrArg (fun n => n ^^^ c) h
  simpa [Nat.xor_assoc, Nat.xor_self] using this
theorem xor_lt {a b : Nat} (ha : a < 4294967296) (hb : b < 4294967296) : a ^^^ b < 4294967296 :=
  Nat.xor_lt_two_pow (n := 32) ha hb
theorem byte_lt (b : UInt8) : b.toNat < 4294967296 := by have := b.toNat_lt; omega
theorem sh_lt {r : Nat} (h : r < 4294967296) : sh r < 4294967296 := by
  unfold sh
  split
  · exact xor_lt (by omega) (by omega)
  · omega
theorem shN_lt (n : Nat) {r : Nat} (h : r < 4294967296) : shN n r < 4294967296 := by
  induction n with
  | zero => exact h
  | succ n ih => exact sh_lt ih
theorem stepB_lt {r : Nat} (b : UInt8) (h : r < 4294967296) : stepB r b < 4294967296 :=
  shN_lt 8 (xor_lt h (byte_lt b))
theorem foldl_lt (l : List UInt8) {r : Nat} (h : r < 4294967296) : l.foldl stepB r < 4294967296 := by
  induction l generalizing r with
  | nil => exact h
  | cons b l ih => exact ih (stepB_lt b h)
theorem crcR_lt (l : List UInt8) : crcR l < 4294967296 := foldl_lt l (by omega)
theorem crc_lt (l : List UInt8) : crc l < 4294967296 := by unfold crc; omega
theorem crcR_snoc (l : List UInt8) (b : UInt8) : crcR (l ++ [b]) = stepB (crcR l) b := by simp [crcR, List.foldl_append]
theorem take_snoc (s : ByteArray) (k : Nat) (h : k < s.size) : s.data.toList.take (k + 1) = s.data.toList.take k ++ [s[k]] := by
  rw [List.take_succ_eq_append_getElem (by simpa using h)]; rfl
theorem crcR_take (s : ByteArray) (k : Nat) (h : k < s.size) : crcR (s.data.toList.take (k + 1)) = stepB (crcR (s.data.toList.take k)) s[k] := by
  rw [take_snoc s k h, crcR_snoc]

/- a turned byte is seen: every step is one to one -/
theorem top_lt (r : Nat) (h : r < 4294967296) : (r / 2).testBit 31 = false := Nat.testBit_lt_two_pow (by omega)
theorem sh_inj {a b : Nat} (ha : a < 4294967296) (hb : b < 4294967296) (h : sh a = sh b) : a = b := by
  have ta := top_lt a ha
  have tb := top_lt b hb
  have tp : (3988292384 : Nat).testBit 31 = true := by decide
  unfold sh at h
  split at h <;> split at h
  · have e : a / 2 = b / 2 := xor_cancel h
    omega
  · have := congrArg (fun n => n.testBit 31) h
    simp [Nat.testBit_xor, ta, tb, tp] at this
  · have := congrArg (fun n => n.testBit 31) h
    simp [Nat.testBit_xor, ta, tb, tp] at this
  · omega
theorem shN_inj (n : Nat) {a b : Nat} (ha : a < 4294967296) (hb : b < 4294967296) (h : shN n a = shN n b) : a = b := by
  induction n with
  | zero => exact h
  | succ n ih => exact ih (sh_inj (shN_lt n ha) (shN_lt n hb) h)
theorem stepB_inj {a b : Nat} (c : UInt8) (ha : a < 4294967296) (hb : b < 4294967296) (h : stepB a c = stepB b c) : a = b :=
  xor_cancel (shN_inj 8 (xor_lt ha (byte_lt c)) (xor_lt hb (byte_lt c)) h)
theorem stepB_inj' {a : Nat} (c d : UInt8) (ha : a < 4294967296) (h : stepB a c = stepB a d) : c = d := by
  have e := shN_inj 8 (xor_lt ha (byte_lt c)) (xor_lt ha (byte_lt d)) h
  exact UInt8.toNat_inj.1 (xor_cancel (c := a) (by rw [Nat.xor_comm _ a, Nat.xor_comm _ a]; exact e))
theorem foldl_inj (l : List UInt8) {a b : Nat} (ha : a < 4294967296) (hb : b < 4294967296) (h : l.foldl stepB a = l.foldl stepB b) : a = b := by
  induction l generalizing a b with
  | nil => exact h
  | cons c l ih => exact stepB_inj c ha hb (ih (stepB_lt c ha) (stepB_lt c hb) h)
theorem crc_turned (l r : List UInt8) (c d : UInt8) (h : crc (l ++ c :: r) = crc (l ++ d :: r)) : c = d := by
  have h1 := crcR_lt (l ++ c :: r)
  have h2 := crcR_lt (l ++ d :: r)
  have e : crcR (l ++ c :: r) = crcR (l ++ d :: r) := by unfold crc at h; omega
  simp only [crcR, List.foldl_append, List.foldl_cons] at e
  have k := foldl_inj r (stepB_lt c (crcR_lt l)) (stepB_lt d (crcR_lt l)) e
  exact stepB_inj' c d (crcR_lt l) k

theorem compl {R : Nat} (h : R < 4294967296) : 4294967295 ^^^ R = 4294967295 - R := by
  have e := congrArg BitVec.toNat (BitVec.allOnes_xor (x := BitVec.ofNat 32 R))
  have h' : R % 2 ^ 32 = R := Nat.mod_eq_of_lt h
  rw [BitVec.toNat_xor, BitVec.toNat_allOnes, BitVec.toNat_not, BitVec.toNat_ofNat, h'] at e
  exact e

theorem example_crc : crc [49, 50, 51, 52, 53, 54, 55, 56, 57] = 3421780262 := by decide +kernel
end Go.Proofs.Ytjmmfpolkkglaaa.Crc
