/-
  Joined: CrcMath.
-/
import Derived.Laws.BitsAllLaws
set_option linter.unusedSimpArgs false
set_option linter.unusedVariables false
namespace Go.Proofs.YtfnhmpcpeahfkaaGreat.Crc
def sh (r:Nat):Nat:=if r % 2=1 then (r / 2) ^^^ 3988292384 else r / 2
def shN:Nat→Nat→Nat
 | 0,r=>r
 | n+1,r=>sh (shN n r)
def stepB (r:Nat) (b:UInt8):Nat:=shN 8 (r ^^^ b.toNat)
def crcR (l:List UInt8):Nat:=l.foldl stepB 4294967295
def crc (l:List UInt8):Nat:=4294967295-crcR l
theorem xor_lt {a b:Nat} (ha:a<4294967296) (hb:b<4294967296):a ^^^ b<4294967296 :=
 Nat.xor_lt_two_pow (n:=32) ha hb
theorem byte_lt (b:UInt8):b.toNat<4294967296:=by have:=b.toNat_lt;omega
theorem sh_lt {r:Nat} (h:r<4294967296):sh r<4294967296:=by
 unfold sh
 split
 ·exact xor_lt (by omega) (by omega)
 ·omega
theorem shN_lt (n:Nat) {r:Nat} (h:r<4294967296):shN n r<4294967296:=by
 induction n with
 | zero=>exact h
 | succ n ih=>exact sh_lt ih
theorem stepB_lt {r:Nat} (b:UInt8) (h:r<4294967296):stepB r b<4294967296 :=
 shN_lt 8 (xor_lt h (byte_lt b))
theorem foldl_lt (l:List UInt8) {r:Nat} (h:r<4294967296):l.foldl stepB r<4294967296:=by
 induction l generalizing r with
 | nil=>exact h
 | cons b l ih=>exact ih (stepB_lt b h)
theorem crcR_lt (l:List UInt8):crcR l<4294967296:=foldl_lt l (by omega)
theorem crc_lt (l:List UInt8):crc l<4294967296:=by unfold crc;omega
theorem crcR_snoc (l:List UInt8) (b:UInt8):crcR (l++[b])=stepB (crcR l) b:=by simp [crcR,List.foldl_append]
theorem take_snoc (s:ByteArray) (k:Nat) (h:k<s.size):s.data.toList.take (k+1)=s.data.toList.take k++[s[k]]:=by
 rw [List.take_succ_eq_append_getElem (by simpa using h)];rfl
theorem crcR_take (s:ByteArray) (k:Nat) (h:k<s.size):crcR (s.data.toList.take (k+1))=stepB (crcR (s.data.toList.take k)) s[k]:=by
 rw [take_snoc s k h,crcR_snoc]
theorem compl {R:Nat} (h:R<4294967296):4294967295 ^^^ R=4294967295-R:=by
 have e:=congrArg BitVec.toNat (BitVec.allOnes_xor (x:=BitVec.ofNat 32 R))
 have h':R % 2 ^ 32=R:=Nat.mod_eq_of_lt h
 rw [BitVec.toNat_xor,BitVec.toNat_allOnes,BitVec.toNat_not,BitVec.toNat_ofNat,h'] at e
 exact e
end Go.Proofs.YtfnhmpcpeahfkaaGreat.Crc
