import Derived.Laws.BitsAllLaws
set_option linter.unusedSimpArgs false
set_option linter.unusedVariables false
namespace Go.Proofs.YtpifffkkgnbfpaaGreat.Crc
variable {r:Nat}
def sh (r:Nat):Nat:=if r % 2=1 then (r / 2) ^^^ 3988292384 else r / 2
def shN:Nat→Nat→Nat
 | 0,r=>r
 | n+1,r=>sh (shN n r)
def Lh (r:Nat) (b:UInt8):Nat:=shN 8 (r ^^^ b.toNat)
def Fq (l:List UInt8):Nat:=l.foldl Lh 4294967295
def crc (l:List UInt8):Nat:=4294967295-Fq l
theorem Pl {a b:Nat} (ha:a<4294967296) (hb:b<4294967296):a ^^^ b<4294967296 :=
 Nat.xor_lt_two_pow (n:=32) ha hb
theorem Kl (b:UInt8):b.toNat<4294967296:=by have:=b.toNat_lt;omega
theorem qFs (h:r<4294967296):sh r<4294967296:=by
 unfold sh
 split
 ·exact Pl (by omega) (by omega)
 ·omega
theorem Bo (n:Nat)  (h:r<4294967296):shN n r<4294967296:=by
 induction n with
 | zero=>exact h
 | succ n ih=>exact qFs ih
theorem Yx (b:UInt8) (h:r<4294967296):Lh r b<4294967296 :=
 Bo 8 (Pl h (Kl b))
theorem qAy (l:List UInt8)  (h:r<4294967296):l.foldl Lh r<4294967296:=by
 induction l generalizing r with
 | nil=>exact h
 | cons b l ih=>exact ih (Yx b h)
theorem Uh (l:List UInt8):Fq l<4294967296:=qAy l (by omega)
theorem qFg (l:List UInt8):crc l<4294967296:=by unfold crc;omega
theorem Xz (l:List UInt8) (b:UInt8):Fq (l++[b])=Lh (Fq l) b:=by simp [Fq,List.foldl_append]
theorem Uz (s:ByteArray) (k:Nat) (h:k<s.size):s.data.toList.take (k+1)=s.data.toList.take k++[s[k]]:=by
 rw [List.take_succ_eq_append_getElem (by simpa using h)];rfl
theorem Xy (s:ByteArray) (k:Nat) (h:k<s.size):Fq (s.data.toList.take (k+1))=Lh (Fq (s.data.toList.take k)) s[k]:=by
 rw [Uz s k h,Xz]
theorem qFz {R:Nat} (h:R<4294967296):4294967295 ^^^ R=4294967295-R:=by
 have e:=congrArg BitVec.toNat (BitVec.allOnes_xor (x:=BitVec.ofNat 32 R))
 have h':R % 2 ^ 32=R:=Nat.mod_eq_of_lt h
 rw [BitVec.toNat_xor,BitVec.toNat_allOnes,BitVec.toNat_not,BitVec.toNat_ofNat,h'] at e
 exact e
