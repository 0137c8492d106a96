/-
  Joined: CrcMath.
-/
import Derived.Laws.BitsAllLaws
set_option linter.unusedSimpArgs false
set_option linter.unusedVariables false
namespace Go.Proofs.YtfnhmpcpeahfkaaGreat.Crc
variable {a b r:Nat}
def sh (r:Nat):Nat:=if r % 2=1 then (r / 2) ^^^ 3988292384 else r / 2
def shN:Nat→Nat→Nat
 | 0,r=>r
 | n+1,r=>sh (shN n r)
def jY (r:Nat) (b:UInt8):Nat:=shN 8 (r ^^^ b.toNat)
def tK (l:List UInt8):Nat:=l.foldl jY 4294967295
def crc (l:List UInt8):Nat:=4294967295-tK l
theorem sL {a b c:Nat} (h:a ^^^ c=b ^^^ c):a=b:=by
 have:=congrArg (fun n=>n ^^^ c) h
 simpa [Nat.xor_assoc,Nat.xor_self] using this
theorem sK (ha:a<4294967296) (hb:b<4294967296):a ^^^ b<4294967296 :=
 Nat.xor_lt_two_pow (n:=32) ha hb
theorem pJ (b:UInt8):b.toNat<4294967296:=by have:=b.toNat_lt;omega
theorem vAy (h:r<4294967296):sh r<4294967296:=by
 unfold sh
 split
 ·exact sK (by omega) (by omega)
 ·omega
theorem sP (n:Nat)  (h:r<4294967296):shN n r<4294967296:=by
 induction n with
 | zero=>exact h
 | succ n ih=>exact vAy ih
theorem pT (b:UInt8) (h:r<4294967296):jY r b<4294967296 :=
 sP 8 (sK h (pJ b))
theorem qWx (l:List UInt8)  (h:r<4294967296):l.foldl jY r<4294967296:=by
 induction l generalizing r with
 | nil=>exact h
 | cons b l ih=>exact ih (pT b h)
theorem mT (l:List UInt8):tK l<4294967296:=qWx l (by omega)
theorem qHn (l:List UInt8):crc l<4294967296:=by unfold crc;omega
theorem qTu (l:List UInt8) (b:UInt8):tK (l++[b])=jY (tK l) b:=by simp [tK,List.foldl_append]
theorem qRl (s:ByteArray) (k:Nat) (h:k<s.size):s.data.toList.take (k+1)=s.data.toList.take k++[s[k]]:=by
 rw [List.take_succ_eq_append_getElem (by simpa using h)];rfl
theorem qTt (s:ByteArray) (k:Nat) (h:k<s.size):tK (s.data.toList.take (k+1))=jY (tK (s.data.toList.take k)) s[k]:=by
 rw [qRl s k h,qTu]
theorem qUm (r:Nat) (h:r<4294967296):(r / 2).testBit 31=false:=Nat.testBit_lt_two_pow (by omega)
theorem vAf (ha:a<4294967296) (hb:b<4294967296) (h:sh a=sh b):a=b:=by
 have ta:=qUm a ha
 have tb:=qUm b hb
 have tp:(3988292384:Nat).testBit 31=true:=by decide
 unfold sh at h
 split at h<;>split at h
 ·have e:a / 2=b / 2:=sL h
  omega
 ·have:=congrArg (fun n=>n.testBit 31) h
  simp [Nat.testBit_xor,ta,tb,tp] at this
 ·have:=congrArg (fun n=>n.testBit 31) h
  simp [Nat.testBit_xor,ta,tb,tp] at this
 ·omega
theorem qPy (n:Nat)  (ha:a<4294967296) (hb:b<4294967296) (h:shN n a=shN n b):a=b:=by
 induction n with
 | zero=>exact h
 | succ n ih=>exact ih (vAf (sP n ha) (sP n hb) h)
theorem qRp (c:UInt8) (ha:a<4294967296) (hb:b<4294967296) (h:jY a c=jY b c):a=b :=
 sL (qPy 8 (sK ha (pJ c)) (sK hb (pJ c)) h)
theorem qMn (c d:UInt8) (ha:a<4294967296) (h:jY a c=jY a d):c=d:=by
 have e:=qPy 8 (sK ha (pJ c)) (sK ha (pJ d)) h
 exact UInt8.toNat_inj.1 (sL (c:=a) (by rw [Nat.xor_comm _ a,Nat.xor_comm _ a];exact e))
theorem qTl (l:List UInt8)  (ha:a<4294967296) (hb:b<4294967296) (h:l.foldl jY a=l.foldl jY b):a=b:=by
 induction l generalizing a b with
 | nil=>exact h
 | cons c l ih=>exact qRp c ha hb (ih (pT c ha) (pT c hb) h)
theorem qPa (l r:List UInt8) (c d:UInt8) (h:crc (l++c :: r)=crc (l++d :: r)):c=d:=by
 have h1:=mT (l++c :: r)
 have h2:=mT (l++d :: r)
 have e:tK (l++c :: r)=tK (l++d :: r):=by unfold crc at h;omega
 simp only [tK,List.foldl_append,List.foldl_cons] at e
 have k:=qTl r (pT c (mT l)) (pT d (mT l)) e
 exact qMn c d (mT l) k
theorem vBh {R:Nat} (h:R<4294967296):4294967295 ^^^ R=4294967295-R:=by
 have e:=congrArg BitVec.toNat (BitVec.allOnes_xor (x:=BitVec.ofNat 32 R))
 have h':R % 2 ^ 32=R:=Nat.mod_eq_of_lt h
 rw [BitVec.toNat_xor,BitVec.toNat_allOnes,BitVec.toNat_not,BitVec.toNat_ofNat,h'] at e
 exact e
end Go.Proofs.YtfnhmpcpeahfkaaGreat.Crc
