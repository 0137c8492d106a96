import Derived.Laws.BitsAllLaws
set_option linter.unusedSimpArgs false
set_option linter.unusedVariables false
namespace Go.Proofs.YtpifffkkgnbfpaaGreat.Crc
variable {a b r:Nat}
def sh (r:Nat):Nat:=if r % 2=1 then (r / 2) ^^^ 3988292384 else r / 2
def shN:Nat→Nat→Nat
 | 0,r=>r
 | n+1,r=>sh (shN n r)
def kN (r:Nat) (b:UInt8):Nat:=shN 8 (r ^^^ b.toNat)
def uD (l:List UInt8):Nat:=l.foldl kN 4294967295
def crc (l:List UInt8):Nat:=4294967295-uD l
theorem tD {a b c:Nat} (h:a ^^^ c=b ^^^ c):a=b:=by
 have:=congrArg (fun n=>n ^^^ c) h
 simpa [Nat.xor_assoc,Nat.xor_self] using this
theorem tC (ha:a<4294967296) (hb:b<4294967296):a ^^^ b<4294967296 :=
 Nat.xor_lt_two_pow (n:=32) ha hb
theorem qB (b:UInt8):b.toNat<4294967296:=by have:=b.toNat_lt;omega
theorem qFc (h:r<4294967296):sh r<4294967296:=by
 unfold sh
 split
 ·exact tC (by omega) (by omega)
 ·omega
theorem tH (n:Nat)  (h:r<4294967296):shN n r<4294967296:=by
 induction n with
 | zero=>exact h
 | succ n ih=>exact qFc ih
theorem qL (b:UInt8) (h:r<4294967296):kN r b<4294967296 :=
 tH 8 (tC h (qB b))
theorem qAw (l:List UInt8)  (h:r<4294967296):l.foldl kN r<4294967296:=by
 induction l generalizing r with
 | nil=>exact h
 | cons b l ih=>exact ih (qL b h)
theorem nO (l:List UInt8):uD l<4294967296:=qAw l (by omega)
theorem Jk (l:List UInt8):crc l<4294967296:=by unfold crc;omega
theorem Xp (l:List UInt8) (b:UInt8):uD (l++[b])=kN (uD l) b:=by simp [uD,List.foldl_append]
theorem Un (s:ByteArray) (k:Nat) (h:k<s.size):s.data.toList.take (k+1)=s.data.toList.take k++[s[k]]:=by
 rw [List.take_succ_eq_append_getElem (by simpa using h)];rfl
theorem Xo (s:ByteArray) (k:Nat) (h:k<s.size):uD (s.data.toList.take (k+1))=kN (uD (s.data.toList.take k)) s[k]:=by
 rw [Un s k h,Xp]
theorem Yi (r:Nat) (h:r<4294967296):(r / 2).testBit 31=false:=Nat.testBit_lt_two_pow (by omega)
theorem qEi (ha:a<4294967296) (hb:b<4294967296) (h:sh a=sh b):a=b:=by
 have ta:=Yi a ha
 have tb:=Yi b hb
 have tp:(3988292384:Nat).testBit 31=true:=by decide
 unfold sh at h
 split at h<;>split at h
 ·have e:a / 2=b / 2:=tD h
  omega
 ·have:=congrArg (fun n=>n.testBit 31) h
  simp [Nat.testBit_xor,ta,tb,tp] at this
 ·have:=congrArg (fun n=>n.testBit 31) h
  simp [Nat.testBit_xor,ta,tb,tp] at this
 ·omega
theorem Sw (n:Nat)  (ha:a<4294967296) (hb:b<4294967296) (h:shN n a=shN n b):a=b:=by
 induction n with
 | zero=>exact h
 | succ n ih=>exact ih (qEi (tH n ha) (tH n hb) h)
theorem Ur (c:UInt8) (ha:a<4294967296) (hb:b<4294967296) (h:kN a c=kN b c):a=b :=
 tD (Sw 8 (tC ha (qB c)) (tC hb (qB c)) h)
theorem Oy (c d:UInt8) (ha:a<4294967296) (h:kN a c=kN a d):c=d:=by
 have e:=Sw 8 (tC ha (qB c)) (tC ha (qB d)) h
 exact UInt8.toNat_inj.1 (tD (c:=a) (by rw [Nat.xor_comm _ a,Nat.xor_comm _ a];exact e))
theorem Xd (l:List UInt8)  (ha:a<4294967296) (hb:b<4294967296) (h:l.foldl kN a=l.foldl kN b):a=b:=by
 induction l generalizing a b with
 | nil=>exact h
 | cons c l ih=>exact Ur c ha hb (ih (qL c ha) (qL c hb) h)
theorem Rv (l r:List UInt8) (c d:UInt8) (h:crc (l++c :: r)=crc (l++d :: r)):c=d:=by
 have h1:=nO (l++c :: r)
 have h2:=nO (l++d :: r)
 have e:uD (l++c :: r)=uD (l++d :: r):=by unfold crc at h;omega
 simp only [uD,List.foldl_append,List.foldl_cons] at e
 have k:=Xd r (qL c (nO l)) (qL d (nO l)) e
 exact Oy c d (nO l) k
theorem qFk {R:Nat} (h:R<4294967296):4294967295 ^^^ R=4294967295-R:=by
 have e:=congrArg BitVec.toNat (BitVec.allOnes_xor (x:=BitVec.ofNat 32 R))
 have h':R % 2 ^ 32=R:=Nat.mod_eq_of_lt h
 rw [BitVec.toNat_xor,BitVec.toNat_allOnes,BitVec.toNat_not,BitVec.toNat_ofNat,h'] at e
 exact e
