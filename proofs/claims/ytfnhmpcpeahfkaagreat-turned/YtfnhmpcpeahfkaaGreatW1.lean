import Derived.Laws.BitsAllLaws
set_option linter.unusedSimpArgs false
set_option linter.unusedVariables false
namespace Go.Proofs.YtfnhmpcpeahfkaaGreat.Crc
variable {a b r:Nat}
def sh (r:Nat):Nat:=if r % 2=1 then (r / 2) ^^^ 3988292384 else r / 2
def shN:Nat→Nat→Nat
 | 0,r=>r
 | n+1,r=>sh (shN n r)
def kR (r:Nat) (b:UInt8):Nat:=shN 8 (r ^^^ b.toNat)
def uI (l:List UInt8):Nat:=l.foldl kR 4294967295
def crc (l:List UInt8):Nat:=4294967295-uI l
theorem tJ {a b c:Nat} (h:a ^^^ c=b ^^^ c):a=b:=by
 have:=congrArg (fun n=>n ^^^ c) h
 simpa [Nat.xor_assoc,Nat.xor_self] using this
theorem tI (ha:a<4294967296) (hb:b<4294967296):a ^^^ b<4294967296 :=
 Nat.xor_lt_two_pow (n:=32) ha hb
theorem qF (b:UInt8):b.toNat<4294967296:=by have:=b.toNat_lt;omega
theorem qEv (h:r<4294967296):sh r<4294967296:=by
 unfold sh
 split
 ·exact tI (by omega) (by omega)
 ·omega
theorem tO (n:Nat)  (h:r<4294967296):shN n r<4294967296:=by
 induction n with
 | zero=>exact h
 | succ n ih=>exact qEv ih
theorem qO (b:UInt8) (h:r<4294967296):kR r b<4294967296 :=
 tO 8 (tI h (qF b))
theorem qAu (l:List UInt8)  (h:r<4294967296):l.foldl kR r<4294967296:=by
 induction l generalizing r with
 | nil=>exact h
 | cons b l ih=>exact ih (qO b h)
theorem nS (l:List UInt8):uI l<4294967296:=qAu l (by omega)
theorem Jo (l:List UInt8):crc l<4294967296:=by unfold crc;omega
theorem Xo (l:List UInt8) (b:UInt8):uI (l++[b])=kR (uI l) b:=by simp [uI,List.foldl_append]
theorem Ur (s:ByteArray) (k:Nat) (h:k<s.size):s.data.toList.take (k+1)=s.data.toList.take k++[s[k]]:=by
 rw [List.take_succ_eq_append_getElem (by simpa using h)];rfl
theorem Xn (s:ByteArray) (k:Nat) (h:k<s.size):uI (s.data.toList.take (k+1))=kR (uI (s.data.toList.take k)) s[k]:=by
 rw [Ur s k h,Xo]
theorem Yh (r:Nat) (h:r<4294967296):(r / 2).testBit 31=false:=Nat.testBit_lt_two_pow (by omega)
theorem qEc (ha:a<4294967296) (hb:b<4294967296) (h:sh a=sh b):a=b:=by
 have ta:=Yh a ha
 have tb:=Yh b hb
 have tp:(3988292384:Nat).testBit 31=true:=by decide
 unfold sh at h
 split at h<;>split at h
 ·have e:a / 2=b / 2:=tJ h
  omega
 ·have:=congrArg (fun n=>n.testBit 31) h
  simp [Nat.testBit_xor,ta,tb,tp] at this
 ·have:=congrArg (fun n=>n.testBit 31) h
  simp [Nat.testBit_xor,ta,tb,tp] at this
 ·omega
theorem Ta (n:Nat)  (ha:a<4294967296) (hb:b<4294967296) (h:shN n a=shN n b):a=b:=by
 induction n with
 | zero=>exact h
 | succ n ih=>exact ih (qEc (tO n ha) (tO n hb) h)
theorem Uv (c:UInt8) (ha:a<4294967296) (hb:b<4294967296) (h:kR a c=kR b c):a=b :=
 tJ (Ta 8 (tI ha (qF c)) (tI hb (qF c)) h)
theorem Pb (c d:UInt8) (ha:a<4294967296) (h:kR a c=kR a d):c=d:=by
 have e:=Ta 8 (tI ha (qF c)) (tI ha (qF d)) h
 exact UInt8.toNat_inj.1 (tJ (c:=a) (by rw [Nat.xor_comm _ a,Nat.xor_comm _ a];exact e))
theorem Xc (l:List UInt8)  (ha:a<4294967296) (hb:b<4294967296) (h:l.foldl kR a=l.foldl kR b):a=b:=by
 induction l generalizing a b with
 | nil=>exact h
 | cons c l ih=>exact Uv c ha hb (ih (qO c ha) (qO c hb) h)
theorem Ry (l r:List UInt8) (c d:UInt8) (h:crc (l++c :: r)=crc (l++d :: r)):c=d:=by
 have h1:=nS (l++c :: r)
 have h2:=nS (l++d :: r)
 have e:uI (l++c :: r)=uI (l++d :: r):=by unfold crc at h;omega
 simp only [uI,List.foldl_append,List.foldl_cons] at e
 have k:=Xc r (qO c (nS l)) (qO d (nS l)) e
 exact Pb c d (nS l) k
theorem qFe {R:Nat} (h:R<4294967296):4294967295 ^^^ R=4294967295-R:=by
 have e:=congrArg BitVec.toNat (BitVec.allOnes_xor (x:=BitVec.ofNat 32 R))
 have h':R % 2 ^ 32=R:=Nat.mod_eq_of_lt h
 rw [BitVec.toNat_xor,BitVec.toNat_allOnes,BitVec.toNat_not,BitVec.toNat_ofNat,h'] at e
 exact e
