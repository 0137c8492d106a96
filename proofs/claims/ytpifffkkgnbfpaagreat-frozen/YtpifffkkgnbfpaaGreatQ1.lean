import Derived.Laws.BitsAllLaws
set_option linter.unusedSimpArgs false
set_option linter.unusedVariables false
namespace Go.Proofs.YtpifffkkgnbfpaaGreat.Crc
variable {r:Nat}
def sh (r:Nat):Nat:=if r % 2=1 then (r / 2) ^^^ 3988292384 else r / 2
def shN:Nat→Nat→Nat
 | 0,r=>r
 | n+1,r=>sh (shN n r)
def Km (r:Nat) (b:UInt8):Nat:=shN 8 (r ^^^ b.toNat)
def Ev (l:List UInt8):Nat:=l.foldl Km 4294967295
def crc (l:List UInt8):Nat:=4294967295-Ev l
theorem Ou {a b:Nat} (ha:a<4294967296) (hb:b<4294967296):a ^^^ b<4294967296 :=
 Nat.xor_lt_two_pow (n:=32) ha hb
theorem Jn (b:UInt8):b.toNat<4294967296:=by have:=b.toNat_lt;omega
theorem qEu (h:r<4294967296):sh r<4294967296:=by
 unfold sh
 split
 ·exact Ou (by omega) (by omega)
 ·omega
theorem Az (n:Nat)  (h:r<4294967296):shN n r<4294967296:=by
 induction n with
 | zero=>exact h
 | succ n ih=>exact qEu ih
theorem Xx (b:UInt8) (h:r<4294967296):Km r b<4294967296 :=
 Az 8 (Ou h (Jn b))
theorem qAd (l:List UInt8)  (h:r<4294967296):l.foldl Km r<4294967296:=by
 induction l generalizing r with
 | nil=>exact h
 | cons b l ih=>exact ih (Xx b h)
theorem Tp (l:List UInt8):Ev l<4294967296:=qAd l (by omega)
theorem qEi (l:List UInt8):crc l<4294967296:=by unfold crc;omega
theorem Wy (l:List UInt8) (b:UInt8):Ev (l++[b])=Km (Ev l) b:=by simp [Ev,List.foldl_append]
theorem Ub (s:ByteArray) (k:Nat) (h:k<s.size):s.data.toList.take (k+1)=s.data.toList.take k++[s[k]]:=by
 rw [List.take_succ_eq_append_getElem (by simpa using h)];rfl
theorem Ww (s:ByteArray) (k:Nat) (h:k<s.size):Ev (s.data.toList.take (k+1))=Km (Ev (s.data.toList.take k)) s[k]:=by
 rw [Ub s k h,Wy]
theorem qFc {R:Nat} (h:R<4294967296):4294967295 ^^^ R=4294967295-R:=by
 have e:=congrArg BitVec.toNat (BitVec.allOnes_xor (x:=BitVec.ofNat 32 R))
 have h':R % 2 ^ 32=R:=Nat.mod_eq_of_lt h
 rw [BitVec.toNat_xor,BitVec.toNat_allOnes,BitVec.toNat_not,BitVec.toNat_ofNat,h'] at e
 exact e
