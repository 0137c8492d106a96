import Derived.Test.YtdhgdcjmhofhaaaGreatD1
import Derived.Laws.BitsAllLaws
set_option linter.all false
namespace Go.Proofs.YtdhgdcjmhofhaaaGreat.Crc
variable {r:Nat}
def sh(r:Nat):Nat:=if r % 2=1 then (r / 2) ^^^ 3988292384 else r / 2
def shN:Nat->Nat->Nat
 |0,r=>r
 |n+1,r=>sh (shN n r)
def Mi(r:Nat)(b:UInt8):Nat:=shN 8 (r ^^^ b.toNat)
def Gv(l:List UInt8):Nat:=l.foldl Mi 4294967295
def crc(l:List UInt8):Nat:=4294967295-Gv l
theorem Sc{a b}(c:a<4294967296)(d:b<4294967296):a ^^^ b<4294967296 :=
 Nat.xor_lt_two_pow (n:=32) c d
theorem Ll(b:UInt8):b.toNat<4294967296:=by have:=b.toNat_lt;omega
theorem qJu (h:r<4294967296):sh r<4294967296:=by
 unfold sh;split
 ·exact Sc (by omega) (by omega)
 ·omega
theorem xI(n){r:Nat}(h:r<4294967296):shN n r<4294967296:=by
 induction n with
 |zero=>exact h
 |succ n ih=>exact qJu ih
theorem qCh (b)(h:r<4294967296):Mi r b<4294967296 :=
 xI 8 (Sc h (Ll b))
theorem qFc (l:List UInt8)(h:r<4294967296):l.foldl Mi r<4294967296:=by
 induction l generalizing r with
 |nil=>exact h
 |cons b l ih=>exact ih (qCh b h)
theorem Xw(l):Gv l<4294967296:=qFc l (by omega)
theorem qJk(l):crc l<4294967296:=by unfold crc;omega
theorem qBd(l b):Gv (l++[b])=Mi (Gv l) b:=by simp[Gv,GK]
theorem Yf(s:ByteArray)(k)(h:k<s.size):s.data.toList.take (k+1)=s.data.toList.take k++[s[k]]:=by
 rw[AK (by simp_all)];rfl
theorem qBc(s:ByteArray)(k)(h:k<s.size):Gv (s.data.toList.take (k+1))=Mi (Gv (s.data.toList.take k)) s[k]:=by
 rw[Yf s k h,qBd]
theorem qKd{R}(h:R<4294967296):4294967295 ^^^ R=4294967295-R:=by
 have a:=BZ BitVec.toNat (BitVec.allOnes_xor (x:=BitVec.ofNat 32 R));grind
