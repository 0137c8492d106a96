import Derived.Test.YtdhgdcjmhofhaaaGreatD1
import Derived.Laws.BitsAllLaws
set_option linter.all false
namespace Go.Proofs.YtdhgdcjmhofhaaaGreat.Crc
variable {r:Nat}
def sh(r:Nat):Nat:=if r % 2=1 then (r / 2) ^^^ 3988292384 else r / 2
def shN:Nat->Nat->Nat
 |0,r=>r
 |n+1,r=>sh (shN n r)
def Nr(r:Nat)(b:UInt8):Nat:=shN 8 (r ^^^ b.toNat)
def Hz(l:List UInt8):Nat:=l.foldl Nr 4294967295
def crc(l:List UInt8):Nat:=4294967295-Hz l
def Tm{a b}(c:a<4294967296)(d:b<4294967296):a ^^^ b<4294967296 :=
 Nat.xor_lt_two_pow (n:=32) c d
def Mw(b:UInt8):b.toNat<4294967296:=by have:=b.toNat_lt;omega
def qMf (h:r<4294967296):sh r<4294967296:=by
 unfold sh;split
 .exact Tm (by omega) (by omega)
 .omega
def yO(n){r:Nat}(h:r<4294967296):shN n r<4294967296:=by
 induction n with
 |zero=>exact h
 |succ n ih=>exact qMf ih
def qEb (b)(h:r<4294967296):Nr r b<4294967296 :=
 yO 8 (Tm h (Mw b))
def qGz (l:List UInt8)(h:r<4294967296):l.foldl Nr r<4294967296:=by
 induction l generalizing r with
 |nil=>exact h
 |cons b l ih=>exact ih (qEb b h)
def Zi(l):Hz l<4294967296:=qGz l (by omega)
def qLt(l):crc l<4294967296:=by unfold crc;omega
def qCy(l b):Hz (l++[b])=Nr (Hz l) b:=by simp[Hz,GV]
def Zv(s:ByteArray)(k)(h:k<s.size):s.data.toList.take (k+1)=s.data.toList.take k++[s[k]]:=by
 rw[AN (by simp_all)];rfl
def qCx(s:ByteArray)(k)(h:k<s.size):Hz (s.data.toList.take (k+1))=Nr (Hz (s.data.toList.take k)) s[k]:=by
 rw[Zv s k h,qCy]
def qMp{R}(h:R<4294967296):4294967295 ^^^ R=4294967295-R:=by
 have a:=CI BitVec.toNat (BitVec.allOnes_xor (x:=BitVec.ofNat 32 R));grind
