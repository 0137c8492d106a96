import Derived.Test.YtdhgdcjmhofhaaaGreatD2
import Derived.Test.YtdhgdcjmhofhaaaGreatD3
import Derived.WalkLawsBesides
set_option linter.all false
set_option maxHeartbeats 8000000
namespace Go.Proofs.YtdhgdcjmhofhaaaGreat.Crc
open Go.RowKit
def wQ{k a b}(h:a=b):Ending.returned (.int k a)=.r (.int k b):=by rw[h]
def Ky{k a b}(h:a=b):Value.int k a=.int k b:=by rw[h]
def qCp(r:Nat)(b:UInt8)(d:r<4294967296):bits BinOp.xor IntKind.u32 (r:Int) ((b.toNat:Int) % 4294967296)=((shN 0 (r ^^^ b.toNat):Nat):Int):=by
 have c:=Mw b;have a:(b.toNat:Int) % 4294967296=(b.toNat:Int):=by omega
 rw[a,u32_xor_nat _ _ d c];rfl
def and_one(r:Nat)(a:r<4294967296):bits BinOp.and IntKind.u32 (r:Int) 1=((r % 2:Nat):Int):=by
 rw[show(1:Int)=((1:Nat):Int) from rfl,u32_and_nat _ _ a (by omega),nat_mask1]
def qFu(r:Nat)(b:r<4294967296)(h:r % 2=1):bits BinOp.xor IntKind.u32 ((r:Int) / 2) 3988292384=(sh r:Int):=by
 have a:(r:Int) / 2=((r / 2:Nat):Int):=by omega
 rw[a,show(3988292384:Int)=((3988292384:Nat):Int) from rfl,u32_xor_nat _ _ (by omega) (by omega)];unfold sh;rw[AU h]
def qCt(r:Nat)(h:¬r % 2=1):(r:Int) / 2=(sh r:Int):=by
 unfold sh;rw[AR h];omega
def qLh{r:Nat}(a:r<4294967296)(h:(bits BinOp.and IntKind.u32 (r:Int) 1==1)=true):r % 2=1:=by
 rw[and_one _ a]at h;have:=eq_of_beq h;omega
def qJx{r:Nat}(a:r<4294967296)(h:(bits BinOp.and IntKind.u32 (r:Int) 1==1)=false):¬r % 2=1:=by
 rw[and_one _ a]at h;have:=ne_of_beq_false h;omega
def qGi(l){m:Nat}(d:l.length<=m):wrap64 (bits BinOp.xor IntKind.u32 IntKind.u32.max (Hz (l.take m):Nat))=(crc l:Nat):=by
 have a:=Zi l;have b:=qLt l;rw[CQ d,show IntKind.u32.max=((4294967295:Nat):Int) from rfl,u32_xor_nat _ _ (by omega) a,qMp a];unfold crc at b⊢;unfold wrap64;omega
def qFi(s w)(g:s.size<=maxLen):
  cL 171 #[.t s] w λe w'=>e=.r (.i (crc s.data.toList))/\w'=w:=by
 unfold maxLen at g;go_enter Tryz.func171,Tryz.ntmps171;go_wp2;go_loop [3,8] (λr c=>∃a:Nat,a<=s.size/\c=.i a/\r=.int .u32 (Hz (s.data.toList.take a):Nat)) (λ_ c=>s.size-(intOf c).toNat)
 case atStart=>exact⟨0,AG _,rfl,rfl⟩
 case round =>
  obtain⟨a,i,rfl,rfl⟩:=hrel;have f:=Zi (s.data.toList.take a);by_cases hlt:a<s.size
  .go_wp2
   go_loop [3,17] (λr c=>∃b:Nat,b<=8/\c=.i b/\r=.int .u32 (shN b (Hz (s.data.toList.take a) ^^^ (s[a]).toNat):Nat)) (λ_ c=>8-(intOf c).toNat)
   case atStart=>exact⟨0,by omega,rfl,Ky (qCp _ _ f)⟩
   case round =>
    obtain⟨b,h,rfl,rfl⟩:=hrel;have d:=yO b (Tm f (Mw s[a]));by_cases hjl:b<8
    .go_wp2
     all_goals
      go_round
      case rel =>
       rename_i hb;refine⟨b+1,by omega,by go_num,Ky ?_⟩;first|exact qFu _ d (qLh d hb)|exact qCt _ (qJx d hb)
      case measure=>simp[intOf];omega
    .go_wp2
     go_round
     case rel =>
      obtain rfl:b=8:=by omega
      exact⟨a+1,by omega,by go_num,Ky (by rw[qCx s a hlt];rfl)⟩
     case measure=>simp[intOf];omega
  .go_wp2
   go_ret;obtain rfl:a=s.size:=by omega
   exact⟨wQ (qGi _ (by simp)),rfl⟩
