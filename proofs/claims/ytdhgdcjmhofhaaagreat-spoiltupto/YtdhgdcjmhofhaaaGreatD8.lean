import Derived.Test.YtdhgdcjmhofhaaaGreatD2
import Derived.Test.YtdhgdcjmhofhaaaGreatD3
import Derived.WalkLawsBesides
set_option linter.all false
set_option maxHeartbeats 8000000
namespace Go.Proofs.YtdhgdcjmhofhaaaGreat.Crc
open Go.RowKit Tryz
theorem yT{k a b}(h:a=b):Ending.returned (.int k a)=.r (.int k b):=by rw[h]
theorem Nr{k a b}(h:a=b):Value.int k a=.int k b:=by rw[h]
theorem qGr(r:Nat)(b:UInt8)(d:r<4294967296):bits BinOp.xor IntKind.u32 (r:Int) ((b.toNat:Int) % 4294967296)=((shN 0 (r ^^^ b.toNat):Nat):Int):=by
 have c:=tD b;have a:(b.toNat:Int) % 4294967296=(b.toNat:Int):=ω;rw[a,u32_xor_nat _ _ d c];rfl
theorem and_one(r:Nat)(a:r<4294967296):bits BinOp.and IntKind.u32 (r:Int) 1=((r % 2:Nat):Int):=by
 rw[show(1:Int)=((1:Nat):Int) from rfl,u32_and_nat _ _ a ω,nat_mask1]
theorem qJy(r:Nat)(b:r<4294967296)(h:r % 2=1):bits BinOp.xor IntKind.u32 ((r:Int) / 2) 3988292384=(sh r:Int):=by
 have a:(r:Int) / 2=((r / 2:Nat):Int):=ω;rw[a,show(3988292384:Int)=((3988292384:Nat):Int) from rfl,u32_xor_nat _ _ ω ω];unfold sh;rw[AU h]
theorem qGv(r:Nat)(h:¬r % 2=1):(r:Int) / 2=(sh r:Int):=by
 unfold sh;rw[AQ h];omega
theorem qQk{r:Nat}(a:r<4294967296)(h:(bits BinOp.and IntKind.u32 (r:Int) 1==1)=true):r % 2=1:=by
 rw[and_one _ a]at h;have:=eq_of_beq h;omega
theorem qOr{r:Nat}(a:r<4294967296)(h:(bits BinOp.and IntKind.u32 (r:Int) 1==1)=false):¬r % 2=1:=by
 rw[and_one _ a]at h;have:=ne_of_beq_false h;omega
theorem qKr(l){m:Nat}(d:l.length<=m):wrap64 (bits BinOp.xor IntKind.u32 IntKind.u32.max (vC (l.take m):Nat))=(crc l:Nat):=by
 have a:=mT l;have b:=Bz l;rw[CN d,show IntKind.u32.max=((4294967295:Nat):Int) from rfl,u32_xor_nat _ _ ω a,qRv a];unfold crc at b⊢;unfold wrap64;omega
theorem qJm(s w)(g:s.size<=maxLen):
  cL 171 #[.t s] w λe w'=>e=.r (.i (crc s.data.toList))/\w'=w:=by
 unfold maxLen at g;go_enter func171,ntmps171;go_wp2;go_loop [3,8] (λr c=>∃a:Nat,a<=s/\c=.i a/\r=.int .u32 (vC (s.data.toList.take a):Nat)) (λ_ c=>s.size-(intOf c).toNat)
 case atStart=>exact⟨0,AG _,rfl,rfl⟩
 case round =>
  obtain⟨a,i,rfl,rfl⟩:=hrel;have f:=mT (s.data.toList.take a);by_cases hlt:a<s
  .go_wp2;go_loop [3,17] (λr c=>∃b:Nat,b<=8/\c=.i b/\r=.int .u32 (shN b (vC (s.data.toList.take a) ^^^ (s[a]).toNat):Nat)) (λ_ c=>8-(intOf c).toNat)
   case atStart=>exact⟨0,ω,rfl,Nr (qGr _ _ f)⟩
   case round =>
    obtain⟨b,h,rfl,rfl⟩:=hrel;have d:=qL b (oJ f (tD s[a]));by_cases hjl:b<8
    .go_wp2
     all_goals
      go_round
      case rel =>
       rename_i hb;refine⟨b+1,ω,ν,Nr ?_⟩;first|exact qJy _ d (qQk d hb)|exact qGv _ (qOr d hb)
      case measure=>simp[intOf];omega
    .go_wp2;go_round
     case rel =>
      obtain rfl:b=8:=ω;exact⟨a+1,ω,ν,Nr (by rw[qGz s a hlt];rfl)⟩
     case measure=>simp[intOf];omega
  .go_wp2;go_ret;obtain rfl:a=s:=ω;exact⟨yT (qKr _ σ),rfl⟩
