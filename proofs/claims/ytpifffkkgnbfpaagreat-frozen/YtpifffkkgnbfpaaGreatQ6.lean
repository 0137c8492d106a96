import Derived.Test.YtpifffkkgnbfpaaGreatQ1
import Derived.Test.YtpifffkkgnbfpaaGreatProg
import Derived.WalkLawsBesides
set_option linter.unusedSimpArgs false
set_option linter.unusedVariables false
set_option maxHeartbeats 8000000
namespace Go.Proofs.YtpifffkkgnbfpaaGreat.Crc
open Go.RowKit
theorem uL {k:IntKind} {a b:Int} (h:a=b):Ending.returned (.int k a)=.returned (.int k b):=by rw [h]
theorem Ik {k:IntKind} {a b:Int} (h:a=b):Value.int k a=.int k b:=by rw [h]
theorem Wo (r:Nat) (b:UInt8) (hr:r<4294967296):bits BinOp.xor IntKind.u32 (r:Int) ((b.toNat:Int) % 4294967296)=((shN 0 (r ^^^ b.toNat):Nat):Int):=by
 have hb:=Jn b
 have e:(b.toNat:Int) % 4294967296=(b.toNat:Int):=by omega
 rw [e,u32_xor_nat _ _ hr hb];rfl
theorem and_one (r:Nat) (hr:r<4294967296):bits BinOp.and IntKind.u32 (r:Int) 1=((r % 2:Nat):Int):=by
 rw [show (1:Int)=((1:Nat):Int) from rfl,u32_and_nat _ _ hr (by omega),nat_mask1]
theorem Zc (r:Nat) (hr:r<4294967296) (h:r % 2=1):bits BinOp.xor IntKind.u32 ((r:Int) / 2) 3988292384=(sh r:Int):=by
 have e:(r:Int) / 2=((r / 2:Nat):Int):=by omega
 rw [e,show (3988292384:Int)=((3988292384:Nat):Int) from rfl,u32_xor_nat _ _ (by omega) (by omega)]
 unfold sh;rw [if_pos h]
theorem Ws (r:Nat) (h:¬ r % 2=1):(r:Int) / 2=(sh r:Int):=by
 unfold sh;rw [if_neg h];omega
theorem qEa {r:Nat} (hr:r<4294967296) (h:(bits BinOp.and IntKind.u32 (r:Int) 1==1)=true):r % 2=1:=by
 rw [and_one _ hr] at h;have:=eq_of_beq h;omega
theorem qCs {r:Nat} (hr:r<4294967296) (h:(bits BinOp.and IntKind.u32 (r:Int) 1==1)=false):¬ r % 2=1:=by
 rw [and_one _ hr] at h;have:=ne_of_beq_false h;omega
theorem Zq (l:List UInt8) {m:Nat} (hm:l.length≤m):wrap64 (bits BinOp.xor IntKind.u32 IntKind.u32.max (Ev (l.take m):Nat))=(crc l:Nat):=by
 have hl:l.take m=l:=List.take_of_length_le hm
 have hR:=Tp l
 have hc:=qEi l
 rw [hl,show IntKind.u32.max=((4294967295:Nat):Int) from rfl,u32_xor_nat _ _ (by omega) hR,qFc hR]
 unfold crc at hc ⊢
 unfold wrap64
 omega
theorem Yt (s:ByteArray) (w:World) (hs:s.size≤maxLen) :
  Calls Tryz.prog 144 #[.string s] w fun e w'=>e=.returned (.int .i64 (crc s.data.toList))∧w'=w:=by
 unfold maxLen at hs
 go_enter Tryz.func144,Tryz.ntmps144
 go_wp2
 go_loop [3,8] (fun r i=>∃ k:Nat,k≤s.size∧i=.int .i64 k∧r=.int .u32 (Ev (s.data.toList.take k):Nat)) (fun _ i=>s.size-(intOf i).toNat)
 case atStart=>exact⟨0,Nat.zero_le _,rfl,rfl⟩
 case round =>
  obtain⟨k,hk,rfl,rfl⟩:=hrel
  have hd:=Tp (s.data.toList.take k)
  by_cases hlt:k<s.size
  ·go_wp2
   go_loop [3,17] (fun r i=>∃ j:Nat,j≤8∧i=.int .i64 j∧r=.int .u32 (shN j (Ev (s.data.toList.take k) ^^^ (s[k]).toNat):Nat)) (fun _ i=>8-(intOf i).toNat)
   case atStart=>exact⟨0,by omega,rfl,Ik (Wo _ _ hd)⟩
   case round =>
    obtain⟨j,hj,rfl,rfl⟩:=hrel
    have hR:=Az j (Ou hd (Jn s[k]))
    by_cases hjl:j<8
    ·go_wp2
     all_goals
      go_round
      case rel =>
       rename_i hb
       refine⟨j+1,by omega,by go_num,Ik ?_⟩
       first|exact Zc _ hR (qEa hR hb)|exact Ws _ (qCs hR hb)
      case measure=>simp [intOf];omega
    ·go_wp2
     go_round
     case rel =>
      obtain rfl:j=8:=by omega
      exact⟨k+1,by omega,by go_num,Ik (by rw [Ww s k hlt];rfl)⟩
     case measure=>simp [intOf];omega
  ·go_wp2
   go_ret
   obtain rfl:k=s.size:=by omega
   exact⟨uL (Zq _ (by simp)),rfl⟩
