import Derived.Test.YtpifffkkgnbfpaaGreatP34
import Derived.Test.YtpifffkkgnbfpaaGreatP12
set_option linter.unusedSimpArgs false
set_option linter.unusedVariables false
set_option maxRecDepth 100000
set_option maxHeartbeats 8000000
namespace Go.Proofs.YtpifffkkgnbfpaaGreat.Tree
open Go.RowKit Pages
def iQ (raw:List Int) (i size:Nat):List Int:=(raw.drop (i * size)).take size
theorem Zo (raw:List Int) (i size:Nat):(iQ raw i size).length=min (min (i * size) raw.length+size) raw.length-min (i * size) raw.length:=by
 simp only [iQ,List.length_take,List.length_drop]
 omega
theorem Zi {w:World} {B b off:Nat} {raw:List Int} (h:cT w B (some ⟨b,off,none⟩) (raw.map (.int .i64))) (i size q:Nat) (hq:i * size<raw.length→q=i * size):cT w B (some ⟨b,off+q,none⟩) ((iQ raw i size).map (.int .i64)):=by
 by_cases hlt:i * size<raw.length
 ·rw [hq hlt]
  rcases h with h|⟨b',off',he,hb,hc⟩
  ·simp at h;subst h;simp at hlt
  ·cases he
   refine .inr ⟨b,off+i * size,rfl,hb,fun k u hu=>?_⟩
   rw [Nat.add_assoc]
   refine hc _ u ?_
   rw [List.getElem?_map,iQ,List.getElem?_take] at hu
   split at hu
   ·rw [List.getElem?_drop] at hu
    rw [List.getElem?_map]
    exact hu
   ·cases hu
 ·left
  have:iQ raw i size=[]:=by
   rw [iQ,List.drop_eq_nil_of_le (by omega)];simp
  rw [this];rfl
theorem Zp (ra:Option Addr) (rc:Nat) (raw:List Int) (i size:Nat) (B:Nat) (w:World) (hR:cT w B ra (raw.map (.int .i64))) (hc:raw.length≤rc) (hra:rc=0∨∃ b off,ra=some ⟨b,off,none⟩) (hi:i≤1000) (hs:size≤1000) (hn:raw.length≤9223372036854775807) (hrc:rc≤9223372036854775807) :
  Calls Tryz.prog 12 #[.slice ra raw.length rc,.int .i64 (i:Nat),.int .i64 (size:Nat)] w fun e w'=>∃ ra' rc',e=.returned (.slice ra' (iQ raw i size).length rc')∧cT w B ra' ((iQ raw i size).map (.int .i64))∧w'=w:=by
 have his:i * size≤1000000:=Nat.mul_le_mul hi hs
 have hmul:((i:Int) * (size:Int))=((i * size:Nat):Int):=by simp
 obtain⟨p,hp⟩:=nM (i * size)
 rw [hp] at hmul his
 have hl:=Zo raw i size
 rw [hp] at hl
 have HRP:Hid (∀ b off q,ra=some ⟨b,off,none⟩→(p<raw.length→q=p)→cT w B (some ⟨b,off+q,none⟩) ((iQ raw i size).map (.int .i64))):=fun b off q e hq=>Zi (e▸hR) i size q (by rw [hp];exact hq)
 have HNP:Hid (raw.length≤p→(iQ raw i size).map (Value.int .i64)=[]):=fun h=>by
  have:iQ raw i size=[]:=by rw [iQ,List.drop_eq_nil_of_le (by omega)];simp
  rw [this];rfl
 obtain⟨L,hL⟩:=nM (raw.length)
 rw [hL] at hl hc hn HRP HNP ⊢
 obtain⟨n,hnl⟩:=nM ((iQ raw i size).length)
 obtain⟨vs,hvs⟩:=nM ((iQ raw i size).map (Value.int .i64))
 rw [hnl] at hl ⊢
 rw [hvs] at HRP HNP ⊢
 have HL:Hid (n=min (min p L+size) L-min p L):=hl
 clear hl hnl hvs hR hL hp
 rcases hra with rfl|⟨b,off,rfl⟩
 ·have:L=0:=by omega
  subst this
  have hp0:min (p:Int) 0=0:=by omega
  cases ra with
  | none =>
   go_enter Tryz.func12,Tryz.ntmps12
   go_wp2
   go_ret
   have hl:=HL.out
   first
    | exact⟨none,0,(by
     rw [hl]
     show Ending.returned (Value.slice _ _ _)=_
     simp only [Ending.returned.injEq,Value.slice.injEq,true_and,and_true]
     omega),.inl (HNP.out (by omega)),rfl⟩
    | exact⟨none,⟨0,(by
     rw [hl]
     show Ending.returned (Value.slice _ _ _)=_
     simp only [Ending.returned.injEq,Value.slice.injEq,true_and,and_true]
     omega)⟩,.inl (HNP.out (by omega)),rfl⟩
  | some a =>
   go_enter Tryz.func12,Tryz.ntmps12
   go_wp2
   go_ret
   have hl:=HL.out
   exact⟨some a,0,(by
    rw [hl]
    show Ending.returned (Value.slice _ _ _)=_
    simp only [Ending.returned.injEq,Value.slice.injEq,true_and,and_true]
    omega),.inl (HNP.out (by omega)),rfl⟩
 ·go_enter Tryz.func12,Tryz.ntmps12
  go_wp2
  all_goals go_ret
  all_goals have hl:=HL.out
  ·exact⟨some ⟨b,off,none⟩,⟨0,(by
    rw [hl]
    show Ending.returned (Value.slice _ _ _)=_
    simp only [Ending.returned.injEq,Value.slice.injEq,true_and,and_true]
    omega)⟩,.inl (HNP.out (by omega)),rfl⟩
  ·exact⟨some ⟨b,off+(min (p:Int) (L:Int)).toNat,none⟩,⟨rc-(min (p:Int) (L:Int)).toNat,(by
    rw [hl]
    show Ending.returned (Value.slice _ _ _)=_
    simp only [Ending.returned.injEq,Value.slice.injEq,true_and,and_true]
    omega)⟩,HRP.out b off _ rfl (by omega),rfl⟩
