import Derived.Test.YtpifffkkgnbfpaaGreatQ36
import Derived.Test.YtpifffkkgnbfpaaGreatQ37
set_option linter.unusedSimpArgs false
set_option linter.unusedVariables false
set_option maxRecDepth 100000
namespace Go.Proofs.YtpifffkkgnbfpaaGreat.Tree
open Go.RowKit Pages
variable {raw:List Int}
theorem Ti {n:Nat} (hn:40≤n) (hn2:n≤4096) (w:World) :
  Calls Tryz.prog 10 #[.int .i64 (n:Nat)] w fun e w'=>∃ d b,e=.returned (.tuple #[.pointer (some ⟨d,0,none⟩),.pointer (some ⟨b,0,none⟩)])∧SkL aU n (fun k=>k<w.heap.size) w w' d b 0 0 none none:=by
 refine(qAa (K:=aU) hn hn2 w).mono ?_
 rintro e w' ⟨D,rfl,h,hi⟩
 exact⟨_,_,rfl,D,⟨h.db,h.well,h.failed,h.ver,h.root,h.aroot,h.last0,h.last1,h.store,fun k hk hp=>by have:=h.new k hk;omega,vV h.below (fun k hk=>hk),fun k hk=>hk⟩,hi,rfl,rfl⟩
theorem oI {i size:Nat} {x:Int} (h:x∈gT raw i size):x∈raw:=List.mem_of_mem_drop (List.mem_of_mem_take h)
structure mS (w:World) (B:Nat) (ra:Option Addr) (rc:Nat) (raw:List Int):Prop where
 row:cR w B ra (raw.map (.int .i64))
 cap:raw.length≤rc
 some':rc=0∨∃ b off,ra=some ⟨b,off,none⟩
 big:rc≤9223372036854775807
 i64:∀ x∈raw,-9223372036854775808≤x∧x≤9223372036854775807
theorem mS.on {w w':World} {B:Nat} {ra:Option Addr} {rc:Nat}  (h:mS w B ra rc raw) (ho:On (fun k=>k<B) w w'):mS w' B ra rc raw:=⟨cR.onK h.row ho (fun k hk=>hk),h.cap,h.some',h.big,h.i64⟩
theorem Po {w:World} {B:Nat} {ra:Option Addr} {rc:Nat}  (h:mS w B ra rc raw) (i size:Nat) (hi:i≤1000) (hs:size≤1000) :
  Calls Tryz.prog 12 #[.slice ra raw.length rc,.int .i64 (i:Nat),.int .i64 (size:Nat)] w fun e w'=>∃ ra' rc',e=.returned (.slice ra' (gT raw i size).length rc')∧cR w B ra' ((gT raw i size).map (.int .i64))∧w'=w :=
 Ys ra rc raw i size B w h.row h.cap h.some' hi hs (vJ h.cap h.big) h.big
open Go.ChangeShapes Go.WideShapes Go.ChangeAt
theorem rA {H:Type} {enc:TypeId×Value→H} {W:World} {base:Nat} {v:Value} {d:DataW H} {p:List MemPlace} (hv:Value.okWide Tryz.prog W .any base 22 v) (h:DataW.Trod enc Tryz.prog W 0 (fun _=>true) true 22 v d p) :
  ∃ (a:Option Addr) (c:Nat) (ns:List Int),v=.slice a ns.length c∧mS W W.heap.size a c ns:=by
 have hm63:maxLen≤9223372036854775807:=by decide +kernel
 obtain⟨a0,len0,cap0,rfl⟩:=okWide_slice Tryz.underlying22 hv
 obtain⟨fuel,hf⟩:=h
 rcases Go.ChangeShapes.open_ints Tryz.underlying22 Tryz.underlying3 qCy hf with⟨hcs,hx⟩|⟨a,len,cap,ss,hcs,_,hl,hm,hz,hx,hcell,hws⟩
 ·simp [Value.cells] at hcs
  obtain⟨rfl,rfl,rfl⟩:=hcs
  exact⟨none,0,[],rfl,.inl rfl,Nat.zero_le _,.inl rfl,by omega,by simp⟩
 ·have hlen:(ss.take len).length=len:=by simp at hz ⊢;omega
  simp [Value.cells] at hcs
  obtain⟨rfl,rfl,rfl⟩:=hcs
  have hrow:cR W W.heap.size (some a) ((ss.take len0).map (Value.int .i64)):=qBx fun i u hu=>by
   simp only [List.getElem?_map,Option.map_eq_some_iff] at hu
   obtain⟨s,hs,rfl⟩:=hu
   rw [List.getElem?_take] at hs
   split at hs
   ·have hi:=(List.getElem?_eq_some_iff.1 hs).1
    rw [hcell i hi]
    simp [List.getD,hs]
   ·cases hs
  have hspot:(0<cap0)→∃ b off,a=⟨b,off,none⟩:=fun hc0=>by
   simp only [if_true] at hz
   have h0:=hcell 0 (by omega)
   obtain⟨b,off,spot⟩:=a
   have hs:spot=none:=by simpa [Addr.add] using World.cell?_spot h0
   exact⟨b,off,by rw [hs]⟩
  refine⟨some a,cap0,ss.take len0,by rw [hlen],hrow,by rw [hlen];exact hl,?_,vJ hm hm63,fun x hx=>zY (hws x (List.mem_of_mem_take hx))⟩
  rcases Nat.eq_zero_or_pos cap0 with h0|h0
  ·exact .inl h0
  ·obtain⟨b,off,rfl⟩:=hspot h0
   exact .inr ⟨b,off,rfl⟩
