import Derived.Test.YtpifffkkgnbfpaaGreatP7
import Derived.Test.YtpifffkkgnbfpaaGreatRows
import Derived.ProofKit
import Derived.OpenShut
set_option linter.unusedSimpArgs false
set_option linter.unusedVariables false
set_option maxRecDepth 100000
namespace Go.Proofs.YtpifffkkgnbfpaaGreat.Pages
open Go.RowKit Go.ChangeShapes Go.WideShapes Go.ChangeAt
theorem qBx {w:World} {b o:Nat} {v:Value} (h:w.cell? ⟨b,o,none⟩=some v):b<w.heap.size:=by
 rcases Nat.lt_or_ge b w.heap.size with h1|h1
 ·exact h1
 ·simp [World.cell?,Array.getElem?_eq_none h1] at h
theorem Tg {w:World} {a:Addr} {vs:List Value} (h:∀ i u,vs[i]?=some u→w.cell? (a.add i)=some u):cT w w.heap.size (some a) vs:=by
 cases vs with
 | nil=>exact .inl rfl
 | cons v vs =>
  have h0:=h 0 v rfl
  obtain⟨b,off,spot⟩:=a
  have hs:spot=none:=by simpa [Addr.add] using World.cell?_spot h0
  subst hs
  have hadd:∀ i,(⟨b,off,none⟩:Addr).add i=⟨b,off+i,none⟩:=fun i=>by unfold Addr.add;split<;>simp_all
  exact .inr ⟨b,off,rfl,qBx (by rw [← hadd 0];exact h0),fun i u hu=>by rw [← hadd i];exact h i u hu⟩
theorem Uk:Tryz.prog.cellsOf 3=1:=by kernel_rfl
theorem vP {n:Int} (h:(Lit.int .i64 n).wf=true) : -9223372036854775808≤n∧n≤9223372036854775807:=by
 simpa [Lit.wf,IntKind.min,IntKind.max,IntKind.signed,IntKind.bits] using h
theorem Vv {H:Type} {enc:TypeId×Value→H} {W:World} {base:Nat} {v:Value} {d:DataW H} {p:List MemPlace} (hv:Value.okWide Tryz.prog W .any base 22 v) (h:DataW.Trod enc Tryz.prog W 0 (fun _=>true) true 22 v d p) :
  ∃ (a:Option Addr) (c:Nat) (ns:List Int),v=.slice a ns.length c∧cT W W.heap.size a (ns.map (.int .i64))∧ns.length≤maxLen∧∀ x∈ns,-9223372036854775808≤x∧x≤9223372036854775807:=by
 obtain⟨a0,len0,cap0,rfl⟩:=okWide_slice Tryz.underlying22 hv
 obtain⟨fuel,hf⟩:=h
 rcases Go.ChangeShapes.open_ints Tryz.underlying22 Tryz.underlying3 Uk hf with⟨hcs,hx⟩|⟨a,len,cap,ss,hcs,_,hl,hm,hz,hx,hcell,hws⟩
 ·simp [Value.cells] at hcs
  obtain⟨rfl,rfl,rfl⟩:=hcs
  exact⟨none,0,[],rfl,.inl rfl,Nat.zero_le _,by simp⟩
 ·have hlen:(ss.take len).length=len:=by simp at hz ⊢;omega
  simp [Value.cells] at hcs
  obtain⟨rfl,rfl,rfl⟩:=hcs
  refine⟨some a,cap0,ss.take len0,by rw [hlen],Tg fun i u hu=>?_,by rw [hlen];omega,fun x hx=>vP (hws x (List.mem_of_mem_take hx))⟩
  simp only [List.getElem?_map,Option.map_eq_some_iff] at hu
  obtain⟨s,hs,rfl⟩:=hu
  rw [List.getElem?_take] at hs
  split at hs
  ·have hi:=(List.getElem?_eq_some_iff.1 hs).1
   rw [hcell i hi]
   simp [List.getD,hs]
  ·cases hs
