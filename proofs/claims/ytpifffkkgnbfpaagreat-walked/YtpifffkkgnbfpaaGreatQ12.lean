import Derived.Test.YtpifffkkgnbfpaaGreatQ7
import Derived.Test.YtpifffkkgnbfpaaGreatRows
import Derived.ProofKit
import Derived.OpenShut
set_option linter.unusedSimpArgs false
set_option linter.unusedVariables false
namespace Go.Proofs.YtpifffkkgnbfpaaGreat.Pages
open Go.RowKit Go.ChangeShapes Go.WideShapes Go.ChangeAt
theorem qBe {w:World} {b o:Nat} {v:Value} (h:w.cell? ⟨b,o,none⟩=some v):b<w.heap.size:=by
 rcases Nat.lt_or_ge b w.heap.size with h1|h1
 ·exact h1
 ·simp [World.cell?,Array.getElem?_eq_none h1] at h
theorem qBx {w:World} {a:Addr} {vs:List Value} (h:∀ i u,vs[i]?=some u→w.cell? (a.add i)=some u):cR w w.heap.size (some a) vs:=by
 cases vs with
 | nil=>exact .inl rfl
 | cons v vs =>
  have h0:=h 0 v rfl
  obtain⟨b,off,spot⟩:=a
  have hs:spot=none:=by simpa [Addr.add] using World.cell?_spot h0
  subst hs
  have hadd:∀ i,(⟨b,off,none⟩:Addr).add i=⟨b,off+i,none⟩:=fun i=>by unfold Addr.add;split<;>simp_all
  exact .inr ⟨b,off,rfl,qBe (by rw [← hadd 0];exact h0),fun i u hu=>by rw [← hadd i];exact h i u hu⟩
theorem qCy:Tryz.prog.cellsOf 3=1:=by kernel_rfl
theorem zY {n:Int} (h:(Lit.int .i64 n).wf=true) : -9223372036854775808≤n∧n≤9223372036854775807:=by
 simpa [Lit.wf,IntKind.min,IntKind.max,IntKind.signed,IntKind.bits] using h
