import Derived.Test.YtpifffkkgnbfpaaGreatP13
import Derived.Deep.RegionHeld3
set_option linter.unusedSimpArgs false
set_option linter.unusedVariables false
namespace Go.Proofs.YtpifffkkgnbfpaaGreat.Tree
open Go.RowKit
variable {P:Program} {Q:Exit→Act→World→Prop} {a:Act} {l n:Nat} {ops:Array Oper} {w:World}
theorem Pz {row:String} {args:Array Value}  {R:Value→World→Prop} (h:Rows P row args w R):RowsIn (Fence.wide.inRound l) n P row args w R:=fun c cs _ =>
 let ⟨v,w',r,s⟩:=h c cs;⟨v,w',r,stepsIn_wide.2 s⟩
theorem Iy {o:Oper} (hnd:∀ c,o.op≠.defer c)   {K:Act→World→Prop}  (h:o.wp P a w K Q):o.wpIn (Fence.wide.inRound l) n P a w K Q:=by
 refine⟨fun f _=>trivial,?_⟩
 rw [Oper.semAt_eq _ _ _ hnd]
 unfold Oper.wp at h
 generalize (execOp a.eval o).run P w=r at *
 cases r with
 | ok x w' =>
  cases x<;>simp only [Oper.upon,Oper.uponIn] at h ⊢ <;>
   first
    | exact h
    | exact⟨fun h=>by simp [Fence.inRound,Fence.wide] at h,callsIn_wide.2 h⟩
    | exact⟨fun h=>by simp [Fence.inRound,Fence.wide] at h,Pz h⟩
    | exact h.elim
 | halt x w'=>cases x<;>simp only [Oper.upon,Oper.uponIn] at h ⊢<;>exact h
theorem Uu (hnd:pZ ops=true) (hQ:∀ a w,¬ Q .outgrown a w) {i:Nat} {K:Act→World→Prop}   (h:wpOp P ops Q i K a w):wpOpIn (Fence.wide.inRound l) n P ops Q i K a w:=by
 unfold wpOp at h
 unfold wpOpIn
 cases ho:ops[i]? with
 | none=>simp only [ho] at h ⊢;exact h
 | some o =>
  simp only [ho] at h ⊢
  split
  ·rename_i hw
   rw [if_pos hw] at h
   rcases h with h|⟨_,a,w,h⟩
   ·exact Iy (Ck hnd ho) h
   ·exact absurd h (hQ a w)
  ·rename_i hw
   rw [if_neg hw] at h
   exact⟨fun f _=>trivial,h⟩
theorem Ay {md:Region.Mode} (hnd:pZ ops=true) (hQ:∀ a w,¬ Q .outgrown a w):∀ (fuel:Nat) (listed:Array Bool) (a:Act) (w:World),wpAny P md ops Q fuel listed a w→wpAnyIn (Fence.wide.inRound l) n P md ops Q fuel listed a w
 | 0,_,_,_,h=>h
 | fuel+1,listed,a,w,h=>⟨h.1,fun i hi=>wpOpIn_mono (fun a' w' h'=>Ay hnd hQ fuel _ a' w' h') (Uu hnd hQ (h.2 i hi))⟩
theorem kA {S:World→Prop} {id:Nat}   (hm:P.follows .mixedOrders=true) (hnd:pZ ops=true) (hQ:∀ a w,¬ Q .outgrown a w) (hS:S w.drew)
  (h:S w.drew→wpAnyH P .any ops Q S ops.size (Array.replicate ops.size false) a w.drew):(Code.region id ops true).wpIn (Fence.wide.inRound l) n P Q a w :=
 wpIn_region_any hm (Ay hnd hQ _ _ _ _ (wpAny_of_held _ _ _ _ (h hS)))
