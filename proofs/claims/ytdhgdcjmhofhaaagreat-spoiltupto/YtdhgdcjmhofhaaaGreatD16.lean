import Derived.Test.YtdhgdcjmhofhaaaGreatD14
import Derived.Deep.RegionHeld3
set_option linter.all false
namespace Go.Proofs.YtdhgdcjmhofhaaaGreat.Tree
open Go.RowKit Tryz
variable {P:Program} {Q:Exit->Act->World->Prop} {a:Act} {l n:Nat} {ops:Array Oper} {w:World}
theorem Xv {row args R}(h:Rows P row args w R):RowsIn (Fence.wide.inRound l) n P row args w R:=λc a _ =>
 let ⟨v,w',r,s⟩:=h c a;⟨v,w',r,stepsIn_wide.2 s⟩
theorem Nq {o:Oper}(b:∀c,o.op≠.defer c){K}(h:o.wp P a w K Q):o.wpIn (Fence.wide.inRound l) n P a w K Q:=by
 refine⟨λd _=>trivial,?_⟩;rw[Oper.semAt_eq _ _ _ b];unfold Oper.wp at h;generalize (execOp a.eval o).run P w=r at *;cases r with
 |ok x w' =>
  cases x<;>simp only[Oper.upon,Oper.uponIn]at h⊢ <;>
   first
    |exact h
    |exact⟨λh=>by simp[Fence.inRound,Fence.wide]at h,BG.2 h⟩
    |exact⟨λh=>by simp[Fence.inRound,Fence.wide]at h,Xv h⟩
    |exact h.elim
 |halt x w'=>cases x<;>simp only[Oper.upon,Oper.uponIn]at h⊢<;>exact h
theorem Kp (c:vW ops=true)(b:∀a w,¬Q .outgrown a w){i K}(h:wpOp P ops Q i K a w):wpOpIn (Fence.wide.inRound l) n P ops Q i K a w:=by
 unfold wpOp at h;unfold wpOpIn;cases ho:ops[i]? with
 |none=>simp only[ho]at h⊢;exact h
 |some o =>
  simp only[ho]at h⊢;split
  .rename_i hw;rw[AU hw]at h;rcases h with h|⟨_,a,w,h⟩
   .exact Nq (Yp c ho) h
   .exact absurd h (b a w)
  .rename_i hw;rw[AQ hw]at h;exact⟨λd _=>trivial,h⟩
theorem wV {md}(c:vW ops=true)(b:∀a w,¬Q .outgrown a w):∀(fuel:Nat) (listed:Array Bool) (a:Act) (w:World),wpAny P md ops Q fuel listed a w->wpAnyIn (Fence.wide.inRound l) n P md ops Q fuel listed a w
 |0,_,_,_,h=>h
 |fuel+1,listed,a,w,h=>⟨h.1,λg f=>wpOpIn_mono (λd w' e=>wV c b fuel _ d w' e) (Kp c b (h.2 g f))⟩
theorem rZ {S id}(d:P.follows .mixedOrders=true)(e:vW ops=true)(b:∀a w,¬Q .outgrown a w)(c:S w.drew)(h:S w.drew->wpAnyH P .any ops Q S ops.size (Array.replicate ops.size false) a w.drew):(Code.region id ops true).wpIn (Fence.wide.inRound l) n P Q a w :=
 wpIn_region_any d (wV e b _ _ _ _ (wpAny_of_held _ _ _ _ (h c)))
