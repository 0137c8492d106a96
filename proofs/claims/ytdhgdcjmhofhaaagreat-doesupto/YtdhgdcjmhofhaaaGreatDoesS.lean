/-
  For all arguments whose values and letters are together at most 1048576 the law Does answers true and leaves them as they were: transactions in any order, on a file of any size that does what it should, opened anew at times, answer what the document's store answers.
  Condition: the bound of '..Upto'.
-/
import Derived.Test.YtdhgdcjmhofhaaaGreatD54
set_option linter.all false
set_option maxRecDepth 100000
namespace Go.Proofs.YtdhgdcjmhofhaaaGreat.does
open Go.ChangeShapes Go.WideShapes Go.ChangeAt Go.RowKit
theorem own:ownKnob Tryz.prog.godebug=none:=by kernel_rfl
theorem laidOut:laidOutB Tryz.prog=true:=by kernel_rfl
theorem contract(H enc W base args g h s)(c:∀(j:Nat) t v,Tryz.f3.params[j]?=some t->args[j]?=some v->Value.okWide Tryz.prog W .any base t v)(m:DataW.Whole enc Tryz.prog Tryz.f3.params.toList Rows.doesSpec.vars false W args.toList g h s)(E:Rows.uptoSmall H (g++h)=true):
  Calls Tryz.prog 3 args W λe d=>∃v,e=.returned v/\Rows.doesSpec.post enc Tryz.prog Tryz.f3 false true false false W args v d:=by
 have A:=m;obtain⟨p,q,x,z,rfl,X,Y⟩:=m;have l:=x;rw[Tryz.params3]at l c;obtain⟨o,a2,w,S,Z,a0,U,rfl,rfl,i,M⟩:=trodAll_cons l;obtain⟨r,a3,f,T,L,a1,V,rfl,rfl,k,N⟩:=trodAll_cons M;obtain⟨rfl,rfl,rfl⟩:=trodAll_nil N;obtain rfl:args=#[o,r]:=by grind
 obtain⟨rfl,rfl⟩:=trodVars_none z;have I:=i;have n:=k;have J:∀Q∈L,Q.block<W.heap.size:=by obtain⟨K,G⟩:=n;exact DataW.trod_lt K _ _ _ G
 have B:Rows.uptoBulk f<=1048576:=by
  have b:Rows.uptoBulkAll ([w,f]++([]:List (DataW H)))<=1048576:=of_decide_eq_true E;simp only[List.append_nil,Rows.uptoBulkAll]at b;omega
 obtain⟨R,rfl,rfl,rfl,a4⟩:=open_int Tryz.underlying3 (c 0 3 o rfl rfl) i;obtain⟨O,P,u,rfl,y,D,F⟩:=Tree.qDu (c 1 22 r rfl rfl) k B;refine(Tree.qBa R O P u W y D F).mono λe d ⟨C,a⟩=>?_;subst C;exact⟨_,rfl,_,_,_,[],_,[],A,trodAll_mk1 (shut_bool Tryz.underlying4 _),(trodAll_cons_mk (Below.trod laidOut (by kernel_rfl) (of_decide_eq_true (by kernel_rfl)) I a (by simp)) (trodAll_cons_mk (Below.trod laidOut (by kernel_rfl) (of_decide_eq_true (by kernel_rfl)) n a J) trodAll_mk0)),rfl,a.frame _,λb=>by cases b⟩
theorem lifted(a)(j:a.Started)(H)(enc:TypeId×Value->H)(F):
  ReturnsInHanded {} Tryz.checked a 3 .any ((Rows.OpenSpec.upto Rows.doesSpec).pre6 enc Tryz.prog Tryz.f3 Rows.doesUptoRow.domain false) (((Rows.OpenSpec.upto Rows.doesSpec).at F).post enc Tryz.prog Tryz.f3 false true false false):=by
 apply returnsInHanded_of_cond (C:=Tryz.checked) (s:=Rows.OpenSpec.upto Rows.doesSpec) (k:=Rows.uptoSmall) rfl own j (by kernel_rfl) Tryz.func3
  (OpenSpec.witness (enc:=enc) (C:=Tryz.checked) (s:=Rows.OpenSpec.upto Rows.doesSpec) (k:=Rows.uptoSmall) rfl false ⟨#[],#[.int .i64 0,.slice none 0 0],[]⟩ 8 (by kernel_rfl) (by kernel_rfl) (by kernel_rfl)
   (x:=([.lit (.int .i64 0),.nil],[],[])) (by kernel_rfl) rfl (by kernel_rfl))
 intro W c b e f d i g _ h _;exact contract H enc W c b e f d i g h
theorem proved:Rows.DoesUptoSaid :=
 OpenClaim.holds_of_cond 3 Tryz.f3 rfl rfl rfl rfl rfl rfl rfl ⟨rfl,rfl,rfl,rfl,rfl⟩ rfl rfl rfl rfl rfl (by kernel_rfl) Tryz.func3 (by kernel_rfl)
  (of_decide_eq_true (by kernel_rfl)) (by unfold Func.isWrapper;first|(rw[if_pos (by decide +kernel)];kernel_rfl)|(rw[if_neg (by decide +kernel)];exact⟨rfl,rfl⟩))
  (λa b H enc _ F=>lifted a b H enc F)
end Go.Proofs.YtdhgdcjmhofhaaaGreat.does
