/-
  For all arguments whose values and letters are together at most 1048576 the law Spoilt answers true and leaves them as they were: transactions in any order, on a file of any size that fails, dies and crashes, and one byte of which is turned once, opened anew at times, answer what the document's store answers.
  Condition: the bound of '..Upto'.
-/
import Derived.Test.YtdhgdcjmhofhaaaGreatD45
set_option linter.all false
set_option maxRecDepth 100000
namespace Go.Proofs.YtdhgdcjmhofhaaaGreat.spoilt
open Go.ChangeShapes Go.WideShapes Go.ChangeAt Go.RowKit
theorem own:ownKnob Tryz.prog.godebug=none:=by kernel_rfl
theorem laidOut:laidOutB Tryz.prog=true:=by kernel_rfl
theorem contract(H enc W base args g h s)(c:∀(j:Nat) t v,Tryz.f5.params[j]?=some t->args[j]?=some v->Value.okWide Tryz.prog W .any base t v)(m:DataW.Whole enc Tryz.prog Tryz.f5.params.toList Rows.spoiltSpec.vars false W args.toList g h s)(y:Rows.uptoSmall H (g++h)=true):
  cL 5 args W λe d=>∃v,e=.r v/\Rows.spoiltSpec.post enc Tryz.prog Tryz.f5 false true false false W args v d:=by
 have u:=m;obtain⟨p,q,x,O,rfl,X,Y⟩:=m;have l:=x;rw[Tryz.params5]at l c;obtain⟨o,a2,w,S,Z,a0,U,rfl,rfl,i,M⟩:=trodAll_cons l;obtain⟨r,a3,f,T,L,a1,V,rfl,rfl,k,G⟩:=trodAll_cons M;obtain⟨rfl,rfl,rfl⟩:=trodAll_nil G;obtain rfl:args=#[o,r]:=ζ
 obtain⟨rfl,rfl⟩:=trodVars_none O;have E:=i;have n:=k;have F:∀Q∈L,Q.block<W:=by obtain⟨K,A⟩:=n;exact DataW.trod_lt K _ _ _ A
 have B:Rows.uptoBulk f<=1048576:=by
  have b:=of_decide_eq_true y;simp only[List.append_nil,Rows.uptoBulkAll]at b;omega
 obtain⟨R,rfl,rfl,rfl,a4⟩:=open_int Tryz.underlying3 (c 0 3 o rfl rfl) i;obtain⟨I,P,J,rfl,N,D,z⟩:=Tree.qJu (c 1 22 r rfl rfl) k B;refine(Tree.qIj R I P J W N D z).m λe d ⟨C,a⟩=>?_;subst C;exact⟨_,rfl,_,_,_,[],_,[],u,trodAll_mk1 (shut_bool Tryz.underlying4 _),(trodAll_cons_mk (Below.trod laidOut (by kernel_rfl) (of_decide_eq_true (by kernel_rfl)) E a σ) (trodAll_cons_mk (Below.trod laidOut (by kernel_rfl) (of_decide_eq_true (by kernel_rfl)) n a F) trodAll_mk0)),rfl,a.frame _,λb=>by cases b⟩
theorem lifted(a)(j:a.Started)(H)(enc:TypeId×Value->H)(F):
  ReturnsInHanded {} Tryz.checked a 5 .any ((Rows.OpenSpec.upto Rows.spoiltSpec).pre6 enc Tryz.prog Tryz.f5 Rows.spoiltUptoRow.domain false) (((Rows.OpenSpec.upto Rows.spoiltSpec).at F).post enc Tryz.prog Tryz.f5 false true false false):=by
 apply returnsInHanded_of_cond (C:=Tryz.checked) (s:=Rows.OpenSpec.upto Rows.spoiltSpec) (k:=Rows.uptoSmall) rfl own j (by kernel_rfl) Tryz.func5
  (OpenSpec.witness (enc:=enc) (C:=Tryz.checked) (s:=Rows.OpenSpec.upto Rows.spoiltSpec) (k:=Rows.uptoSmall) rfl false ⟨#[],#[.i 0,.n],[]⟩ 8 (by kernel_rfl) (by kernel_rfl) (by kernel_rfl)
   (x:=([.lit (.int .i64 0),.nil],[],[])) (by kernel_rfl) rfl (by kernel_rfl))
 intro W c b e f d i g _ h _;exact contract H enc W c b e f d i g h
theorem proved:Rows.SpoiltUptoSaid :=
 OpenClaim.holds_of_cond 5 Tryz.f5 rfl rfl rfl rfl rfl rfl rfl ⟨rfl,rfl,rfl,rfl,rfl⟩ rfl rfl rfl rfl rfl (by kernel_rfl) Tryz.func5 (by kernel_rfl)
  (of_decide_eq_true (by kernel_rfl)) (by unfold Func.isWrapper;first|(rw[if_pos (by decide +kernel)];kernel_rfl)|(rw[if_neg (by decide +kernel)];exact⟨rfl,rfl⟩))
  (λa b H d _ c=>lifted a b H d c)
end Go.Proofs.YtdhgdcjmhofhaaaGreat.spoilt
