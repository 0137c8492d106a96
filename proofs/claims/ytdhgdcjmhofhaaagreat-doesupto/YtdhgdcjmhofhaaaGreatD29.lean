import Derived.Test.YtdhgdcjmhofhaaaGreatD28
set_option linter.all false
namespace Go.Proofs.YtdhgdcjmhofhaaaGreat.Tree
open Go.RowKit Pages
theorem Yb{P}(w T j a zero z bytes)(l:P.underlying T=some (.slice a))(hi:(P.info? a).map (λi=>(i.zero,i.size,i.bytes))=some (some zero,z,bytes))(C:zero.cells.size=z)(p:0<z)(v n xs)(f:w.ownsRow 0 a z v n xs)(k m c S d)(o:d.length=m * z)(s:aD w S k d)(q:∀u∈d,u.oneCell'=true)(r:n+m<=140737488355328)(t:(n+m) * bytes<=140737488355328):
  ∃v' w',(Builtin.append_ #[T,T] j #[v,.slice k m c]).run P w=.ok v' w'/\fB a z v n xs d m w v' w':=by
 rcases s with rfl|⟨b,h,rfl,_,x⟩
 ·have A:m=0:=by
   rcases JE m with e|e
   ·exact e
   ·have:=Nat.mul_pos e p;grind
  subst A;exact⟨v,w,Mo w T j a zero z bytes l hi v n xs f k c,by simpa using f,AF _ _,λD y=>.inl y⟩
 ·refine wV w T j a zero z bytes l hi C p v n xs f ⟨b,h,none⟩ m c d o (λg u B=>?_) q r t
  have:=x g u B;rw[show(⟨b,h,none⟩:Addr).add g=⟨b,h+g,none⟩ by unfold Addr.add;split<;>simp_all];exact this
theorem Yj{P ops o a K Q F}(w)(r:o.guard=none)(f x T b zero z bytes)(t:o.op=.call {callee:=.builtin .append,args:=#[f,x],argTypes:=#[T,T]})(p:P.underlying T=some (.slice b))(hi:(P.info? b).map (λi=>(i.zero,i.size,i.bytes))=some (some zero,z,bytes))(G:zero.cells.size=z)(B:0<z)(v n xs)(A:a.eval f=v)(C:w.ownsRow 0 b z v n xs)(e m c S d)(E:a.eval x=.slice e m c)(s:d.length=m * z)(l:aD w S e d)(j:∀u∈d,u.oneCell'=true)(k:n+m<=140737488355328)(q:(n+m) * bytes<=140737488355328)(h:∀v' w',fB b z v n xs d m w v' w'->K (a.put o.dst v') w'):
  if Region.wanted o (yielded ops a.tmps)=true then Oper.wp P o a w K Q else F:=by
 have D:Region.wanted o (yielded ops a.tmps)=true:=by simp[Region.wanted,r]
 rw[AW D];have⟨v',w',y,g⟩:=Yb (P:=P) w T o.type b zero z bytes p hi G B v n xs C e m c S d s l j k q;unfold Oper.wp execOp;simp only[t,resolve,invoke,builtin,DY,DT,DF,DI,BD,CX,A,E,y];exact h v' w' g
