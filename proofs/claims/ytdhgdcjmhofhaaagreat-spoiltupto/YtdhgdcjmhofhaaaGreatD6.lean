import Derived.Test.YtdhgdcjmhofhaaaGreatD4
import Derived.WalkKit
set_option linter.all false
set_option maxRecDepth 100000
set_option maxHeartbeats 8000000
namespace Go.Proofs.YtdhgdcjmhofhaaaGreat.Tree
open Go.RowKit Go.MuLone Tryz
def _root_.Go.CallsD.m:=@CallsD.mono
theorem Pv(p w):
  CallsD prog 110 #[.pointer (some p)] .returning w λe c w'=>e=.r (.tuple #[])/\c=.returning/\w'=w:=by
 refine callsD_of_wpS func110 rfl λb d a=>?_;apply wpS_seq;apply wpS_region;simp[wpOpsS,go_sem,recoverD,a,ntmps110,Exit.thenS];apply wpS_seq;apply wpS_seq;apply wpS_region;simp[wpOpsS,go_sem,recoverD,a,ntmps110,Exit.thenS];apply wpS_cond (t:=true) (by rfl);simp only[LU];refine wpS_of_wp (wp_ret ?_);cases b;simp_all[bodyPostS,results,Exit.thenS,results110]
theorem Jb(g:Nat)(first d)(l:∀args w,(callFunc g args).run prog w=.ok (.enter g args) w)(w)(R:Int->World->Prop)(h:cL g (first++d) (w.alloc (.cells #[.i 0] 48)) λe w'=>∃z,e=.r (.i z)/\cW w' w.1.size #[.i 0] 48/\R z w'):
  cL 81 #[.func (.func g) first d] w λe w'=>∃z W,e=.r (.i z)/\R z W/\w'=W.setCell (aD w 0) (.i z):=by
 go_enter_defers func81,ntmps81;go_wp2_with (fail);apply h.m;rintro e W ⟨z,rfl,c,i⟩;have j:W.c w 0=some (.i 0):=by simp[World.cell?,c]
 have n:W.frozen? (aD w 0)=false:=by simp[World.frozen?,c]
 go_wp2;apply JV (f:=110) (args:=#[.p w 0]) σ (by simp[go_sem]);apply(Pv (aD w 0) _).m;rintro e o p ⟨rfl,rfl,rfl⟩;have k:(W.setCell (aD w 0) (.i z)).c w 0=some (.i z):=World.cell?_setCell_same _ _ _ j;simp only[Leaves,settle];refine⟨.i z,?_,z,W,rfl,i,rfl⟩;simp[results,results81,go_sem,k]
theorem zZ(d)(g:Nat)(first c)(k:∀args w,(callFunc g args).run prog w=.ok (.enter g args) w)(w)(R:Int->World->Prop)(cs)(b:cW w d cs 83)(m:cs[0]?=some (.int .i32 0))(h:cL g (first++c) ((w.setCell (aD d 0) (.int .i32 1)).alloc (.cells #[.i 0] 48)) λe w'=>∃z,e=.r (.i z)/\cW w' w #[.i 0] 48/\(∃a,cW w' d a 83/\a[0]?=some (.int .i32 1))/\R z w'):
  cL 32 #[.p d 0,.func (.func g) first c] w λe w'=>∃z W,e=.r (.i z)/\R z W/\w'=(W.setCell (aD w 0) (.i z)).setCell (aD d 0) (.int .i32 0):=by
 have j:w.c d 0=some (.int .i32 0):=by simp[World.cell?,b,m]
 have l:w.frozen? (aD d 0)=false:=by simp[World.frozen?,b]
 have r:=(CK.1 b).1;go_enter_defers func32,ntmps32;go_wp2_with (first
  |(go_at_call 34;apply(lock_free wO (aD d 0) _ j l).m;rintro e w' ⟨rfl,rfl⟩)
  |(apply (Jb g first c k (w.setCell (aD d 0) (.int .i32 1)) (λz w'=>(∃a,cW w' d a 83/\a[0]?=some (.int .i32 1))/\R z w') (by simpa using h)).m;rintro e w' ⟨z,W,rfl,⟨⟨a,i,n⟩,p⟩,rfl⟩))
 have q:(w.setCell (aD d 0) (.int .i32 1)).1.size=w:=σ;apply JV (f:=35) (args:=#[.p d 0]) σ (by simp[go_sem]);refine(unlock_deferred wO (aD d 0) .returning _ ?_ ?_).m ?_
 .rw[DU _ _ _ _ χ];simp[World.cell?,i,n]
 .rw[World.frozen?_setCell];simp[World.frozen?,i]
 rintro e s t ⟨rfl,rfl,rfl⟩;exact⟨_,NF rfl _ _ _,z,W,rfl,p,rfl⟩
