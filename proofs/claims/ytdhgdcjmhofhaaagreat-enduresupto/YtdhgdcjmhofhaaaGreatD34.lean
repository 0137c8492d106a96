import Derived.Test.YtdhgdcjmhofhaaaGreatD30
import Derived.Shelf.Pu.Clone
set_option linter.all false
set_option maxRecDepth 100000
set_option maxHeartbeats 8000000
namespace Go.Proofs.YtdhgdcjmhofhaaaGreat.Tree
open Go.RowKit Pages Go.Shelf
def clT(x:TypeId):TypeId:=match x with
 |0=>0
 |3=>3
 |4=>4
 |5=>5
 |9=>9
 |37=>108
 |47=>187
 |_=>0
def qMt:Ren:=⟨λ_=>90,clT,λx=>x⟩
def qLv:LaysPu.n25 Tryz.prog qMt where
 mixed:=by kernel_rfl
 f25:=by kernel_rfl
 t0:=by kernel_rfl
 a0:=λw=>by kernel_rfl
 z0:=λw=>by kernel_rfl
 v0:=λw=>by kernel_rfl
 i0:=by kernel_rfl
 t3:=by kernel_rfl
 a3:=λw=>by kernel_rfl
 z3:=λw=>by kernel_rfl
 v3:=λw=>by kernel_rfl
 i3:=by kernel_rfl
 t4:=by kernel_rfl
 a4:=λw=>by kernel_rfl
 z4:=λw=>by kernel_rfl
 v4:=λw=>by kernel_rfl
 i4:=by kernel_rfl
 t5:=by kernel_rfl
 a5:=λw=>by kernel_rfl
 z5:=λw=>by kernel_rfl
 v5:=λw=>by kernel_rfl
 i5:=by kernel_rfl
 t9:=by kernel_rfl
 a9:=λw=>by kernel_rfl
 z9:=λw=>by kernel_rfl
 v9:=λw=>by kernel_rfl
 i9:=by kernel_rfl
 t37:=by kernel_rfl
 a37:=λw=>by kernel_rfl
 z37:=λw=>by kernel_rfl
 v37:=λw=>by kernel_rfl
 i37:=by kernel_rfl
 t47:=by kernel_rfl
 a47:=λw=>by kernel_rfl
 z47:=λw=>by kernel_rfl
 v47:=λw=>by kernel_rfl
 i47:=by kernel_rfl
def rC(s)(c:s.size<=281474976710656)(w):
  cL 41 #[.t s] w λe w'=>e=.r (.t s)/\bW w w':=by
 have a:cL 90 #[.t s] w λe w'=>e=.r (.t s)/\bW w w':=AnyPu.stringslite_Clone qLv s w c;go_enter Tryz.func41,Tryz.ntmps41;go_wp2_with (go_at_call 90;apply Calls.m a;rintro e d ⟨rfl,b⟩);go_ret;simp_all
