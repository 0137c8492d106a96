import Derived.Test.YtdhgdcjmhofhaaaGreatD30
import Derived.Shelf.Pu.Clone
set_option linter.all false
set_option maxRecDepth 100000
set_option maxHeartbeats 8000000
namespace Go.Proofs.YtdhgdcjmhofhaaaGreat.Tree
open Go.RowKit Pages Go.Shelf Tryz
def clT(x:TypeId):TypeId:=match x with
 |0=>0
 |3=>3
 |4=>4
 |5=>5
 |9=>9
 |37=>108
 |47=>187
 |_=>0
def qRz:Ren:=⟨λ_=>90,clT,λx=>x⟩
theorem qQx:LaysPu.n25 prog qRz where
 mixed:=κ
 f25:=κ;t0:=κ;a0:=λw=>by kernel_rfl
 z0:=λw=>by kernel_rfl
 v0:=λw=>by kernel_rfl
 i0:=κ;t3:=κ;a3:=λw=>by kernel_rfl
 z3:=λw=>by kernel_rfl
 v3:=λw=>by kernel_rfl
 i3:=κ;t4:=κ;a4:=λw=>by kernel_rfl
 z4:=λw=>by kernel_rfl
 v4:=λw=>by kernel_rfl
 i4:=κ;t5:=κ;a5:=λw=>by kernel_rfl
 z5:=λw=>by kernel_rfl
 v5:=λw=>by kernel_rfl
 i5:=κ;t9:=κ;a9:=λw=>by kernel_rfl
 z9:=λw=>by kernel_rfl
 v9:=λw=>by kernel_rfl
 i9:=κ;t37:=κ;a37:=λw=>by kernel_rfl
 z37:=λw=>by kernel_rfl
 v37:=λw=>by kernel_rfl
 i37:=κ;t47:=κ;a47:=λw=>by kernel_rfl
 z47:=λw=>by kernel_rfl
 v47:=λw=>by kernel_rfl
 i47:=κ
theorem sF(s)(c:s.size<=281474976710656)(w):
  cL 41 #[.t s] w λe w'=>e=.r (.t s)/\bW w w':=by
 have a:=AnyPu.stringslite_Clone qQx s w c;go_enter func41,ntmps41;go_wp2_with (apply Calls.m a;rintro e d ⟨rfl,b⟩);go_ret;simp_all
