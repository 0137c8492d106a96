/-
  Joined: Locks.
-/
import Derived.Test.YtngpplmndpmgiaaGreatProg
import Derived.Conc.MuLone
import Derived.KernelRfl
set_option linter.unusedSimpArgs false
set_option linter.unusedVariables false
namespace Go.Proofs.YtngpplmndpmgiaaGreat.Tree
open Go.Conc.Locks
abbrev muLink:MuLink:={ lock:=30,unlock:=31,ilock:=55,iunlock:=56,lockSlow:=84,unlockSlow:=87,disable:=80,enable:=82,acquire:=83,relMerge:=85,cas32:=81,add32:=86,tMutex:=69,tIMutex:=67,tPMutex:=114,tPIMutex:=139,tPI32:=141,tUP:=143,tNoCopy:=64,tU32:=65 }
theorem muLib:MuLib Tryz.prog muLink :=
  ⟨Tryz.func30,Tryz.func31,Tryz.func55,Tryz.func56,Tryz.func80,Tryz.func82,Tryz.func83,Tryz.func85,Tryz.func81,Tryz.func86,
   Tryz.underlying67,Tryz.runUnderlying67,Tryz.sizeOf67,Tryz.isAgg67,Tryz.zeroValue67,
   Tryz.underlying69,Tryz.runUnderlying69,Tryz.sizeOf69,Tryz.isAgg69,Tryz.zeroValue69,
   Tryz.underlying114,Tryz.runUnderlying114,Tryz.sizeOf114,Tryz.isAgg114,Tryz.zeroValue114,
   Tryz.underlying139,Tryz.runUnderlying139,Tryz.sizeOf139,Tryz.isAgg139,Tryz.zeroValue139,
   Tryz.underlying141,Tryz.runUnderlying141,Tryz.sizeOf141,Tryz.isAgg141,Tryz.zeroValue141,
   Tryz.underlying143,Tryz.runUnderlying143,Tryz.sizeOf143,Tryz.isAgg143,Tryz.zeroValue143,
   Tryz.underlying64,Tryz.runUnderlying64,Tryz.sizeOf64,Tryz.isAgg64,Tryz.zeroValue64,
   Tryz.underlying21,Tryz.runUnderlying21,Tryz.sizeOf21,Tryz.isAgg21,Tryz.zeroValue21,
   by kernel_rfl⟩
end Go.Proofs.YtngpplmndpmgiaaGreat.Tree
