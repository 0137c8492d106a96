import Derived.Test.YtpifffkkgnbfpaaGreatProg
import Derived.Conc.MuLone
set_option linter.unusedSimpArgs false
set_option linter.unusedVariables false
namespace Go.Proofs.YtpifffkkgnbfpaaGreat.Tree
open Go.Conc.Locks
abbrev qEx:MuLink:={ lock:=37,unlock:=38,ilock:=66,iunlock:=67,lockSlow:=94,unlockSlow:=97,disable:=90,enable:=92,acquire:=93,relMerge:=95,cas32:=91,add32:=96,tMutex:=82,tIMutex:=80,tPMutex:=124,tPIMutex:=158,tPI32:=160,tUP:=162,tNoCopy:=77,tU32:=78 }
theorem Hc:MuLib Tryz.prog qEx :=
  ⟨Tryz.func37,Tryz.func38,Tryz.func66,Tryz.func67,Tryz.func90,Tryz.func92,Tryz.func93,Tryz.func95,Tryz.func91,Tryz.func96,
   Tryz.underlying80,Tryz.runUnderlying80,Tryz.sizeOf80,Tryz.isAgg80,Tryz.zeroValue80,
   Tryz.underlying82,Tryz.runUnderlying82,Tryz.sizeOf82,Tryz.isAgg82,Tryz.zeroValue82,
   Tryz.underlying124,Tryz.runUnderlying124,Tryz.sizeOf124,Tryz.isAgg124,Tryz.zeroValue124,
   Tryz.underlying158,Tryz.runUnderlying158,Tryz.sizeOf158,Tryz.isAgg158,Tryz.zeroValue158,
   Tryz.underlying160,Tryz.runUnderlying160,Tryz.sizeOf160,Tryz.isAgg160,Tryz.zeroValue160,
   Tryz.underlying162,Tryz.runUnderlying162,Tryz.sizeOf162,Tryz.isAgg162,Tryz.zeroValue162,
   Tryz.underlying77,Tryz.runUnderlying77,Tryz.sizeOf77,Tryz.isAgg77,Tryz.zeroValue77,
   Tryz.underlying21,Tryz.runUnderlying21,Tryz.sizeOf21,Tryz.isAgg21,Tryz.zeroValue21,
   by kernel_rfl⟩
