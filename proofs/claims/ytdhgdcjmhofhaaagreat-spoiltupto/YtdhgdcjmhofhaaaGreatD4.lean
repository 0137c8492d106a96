import Derived.Test.YtdhgdcjmhofhaaaGreatD2
import Derived.Conc.MuLone
set_option linter.all false
namespace Go.Proofs.YtdhgdcjmhofhaaaGreat.Tree
open Go.Conc.Locks
abbrev qQl:MuLink:={lock:=34,unlock:=35,ilock:=87,iunlock:=88,lockSlow:=122,unlockSlow:=125,disable:=118,enable:=120,acquire:=121,relMerge:=123,cas32:=119,add32:=124,tMutex:=78,tIMutex:=76,tPMutex:=142,tPIMutex:=179,tPI32:=181,tUP:=183,tNoCopy:=73,tU32:=74}
theorem wO:MuLib Tryz.prog qQl :=
  ⟨Tryz.func34,Tryz.func35,Tryz.func87,Tryz.func88,Tryz.func118,Tryz.func120,Tryz.func121,Tryz.func123,Tryz.func119,Tryz.func124,
   Tryz.underlying76,Tryz.runUnderlying76,Tryz.sizeOf76,Tryz.isAgg76,Tryz.zeroValue76,
   Tryz.underlying78,Tryz.runUnderlying78,Tryz.sizeOf78,Tryz.isAgg78,Tryz.zeroValue78,
   Tryz.underlying142,Tryz.runUnderlying142,Tryz.sizeOf142,Tryz.isAgg142,Tryz.zeroValue142,
   Tryz.underlying179,Tryz.runUnderlying179,Tryz.sizeOf179,Tryz.isAgg179,Tryz.zeroValue179,
   Tryz.underlying181,Tryz.runUnderlying181,Tryz.sizeOf181,Tryz.isAgg181,Tryz.zeroValue181,
   Tryz.underlying183,Tryz.runUnderlying183,Tryz.sizeOf183,Tryz.isAgg183,Tryz.zeroValue183,
   Tryz.underlying73,Tryz.runUnderlying73,Tryz.sizeOf73,Tryz.isAgg73,Tryz.zeroValue73,
   Tryz.underlying21,Tryz.runUnderlying21,Tryz.sizeOf21,Tryz.isAgg21,Tryz.zeroValue21,
   by kernel_rfl⟩
