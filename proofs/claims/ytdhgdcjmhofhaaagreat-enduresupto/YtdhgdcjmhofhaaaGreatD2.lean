import Derived.Test.YtdhgdcjmhofhaaaGreatD1
import Derived.Test.YtdhgdcjmhofhaaaGreatProg
set_option linter.all false
namespace Go.Proofs
abbrev cL(f:FuncId)(a:Array Value)(w:World)(R:Ending->World->Prop):Prop:=Calls Tryz.prog f a w R
end Go.Proofs
namespace Go
def Calls.m:=@Calls.mono
end Go
