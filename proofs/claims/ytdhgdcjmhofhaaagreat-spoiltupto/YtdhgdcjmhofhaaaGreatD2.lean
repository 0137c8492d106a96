import Derived.Test.YtdhgdcjmhofhaaaGreatD1
import Derived.Test.YtdhgdcjmhofhaaaGreatProg
set_option linter.all false
namespace Go.Proofs
abbrev cL(f:FuncId)(a:Array Value)(w:World)(R:Ending->World->Prop):Prop:=Calls Tryz.prog f a w R
end Go.Proofs
namespace Go
def Calls.m:=@Calls.mono
theorem Calls.w{P f a w X v R}(h:Calls P f a w λe w'=>e=.r v/\w'=X)(k:R (.r v) X):Calls P f a w R:=h.m (by rintro _ _ ⟨rfl,rfl⟩;exact k)
end Go
