import Derived.Test.YtoceemjbcgmojaaGreatDoorQTo
import Derived.Test.YtoceemjbcgmojaaGreatDoorQTf
set_option linter.all false
set_option maxRecDepth 100000
set_option maxHeartbeats 200000
namespace Go.Proofs.YtoceemjbcgmojaaGreatDoor
section
open Go Go.RowKit Un
section
variable {w:World} {kb:Nat} {hv iv:Value} {N:Nat} {K:Nat->Option Ty} {P:Nat->Prop} {R:Nat->Ty} {rk:Nat->Nat}
end
end
section
open Go Go.RowKit Un
section
variable {w w':World} {pb kb base:Nat} {hv iv:Value} {N:Nat} {K:Nat->Option Ty} {P:Nat->Prop} {lv:Value} {l:List Nat}
end
mutual
def Wf:Ty->Prop
 |.var _=>True|.con c l=>okN c l.length/\WfL l
def WfL:List Ty->Prop
 |[]=>True|t::l=>Wf t/\WfL l
end
end
section
open Go Go.RowKit Un
end
end Go.Proofs.YtoceemjbcgmojaaGreatDoor
