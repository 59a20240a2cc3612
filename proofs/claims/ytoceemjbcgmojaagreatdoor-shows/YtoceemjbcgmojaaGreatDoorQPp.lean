import Derived.Test.YtoceemjbcgmojaaGreatDoorQPk
set_option linter.all false
set_option maxRecDepth 100000
set_option maxHeartbeats 200000
namespace Go.Proofs.YtoceemjbcgmojaaGreatDoor
section
open Go Go.RowKit Go.ChangeMaps
abbrev zF:Array Value:=#[.int .i64 0,.int .i64 0,.int .i64 0]
theorem asGiveUp(a b c:Value)(w:World):(Instr.typeAssert (.iface 231 (.agg #[a,b,c])) 20 231 true).run Tryz.prog w=.ok (.tuple #[.agg #[a,b,c],.bool true]) w:=by kernel_rfl
section
variable {w:World}
end
end
end Go.Proofs.YtoceemjbcgmojaaGreatDoor
