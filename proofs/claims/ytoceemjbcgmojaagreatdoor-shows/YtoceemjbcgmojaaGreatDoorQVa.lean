import Derived.Test.YtoceemjbcgmojaaGreatDoorQTo
import Derived.Test.YtoceemjbcgmojaaGreatDoorQQe
set_option linter.all false
set_option maxRecDepth 100000
set_option maxHeartbeats 8000000
namespace Go.Proofs.YtoceemjbcgmojaaGreatDoor
section
open Go Go.RowKit Go.ChangeMaps Un
def SmallP(n:Nat):Prop:=∀w:World,Calls Tryz.prog 356 #[.int .i64 (n:Int)] w fun e w'=>e=.returned (.string (bs (dec n)))/\w'=w
theorem small_any(n:Nat)(h:n<48):SmallP n:=by
 have:n=0\/n=1\/n=2\/n=3\/n=4\/n=5\/n=6\/n=7\/n=8\/n=9\/n=10\/n=11\/n=12\/n=13\/n=14\/n=15\/n=16\/n=17\/n=18\/n=19\/n=20\/n=21\/n=22\/n=23\/n=24\/n=25\/n=26\/n=27\/n=28\/n=29\/n=30\/n=31\/n=32\/n=33\/n=34\/n=35\/n=36\/n=37\/n=38\/n=39\/n=40\/n=41\/n=42\/n=43\/n=44\/n=45\/n=46\/n=47:=by omega
 rcases this with rfl|rfl|rfl|rfl|rfl|rfl|rfl|rfl|rfl|rfl|rfl|rfl|rfl|rfl|rfl|rfl|rfl|rfl|rfl|rfl|rfl|rfl|rfl|rfl|rfl|rfl|rfl|rfl|rfl|rfl|rfl|rfl|rfl|rfl|rfl|rfl|rfl|rfl|rfl|rfl|rfl|rfl|rfl|rfl|rfl|rfl|rfl|rfl
 all_goals
  intro w
  go_enter Tryz.func356,Tryz.ntmps356
  go_wp2_with fail
  go_ret
  refine⟨?_,rfl⟩
  first
  |(rw[dec,if_pos (by decide)];kernel_rfl)
  |(rw[dec,if_neg (by decide),dec,if_pos (by decide)];kernel_rfl)
section
variable {w:World}
end
end
end Go.Proofs.YtoceemjbcgmojaaGreatDoor
