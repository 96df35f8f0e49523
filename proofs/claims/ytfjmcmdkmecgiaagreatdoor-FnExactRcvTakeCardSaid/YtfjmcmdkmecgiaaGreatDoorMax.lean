/- The model's l01Max and l01Min. -/
import Derived.Test.YtfjmcmdkmecgiaaGreatDoorProg
import Derived.Test.YtfjmcmdkmecgiaaGreatDoorPackA
namespace Go.Proofs.YtfjmcmdkmecgiaaGreatDoor
open Go.RowKit

theorem maxS_calls (a b : Int) (w : World) : Calls Tryz.prog 85 #[.int .i64 a, .int .i64 b] w fun e w' => e = .returned (.int .i64 (max a b)) ∧ w' = w := by
  go_enter Tryz.func85, Tryz.ntmps85
  go_wp2
  all_goals go_ret
  all_goals exact ⟨ret_int (by omega), rfl⟩
theorem minT_calls (a b : Int) (w : World) : Calls Tryz.prog 82 #[.int .i64 a, .int .i64 b] w fun e w' => e = .returned (.int .i64 (min a b)) ∧ w' = w := by
  go_enter Tryz.func82, Tryz.ntmps82
  go_wp2
  all_goals go_ret
  all_goals exact ⟨ret_int (by omega), rfl⟩
end Go.Proofs.YtfjmcmdkmecgiaaGreatDoor
