/- The model's l01Max and l01Min. -/
import Derived.Test.YtmgefmjfefmaoaaDoorProg
import Derived.Test.YtmgefmjfefmaoaaDoorPackA
namespace Go.Proofs.YtmgefmjfefmaoaaDoor
open Go.RowKit

theorem maxS_calls (a b : Int) (w : World) : Calls Tryd.prog 20 #[.int .i64 a, .int .i64 b] w fun e w' => e = .returned (.int .i64 (max a b)) ∧ w' = w := by
  go_enter Tryd.func20, Tryd.ntmps20
  go_wp2
  all_goals go_ret
  all_goals exact ⟨ret_int (by omega), rfl⟩
theorem minT_calls (a b : Int) (w : World) : Calls Tryd.prog 17 #[.int .i64 a, .int .i64 b] w fun e w' => e = .returned (.int .i64 (min a b)) ∧ w' = w := by
  go_enter Tryd.func17, Tryd.ntmps17
  go_wp2
  all_goals go_ret
  all_goals exact ⟨ret_int (by omega), rfl⟩
end Go.Proofs.YtmgefmjfefmaoaaDoor
