/- The model's l02Is. -/
import Derived.Test.YtfjmcmdkmecgiaaProg
import Derived.Test.YtfjmcmdkmecgiaaBase
import Derived.IntWalk
namespace Go.Proofs.Ytfjmcmdkmecgiaa
open Go.RowKit

theorem isC_calls (x lo hi : Int) (w : World) : Calls Try.prog 23 #[.int .i64 x, .int .i64 lo, .int .i64 hi] w fun e w' => e = .returned (.bool (decide (lo ≤ x ∧ x ≤ hi))) ∧ w' = w := by
  have hd : decide (lo ≤ x ∧ x ≤ hi) = (decide (lo ≤ x) && decide (x ≤ hi)) := by simp
  rw [hd]
  by_cases h : x ≥ lo
  · go_enter Try.func23, Try.ntmps23
    go_wp2
    go_ret
    exact ⟨ret_bool (by rw [decide_eq_true h]; simp), rfl⟩
  · have HD := Lib.hid (decide_eq_false h)
    go_enter Try.func23, Try.ntmps23
    go_wp2
    go_ret
    exact ⟨ret_bool (by rw [HD.out]; simp), rfl⟩
end Go.Proofs.Ytfjmcmdkmecgiaa
