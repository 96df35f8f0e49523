/- Clocks: the laws' words, and the model. -/
import Derived.Test.YtfjmcmdkmecgiaaRows
import Derived.Test.YtfjmcmdkmecgiaaBase
import Derived.Test.YtfjmcmdkmecgiaaProg
import Derived.IntWalk
import Derived.Test.YtfjmcmdkmecgiaaIs
import Derived.Test.YtfjmcmdkmecgiaaMax
namespace Go.Proofs.Ytfjmcmdkmecgiaa
open Go.RowKit

/-- A clock as a value: Mean, Var, Rto. -/
abbrev clkV (m v r : Int) : Value := .agg #[.int .i64 m, .int .i64 v, .int .i64 r]
def clkRight (m v r : Int) : Prop := (0 ≤ m ∧ m ≤ 1000) ∧ (0 ≤ v ∧ v ≤ 1000) ∧ 4 ≤ r ∧ r ≤ 64
instance (m v r : Int) : Decidable (clkRight m v r) := by unfold clkRight; infer_instance
/-- How long an answer took, cut. -/
def tookN (t : Int) : Int := max 0 (min t 1000)
def meanN (m v t : Int) : Int := if m = 0 ∧ v = 0 then tookN t else (7 * m + tookN t) / 8
def varN (m v t : Int) : Int := if m = 0 ∧ v = 0 then tookN t / 2 else (3 * v + max (tookN t - m) (m - tookN t)) / 4
def rtoN (m v t : Int) : Int := max 4 (min (meanN m v t + 4 * varN m v t) 64)

theorem toClock_calls (m v r : Int) (w : World) : Calls Try.prog 55 #[clkV m v r] w fun e w' => e = .returned (clkV m v r) ∧ Below w.heap.size w w' := by
  go_enter Try.func55, Try.ntmps55
  go_wp2
  refine bodyPost_ret (v := clkV m v r) (by simp [results, Try.results55, go_sem]) rfl ⟨rfl, ?_⟩
  exact (((Below.refl _ _).alloc (Nat.le_refl _) _).alloc (by simp) _).alloc (by simp; omega) _
theorem eqClock_same (m v r : Int) (w : World) : Calls Try.prog 59 #[clkV m v r, clkV m v r] w fun e w' => e = .returned (.bool true) ∧ Below w.heap.size w w' := by
  go_enter Try.func59, Try.ntmps59
  go_wp2
  go_ret
  exact ⟨rfl, ((Below.refl _ _).alloc (Nat.le_refl _) _).alloc (by simp) _⟩
set_option maxHeartbeats 1000000 in
theorem clkRightS_calls (m v r : Int) (w : World) : Calls Try.prog 42 #[clkV m v r] w fun e w' => e = .returned (.bool (decide (clkRight m v r))) ∧ Below w.heap.size w w' := by
  have h1 := fun W => isC_calls m 0 1000 W
  have h2 := fun W => isC_calls v 0 1000 W
  have h3 := fun W => isC_calls r 4 64 W
  have hd : decide (clkRight m v r) = (decide (0 ≤ m ∧ m ≤ 1000) && (decide (0 ≤ v ∧ v ≤ 1000) && decide (4 ≤ r ∧ r ≤ 64))) := by
    rw [Bool.eq_iff_iff]
    simp only [decide_eq_true_iff, Bool.and_eq_true]
    exact Iff.rfl
  rw [hd]
  generalize decide (0 ≤ m ∧ m ≤ 1000) = b1 at *
  generalize decide (0 ≤ v ∧ v ≤ 1000) = b2 at *
  generalize decide (4 ≤ r ∧ r ≤ 64) = b3 at *
  have H1 := Lib.hid h1
  have H2 := Lib.hid h2
  have H3 := Lib.hid h3
  clear h1 h2 h3 hd
  cases b1 <;> cases b2
  all_goals
    go_enter Try.func42, Try.ntmps42
    go_wp2_with fail
    refine (H1.out _).mono ?_
    rintro e w1 ⟨rfl, rfl⟩
    first
      | (go_wp2_with fail
         refine (H2.out _).mono ?_
         rintro e w1 ⟨rfl, rfl⟩
         first
           | (go_wp2_with fail
              refine (H3.out _).mono ?_
              rintro e w1 ⟨rfl, rfl⟩
              go_wp2_with fail
              go_ret
              exact ⟨ret_bool (by simp), (Below.refl _ _).alloc (Nat.le_refl _) _⟩)
           | (go_wp2_with fail
              go_ret
              exact ⟨ret_bool (by simp), (Below.refl _ _).alloc (Nat.le_refl _) _⟩))
      | (go_wp2_with fail
         go_ret
         exact ⟨ret_bool (by simp), (Below.refl _ _).alloc (Nat.le_refl _) _⟩)
theorem clkNewS_calls (w : World) : Calls Try.prog 30 #[] w fun e w' => e = .returned (clkV 0 0 8) ∧ Below w.heap.size w w' := by
  go_enter Try.func30, Try.ntmps30
  go_wp2
  first
    | (go_ret; exact ⟨rfl, by first | exact Below.refl _ _ | exact (Below.refl _ _).alloc (Nat.le_refl _) _⟩)
    | (refine bodyPost_ret (v := clkV 0 0 8) (by simp [results, Try.results30, go_sem]) rfl ⟨rfl, (Below.refl _ _).alloc (Nat.le_refl _) _⟩)
end Go.Proofs.Ytfjmcmdkmecgiaa
