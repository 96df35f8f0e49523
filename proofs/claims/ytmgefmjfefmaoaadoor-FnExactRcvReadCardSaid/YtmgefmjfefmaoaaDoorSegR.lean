/- Chapter 4: is what is sent right? The program's and the model's. -/
import Derived.Test.YtmgefmjfefmaoaaDoorRows
import Derived.Test.YtmgefmjfefmaoaaDoorPackA
namespace Go.Proofs.YtmgefmjfefmaoaaDoor
open Go.RowKit

/-- What pieces and answers have in common. -/
def headOk (p s d : Int) : Prop := (0 ≤ p ∧ p ≤ 3) ∧ (0 ≤ s ∧ s ≤ 1000000) ∧ (0 ≤ d ∧ d ≤ 1000000)
instance (p s d : Int) : Decidable (headOk p s d) := by unfold headOk; infer_instance
def segOk (p s d : Int) (t : List UInt8) (e : Int) : Prop := headOk p s d ∧ t.length ≤ 16 ∧ (-1 ≤ e ∧ e ≤ 1000000)
instance (p s d : Int) (t : List UInt8) (e : Int) : Decidable (segOk p s d t e) := by unfold segOk; infer_instance
def ackOk (p s d e : Int) : Prop := headOk p s d ∧ (0 ≤ e ∧ e ≤ 1000000)
instance (p s d e : Int) : Decidable (ackOk p s d e) := by unfold ackOk; infer_instance

/-- A Seg, an Ack. -/
abbrev segV (p s d : Int) (t : List UInt8) (e : Int) : Value := .agg #[.int .i64 p, .int .i64 s, .int .i64 d, gs t, .int .i64 e]
abbrev ackV (p s d e : Int) : Value := .agg #[.int .i64 p, .int .i64 s, .int .i64 d, .int .i64 e]

theorem tmI_calls (n : Int) (w : World) : Calls Tryd.prog 76 #[.int .i64 n] w fun e w' => e = .returned (.bool (decide (0 ≤ n ∧ n ≤ 1000000))) ∧ w' = w := by
  go_enter Tryd.func76, Tryd.ntmps76
  go_wp2
  all_goals go_ret
  all_goals refine ⟨ret_bool ?_, rfl⟩
  all_goals simp <;> omega
theorem tmS_calls (n : Int) (w : World) : Calls Tryd.prog 35 #[.int .i64 n] w fun e w' => e = .returned (.bool (decide (0 ≤ n ∧ n ≤ 1000000))) ∧ w' = w := by
  go_enter Tryd.func35, Tryd.ntmps35
  go_wp2
  all_goals go_ret
  all_goals refine ⟨ret_bool ?_, rfl⟩
  all_goals simp <;> omega
theorem isS_calls (n a b : Int) (w : World) : Calls Tryd.prog 36 #[.int .i64 n, .int .i64 a, .int .i64 b] w fun e w' => e = .returned (.bool (decide (a ≤ n ∧ n ≤ b))) ∧ w' = w := by
  go_enter Tryd.func36, Tryd.ntmps36
  go_wp2
  all_goals go_ret
  all_goals refine ⟨ret_bool ?_, rfl⟩
  all_goals simp <;> omega

/-- One of three tests fails, or none. -/
theorem head_cases (p s d : Int) : (¬ (0 ≤ p ∧ p ≤ 3) ∧ ¬ headOk p s d) ∨ ((0 ≤ p ∧ p ≤ 3) ∧ ¬ (0 ≤ s ∧ s ≤ 1000000) ∧ ¬ headOk p s d) ∨ ((0 ≤ p ∧ p ≤ 3) ∧ (0 ≤ s ∧ s ≤ 1000000) ∧ ¬ (0 ≤ d ∧ d ≤ 1000000) ∧ ¬ headOk p s d) ∨ ((0 ≤ p ∧ p ≤ 3) ∧ (0 ≤ s ∧ s ≤ 1000000) ∧ (0 ≤ d ∧ d ≤ 1000000) ∧ headOk p s d) := by
  unfold headOk; omega

end Go.Proofs.YtmgefmjfefmaoaaDoor
