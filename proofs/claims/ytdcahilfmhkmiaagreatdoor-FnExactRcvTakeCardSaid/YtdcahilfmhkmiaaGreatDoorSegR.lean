/- Chapter 4: is what is sent right? The program's and the model's. -/
import Derived.Test.YtdcahilfmhkmiaaGreatDoorRows
import Derived.Test.YtdcahilfmhkmiaaGreatDoorPackA
namespace Go.Proofs.YtdcahilfmhkmiaaGreatDoor
open Go.RowKit

/-- What pieces and answers have in common. -/
def headOk (p s d : Int) : Prop := (0 ≤ p ∧ p ≤ 3) ∧ (0 ≤ s ∧ s ≤ 1000000) ∧ (0 ≤ d ∧ d ≤ 1000000)
instance (p s d : Int) : Decidable (headOk p s d) := by unfold headOk; infer_instance
def segOk (p s d : Int) (t : List UInt8) (e : Int) : Prop := headOk p s d ∧ t.length ≤ 16 ∧ (-1 ≤ e ∧ e ≤ 1000000)
instance (p s d : Int) (t : List UInt8) (e : Int) : Decidable (segOk p s d t e) := by unfold segOk; infer_instance
def ackOk (p s d e : Int) : Prop := headOk p s d ∧ (0 ≤ e ∧ e ≤ 1000000)
instance (p s d e : Int) : Decidable (ackOk p s d e) := by unfold ackOk; infer_instance

/-- A Seg, an Ack. -/
abbrev segV (p s d : Int) (t : List UInt8) (e : Int) : Value := .agg #[.int .i64 p, .int .i64 s, .int .i64 d, gs t, .int .i64 e]
abbrev ackV (p s d e : Int) : Value := .agg #[.int .i64 p, .int .i64 s, .int .i64 d, .int .i64 e]

theorem tmI_calls (n : Int) (w : World) : Calls Tryz.prog 149 #[.int .i64 n] w fun e w' => e = .returned (.bool (decide (0 ≤ n ∧ n ≤ 1000000))) ∧ w' = w := by
  go_enter Tryz.func149, Tryz.ntmps149
  go_wp2
  all_goals go_ret
  all_goals refine ⟨ret_bool ?_, rfl⟩
  all_goals simp <;> omega
theorem tmS_calls (n : Int) (w : World) : Calls Tryz.prog 84 #[.int .i64 n] w fun e w' => e = .returned (.bool (decide (0 ≤ n ∧ n ≤ 1000000))) ∧ w' = w := by
  go_enter Tryz.func84, Tryz.ntmps84
  go_wp2
  all_goals go_ret
  all_goals refine ⟨ret_bool ?_, rfl⟩
  all_goals simp <;> omega
theorem isS_calls (n a b : Int) (w : World) : Calls Tryz.prog 77 #[.int .i64 n, .int .i64 a, .int .i64 b] w fun e w' => e = .returned (.bool (decide (a ≤ n ∧ n ≤ b))) ∧ w' = w := by
  go_enter Tryz.func77, Tryz.ntmps77
  go_wp2
  all_goals go_ret
  all_goals refine ⟨ret_bool ?_, rfl⟩
  all_goals simp <;> omega

/-- One of three tests fails, or none. -/
theorem head_cases (p s d : Int) : (¬ (0 ≤ p ∧ p ≤ 3) ∧ ¬ headOk p s d) ∨ ((0 ≤ p ∧ p ≤ 3) ∧ ¬ (0 ≤ s ∧ s ≤ 1000000) ∧ ¬ headOk p s d) ∨ ((0 ≤ p ∧ p ≤ 3) ∧ (0 ≤ s ∧ s ≤ 1000000) ∧ ¬ (0 ≤ d ∧ d ≤ 1000000) ∧ ¬ headOk p s d) ∨ ((0 ≤ p ∧ p ≤ 3) ∧ (0 ≤ s ∧ s ≤ 1000000) ∧ (0 ≤ d ∧ d ≤ 1000000) ∧ headOk p s d) := by
  unfold headOk; omega

set_option maxHeartbeats 1000000 in
set_option maxRecDepth 100000 in
theorem headI_calls (p s d : Int) (w : World) : Calls Tryz.prog 236 #[.agg #[.int .i64 p, .int .i64 s, .int .i64 d]] w fun e w' => e = .returned (.bool (decide (headOk p s d))) ∧ Below w.heap.size w w' := by
  have hs := tmI_calls s
  have hd := tmI_calls d
  rcases head_cases p s d with ⟨h1, h⟩ | ⟨h1, h2, h⟩ | ⟨h1, h2, h3, h⟩ | ⟨h1, h2, h3, h⟩
  · rw [decide_eq_false h]
    clear hs hd h
    go_enter Tryz.func236, Tryz.ntmps236
    go_wp2
    all_goals go_ret
    all_goals exact ⟨ret_bool (by first | rfl | (exfalso; omega)), by go_grown⟩
  · rw [decide_eq_false h]
    rw [decide_eq_false h2] at hs
    obtain ⟨a1, a2⟩ := h1
    have HS := Lib.hid hs
    clear hs hd h h2
    go_enter Tryz.func236, Tryz.ntmps236
    go_wp2_with (go_at_call 149; (with_reducible refine (HS.out _).mono ?_); rintro e w1 ⟨rfl, rfl⟩)
    go_ret
    exact ⟨rfl, by go_grown⟩
  · rw [decide_eq_false h]
    rw [decide_eq_false h3] at hd
    rw [decide_eq_true h2] at hs
    obtain ⟨a1, a2⟩ := h1
    have HS := Lib.hid hs
    have HD := Lib.hid hd
    clear hs hd h h2 h3
    go_enter Tryz.func236, Tryz.ntmps236
    go_wp2_with fail
    (with_reducible refine (HS.out _).mono ?_); rintro e w1 ⟨rfl, rfl⟩
    go_wp2_with fail
    (with_reducible refine (HD.out _).mono ?_); rintro e w1 ⟨rfl, rfl⟩
    go_wp2_with fail
    go_ret
    exact ⟨rfl, by go_grown⟩
  · rw [decide_eq_true h]
    rw [decide_eq_true h3] at hd
    rw [decide_eq_true h2] at hs
    obtain ⟨a1, a2⟩ := h1
    have HS := Lib.hid hs
    have HD := Lib.hid hd
    clear hs hd h h2 h3
    go_enter Tryz.func236, Tryz.ntmps236
    go_wp2_with fail
    (with_reducible refine (HS.out _).mono ?_); rintro e w1 ⟨rfl, rfl⟩
    go_wp2_with fail
    (with_reducible refine (HD.out _).mono ?_); rintro e w1 ⟨rfl, rfl⟩
    go_wp2_with fail
    go_ret
    exact ⟨rfl, by go_grown⟩
end Go.Proofs.YtdcahilfmhkmiaaGreatDoor
