/- SegRight and AckRight, the model's. -/
import Derived.Test.YtdcahilfmhkmiaaGreatDoorSegRI
namespace Go.Proofs.YtdcahilfmhkmiaaGreatDoor
open Go.RowKit

theorem segS_cases (p s d : Int) (t : List UInt8) (e : Int) : (¬ (0 ≤ p ∧ p ≤ 3) ∧ ¬ segOk p s d t e) ∨ ((0 ≤ p ∧ p ≤ 3) ∧ ¬ (0 ≤ s ∧ s ≤ 1000000) ∧ ¬ segOk p s d t e) ∨ ((0 ≤ p ∧ p ≤ 3) ∧ (0 ≤ s ∧ s ≤ 1000000) ∧ ¬ (0 ≤ d ∧ d ≤ 1000000) ∧ ¬ segOk p s d t e)
    ∨ ((0 ≤ p ∧ p ≤ 3) ∧ (0 ≤ s ∧ s ≤ 1000000) ∧ (0 ≤ d ∧ d ≤ 1000000) ∧ ¬ t.length ≤ 16 ∧ ¬ segOk p s d t e) ∨ ((0 ≤ p ∧ p ≤ 3) ∧ (0 ≤ s ∧ s ≤ 1000000) ∧ (0 ≤ d ∧ d ≤ 1000000) ∧ t.length ≤ 16 ∧ (decide (-1 ≤ e ∧ e ≤ 1000000) = decide (segOk p s d t e))) := by
  rcases seg_cases p s d t e with ⟨h1, h⟩ | ⟨h1, h2, h⟩ | ⟨h1, h2, h3, h⟩ | ⟨h1, h2, h3, h4, h⟩ | ⟨h1, h2, h3, h4, h⟩
  · unfold headOk at h1
    simp only [h, not_false_eq_true, and_true]
    omega
  all_goals
    obtain ⟨k1, k2, k3⟩ := h1
    simp only [h, k1, k2, k3, decide_false, decide_true, decide_eq_true_eq, decide_eq_false_iff_not, not_false_eq_true, and_true, true_and]
    omega
theorem ackS_cases (p s d e : Int) : (¬ (0 ≤ p ∧ p ≤ 3) ∧ ¬ ackOk p s d e) ∨ ((0 ≤ p ∧ p ≤ 3) ∧ ¬ (0 ≤ s ∧ s ≤ 1000000) ∧ ¬ ackOk p s d e) ∨ ((0 ≤ p ∧ p ≤ 3) ∧ (0 ≤ s ∧ s ≤ 1000000) ∧ ¬ (0 ≤ d ∧ d ≤ 1000000) ∧ ¬ ackOk p s d e)
    ∨ ((0 ≤ p ∧ p ≤ 3) ∧ (0 ≤ s ∧ s ≤ 1000000) ∧ (0 ≤ d ∧ d ≤ 1000000) ∧ (decide (0 ≤ e ∧ e ≤ 1000000) = decide (ackOk p s d e))) := by
  rcases ack_cases p s d e with ⟨h1, h⟩ | ⟨h1, h2, h⟩ | ⟨h1, h2, h⟩
  · unfold headOk at h1
    simp only [h, not_false_eq_true, and_true]
    omega
  all_goals
    obtain ⟨k1, k2, k3⟩ := h1
    simp only [h, k1, k2, k3, decide_false, decide_true, decide_eq_true_eq, decide_eq_false_iff_not, not_false_eq_true, and_true, true_and]
    omega

set_option maxHeartbeats 1000000 in
set_option maxRecDepth 100000 in
theorem segRightS_calls (p s d : Int) (t : List UInt8) (e : Int) (w : World) (hl : t.length ≤ 9223372036854775807) :
    Calls Tryz.prog 48 #[segV p s d t e] w fun x w' => x = .returned (.bool (decide (segOk p s d t e))) ∧ Below w.heap.size w w' := by
  have hp := isS_calls p 0 3
  have hs := tmS_calls s
  have hd := tmS_calls d
  have he := isS_calls e (-1) 1000000
  rcases segS_cases p s d t e with ⟨h1, h⟩ | ⟨h1, h2, h⟩ | ⟨h1, h2, h3, h⟩ | ⟨h1, h2, h3, h4, h⟩ | ⟨h1, h2, h3, h4, h⟩
  · rw [decide_eq_false h]
    rw [decide_eq_false h1] at hp
    have HP := Lib.hid hp
    clear hp hs hd he h h1
    go_enter Tryz.func48, Tryz.ntmps48
    go_wp2_with fail
    (with_reducible refine (HP.out _).mono ?_); rintro e w1 ⟨rfl, rfl⟩
    go_wp2_with fail
    go_ret
    exact ⟨rfl, by go_grown⟩
  · rw [decide_eq_false h]
    rw [decide_eq_true h1] at hp
    rw [decide_eq_false h2] at hs
    have HP := Lib.hid hp
    have HS := Lib.hid hs
    clear hp hs hd he h h1 h2
    go_enter Tryz.func48, Tryz.ntmps48
    go_wp2_with fail
    (with_reducible refine (HP.out _).mono ?_); rintro e w1 ⟨rfl, rfl⟩
    go_wp2_with fail
    (with_reducible refine (HS.out _).mono ?_); rintro e w1 ⟨rfl, rfl⟩
    go_wp2_with fail
    go_ret
    exact ⟨rfl, by go_grown⟩
  · rw [decide_eq_false h]
    rw [decide_eq_true h1] at hp
    rw [decide_eq_true h2] at hs
    rw [decide_eq_false h3] at hd
    have HP := Lib.hid hp
    have HS := Lib.hid hs
    have HD := Lib.hid hd
    clear hp hs hd he h h1 h2 h3
    go_enter Tryz.func48, Tryz.ntmps48
    go_wp2_with fail
    (with_reducible refine (HP.out _).mono ?_); rintro e w1 ⟨rfl, rfl⟩
    go_wp2_with fail
    (with_reducible refine (HS.out _).mono ?_); rintro e w1 ⟨rfl, rfl⟩
    go_wp2_with fail
    (with_reducible refine (HD.out _).mono ?_); rintro e w1 ⟨rfl, rfl⟩
    go_wp2_with fail
    go_ret
    exact ⟨rfl, by go_grown⟩
  · rw [decide_eq_false h]
    rw [decide_eq_true h1] at hp
    rw [decide_eq_true h2] at hs
    rw [decide_eq_true h3] at hd
    have HP := Lib.hid hp
    have HS := Lib.hid hs
    have HD := Lib.hid hd
    clear hp hs hd he h h1 h2 h3
    go_enter Tryz.func48, Tryz.ntmps48
    go_wp2_with fail
    (with_reducible refine (HP.out _).mono ?_); rintro e w1 ⟨rfl, rfl⟩
    go_wp2_with fail
    (with_reducible refine (HS.out _).mono ?_); rintro e w1 ⟨rfl, rfl⟩
    go_wp2_with fail
    (with_reducible refine (HD.out _).mono ?_); rintro e w1 ⟨rfl, rfl⟩
    go_wp2_with fail
    go_ret
    exact ⟨rfl, by go_grown⟩
  · rw [← h]
    rw [decide_eq_true h1] at hp
    rw [decide_eq_true h2] at hs
    rw [decide_eq_true h3] at hd
    have HP := Lib.hid hp
    have HS := Lib.hid hs
    have HD := Lib.hid hd
    generalize decide (-1 ≤ e ∧ e ≤ 1000000) = b at *
    have HE := Lib.hid he
    clear hp hs hd he h h1 h2 h3
    go_enter Tryz.func48, Tryz.ntmps48
    go_wp2_with fail
    (with_reducible refine (HP.out _).mono ?_); rintro e w1 ⟨rfl, rfl⟩
    go_wp2_with fail
    (with_reducible refine (HS.out _).mono ?_); rintro e w1 ⟨rfl, rfl⟩
    go_wp2_with fail
    (with_reducible refine (HD.out _).mono ?_); rintro e w1 ⟨rfl, rfl⟩
    go_wp2_with fail
    (with_reducible refine (HE.out _).mono ?_); rintro e w1 ⟨rfl, rfl⟩
    go_wp2_with fail
    go_ret
    exact ⟨rfl, by go_grown⟩

set_option maxHeartbeats 1000000 in
set_option maxRecDepth 100000 in
theorem ackRightS_calls (p s d e : Int) (w : World) :
    Calls Tryz.prog 103 #[ackV p s d e] w fun x w' => x = .returned (.bool (decide (ackOk p s d e))) ∧ Below w.heap.size w w' := by
  have hp := isS_calls p 0 3
  have hs := tmS_calls s
  have hd := tmS_calls d
  have he := tmS_calls e
  rcases ackS_cases p s d e with ⟨h1, h⟩ | ⟨h1, h2, h⟩ | ⟨h1, h2, h3, h⟩ | ⟨h1, h2, h3, h⟩
  · rw [decide_eq_false h]
    rw [decide_eq_false h1] at hp
    have HP := Lib.hid hp
    clear hp hs hd he h h1
    go_enter Tryz.func103, Tryz.ntmps103
    go_wp2_with fail
    (with_reducible refine (HP.out _).mono ?_); rintro e w1 ⟨rfl, rfl⟩
    go_wp2_with fail
    go_ret
    exact ⟨rfl, by go_grown⟩
  · rw [decide_eq_false h]
    rw [decide_eq_true h1] at hp
    rw [decide_eq_false h2] at hs
    have HP := Lib.hid hp
    have HS := Lib.hid hs
    clear hp hs hd he h h1 h2
    go_enter Tryz.func103, Tryz.ntmps103
    go_wp2_with fail
    (with_reducible refine (HP.out _).mono ?_); rintro e w1 ⟨rfl, rfl⟩
    go_wp2_with fail
    (with_reducible refine (HS.out _).mono ?_); rintro e w1 ⟨rfl, rfl⟩
    go_wp2_with fail
    go_ret
    exact ⟨rfl, by go_grown⟩
  · rw [decide_eq_false h]
    rw [decide_eq_true h1] at hp
    rw [decide_eq_true h2] at hs
    rw [decide_eq_false h3] at hd
    have HP := Lib.hid hp
    have HS := Lib.hid hs
    have HD := Lib.hid hd
    clear hp hs hd he h h1 h2 h3
    go_enter Tryz.func103, Tryz.ntmps103
    go_wp2_with fail
    (with_reducible refine (HP.out _).mono ?_); rintro e w1 ⟨rfl, rfl⟩
    go_wp2_with fail
    (with_reducible refine (HS.out _).mono ?_); rintro e w1 ⟨rfl, rfl⟩
    go_wp2_with fail
    (with_reducible refine (HD.out _).mono ?_); rintro e w1 ⟨rfl, rfl⟩
    go_wp2_with fail
    go_ret
    exact ⟨rfl, by go_grown⟩
  · rw [← h]
    rw [decide_eq_true h1] at hp
    rw [decide_eq_true h2] at hs
    rw [decide_eq_true h3] at hd
    have HP := Lib.hid hp
    have HS := Lib.hid hs
    have HD := Lib.hid hd
    generalize decide (0 ≤ e ∧ e ≤ 1000000) = b at *
    have HE := Lib.hid he
    clear hp hs hd he h h1 h2 h3
    go_enter Tryz.func103, Tryz.ntmps103
    go_wp2_with fail
    (with_reducible refine (HP.out _).mono ?_); rintro e w1 ⟨rfl, rfl⟩
    go_wp2_with fail
    (with_reducible refine (HS.out _).mono ?_); rintro e w1 ⟨rfl, rfl⟩
    go_wp2_with fail
    (with_reducible refine (HD.out _).mono ?_); rintro e w1 ⟨rfl, rfl⟩
    go_wp2_with fail
    (with_reducible refine (HE.out _).mono ?_); rintro e w1 ⟨rfl, rfl⟩
    go_wp2_with fail
    go_ret
    exact ⟨rfl, by go_grown⟩
end Go.Proofs.YtdcahilfmhkmiaaGreatDoor
