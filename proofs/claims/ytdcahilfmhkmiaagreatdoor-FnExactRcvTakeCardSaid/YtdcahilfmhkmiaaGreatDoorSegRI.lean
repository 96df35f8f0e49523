/- SegRight and AckRight, the program's and the model's. -/
import Derived.Test.YtdcahilfmhkmiaaGreatDoorSegR
namespace Go.Proofs.YtdcahilfmhkmiaaGreatDoor
open Go.RowKit

theorem segOf_calls (p s d : Int) (t : List UInt8) (e : Int) (w : World) : Calls Tryz.prog 189 #[segV p s d t e] w fun x w' => x = .returned (segV p s d t e) ∧ Below w.heap.size w w' := by
  go_enter Tryz.func189, Tryz.ntmps189
  go_wp2
  refine bodyPost_ret (v := segV p s d t e) (by simp [results, Tryz.results189, go_sem]) rfl ⟨rfl, ?_⟩
  go_grown
theorem ansOf_calls (p s d e : Int) (w : World) : Calls Tryz.prog 221 #[ackV p s d e] w fun x w' => x = .returned (ackV p s d e) ∧ Below w.heap.size w w' := by
  go_enter Tryz.func221, Tryz.ntmps221
  go_wp2
  refine bodyPost_ret (v := ackV p s d e) (by simp [results, Tryz.results221, go_sem]) rfl ⟨rfl, ?_⟩
  go_grown

theorem seg_cases (p s d : Int) (t : List UInt8) (e : Int) : (¬ headOk p s d ∧ ¬ segOk p s d t e) ∨ (headOk p s d ∧ ¬ t.length ≤ 16 ∧ ¬ segOk p s d t e) ∨ (headOk p s d ∧ t.length ≤ 16 ∧ ¬ (-1 ≤ e) ∧ ¬ segOk p s d t e) ∨ (headOk p s d ∧ t.length ≤ 16 ∧ (-1 ≤ e) ∧ ¬ (e ≤ 1000000) ∧ ¬ segOk p s d t e) ∨ (headOk p s d ∧ t.length ≤ 16 ∧ (-1 ≤ e) ∧ (e ≤ 1000000) ∧ segOk p s d t e) := by
  unfold segOk
  by_cases h : headOk p s d
  · simp only [h, true_and]; omega
  · simp [h]
theorem ack_cases (p s d e : Int) : (¬ headOk p s d ∧ ¬ ackOk p s d e) ∨ (headOk p s d ∧ ¬ (0 ≤ e ∧ e ≤ 1000000) ∧ ¬ ackOk p s d e) ∨ (headOk p s d ∧ (0 ≤ e ∧ e ≤ 1000000) ∧ ackOk p s d e) := by
  unfold ackOk
  by_cases h : headOk p s d
  · simp only [h, true_and]; omega
  · simp [h]

set_option maxHeartbeats 1000000 in
set_option maxRecDepth 100000 in
theorem segRt_calls (p s d : Int) (t : List UInt8) (e : Int) (w : World) (hl : t.length ≤ 9223372036854775807) :
    Calls Tryz.prog 190 #[segV p s d t e] w fun x w' => x = .returned (.bool (decide (segOk p s d t e))) ∧ Below w.heap.size w w' := by
  have hh := headI_calls p s d
  rcases seg_cases p s d t e with ⟨h1, h⟩ | ⟨h1, h2, h⟩ | ⟨h1, h2, h3, h⟩ | ⟨h1, h2, h3, h4, h⟩ | ⟨h1, h2, h3, h4, h⟩
  · rw [decide_eq_false h]
    rw [decide_eq_false h1] at hh
    have HH := Lib.hid hh
    clear hh h h1
    go_enter Tryz.func190, Tryz.ntmps190
    go_wp2_with fail
    (with_reducible refine (HH.out _).mono ?_); rintro e w1 ⟨rfl, hb1⟩
    have HB := Lib.hid hb1
    clear hb1
    go_wp2_with fail
    go_ret
    exact ⟨rfl, ((Below.refl _ _).alloc (Nat.le_refl _) _).trans (HB.out.mono (by simp))⟩
  all_goals
    first | rw [decide_eq_false h] | rw [decide_eq_true h]
    rw [decide_eq_true h1] at hh
    have HH := Lib.hid hh
    clear hh h h1
    go_enter Tryz.func190, Tryz.ntmps190
    go_wp2_with fail
    (with_reducible refine (HH.out _).mono ?_); rintro e w1 ⟨rfl, hb1⟩
    obtain ⟨hc1, hf1⟩ := bcell hb1
    have HB := Lib.hid hb1
    simp at hc1 hf1
    clear hb1
    go_wp2_with fail
    go_ret
    exact ⟨ret_bool (by first | rfl | exact decide_eq_true h4 | exact decide_eq_false (by omega)), ((Below.refl _ _).alloc (Nat.le_refl _) _).trans (HB.out.mono (by simp))⟩

set_option maxHeartbeats 1000000 in
set_option maxRecDepth 100000 in
theorem ansRt_calls (p s d e : Int) (w : World) :
    Calls Tryz.prog 222 #[ackV p s d e] w fun x w' => x = .returned (.bool (decide (ackOk p s d e))) ∧ Below w.heap.size w w' := by
  have hh := headI_calls p s d
  have ht := tmI_calls e
  rcases ack_cases p s d e with ⟨h1, h⟩ | ⟨h1, h2, h⟩ | ⟨h1, h2, h⟩
  · rw [decide_eq_false h]
    rw [decide_eq_false h1] at hh
    have HH := Lib.hid hh
    clear hh h h1 ht
    go_enter Tryz.func222, Tryz.ntmps222
    go_wp2_with fail
    (with_reducible refine (HH.out _).mono ?_); rintro e w1 ⟨rfl, hb1⟩
    have HB := Lib.hid hb1
    clear hb1
    go_wp2_with fail
    go_ret
    exact ⟨rfl, ((Below.refl _ _).alloc (Nat.le_refl _) _).trans (HB.out.mono (by simp))⟩
  all_goals
    first | (rw [decide_eq_false h]; rw [decide_eq_false h2] at ht) | (rw [decide_eq_true h]; rw [decide_eq_true h2] at ht)
    rw [decide_eq_true h1] at hh
    have HH := Lib.hid hh
    have HT := Lib.hid ht
    clear hh h h1 ht h2
    go_enter Tryz.func222, Tryz.ntmps222
    go_wp2_with fail
    (with_reducible refine (HH.out _).mono ?_); rintro e w1 ⟨rfl, hb1⟩
    obtain ⟨hc1, hf1⟩ := bcell hb1
    have HB := Lib.hid hb1
    simp at hc1 hf1
    clear hb1
    go_wp2_with fail
    (with_reducible refine (HT.out _).mono ?_); rintro e w2 ⟨rfl, rfl⟩
    go_wp2_with fail
    go_ret
    exact ⟨rfl, ((Below.refl _ _).alloc (Nat.le_refl _) _).trans (HB.out.mono (by simp))⟩

set_option maxHeartbeats 1000000 in
set_option maxRecDepth 100000 in
theorem segRightI_calls (p s d : Int) (t : List UInt8) (e : Int) (w : World) (hl : t.length ≤ 9223372036854775807) :
    Calls Tryz.prog 128 #[segV p s d t e] w fun x w' => x = .returned (.bool (decide (segOk p s d t e))) ∧ Below w.heap.size w w' := by
  have HS := Lib.hid (segOf_calls p s d t e)
  have HR := Lib.hid (fun w => segRt_calls p s d t e w hl)
  go_enter Tryz.func128, Tryz.ntmps128
  go_wp2_with fail
  (with_reducible refine (HS.out _).mono ?_); rintro e w1 ⟨rfl, hb1⟩
  have HB := Lib.hid hb1
  clear hb1
  go_wp2_with fail
  (with_reducible refine (HR.out _).mono ?_); rintro e w2 ⟨rfl, hb2⟩
  have hb3 := hb2.mono HB.out.size
  have HB2 := Lib.hid (HB.out.trans hb3)
  clear hb2 hb3
  go_wp2_with fail
  go_ret
  exact ⟨rfl, ((Below.refl _ _).alloc (Nat.le_refl _) _).trans (HB2.out.mono (by simp))⟩

set_option maxHeartbeats 1000000 in
set_option maxRecDepth 100000 in
theorem ackRightI_calls (p s d e : Int) (w : World) :
    Calls Tryz.prog 164 #[ackV p s d e] w fun x w' => x = .returned (.bool (decide (ackOk p s d e))) ∧ Below w.heap.size w w' := by
  have HS := Lib.hid (ansOf_calls p s d e)
  have HR := Lib.hid (fun w => ansRt_calls p s d e w)
  go_enter Tryz.func164, Tryz.ntmps164
  go_wp2_with fail
  (with_reducible refine (HS.out _).mono ?_); rintro e w1 ⟨rfl, hb1⟩
  have HB := Lib.hid hb1
  clear hb1
  go_wp2_with fail
  (with_reducible refine (HR.out _).mono ?_); rintro e w2 ⟨rfl, hb2⟩
  have hb3 := hb2.mono HB.out.size
  have HB2 := Lib.hid (HB.out.trans hb3)
  clear hb2 hb3
  go_wp2_with fail
  go_ret
  exact ⟨rfl, ((Below.refl _ _).alloc (Nat.le_refl _) _).trans (HB2.out.mono (by simp))⟩
end Go.Proofs.YtdcahilfmhkmiaaGreatDoor
