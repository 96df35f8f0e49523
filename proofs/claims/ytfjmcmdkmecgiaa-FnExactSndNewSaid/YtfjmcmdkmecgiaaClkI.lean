/- The program's clocks. -/
import Derived.Test.YtfjmcmdkmecgiaaClkS
namespace Go.Proofs.Ytfjmcmdkmecgiaa
open Go.RowKit

theorem isTook_calls (x : Int) (w : World) : Calls Try.prog 63 #[.int .i64 x] w fun e w' => e = .returned (.bool (decide (0 ≤ x ∧ x ≤ 1000))) ∧ w' = w := by
  have hd : decide (0 ≤ x ∧ x ≤ 1000) = (decide (0 ≤ x) && decide (x ≤ 1000)) := by simp
  rw [hd]
  by_cases h : x ≥ 0
  · go_enter Try.func63, Try.ntmps63
    go_wp2
    go_ret
    exact ⟨ret_bool (by rw [decide_eq_true h]; simp), rfl⟩
  · have HD := Lib.hid (decide_eq_false h)
    go_enter Try.func63, Try.ntmps63
    go_wp2
    go_ret
    exact ⟨ret_bool (by rw [HD.out]; simp), rfl⟩

set_option maxHeartbeats 1000000 in
theorem clkRightM_calls (m v r : Int) (w : World) : Calls Try.prog 57 #[clkV m v r] w fun e w' => e = .returned (.bool (decide (clkRight m v r))) ∧ Below w.heap.size w w' := by
  have h1 := fun W => isTook_calls m W
  have h2 := fun W => isTook_calls v W
  have hd : decide (clkRight m v r) = (decide (0 ≤ m ∧ m ≤ 1000) && (decide (0 ≤ v ∧ v ≤ 1000) && (decide (4 ≤ r) && decide (r ≤ 64)))) := by
    rw [Bool.eq_iff_iff]
    simp only [decide_eq_true_iff, Bool.and_eq_true]
    exact Iff.rfl
  rw [hd]
  generalize decide (0 ≤ m ∧ m ≤ 1000) = b1 at *
  generalize decide (0 ≤ v ∧ v ≤ 1000) = b2 at *
  have H1 := Lib.hid h1
  have H2 := Lib.hid h2
  clear h1 h2 hd
  have hq : (4 ≤ r ∧ r ≤ 64) ∨ (4 ≤ r ∧ ¬ r ≤ 64) ∨ (¬ 4 ≤ r ∧ r ≤ 64) := by omega
  cases b1 <;> cases b2 <;> rcases hq with ⟨hr, hs⟩ | ⟨hr, hs⟩ | ⟨hr, hs⟩
  all_goals
    go_enter Try.func57, Try.ntmps57
    go_wp2_with fail
    refine (H1.out _).mono ?_
    rintro e w1 ⟨rfl, rfl⟩
    first
      | (go_wp2_with fail
         refine (H2.out _).mono ?_
         rintro e w1 ⟨rfl, rfl⟩
         go_wp2_with fail
         go_ret
         exact ⟨ret_bool (by first | rfl | (simp; done) | (simp [hr]; done) | (simp [hs]; done) | (simp [hr, hs]; done) | (simp; omega)), (Below.refl _ _).alloc (Nat.le_refl _) _⟩)
      | (go_wp2_with fail
         go_ret
         exact ⟨ret_bool (by simp), (Below.refl _ _).alloc (Nat.le_refl _) _⟩)

theorem clkNewI_calls (w : World) : Calls Try.prog 31 #[] w fun e w' => e = .returned (clkV 0 0 8) ∧ Below w.heap.size w w' := by
  go_enter Try.func31, Try.ntmps31
  go_wp2
  first
    | (go_ret; exact ⟨rfl, by first | exact Below.refl _ _ | exact (Below.refl _ _).alloc (Nat.le_refl _) _⟩)
    | (refine bodyPost_ret (v := clkV 0 0 8) (by simp [results, Try.results31, go_sem]) rfl ⟨rfl, (Below.refl _ _).alloc (Nat.le_refl _) _⟩)
theorem tookN_cases (t : Int) : (t < 0 ∧ tookN t = 0) ∨ (0 ≤ t ∧ t ≤ 1000 ∧ tookN t = t) ∨ (1000 < t ∧ tookN t = 1000) := by unfold tookN; omega
end Go.Proofs.Ytfjmcmdkmecgiaa
