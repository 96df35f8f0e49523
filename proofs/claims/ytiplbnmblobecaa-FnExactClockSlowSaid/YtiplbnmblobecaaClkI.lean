/- The program's clocks. -/
import Derived.Test.YtiplbnmblobecaaClkS
namespace Go.Proofs.Ytiplbnmblobecaa
open Go.RowKit

theorem isTook_calls (x : Int) (w : World) : Calls Try.prog 27 #[.int .i64 x] w fun e w' => e = .returned (.bool (decide (0 ≤ x ∧ x ≤ 1000))) ∧ w' = w := by
  have hd : decide (0 ≤ x ∧ x ≤ 1000) = (decide (0 ≤ x) && decide (x ≤ 1000)) := by simp
  rw [hd]
  by_cases h : x ≥ 0
  · go_enter Try.func27, Try.ntmps27
    go_wp2
    go_ret
    exact ⟨ret_bool (by rw [decide_eq_true h]; simp), rfl⟩
  · have HD := Lib.hid (decide_eq_false h)
    go_enter Try.func27, Try.ntmps27
    go_wp2
    go_ret
    exact ⟨ret_bool (by rw [HD.out]; simp), rfl⟩

set_option maxHeartbeats 1000000 in
theorem clkRightM_calls (m v r : Int) (w : World) : Calls Try.prog 21 #[clkV m v r] w fun e w' => e = .returned (.bool (decide (clkRight m v r))) ∧ Below w.heap.size w w' := by
  have h1 := fun W => isTook_calls m W
  have h2 := fun W => isTook_calls v W
  have hd : decide (clkRight m v r) = (decide (0 ≤ m ∧ m ≤ 1000) && (decide (0 ≤ v ∧ v ≤ 1000) && (decide (4 ≤ r) && decide (r ≤ 64)))) := by
    rw [Bool.eq_iff_iff]
    simp only [decide_eq_true_iff, Bool.and_eq_true]
    exact Iff.rfl
  rw [hd]
  generalize decide (0 ≤ m ∧ m ≤ 1000) = b1 at *
  generalize decide (0 ≤ v ∧ v ≤ 1000) = b2 at *
  have H1 := Lib.hid h1
  have H2 := Lib.hid h2
  clear h1 h2 hd
  have hq : (4 ≤ r ∧ r ≤ 64) ∨ (4 ≤ r ∧ ¬ r ≤ 64) ∨ (¬ 4 ≤ r ∧ r ≤ 64) := by omega
  cases b1 <;> cases b2 <;> rcases hq with ⟨hr, hs⟩ | ⟨hr, hs⟩ | ⟨hr, hs⟩
  all_goals
    go_enter Try.func21, Try.ntmps21
    go_wp2_with fail
    refine (H1.out _).mono ?_
    rintro e w1 ⟨rfl, rfl⟩
    first
      | (go_wp2_with fail
         refine (H2.out _).mono ?_
         rintro e w1 ⟨rfl, rfl⟩
         go_wp2_with fail
         go_ret
         exact ⟨ret_bool (by first | rfl | (simp; done) | (simp [hr]; done) | (simp [hs]; done) | (simp [hr, hs]; done) | (simp; omega)), (Below.refl _ _).alloc (Nat.le_refl _) _⟩)
      | (go_wp2_with fail
         go_ret
         exact ⟨ret_bool (by simp), (Below.refl _ _).alloc (Nat.le_refl _) _⟩)

theorem clkRightI_calls (m v r : Int) (w : World) : Calls Try.prog 10 #[clkV m v r] w fun e w' => e = .returned (.bool (decide (clkRight m v r))) ∧ Below w.heap.size w w' := by
  have HR := Lib.hid (fun W => clkRightM_calls m v r W)
  go_enter Try.func10, Try.ntmps10
  go_wp2_with fail
  refine (HR.out _).mono ?_
  rintro e w1 ⟨rfl, hb1⟩
  go_wp2_with fail
  go_ret
  exact ⟨rfl, ((Below.refl _ _).alloc (Nat.le_refl _) _).trans (hb1.mono (by simp))⟩
theorem clkNewI_calls (w : World) : Calls Try.prog 12 #[] w fun e w' => e = .returned (clkV 0 0 8) ∧ Below w.heap.size w w' := by
  go_enter Try.func12, Try.ntmps12
  go_wp2
  first
    | (go_ret; exact ⟨rfl, by first | exact Below.refl _ _ | exact (Below.refl _ _).alloc (Nat.le_refl _) _⟩)
    | (refine bodyPost_ret (v := clkV 0 0 8) (by simp [results, Try.results12, go_sem]) rfl ⟨rfl, (Below.refl _ _).alloc (Nat.le_refl _) _⟩)
theorem clkLessI_calls (m v r m' v' r' : Int) (w : World) : Calls Try.prog 19 #[clkV m v r, clkV m' v' r'] w fun e w' => e = .returned (.bool (decide (m < m'))) ∧ Below w.heap.size w w' := by
  go_enter Try.func19, Try.ntmps19
  go_wp2
  go_ret
  exact ⟨rfl, ((Below.refl _ _).alloc (Nat.le_refl _) _).alloc (by simp) _⟩
/-- slower: what is right waits twice as long. -/
theorem slower_calls (m v r : Int) (w : World) (hr : 4 ≤ r ∧ r ≤ 64) : Calls Try.prog 26 #[clkV m v r] w fun e w' => e = .returned (clkV m v (min (2 * r) 64)) ∧ Below w.heap.size w w' := by
  go_enter Try.func26, Try.ntmps26
  go_wp2_with fail
  all_goals
    refine bodyPost_ret (v := clkV m v (min (2 * r) 64)) (by simp [results, Try.results26, go_sem] <;> omega) rfl ⟨rfl, ?_⟩
    exact ((Below.refl _ _).alloc (Nat.le_refl _) _).alloc (by simp) _
theorem withRto_calls (m v r : Int) (w : World) (hm : 0 ≤ m ∧ m ≤ 1000) (hv : 0 ≤ v ∧ v ≤ 1000) : Calls Try.prog 25 #[clkV m v r] w fun e w' => e = .returned (clkV m v (max 4 (min (m + 4 * v) 64))) ∧ Below w.heap.size w w' := by
  go_enter Try.func25, Try.ntmps25
  go_wp2_with fail
  all_goals
    refine bodyPost_ret (v := clkV m v (max 4 (min (m + 4 * v) 64))) (by simp [results, Try.results25, go_sem] <;> omega) rfl ⟨rfl, ?_⟩
    exact ((Below.refl _ _).alloc (Nat.le_refl _) _).alloc (by simp) _
theorem firstSample_calls (m v r t : Int) (w : World) (ht : 0 ≤ t ∧ t ≤ 1000) : Calls Try.prog 28 #[clkV m v r, .int .i64 t] w fun e w' => e = .returned (clkV t (t / 2) r) ∧ Below w.heap.size w w' := by
  go_enter Try.func28, Try.ntmps28
  go_wp2_with fail
  refine bodyPost_ret (v := clkV t (t / 2) r) (by simp [results, Try.results28, go_sem]) rfl ⟨rfl, ?_⟩
  exact ((Below.refl _ _).alloc (Nat.le_refl _) _).alloc (by simp) _
set_option maxHeartbeats 1000000 in
theorem nextSample_calls (m v r t : Int) (w : World) (hm : 0 ≤ m ∧ m ≤ 1000) (hv : 0 ≤ v ∧ v ≤ 1000) (ht : 0 ≤ t ∧ t ≤ 1000) : Calls Try.prog 29 #[clkV m v r, .int .i64 t] w fun e w' => e = .returned (clkV ((7 * m + t) / 8) ((3 * v + max (t - m) (m - t)) / 4) r) ∧ Below w.heap.size w w' := by
  by_cases hf : m ≤ t
  · rw [show max (t - m) (m - t) = t - m by omega]
    go_enter Try.func29, Try.ntmps29
    go_wp2_with fail
    all_goals
      refine bodyPost_ret (v := clkV ((7 * m + t) / 8) ((3 * v + (t - m)) / 4) r) (by simp [results, Try.results29, go_sem] <;> omega) rfl ⟨rfl, ?_⟩
      exact ((Below.refl _ _).alloc (Nat.le_refl _) _).alloc (by simp) _
  · rw [show max (t - m) (m - t) = m - t by omega]
    go_enter Try.func29, Try.ntmps29
    go_wp2_with fail
    all_goals
      refine bodyPost_ret (v := clkV ((7 * m + t) / 8) ((3 * v + (m - t)) / 4) r) (by simp [results, Try.results29, go_sem] <;> omega) rfl ⟨rfl, ?_⟩
      exact ((Below.refl _ _).alloc (Nat.le_refl _) _).alloc (by simp) _
theorem samplerZero_calls (r : Int) (w : World) : Calls Try.prog 24 #[clkV 0 0 r] w fun e w' => e = .returned (.func (.func 28) #[clkV 0 0 r] #[]) ∧ Below w.heap.size w w' := by
  go_enter Try.func24, Try.ntmps24
  go_wp2_with fail
  go_ret
  exact ⟨rfl, (Below.refl _ _).alloc (Nat.le_refl _) _⟩
theorem samplerNext_calls (m v r : Int) (w : World) (h : ¬ (m = 0 ∧ v = 0)) : Calls Try.prog 24 #[clkV m v r] w fun e w' => e = .returned (.func (.func 29) #[clkV m v r] #[]) ∧ Below w.heap.size w w' := by
  by_cases hm : m = 0
  · have hv : v ≠ 0 := fun e => h ⟨hm, e⟩
    subst hm
    clear h
    go_enter Try.func24, Try.ntmps24
    go_wp2_with fail
    go_ret
    exact ⟨rfl, (Below.refl _ _).alloc (Nat.le_refl _) _⟩
  · clear h
    go_enter Try.func24, Try.ntmps24
    go_wp2_with fail
    go_ret
    exact ⟨rfl, (Below.refl _ _).alloc (Nat.le_refl _) _⟩
set_option maxHeartbeats 1000000 in
theorem clkSlowI_calls (m v r : Int) (w : World) : Calls Try.prog 17 #[clkV m v r] w fun e w' => e = .returned (slowV m v r) ∧ Below w.heap.size w w' := by
  by_cases h : clkRight m v r
  · have hR := fun W => clkRightM_calls m v r W
    rw [decide_eq_true h] at hR
    have hs : slowV m v r = clkV m v (min (2 * r) 64) := by unfold slowV; rw [if_pos h]
    rw [hs]
    obtain ⟨hm, hv, hr⟩ := h
    have HR := Lib.hid hR
    have HS := Lib.hid (fun W => slower_calls m v r W hr)
    clear hR hs hm hv hr
    generalize min (2 * r) 64 = q at *
    go_enter Try.func17, Try.ntmps17
    go_wp2_with fail
    have h3 := three_two w (.int .i64 m) (.int .i64 v) (.int .i64 r) (.int .i64 0) (.int .i64 0) (.int .i64 0) 25 25
    dsimp only at h3
    generalize (w.alloc (.cells #[.int .i64 m, .int .i64 v, .int .i64 r] 25)).alloc (.cells #[.int .i64 0, .int .i64 0, .int .i64 0] 25) = W at *
    obtain ⟨n1, n2, hs, hb⟩ := h3
    refine (HR.out W).mono ?_
    rintro e w1 ⟨rfl, hb1⟩
    replace n1 := n1.below hb1
    replace n2 := n2.below hb1
    have hs1 := hb1.size
    have HB := Lib.hid (hb.trans (hb1.mono hb.size))
    clear hb hb1 HR
    obtain ⟨f0, f1, f2, g0, g1, g2⟩ := id n1
    go_wp2_with fail
    refine (HS.out _).mono ?_
    rintro e w2 ⟨rfl, hb2⟩
    have HB2 := Lib.hid (HB.out.trans (hb2.mono HB.out.size))
    obtain ⟨f3, f4, f5, g3, g4, g5⟩ := n2.below hb2
    clear hb2 HS HB n1 n2 f0 f1 f2 g0 g1 g2
    go_wp2_with fail
    refine bodyPost_ret (v := clkV m v q) (by simp [results, Try.results17, go_sem, *]) rfl ⟨rfl, ?_⟩
    exact ((HB2.out.setCell (Nat.le_succ _) _).setCell (Nat.le_succ _) _).setCell (Nat.le_succ _) _
  · have hR := fun W => clkRightM_calls m v r W
    rw [decide_eq_false h] at hR
    have hs : slowV m v r = clkV m v r := by unfold slowV; rw [if_neg h]
    rw [hs]
    have HR := Lib.hid hR
    clear hR hs h
    go_enter Try.func17, Try.ntmps17
    go_wp2_with fail
    have h3 := three_two w (.int .i64 m) (.int .i64 v) (.int .i64 r) (.int .i64 0) (.int .i64 0) (.int .i64 0) 25 25
    dsimp only at h3
    generalize (w.alloc (.cells #[.int .i64 m, .int .i64 v, .int .i64 r] 25)).alloc (.cells #[.int .i64 0, .int .i64 0, .int .i64 0] 25) = W at *
    obtain ⟨n1, n2, hs, hb⟩ := h3
    refine (HR.out W).mono ?_
    rintro e w1 ⟨rfl, hb1⟩
    obtain ⟨f0, f1, f2, g0, g1, g2⟩ := n1.below hb1
    obtain ⟨f3, f4, f5, g3, g4, g5⟩ := n2.below hb1
    have HB := Lib.hid (hb.trans (hb1.mono hb.size))
    clear n1 n2 hb hb1 HR
    go_wp2_with fail
    refine bodyPost_ret (v := clkV m v r) (by simp [results, Try.results17, go_sem, *]) rfl ⟨rfl, ?_⟩
    exact ((HB.out.setCell (Nat.le_succ _) _).setCell (Nat.le_succ _) _).setCell (Nat.le_succ _) _
set_option maxHeartbeats 2000000 in
/-- ClockSample of what is right, whatever the sampler is. -/
theorem clkSampleI_right (m v r t k a b : Int) (F : Nat) (w : World) (h : clkRight m v r) (ha : 0 ≤ a ∧ a ≤ 1000) (hb' : 0 ≤ b ∧ b ≤ 1000)
    (hk : (t < 0 ∧ k = 0) ∨ (0 ≤ t ∧ t ≤ 1000 ∧ k = t) ∨ (1000 < t ∧ k = 1000))
    (hS : ∀ W, Calls Try.prog 24 #[clkV m v r] W fun e w' => e = .returned (.func (.func F) #[clkV m v r] #[]) ∧ Below W.heap.size W w')
    (hF : F = 28 ∨ F = 29)
    (hC : ∀ W, Calls Try.prog F #[clkV m v r, .int .i64 k] W fun e w' => e = .returned (clkV a b r) ∧ Below W.heap.size W w') :
    Calls Try.prog 15 #[clkV m v r, .int .i64 t] w fun e w' => e = .returned (clkV a b (max 4 (min (a + 4 * b) 64))) ∧ Below w.heap.size w w' := by
  have hR := fun W => clkRightM_calls m v r W
  rw [decide_eq_true h] at hR
  have HR := Lib.hid hR
  have HS := Lib.hid hS
  have HC := Lib.hid hC
  have HT := Lib.hid (fun W => withRto_calls a b r W ha hb')
  clear hR h ha hb' hS hC
  generalize max 4 (min (a + 4 * b) 64) = q at *
  go_enter Try.func15, Try.ntmps15
  go_wp2_with fail
  have h3 := three_two w (.int .i64 m) (.int .i64 v) (.int .i64 r) (.int .i64 0) (.int .i64 0) (.int .i64 0) 25 25
  dsimp only at h3
  generalize (w.alloc (.cells #[.int .i64 m, .int .i64 v, .int .i64 r] 25)).alloc (.cells #[.int .i64 0, .int .i64 0, .int .i64 0] 25) = W at *
  obtain ⟨n1, n2, hs, hb⟩ := h3
  refine (HR.out W).mono ?_
  rintro e w1 ⟨rfl, hb1⟩
  replace n1 := n1.below hb1
  replace n2 := n2.below hb1
  have HB := Lib.hid (hb.trans (hb1.mono hb.size))
  clear hb hb1 HR
  obtain ⟨f0, f1, f2, g0, g1, g2⟩ := id n1
  go_wp2_with fail
  refine (HS.out _).mono ?_
  rintro e w2 ⟨rfl, hb2⟩
  have HB2 := Lib.hid (HB.out.trans (hb2.mono HB.out.size))
  replace n2 := n2.below hb2
  clear hb2 HS HB n1 f0 f1 f2 g0 g1 g2
  rcases hF with rfl | rfl <;> rcases hk with ⟨h1, rfl⟩ | ⟨h1, h2, rfl⟩ | ⟨h1, rfl⟩
  all_goals
    go_wp2_with fail
    refine (HC.out _).mono ?_
    rintro e w3 ⟨rfl, hb3⟩
    have HB3 := Lib.hid (HB2.out.trans (hb3.mono HB2.out.size))
    replace n2 := n2.below hb3
    clear hb3 HC HB2
    go_wp2_with fail
    refine (HT.out _).mono ?_
    rintro e w4 ⟨rfl, hb4⟩
    have HB4 := Lib.hid (HB3.out.trans (hb4.mono HB3.out.size))
    obtain ⟨f3, f4, f5, g3, g4, g5⟩ := n2.below hb4
    clear hb4 HT HB3 n2
    go_wp2_with fail
    refine bodyPost_ret (v := clkV a b q) (by simp [results, Try.results15, go_sem, *]) rfl ⟨rfl, ?_⟩
    exact ((HB4.out.setCell (Nat.le_succ _) _).setCell (Nat.le_succ _) _).setCell (Nat.le_succ _) _
theorem tookN_cases (t : Int) : (t < 0 ∧ tookN t = 0) ∨ (0 ≤ t ∧ t ≤ 1000 ∧ tookN t = t) ∨ (1000 < t ∧ tookN t = 1000) := by unfold tookN; omega
theorem clkSampleI_calls (m v r t : Int) (w : World) : Calls Try.prog 15 #[clkV m v r, .int .i64 t] w fun e w' => e = .returned (sampleV m v r t) ∧ Below w.heap.size w w' := by
  by_cases h : clkRight m v r
  · obtain ⟨hm, hv, -⟩ := id h
    have hT := tookN_le t
    by_cases hz : m = 0 ∧ v = 0
    · obtain ⟨rfl, rfl⟩ := hz
      have hs : sampleV 0 0 r t = clkV (tookN t) (tookN t / 2) (max 4 (min (tookN t + 4 * (tookN t / 2)) 64)) := by simp [sampleV, h, meanN, varN, rtoN]
      rw [hs]
      exact clkSampleI_right 0 0 r t (tookN t) (tookN t) (tookN t / 2) 28 w h hT (by omega) (tookN_cases t) (samplerZero_calls r) (.inl rfl) (fun W => firstSample_calls 0 0 r (tookN t) W hT)
    · have hs : sampleV m v r t = clkV ((7 * m + tookN t) / 8) ((3 * v + max (tookN t - m) (m - tookN t)) / 4) (max 4 (min ((7 * m + tookN t) / 8 + 4 * ((3 * v + max (tookN t - m) (m - tookN t)) / 4)) 64)) := by
        simp only [sampleV, if_pos h, meanN, varN, rtoN, if_neg hz]
      rw [hs]
      exact clkSampleI_right m v r t (tookN t) _ _ 29 w h (by omega) (by omega) (tookN_cases t) (fun W => samplerNext_calls m v r W hz) (.inr rfl) (fun W => nextSample_calls m v r (tookN t) W hm hv hT)
  · have hR := fun W => clkRightM_calls m v r W
    rw [decide_eq_false h] at hR
    have hs : sampleV m v r t = clkV m v r := by unfold sampleV; rw [if_neg h]
    rw [hs]
    have HR := Lib.hid hR
    clear hR hs h
    go_enter Try.func15, Try.ntmps15
    go_wp2_with fail
    have h3 := three_two w (.int .i64 m) (.int .i64 v) (.int .i64 r) (.int .i64 0) (.int .i64 0) (.int .i64 0) 25 25
    dsimp only at h3
    generalize (w.alloc (.cells #[.int .i64 m, .int .i64 v, .int .i64 r] 25)).alloc (.cells #[.int .i64 0, .int .i64 0, .int .i64 0] 25) = W at *
    obtain ⟨n1, n2, hs, hb⟩ := h3
    refine (HR.out W).mono ?_
    rintro e w1 ⟨rfl, hb1⟩
    obtain ⟨f0, f1, f2, g0, g1, g2⟩ := n1.below hb1
    obtain ⟨f3, f4, f5, g3, g4, g5⟩ := n2.below hb1
    have HB := Lib.hid (hb.trans (hb1.mono hb.size))
    clear n1 n2 hb hb1 HR
    go_wp2_with fail
    refine bodyPost_ret (v := clkV m v r) (by simp [results, Try.results15, go_sem, *]) rfl ⟨rfl, ?_⟩
    exact ((HB.out.setCell (Nat.le_succ _) _).setCell (Nat.le_succ _) _).setCell (Nat.le_succ _) _
end Go.Proofs.Ytiplbnmblobecaa
