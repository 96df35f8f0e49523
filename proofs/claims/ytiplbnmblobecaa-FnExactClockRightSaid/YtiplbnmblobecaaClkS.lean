/- Clocks: ClockSample and ClockSlow of the model. -/
import Derived.Test.YtiplbnmblobecaaClk
namespace Go.Proofs.Ytiplbnmblobecaa
open Go.RowKit

/-- What ClockSample answers. -/
def sampleV (m v r t : Int) : Value := if clkRight m v r then clkV (meanN m v t) (varN m v t) (rtoN m v t) else clkV m v r
/-- What ClockSlow answers. -/
def slowV (m v r : Int) : Value := if clkRight m v r then clkV m v (min (2 * r) 64) else clkV m v r
/-- A block of three cells. -/
structure Three (w : World) (g : Nat) (x y z : Value) : Prop where
  c0 : w.cell? ⟨g, 0, none⟩ = some x
  c1 : w.cell? ⟨g, 1, none⟩ = some y
  c2 : w.cell? ⟨g, 2, none⟩ = some z
  z0 : w.frozen? ⟨g, 0, none⟩ = false
  z1 : w.frozen? ⟨g, 1, none⟩ = false
  z2 : w.frozen? ⟨g, 2, none⟩ = false
theorem Three.lt {w : World} {g : Nat} {x y z : Value} (h : Three w g x y z) : g < w.heap.size := World.block_lt_of_cell? _ _ h.c0
theorem Three.below {w w' : World} {g : Nat} {x y z : Value} (h : Three w g x y z) (hb : Below w.heap.size w w') : Three w' g x y z :=
  ⟨(hb.cell h.lt).trans h.c0, (hb.cell h.lt).trans h.c1, (hb.cell h.lt).trans h.c2, (hb.frozen h.lt).trans h.z0, (hb.frozen h.lt).trans h.z1, (hb.frozen h.lt).trans h.z2⟩
theorem three_at (w : World) (x y z : Value) (T : TypeId) : Three (w.alloc (.cells #[x, y, z] T)) w.heap.size x y z := ⟨by simp, by simp, by simp, by simp, by simp, by simp⟩
theorem Three.other {w : World} {g : Nat} {x y z : Value} (h : Three w g x y z) {p : Addr} (hp : p.block ≠ g) (v : Value) : Three (w.setCell p v) g x y z := by
  have hb : (w.setCell p v).heap[g]? = w.heap[g]? := Below.heap_setCell _ _ _ _ (by omega)
  exact ⟨(World.cell?_of_block (a := ⟨g, 0, none⟩) hb).trans h.c0, (World.cell?_of_block (a := ⟨g, 1, none⟩) hb).trans h.c1, (World.cell?_of_block (a := ⟨g, 2, none⟩) hb).trans h.c2,
    (World.frozen?_of_block (a := ⟨g, 0, none⟩) hb).trans h.z0, (World.frozen?_of_block (a := ⟨g, 1, none⟩) hb).trans h.z1, (World.frozen?_of_block (a := ⟨g, 2, none⟩) hb).trans h.z2⟩
theorem Three.set3 {w : World} {g : Nat} {x y z : Value} (h : Three w g x y z) (a b c : Value) : Three (((w.setCell ⟨g, 0, none⟩ a).setCell ⟨g, 1, none⟩ b).setCell ⟨g, 2, none⟩ c) g a b c := by
  have h0 : (w.setCell ⟨g, 0, none⟩ a).cell? ⟨g, 0, none⟩ = some a := World.cell?_setCell_same _ _ _ h.c0
  have h1 : (w.setCell ⟨g, 0, none⟩ a).cell? ⟨g, 1, none⟩ = some y := (World.cell?_setCell_other _ _ _ _ (fun e => by cases e)).trans h.c1
  have h2 : (w.setCell ⟨g, 0, none⟩ a).cell? ⟨g, 2, none⟩ = some z := (World.cell?_setCell_other _ _ _ _ (fun e => by cases e)).trans h.c2
  generalize hV : w.setCell ⟨g, 0, none⟩ a = V at *
  have z0 : V.frozen? ⟨g, 0, none⟩ = false := by rw [← hV]; exact (World.frozen?_setCell _ _ _ _).trans h.z0
  have z1 : V.frozen? ⟨g, 1, none⟩ = false := by rw [← hV]; exact (World.frozen?_setCell _ _ _ _).trans h.z1
  have z2 : V.frozen? ⟨g, 2, none⟩ = false := by rw [← hV]; exact (World.frozen?_setCell _ _ _ _).trans h.z2
  have i0 : (V.setCell ⟨g, 1, none⟩ b).cell? ⟨g, 0, none⟩ = some a := (World.cell?_setCell_other _ _ _ _ (fun e => by cases e)).trans h0
  have i1 : (V.setCell ⟨g, 1, none⟩ b).cell? ⟨g, 1, none⟩ = some b := World.cell?_setCell_same _ _ _ h1
  have i2 : (V.setCell ⟨g, 1, none⟩ b).cell? ⟨g, 2, none⟩ = some z := (World.cell?_setCell_other _ _ _ _ (fun e => by cases e)).trans h2
  exact ⟨(World.cell?_setCell_other _ _ _ _ (fun e => by cases e)).trans i0, (World.cell?_setCell_other _ _ _ _ (fun e => by cases e)).trans i1, World.cell?_setCell_same _ _ _ i2,
    by simp [World.frozen?_setCell, z0], by simp [World.frozen?_setCell, z1], by simp [World.frozen?_setCell, z2]⟩
theorem three_two (w : World) (x y z x' y' z' : Value) (T T' : TypeId) :
    let W := (w.alloc (.cells #[x, y, z] T)).alloc (.cells #[x', y', z'] T')
    Three W w.heap.size x y z ∧ Three W (w.heap.size + 1) x' y' z' ∧ W.heap.size = w.heap.size + 2 ∧ Below w.heap.size w W := by
  intro W
  have s1 : (w.alloc (.cells #[x, y, z] T)).heap.size = w.heap.size + 1 := by simp
  have n1 := three_at w x y z T
  have n2 := three_at (w.alloc (.cells #[x, y, z] T)) x' y' z' T'
  rw [s1] at n2
  have b0 : Below w.heap.size w (w.alloc (.cells #[x, y, z] T)) := (Below.refl _ _).alloc (Nat.le_refl _) _
  have b1 : Below (w.alloc (.cells #[x, y, z] T)).heap.size (w.alloc (.cells #[x, y, z] T)) W := (Below.refl _ _).alloc (Nat.le_refl _) _
  exact ⟨n1.below b1, n2, by simp [W], b0.trans (b1.mono (by simp))⟩

set_option maxHeartbeats 1000000 in
theorem clkSlowS_calls (m v r : Int) (w : World) : Calls Try.prog 16 #[clkV m v r] w fun e w' => e = .returned (slowV m v r) ∧ Below w.heap.size w w' := by
  by_cases h : clkRight m v r
  · have hR := fun W => clkRightS_calls m v r W
    rw [decide_eq_true h] at hR
    have hs : slowV m v r = clkV m v (min (2 * r) 64) := by unfold slowV; rw [if_pos h]
    rw [hs]
    obtain ⟨hm, hv, hr⟩ := h
    have HR := Lib.hid hR
    clear hR hs hm hv
    go_enter Try.func16, Try.ntmps16
    go_wp2_with fail
    have h3 := three_two w (.int .i64 m) (.int .i64 v) (.int .i64 r) (.int .i64 0) (.int .i64 0) (.int .i64 0) 25 25
    dsimp only at h3
    generalize (w.alloc (.cells #[.int .i64 m, .int .i64 v, .int .i64 r] 25)).alloc (.cells #[.int .i64 0, .int .i64 0, .int .i64 0] 25) = W at *
    obtain ⟨n1, n2, hs, hb⟩ := h3
    refine (HR.out W).mono ?_
    rintro e w1 ⟨rfl, hb1⟩
    obtain ⟨f0, f1, f2, g0, g1, g2⟩ := n1.below hb1
    obtain ⟨f3, f4, f5, g3, g4, g5⟩ := n2.below hb1
    have HB := Lib.hid (hb.trans (hb1.mono hb.size))
    clear n1 n2 hb hb1 HR
    go_wp2_with fail
    refine (minS_calls _ _ _).mono ?_
    rintro e w2 ⟨rfl, rfl⟩
    go_wp2_with fail
    refine bodyPost_ret (v := clkV m v (min (2 * r) 64)) (by simp [results, Try.results16, go_sem, *]) rfl ⟨rfl, ?_⟩
    exact (((HB.out.setCell (Nat.le_refl _) _).setCell (Nat.le_succ _) _).setCell (Nat.le_succ _) _).setCell (Nat.le_succ _) _
  · have hR := fun W => clkRightS_calls m v r W
    rw [decide_eq_false h] at hR
    have hs : slowV m v r = clkV m v r := by unfold slowV; rw [if_neg h]
    rw [hs]
    have HR := Lib.hid hR
    clear hR hs h
    go_enter Try.func16, Try.ntmps16
    go_wp2_with fail
    have h3 := three_two w (.int .i64 m) (.int .i64 v) (.int .i64 r) (.int .i64 0) (.int .i64 0) (.int .i64 0) 25 25
    dsimp only at h3
    generalize (w.alloc (.cells #[.int .i64 m, .int .i64 v, .int .i64 r] 25)).alloc (.cells #[.int .i64 0, .int .i64 0, .int .i64 0] 25) = W at *
    obtain ⟨n1, n2, hs, hb⟩ := h3
    refine (HR.out W).mono ?_
    rintro e w1 ⟨rfl, hb1⟩
    obtain ⟨f0, f1, f2, g0, g1, g2⟩ := n1.below hb1
    obtain ⟨f3, f4, f5, g3, g4, g5⟩ := n2.below hb1
    have HB := Lib.hid (hb.trans (hb1.mono hb.size))
    clear n1 n2 hb hb1 HR
    go_wp2_with fail
    refine bodyPost_ret (v := clkV m v r) (by simp [results, Try.results16, go_sem, *]) rfl ⟨rfl, ?_⟩
    exact ((HB.out.setCell (Nat.le_succ _) _).setCell (Nat.le_succ _) _).setCell (Nat.le_succ _) _

theorem tookN_le (t : Int) : 0 ≤ tookN t ∧ tookN t ≤ 1000 := by unfold tookN; omega
set_option maxHeartbeats 2000000 in
theorem clkSampleS_zero (r t : Int) (w : World) (hr : 4 ≤ r ∧ r ≤ 64) : Calls Try.prog 14 #[clkV 0 0 r, .int .i64 t] w fun e w' => e = .returned (clkV (tookN t) (tookN t / 2) (max 4 (min (tookN t + 4 * (tookN t / 2)) 64))) ∧ Below w.heap.size w w' := by
  have hR := fun W => clkRightS_calls 0 0 r W
  rw [decide_eq_true (show clkRight 0 0 r from ⟨⟨by omega, by omega⟩, ⟨by omega, by omega⟩, hr⟩)] at hR
  have HR := Lib.hid hR
  clear hR
  have hM : ∀ W, Calls Try.prog 22 #[.int .i64 0, .int .i64 (min t 1000)] W fun e w' => e = .returned (.int .i64 (tookN t)) ∧ w' = W := fun W => maxS_calls 0 (min t 1000) W
  have hT := tookN_le t
  generalize tookN t = k at *
  have HM := Lib.hid hM
  clear hM
  go_enter Try.func14, Try.ntmps14
  go_wp2_with fail
  have h3 := three_two w (.int .i64 0) (.int .i64 0) (.int .i64 r) (.int .i64 0) (.int .i64 0) (.int .i64 0) 25 25
  dsimp only at h3
  generalize (w.alloc (.cells #[.int .i64 0, .int .i64 0, .int .i64 r] 25)).alloc (.cells #[.int .i64 0, .int .i64 0, .int .i64 0] 25) = W at *
  obtain ⟨n1, n2, hs, hb⟩ := h3
  refine (HR.out W).mono ?_
  rintro e w1 ⟨rfl, hb1⟩
  obtain ⟨f0, f1, f2, g0, g1, g2⟩ := n1.below hb1
  obtain ⟨f3, f4, f5, g3, g4, g5⟩ := n2.below hb1
  have HB := Lib.hid (hb.trans (hb1.mono hb.size))
  clear n1 n2 hb hb1 HR
  go_wp2_with fail
  refine (minS_calls _ _ _).mono ?_
  rintro e w2 ⟨rfl, rfl⟩
  go_wp2_with fail
  refine (HM.out _).mono ?_
  rintro e w2 ⟨rfl, rfl⟩
  clear HM
  have m1 := (Three.mk f0 f1 f2 g0 g1 g2).below ((Below.refl _ w2).alloc (Nat.le_refl _) (.cells #[.int .i64 k, .int .i64 (k / 2), .int .i64 0] 25))
  have m2 := (Three.mk f3 f4 f5 g3 g4 g5).below ((Below.refl _ w2).alloc (Nat.le_refl _) (.cells #[.int .i64 k, .int .i64 (k / 2), .int .i64 0] 25))
  have hlt := (Three.mk f3 f4 f5 g3 g4 g5).lt
  clear f0 f1 f2 g0 g1 g2 f3 f4 f5 g3 g4 g5
  obtain ⟨f0, f1, f2, g0, g1, g2⟩ := m1
  obtain ⟨f3, f4, f5, g3, g4, g5⟩ := m2
  go_wp2_with fail
  refine (minS_calls _ _ _).mono ?_
  rintro e w3 ⟨rfl, rfl⟩
  go_wp2_with fail
  refine (maxS_calls _ _ _).mono ?_
  rintro e w3 ⟨rfl, rfl⟩
  have m3 := three_at w2 (.int .i64 k) (.int .i64 (k / 2)) (.int .i64 0) 25
  have HB2 := Lib.hid (HB.out.alloc (by have := HB.out.size; omega) (.cells #[.int .i64 k, .int .i64 (k / 2), .int .i64 0] 25))
  generalize (w2.alloc (.cells #[.int .i64 k, .int .i64 (k / 2), .int .i64 0] 25)) = V at *
  have HL := Lib.hid hlt
  have hne : w2.heap.size ≠ w.heap.size + 1 := by omega
  clear HB f0 f1 f2 g0 g1 g2 hlt
  obtain ⟨f0, f1, f2, g0, g1, g2⟩ := m3
  go_wp2_with fail
  refine bodyPost_ret (v := clkV k (k / 2) (max 4 (min (k + 4 * (k / 2)) 64))) (by simp [results, Try.results14, go_sem, *]) rfl ⟨rfl, ?_⟩
  exact (((HB2.out.setCell (by show w.heap.size ≤ w2.heap.size; have := HL.out; omega) _).setCell (Nat.le_succ _) _).setCell (Nat.le_succ _) _).setCell (Nat.le_succ _) _

set_option maxHeartbeats 4000000 in
theorem clkSampleS_more (m v r t : Int) (w : World) (hm : 0 ≤ m ∧ m ≤ 1000) (hv : 0 ≤ v ∧ v ≤ 1000) (hr : 4 ≤ r ∧ r ≤ 64) (hz : m ≠ 0) : Calls Try.prog 14 #[clkV m v r, .int .i64 t] w fun e w' =>
    e = .returned (clkV ((7 * m + tookN t) / 8) ((3 * v + max (tookN t - m) (m - tookN t)) / 4) (max 4 (min ((7 * m + tookN t) / 8 + 4 * ((3 * v + max (tookN t - m) (m - tookN t)) / 4)) 64))) ∧ Below w.heap.size w w' := by
  have hR := fun W => clkRightS_calls m v r W
  rw [decide_eq_true (show clkRight m v r from ⟨by omega, hv, hr⟩)] at hR
  have HR := Lib.hid hR
  clear hR
  have hM : ∀ W, Calls Try.prog 22 #[.int .i64 0, .int .i64 (min t 1000)] W fun e w' => e = .returned (.int .i64 (tookN t)) ∧ w' = W := fun W => maxS_calls 0 (min t 1000) W
  have hT := tookN_le t
  generalize tookN t = k at *
  have HM := Lib.hid hM
  have hF : ∀ W, Calls Try.prog 22 #[.int .i64 (k - m), .int .i64 (m - k)] W fun e w' => e = .returned (.int .i64 (max (k - m) (m - k))) ∧ w' = W := fun W => maxS_calls (k - m) (m - k) W
  have hf : 0 ≤ max (k - m) (m - k) ∧ max (k - m) (m - k) ≤ 1000 := by omega
  generalize max (k - m) (m - k) = f at *
  have HF := Lib.hid hF
  clear hF
  clear hM
  go_enter Try.func14, Try.ntmps14
  go_wp2_with fail
  have h3 := three_two w (.int .i64 m) (.int .i64 v) (.int .i64 r) (.int .i64 0) (.int .i64 0) (.int .i64 0) 25 25
  dsimp only at h3
  generalize ((w.alloc (.cells #[.int .i64 m, .int .i64 v, .int .i64 r] 25)).alloc (.cells #[.int .i64 0, .int .i64 0, .int .i64 0] 25)) = W at *
  obtain ⟨n1, n2, hs, hb⟩ := h3
  refine (HR.out W).mono ?_
  rintro e w1 ⟨rfl, hb1⟩
  obtain ⟨f0, f1, f2, g0, g1, g2⟩ := n1.below hb1
  obtain ⟨f3, f4, f5, g3, g4, g5⟩ := n2.below hb1
  have HB := Lib.hid (hb.trans (hb1.mono hb.size))
  clear n1 n2 hb hb1 HR
  go_wp2_with fail
  refine (minS_calls _ _ _).mono ?_
  rintro e w2 ⟨rfl, rfl⟩
  go_wp2_with fail
  refine (HM.out _).mono ?_
  rintro e w2 ⟨rfl, rfl⟩
  clear HM
  have m1 := (Three.mk f0 f1 f2 g0 g1 g2).below ((Below.refl _ w2).alloc (Nat.le_refl _) (.cells #[.int .i64 k, .int .i64 (k / 2), .int .i64 0] 25))
  have m2 := (Three.mk f3 f4 f5 g3 g4 g5).below ((Below.refl _ w2).alloc (Nat.le_refl _) (.cells #[.int .i64 k, .int .i64 (k / 2), .int .i64 0] 25))
  have hlt := (Three.mk f3 f4 f5 g3 g4 g5).lt
  clear f0 f1 f2 g0 g1 g2 f3 f4 f5 g3 g4 g5
  obtain ⟨f0, f1, f2, g0, g1, g2⟩ := m1
  obtain ⟨f3, f4, f5, g3, g4, g5⟩ := m2
  go_wp2_with fail
  refine (HF.out _).mono ?_
  rintro e w3 ⟨rfl, rfl⟩
  clear HF
  have m3 := three_at w2 (.int .i64 k) (.int .i64 (k / 2)) (.int .i64 0) 25
  have HB2 := Lib.hid (HB.out.alloc (by have := HB.out.size; omega) (.cells #[.int .i64 k, .int .i64 (k / 2), .int .i64 0] 25))
  generalize (w2.alloc (.cells #[.int .i64 k, .int .i64 (k / 2), .int .i64 0] 25)) = V at *
  have HL := Lib.hid hlt
  have hne : w2.heap.size ≠ w.heap.size + 1 := by omega
  have hne2 : w.heap.size ≠ w2.heap.size := by omega
  clear HB hlt
  obtain ⟨e0, e1, e2, b0, b1, b2⟩ := m3
  go_wp2_with fail
  have k1 := (Three.mk e0 e1 e2 b0 b1 b2).set3 (.int .i64 ((7 * m + k) / 8)) (.int .i64 ((3 * v + f) / 4)) (.int .i64 0)
  have k2 := (((Three.mk f3 f4 f5 g3 g4 g5).other (p := ⟨w2.heap.size, 0, none⟩) hne (.int .i64 ((7 * m + k) / 8))).other (p := ⟨w2.heap.size, 1, none⟩) hne (.int .i64 ((3 * v + f) / 4))).other (p := ⟨w2.heap.size, 2, none⟩) hne (.int .i64 0)
  have hw : w.heap.size ≤ w2.heap.size := by have := HL.out; omega
  have HB3 := Lib.hid (((HB2.out.setCell (p := ⟨w2.heap.size, 0, none⟩) hw (.int .i64 ((7 * m + k) / 8))).setCell (p := ⟨w2.heap.size, 1, none⟩) hw (.int .i64 ((3 * v + f) / 4))).setCell (p := ⟨w2.heap.size, 2, none⟩) hw (.int .i64 0))
  generalize ((V.setCell ⟨w2.heap.size, 0, none⟩ (.int .i64 ((7 * m + k) / 8))).setCell ⟨w2.heap.size, 1, none⟩ (.int .i64 ((3 * v + f) / 4))).setCell ⟨w2.heap.size, 2, none⟩ (.int .i64 0) = Y at *
  clear e0 e1 e2 b0 b1 b2 f3 f4 f5 g3 g4 g5 f0 f1 f2 g0 g1 g2 HB2
  obtain ⟨e0, e1, e2, b0, b1, b2⟩ := k1
  obtain ⟨f3, f4, f5, g3, g4, g5⟩ := k2
  refine (minS_calls _ _ _).mono ?_
  rintro e w3 ⟨rfl, rfl⟩
  go_wp2_with fail
  refine (maxS_calls _ _ _).mono ?_
  rintro e w3 ⟨rfl, rfl⟩
  go_wp2_with fail
  refine bodyPost_ret (v := clkV ((7 * m + k) / 8) ((3 * v + f) / 4) (max 4 (min ((7 * m + k) / 8 + 4 * ((3 * v + f) / 4)) 64))) (by simp [results, Try.results14, go_sem, *]) rfl ⟨rfl, ?_⟩
  exact (((HB3.out.setCell hw _).setCell (Nat.le_succ _) _).setCell (Nat.le_succ _) _).setCell (Nat.le_succ _) _

set_option maxHeartbeats 4000000 in
theorem clkSampleS_var (v r t : Int) (w : World) (hv : 0 ≤ v ∧ v ≤ 1000) (hr : 4 ≤ r ∧ r ≤ 64) (hz : v ≠ 0) : Calls Try.prog 14 #[clkV 0 v r, .int .i64 t] w fun e w' =>
    e = .returned (clkV (tookN t / 8) ((3 * v + tookN t) / 4) (max 4 (min (tookN t / 8 + 4 * ((3 * v + tookN t) / 4)) 64))) ∧ Below w.heap.size w w' := by
  have hR := fun W => clkRightS_calls 0 v r W
  rw [decide_eq_true (show clkRight 0 v r from ⟨by omega, hv, hr⟩)] at hR
  have HR := Lib.hid hR
  clear hR
  have hM : ∀ W, Calls Try.prog 22 #[.int .i64 0, .int .i64 (min t 1000)] W fun e w' => e = .returned (.int .i64 (tookN t)) ∧ w' = W := fun W => maxS_calls 0 (min t 1000) W
  have hT := tookN_le t
  generalize tookN t = k at *
  have HM := Lib.hid hM
  have hF : ∀ W, Calls Try.prog 22 #[.int .i64 k, .int .i64 (-k)] W fun e w' => e = .returned (.int .i64 (max k (-k))) ∧ w' = W := fun W => maxS_calls k (-k) W
  rw [show max k (-k) = k by omega] at hF
  have HF := Lib.hid hF
  clear hF
  clear hM
  go_enter Try.func14, Try.ntmps14
  go_wp2_with fail
  have h3 := three_two w (.int .i64 0) (.int .i64 v) (.int .i64 r) (.int .i64 0) (.int .i64 0) (.int .i64 0) 25 25
  dsimp only at h3
  generalize ((w.alloc (.cells #[.int .i64 0, .int .i64 v, .int .i64 r] 25)).alloc (.cells #[.int .i64 0, .int .i64 0, .int .i64 0] 25)) = W at *
  obtain ⟨n1, n2, hs, hb⟩ := h3
  refine (HR.out W).mono ?_
  rintro e w1 ⟨rfl, hb1⟩
  obtain ⟨f0, f1, f2, g0, g1, g2⟩ := n1.below hb1
  obtain ⟨f3, f4, f5, g3, g4, g5⟩ := n2.below hb1
  have HB := Lib.hid (hb.trans (hb1.mono hb.size))
  clear n1 n2 hb hb1 HR
  go_wp2_with fail
  refine (minS_calls _ _ _).mono ?_
  rintro e w2 ⟨rfl, rfl⟩
  go_wp2_with fail
  refine (HM.out _).mono ?_
  rintro e w2 ⟨rfl, rfl⟩
  clear HM
  have m1 := (Three.mk f0 f1 f2 g0 g1 g2).below ((Below.refl _ w2).alloc (Nat.le_refl _) (.cells #[.int .i64 k, .int .i64 (k / 2), .int .i64 0] 25))
  have m2 := (Three.mk f3 f4 f5 g3 g4 g5).below ((Below.refl _ w2).alloc (Nat.le_refl _) (.cells #[.int .i64 k, .int .i64 (k / 2), .int .i64 0] 25))
  have hlt := (Three.mk f3 f4 f5 g3 g4 g5).lt
  clear f0 f1 f2 g0 g1 g2 f3 f4 f5 g3 g4 g5
  obtain ⟨f0, f1, f2, g0, g1, g2⟩ := m1
  obtain ⟨f3, f4, f5, g3, g4, g5⟩ := m2
  go_wp2_with fail
  refine (HF.out _).mono ?_
  rintro e w3 ⟨rfl, rfl⟩
  clear HF
  have m3 := three_at w2 (.int .i64 k) (.int .i64 (k / 2)) (.int .i64 0) 25
  have HB2 := Lib.hid (HB.out.alloc (by have := HB.out.size; omega) (.cells #[.int .i64 k, .int .i64 (k / 2), .int .i64 0] 25))
  generalize (w2.alloc (.cells #[.int .i64 k, .int .i64 (k / 2), .int .i64 0] 25)) = V at *
  have HL := Lib.hid hlt
  have hne : w2.heap.size ≠ w.heap.size + 1 := by omega
  have hne2 : w.heap.size ≠ w2.heap.size := by omega
  clear HB hlt
  obtain ⟨e0, e1, e2, b0, b1, b2⟩ := m3
  go_wp2_with fail
  have k1 := (Three.mk e0 e1 e2 b0 b1 b2).set3 (.int .i64 (k / 8)) (.int .i64 ((3 * v + k) / 4)) (.int .i64 0)
  have k2 := (((Three.mk f3 f4 f5 g3 g4 g5).other (p := ⟨w2.heap.size, 0, none⟩) hne (.int .i64 (k / 8))).other (p := ⟨w2.heap.size, 1, none⟩) hne (.int .i64 ((3 * v + k) / 4))).other (p := ⟨w2.heap.size, 2, none⟩) hne (.int .i64 0)
  have hw : w.heap.size ≤ w2.heap.size := by have := HL.out; omega
  have HB3 := Lib.hid (((HB2.out.setCell (p := ⟨w2.heap.size, 0, none⟩) hw (.int .i64 (k / 8))).setCell (p := ⟨w2.heap.size, 1, none⟩) hw (.int .i64 ((3 * v + k) / 4))).setCell (p := ⟨w2.heap.size, 2, none⟩) hw (.int .i64 0))
  generalize ((V.setCell ⟨w2.heap.size, 0, none⟩ (.int .i64 (k / 8))).setCell ⟨w2.heap.size, 1, none⟩ (.int .i64 ((3 * v + k) / 4))).setCell ⟨w2.heap.size, 2, none⟩ (.int .i64 0) = Y at *
  clear e0 e1 e2 b0 b1 b2 f3 f4 f5 g3 g4 g5 f0 f1 f2 g0 g1 g2 HB2
  obtain ⟨e0, e1, e2, b0, b1, b2⟩ := k1
  obtain ⟨f3, f4, f5, g3, g4, g5⟩ := k2
  refine (minS_calls _ _ _).mono ?_
  rintro e w3 ⟨rfl, rfl⟩
  go_wp2_with fail
  refine (maxS_calls _ _ _).mono ?_
  rintro e w3 ⟨rfl, rfl⟩
  go_wp2_with fail
  refine bodyPost_ret (v := clkV (k / 8) ((3 * v + k) / 4) (max 4 (min (k / 8 + 4 * ((3 * v + k) / 4)) 64))) (by simp [results, Try.results14, go_sem, *]) rfl ⟨rfl, ?_⟩
  exact (((HB3.out.setCell hw _).setCell (Nat.le_succ _) _).setCell (Nat.le_succ _) _).setCell (Nat.le_succ _) _

theorem clkSampleS_calls (m v r t : Int) (w : World) : Calls Try.prog 14 #[clkV m v r, .int .i64 t] w fun e w' => e = .returned (sampleV m v r t) ∧ Below w.heap.size w w' := by
  by_cases h : clkRight m v r
  · obtain ⟨hm, hv, hr⟩ := id h
    by_cases hz : m = 0 ∧ v = 0
    · obtain ⟨rfl, rfl⟩ := hz
      have hs : sampleV 0 0 r t = clkV (tookN t) (tookN t / 2) (max 4 (min (tookN t + 4 * (tookN t / 2)) 64)) := by simp [sampleV, h, meanN, varN, rtoN]
      rw [hs]
      exact clkSampleS_zero r t w hr
    · by_cases hm0 : m = 0
      · subst hm0
        have hs : sampleV 0 v r t = clkV (tookN t / 8) ((3 * v + tookN t) / 4) (max 4 (min (tookN t / 8 + 4 * ((3 * v + tookN t) / 4)) 64)) := by
          have hT := tookN_le t
          have h1 : max (tookN t - 0) (0 - tookN t) = tookN t := by omega
          have h2 : 7 * 0 + tookN t = tookN t := by omega
          have h3 : meanN 0 v t = tookN t / 8 := by unfold meanN; rw [if_neg hz, h2]
          have h4 : varN 0 v t = (3 * v + tookN t) / 4 := by unfold varN; rw [if_neg hz, h1]
          unfold sampleV rtoN
          rw [if_pos h, h3, h4]
        rw [hs]
        exact clkSampleS_var v r t w hv hr (by omega)
      have hs : sampleV m v r t = clkV ((7 * m + tookN t) / 8) ((3 * v + max (tookN t - m) (m - tookN t)) / 4) (max 4 (min ((7 * m + tookN t) / 8 + 4 * ((3 * v + max (tookN t - m) (m - tookN t)) / 4)) 64)) := by
        simp only [sampleV, if_pos h, meanN, varN, rtoN, if_neg hz]
      rw [hs]
      exact clkSampleS_more m v r t w hm hv hr hm0
  · have hR := fun W => clkRightS_calls m v r W
    rw [decide_eq_false h] at hR
    have hs : sampleV m v r t = clkV m v r := by unfold sampleV; rw [if_neg h]
    rw [hs]
    have HR := Lib.hid hR
    clear hR hs h
    go_enter Try.func14, Try.ntmps14
    go_wp2_with fail
    have h3 := three_two w (.int .i64 m) (.int .i64 v) (.int .i64 r) (.int .i64 0) (.int .i64 0) (.int .i64 0) 25 25
    dsimp only at h3
    generalize (w.alloc (.cells #[.int .i64 m, .int .i64 v, .int .i64 r] 25)).alloc (.cells #[.int .i64 0, .int .i64 0, .int .i64 0] 25) = W at *
    obtain ⟨n1, n2, hs, hb⟩ := h3
    refine (HR.out W).mono ?_
    rintro e w1 ⟨rfl, hb1⟩
    obtain ⟨f0, f1, f2, g0, g1, g2⟩ := n1.below hb1
    obtain ⟨f3, f4, f5, g3, g4, g5⟩ := n2.below hb1
    have HB := Lib.hid (hb.trans (hb1.mono hb.size))
    clear n1 n2 hb hb1 HR
    go_wp2_with fail
    refine bodyPost_ret (v := clkV m v r) (by simp [results, Try.results14, go_sem, *]) rfl ⟨rfl, ?_⟩
    exact ((HB.out.setCell (Nat.le_succ _) _).setCell (Nat.le_succ _) _).setCell (Nat.le_succ _) _
end Go.Proofs.Ytiplbnmblobecaa
