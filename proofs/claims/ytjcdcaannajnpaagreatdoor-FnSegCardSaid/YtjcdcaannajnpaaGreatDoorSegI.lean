/- SegRead and AckRead, the program's. -/
import Derived.Test.YtjcdcaannajnpaaGreatDoorItemsB
namespace Go.Proofs.YtjcdcaannajnpaaGreatDoor
open Go.RowKit

/-- A piece, an answer was read, or the code of what is wrong. -/
def SegEnd (t : List UInt8) (w : World) (e : Ending) (w' : World) : Prop := ∃ v, e = .returned v ∧ SegGot t v ∧ Below w.heap.size w w'
def AckEnd (t : List UInt8) (w : World) (e : Ending) (w' : World) : Prop := ∃ v, e = .returned v ∧ AckGot t v ∧ Below w.heap.size w w'
theorem far_block {w : World} {q r off : Nat} {x : Value} {o : Obj} (h : w.heap[r]? = some o) (hne : r ≠ q) : (w.setCell ⟨q, off, none⟩ x).heap[r]? = some o := (Below.heap_setCell w ⟨q, off, none⟩ x r hne).trans h
theorem kept_block {w v : World} {r : Nat} {o : Obj} (h : w.heap[r]? = some o) (hb : Below w.heap.size w v) : v.heap[r]? = some o := (hb.block r (Array.getElem?_eq_some_iff.1 h).1).trans h

theorem segOfT_calls (p s d : Int) (t : List UInt8) (e : Int) (w : World) : Calls Tryz.prog 45 #[segV p s d t e] w fun x w' => x = .returned (segV p s d t e) ∧ Below w.heap.size w w' := by
  go_enter Tryz.func45, Tryz.ntmps45
  go_wp2
  refine bodyPost_ret (v := segV p s d t e) (by simp [results, Tryz.results45, go_sem]) rfl ⟨rfl, ?_⟩
  go_grown
theorem ackOfT_calls (p s d e : Int) (w : World) : Calls Tryz.prog 46 #[ackV p s d e] w fun x w' => x = .returned (ackV p s d e) ∧ Below w.heap.size w w' := by
  go_enter Tryz.func46, Tryz.ntmps46
  go_wp2
  refine bodyPost_ret (v := ackV p s d e) (by simp [results, Tryz.results46, go_sem]) rfl ⟨rfl, ?_⟩
  go_grown

set_option maxHeartbeats 2000000 in
set_option maxRecDepth 100000 in
theorem segReadI_calls (t : List UInt8) (w : World) (hg : EtCell w) (hl : t.length ≤ 9223372036854775807) :
    Calls Tryz.prog 10 #[gs t] w (SegEnd t w) := by
  have HG := Lib.hid hg
  have HO := Lib.hid (fun W => open_calls t 83 W hl)
  clear hg
  go_enter Tryz.func10, Tryz.ntmps10
  go_wp2_with fail
  (with_reducible refine (HO.out _).mono ?_)
  rintro e w1 ⟨p, b, c0, rfl, ho, hbt, hp, hi0, hb1⟩
  have r1 := (hb1.block w.heap.size (by simp)).trans (alloc_there _ _)
  have hbw1 : Below w.heap.size w w1 := ((Below.refl _ _).alloc (Nat.le_refl _) _).trans (hb1.mono (by simp))
  simp at hp
  have hpr : p ≠ w.heap.size := by omega
  have HOC := Lib.hid ho
  have HR1 := Lib.hid r1
  have HB1 := Lib.hid hbw1
  have H2 := Lib.hid (head_calls hi0 (by omega) ⟨by omega, by omega⟩)
  clear ho r1 hbw1 hb1 hi0 HO
  go_wp2_with fail
  (with_reducible refine H2.out.mono ?_)
  rintro e w2 ⟨n1, n2, n3, a1, a2, a3, c1, c2, c3, rfl, ha3, s1, s2, s3, hi3, hg2⟩
  have HS1 := Lib.hid s1
  have HS2 := Lib.hid s2
  have HS3 := Lib.hid s3
  have HR2 := Lib.hid (other_block hg2 HR1.out hpr)
  have HB2 := Lib.hid (HB1.out.grown hg2 HB1.out.size (fun k hk => by have := Option.some.inj hk; omega))
  have hpq : p < w2.heap.size := hi3.lt
  have hwq : w.heap.size < w2.heap.size := (Array.getElem?_eq_some_iff.1 HR2.out).1
  have H3 := Lib.hid (fun o => text_calls (hi3.below ((Below.refl _ _).alloc (Nat.le_refl _) o)) (by omega) ha3)
  clear s1 s2 s3 ha3 hi3 hg2 H2 HR1 HB1
  go_wp2_with fail
  (with_reducible refine (H3.out _).mono ?_)
  rintro e w3 ⟨x, a4, c4, rfl, hxl, ha4, s4, hi4, hg3⟩
  have HS4 := Lib.hid s4
  have q3 := other_block hg3 (alloc_there _ _) (by omega)
  have HR3 := Lib.hid (other_block (grew_alloc hg3) HR2.out hpr)
  have HB3 := Lib.hid (HB2.out.grown (grew_alloc hg3) HB2.out.size (fun k hk => by have := Option.some.inj hk; omega))
  generalize w2.heap.size = q at *
  have hne : p ≠ q := by omega
  have hwr : w.heap.size ≠ q := by omega
  have k3 : w3.cell? ⟨q, 3, none⟩ = some (gs []) := cell_of_row w3 q 3 _ _ _ q3
  have f3 : w3.frozen? ⟨q, 3, none⟩ = false := frozen_of_row w3 q 3 _ _ q3
  have HQ3 := Lib.hid q3
  have H4 := Lib.hid (num_calls (hi4.far (off := 3) (x := gs x) hne) (by omega) ha4)
  clear s4 ha4 hi4 hg3 q3 H3 HR2 HB2
  go_wp2_with fail
  (with_reducible refine H4.out.mono ?_)
  rintro e w4 ⟨en, a5, c5, rfl, ha5, s5, hi5, hg4⟩
  have HS5 := Lib.hid s5
  have q4 : w4.heap[q]? = some (.cells #[.int .i64 n1, .int .i64 n2, .int .i64 n3, gs x, .int .i64 0] 45 (0, 0)) := other_block hg4 (blk_set (off := 3) HQ3.out (gs x)) hne
  have HR4 := Lib.hid (other_block hg4 (far_block (off := 3) (x := gs x) HR3.out hwr) hpr)
  have HB4 := Lib.hid ((HB3.out.setCell (p := ⟨q, 3, none⟩) (by show w.heap.size ≤ q; omega) (gs x)).grown hg4 (by have := HB3.out.size; simp [World.setCell]; omega) (fun k hk => by have := Option.some.inj hk; omega))
  clear k3 f3
  have k0 : w4.cell? ⟨q, 0, none⟩ = some (.int .i64 n1) := cell_of_row w4 q 0 _ _ _ q4
  have k1 : w4.cell? ⟨q, 1, none⟩ = some (.int .i64 n2) := cell_of_row w4 q 1 _ _ _ q4
  have k2 : w4.cell? ⟨q, 2, none⟩ = some (.int .i64 n3) := cell_of_row w4 q 2 _ _ _ q4
  have k3 : w4.cell? ⟨q, 3, none⟩ = some (gs x) := cell_of_row w4 q 3 _ _ _ q4
  have k4 : w4.cell? ⟨q, 4, none⟩ = some (.int .i64 0) := cell_of_row w4 q 4 _ _ _ q4
  have f4 : w4.frozen? ⟨q, 4, none⟩ = false := frozen_of_row w4 q 4 _ _ q4
  have HQ4 := Lib.hid q4
  have HI5 := Lib.hid (hi5.far (off := 4) (x := .int .i64 en) hne)
  have HRT := Lib.hid (fun W => segRt_calls n1 n2 n3 x en W (by omega))
  clear s5 ha5 hi5 hg4 q4 H4 HR3 HB3 HQ3
  go_wp2_with fail
  (with_reducible refine (HRT.out _).mono ?_)
  rintro e w5 ⟨rfl, hb5⟩
  have HQ5 := Lib.hid (kept_block (blk_set (off := 4) HQ4.out (.int .i64 en)) hb5)
  have HR5 := Lib.hid (kept_block (far_block (off := 4) (x := .int .i64 en) HR4.out hwr) hb5)
  have HB5 := Lib.hid ((HB4.out.setCell (p := ⟨q, 4, none⟩) (by show w.heap.size ≤ q; omega) (.int .i64 en)).trans (hb5.mono (by have := HB4.out.size; simp [World.setCell]; omega)))
  have H6 := Lib.hid (finish_calls (HI5.out.below hb5) (by omega) (decide (segOk n1 n2 n3 x en)))
  clear k0 k1 k2 k3 k4 f4 hb5 HI5 HQ4 HR4 HB4 HRT
  go_wp2_with fail
  (with_reducible refine H6.out.mono ?_)
  rintro e w6 ⟨rfl, hb6⟩
  have q6 : w6.heap[q]? = some (.cells #[.int .i64 n1, .int .i64 n2, .int .i64 n3, gs x, .int .i64 en] 45 (0, 0)) := kept_block HQ5.out hb6
  have r6 := kept_block HR5.out hb6
  have HB6 := Lib.hid (HB5.out.trans (hb6.mono HB5.out.size))
  have hse := seg_end HOC.out HS1.out HS2.out HS3.out HS4.out HS5.out
  clear hb6 H6 HB5 HR5 HQ5
  generalize endC c5 a5 b.length (decide (segOk n1 n2 n3 x en)) = cf at *
  have HR6 := Lib.hid r6
  by_cases hcf : cf = 0
  · have k0 : w6.cell? ⟨q, 0, none⟩ = some (.int .i64 n1) := cell_of_row w6 q 0 _ _ _ q6
    have k1 : w6.cell? ⟨q, 1, none⟩ = some (.int .i64 n2) := cell_of_row w6 q 1 _ _ _ q6
    have k2 : w6.cell? ⟨q, 2, none⟩ = some (.int .i64 n3) := cell_of_row w6 q 2 _ _ _ q6
    have k3 : w6.cell? ⟨q, 3, none⟩ = some (gs x) := cell_of_row w6 q 3 _ _ _ q6
    have k4 : w6.cell? ⟨q, 4, none⟩ = some (.int .i64 en) := cell_of_row w6 q 4 _ _ _ q6
    have HSE := Lib.hid (hse.1 hcf)
    subst hcf
    rw [errV_zero]
    clear hse q6 r6
    go_wp2_with fail
    refine (segOfT_calls _ _ _ _ _ _).mono ?_
    rintro e w7 ⟨rfl, hb7⟩
    have r7 := kept_block HR6.out hb7
    have HB7 := Lib.hid (HB6.out.trans (hb7.mono HB6.out.size))
    clear k0 k1 k2 k3 k4 hb7 HB6 HR6
    generalize hr : w.heap.size = r at *
    have k0 : w7.cell? ⟨r, 0, none⟩ = some (.int .i64 0) := cell_of_row w7 r 0 _ _ _ r7
    have k1 : w7.cell? ⟨r, 1, none⟩ = some (.int .i64 0) := cell_of_row w7 r 1 _ _ _ r7
    have k2 : w7.cell? ⟨r, 2, none⟩ = some (.int .i64 0) := cell_of_row w7 r 2 _ _ _ r7
    have k3 : w7.cell? ⟨r, 3, none⟩ = some (gs []) := cell_of_row w7 r 3 _ _ _ r7
    have k4 : w7.cell? ⟨r, 4, none⟩ = some (.int .i64 0) := cell_of_row w7 r 4 _ _ _ r7
    have k5 : w7.cell? ⟨r, 5, none⟩ = some (.int .i64 0) := cell_of_row w7 r 5 _ _ _ r7
    have f0 : w7.frozen? ⟨r, 0, none⟩ = false := frozen_of_row w7 r 0 _ _ r7
    have f1 : w7.frozen? ⟨r, 1, none⟩ = false := frozen_of_row w7 r 1 _ _ r7
    have f2 : w7.frozen? ⟨r, 2, none⟩ = false := frozen_of_row w7 r 2 _ _ r7
    have f3 : w7.frozen? ⟨r, 3, none⟩ = false := frozen_of_row w7 r 3 _ _ r7
    have f4 : w7.frozen? ⟨r, 4, none⟩ = false := frozen_of_row w7 r 4 _ _ r7
    have f5 : w7.frozen? ⟨r, 5, none⟩ = false := frozen_of_row w7 r 5 _ _ r7
    have HW := Lib.hid hr
    clear r7 hr
    go_wp2_with fail
    refine bodyPost_ret (v := segOut n1 n2 n3 x en 0) (by simp [results, Tryz.results10, go_sem, k0, k1, k2, k3, k4, k5]) rfl ⟨_, rfl, HSE.out, ?_⟩
    rw [HW.out]
    exact ((((((HB7.out.setCell (Nat.le_refl _) _).setCell (Nat.le_refl _) _).setCell (Nat.le_refl _) _).setCell (Nat.le_refl _) _).setCell (Nat.le_refl _) _).setCell (Nat.le_refl _) _)
  · have HSE := Lib.hid (hse.2 hcf)
    rw [errV_ne hcf]
    have HC := Lib.hid (code_calls cf w6 (HG.out.below HB6.out))
    clear hse q6 r6 hcf
    go_wp2_with fail
    refine HC.out.mono ?_
    rintro e w7 ⟨rfl, hb7⟩
    have r7 := kept_block HR6.out hb7
    have HB7 := Lib.hid (HB6.out.trans (hb7.mono HB6.out.size))
    clear hb7 HB6 HR6
    generalize hr : w.heap.size = r at *
    have k0 : w7.cell? ⟨r, 0, none⟩ = some (.int .i64 0) := cell_of_row w7 r 0 _ _ _ r7
    have k1 : w7.cell? ⟨r, 1, none⟩ = some (.int .i64 0) := cell_of_row w7 r 1 _ _ _ r7
    have k2 : w7.cell? ⟨r, 2, none⟩ = some (.int .i64 0) := cell_of_row w7 r 2 _ _ _ r7
    have k3 : w7.cell? ⟨r, 3, none⟩ = some (gs []) := cell_of_row w7 r 3 _ _ _ r7
    have k4 : w7.cell? ⟨r, 4, none⟩ = some (.int .i64 0) := cell_of_row w7 r 4 _ _ _ r7
    have k5 : w7.cell? ⟨r, 5, none⟩ = some (.int .i64 0) := cell_of_row w7 r 5 _ _ _ r7
    have f0 : w7.frozen? ⟨r, 0, none⟩ = false := frozen_of_row w7 r 0 _ _ r7
    have f1 : w7.frozen? ⟨r, 1, none⟩ = false := frozen_of_row w7 r 1 _ _ r7
    have f2 : w7.frozen? ⟨r, 2, none⟩ = false := frozen_of_row w7 r 2 _ _ r7
    have f3 : w7.frozen? ⟨r, 3, none⟩ = false := frozen_of_row w7 r 3 _ _ r7
    have f4 : w7.frozen? ⟨r, 4, none⟩ = false := frozen_of_row w7 r 4 _ _ r7
    have f5 : w7.frozen? ⟨r, 5, none⟩ = false := frozen_of_row w7 r 5 _ _ r7
    have HW := Lib.hid hr
    clear r7 hr
    go_wp2_with fail
    refine bodyPost_ret (v := segOut 0 0 0 [] 0 cf) (by simp [results, Tryz.results10, go_sem, k0, k1, k2, k3, k4, k5]) rfl ⟨_, rfl, HSE.out, ?_⟩
    rw [HW.out]
    exact ((((((HB7.out.setCell (Nat.le_refl _) _).setCell (Nat.le_refl _) _).setCell (Nat.le_refl _) _).setCell (Nat.le_refl _) _).setCell (Nat.le_refl _) _).setCell (Nat.le_refl _) _)

set_option maxHeartbeats 2000000 in
set_option maxRecDepth 100000 in
theorem ackReadI_calls (t : List UInt8) (w : World) (hg : EtCell w) (hl : t.length ≤ 9223372036854775807) :
    Calls Tryz.prog 11 #[gs t] w (AckEnd t w) := by
  have HG := Lib.hid hg
  have HO := Lib.hid (fun W => open_calls t 65 W hl)
  clear hg
  go_enter Tryz.func11, Tryz.ntmps11
  go_wp2_with fail
  (with_reducible refine (HO.out _).mono ?_)
  rintro e w1 ⟨p, b, c0, rfl, ho, hbt, hp, hi0, hb1⟩
  have r1 := (hb1.block w.heap.size (by simp)).trans (alloc_there _ _)
  have hbw1 : Below w.heap.size w w1 := ((Below.refl _ _).alloc (Nat.le_refl _) _).trans (hb1.mono (by simp))
  simp at hp
  have hpr : p ≠ w.heap.size := by omega
  have HOC := Lib.hid ho
  have HR1 := Lib.hid r1
  have HB1 := Lib.hid hbw1
  have H2 := Lib.hid (head_calls hi0 (by omega) ⟨by omega, by omega⟩)
  clear ho r1 hbw1 hb1 hi0 HO
  go_wp2_with fail
  (with_reducible refine H2.out.mono ?_)
  rintro e w3 ⟨n1, n2, n3, a1, a2, a3, c1, c2, c3, rfl, ha3, s1, s2, s3, hi3, hg2⟩
  have HS1 := Lib.hid s1
  have HS2 := Lib.hid s2
  have HS3 := Lib.hid s3
  have HR3 := Lib.hid (other_block hg2 HR1.out hpr)
  have HB3 := Lib.hid (HB1.out.grown hg2 HB1.out.size (fun k hk => by have := Option.some.inj hk; omega))
  have hpq : p < w3.heap.size := hi3.lt
  have hwq : w.heap.size < w3.heap.size := (Array.getElem?_eq_some_iff.1 HR3.out).1
  have H4 := Lib.hid (fun o => num_calls (hi3.below ((Below.refl _ _).alloc (Nat.le_refl _) o)) (by omega) ha3)
  clear s1 s2 s3 ha3 hi3 hg2 H2 HR1 HB1
  go_wp2_with fail
  (with_reducible refine (H4.out _).mono ?_)
  rintro e w4 ⟨en, a5, c5, rfl, ha5, s5, hi5, hg4⟩
  have HS5 := Lib.hid s5
  have q4 : w4.heap[w3.heap.size]? = some (.cells #[.int .i64 n1, .int .i64 n2, .int .i64 n3, .int .i64 0] 52 (0, 0)) := other_block hg4 (alloc_there _ _) (by omega)
  have HR4 := Lib.hid (other_block (grew_alloc hg4) HR3.out hpr)
  have HB4 := Lib.hid (HB3.out.grown (grew_alloc hg4) HB3.out.size (fun k hk => by have := Option.some.inj hk; omega))
  generalize w3.heap.size = q at *
  have hne : p ≠ q := by omega
  have hwr : w.heap.size ≠ q := by omega
  have k0 : w4.cell? ⟨q, 0, none⟩ = some (.int .i64 n1) := cell_of_row w4 q 0 _ _ _ q4
  have k1 : w4.cell? ⟨q, 1, none⟩ = some (.int .i64 n2) := cell_of_row w4 q 1 _ _ _ q4
  have k2 : w4.cell? ⟨q, 2, none⟩ = some (.int .i64 n3) := cell_of_row w4 q 2 _ _ _ q4
  have k3 : w4.cell? ⟨q, 3, none⟩ = some (.int .i64 0) := cell_of_row w4 q 3 _ _ _ q4
  have f3 : w4.frozen? ⟨q, 3, none⟩ = false := frozen_of_row w4 q 3 _ _ q4
  have HQ4 := Lib.hid q4
  have HI5 := Lib.hid (hi5.far (off := 3) (x := .int .i64 en) hne)
  have HRT := Lib.hid (fun W => ansRt_calls n1 n2 n3 en W)
  clear s5 ha5 hi5 hg4 q4 H4 HR3 HB3
  go_wp2_with fail
  (with_reducible refine (HRT.out _).mono ?_)
  rintro e w5 ⟨rfl, hb5⟩
  have HQ5 := Lib.hid (kept_block (blk_set (off := 3) HQ4.out (.int .i64 en)) hb5)
  have HR5 := Lib.hid (kept_block (far_block (off := 3) (x := .int .i64 en) HR4.out hwr) hb5)
  have HB5 := Lib.hid ((HB4.out.setCell (p := ⟨q, 3, none⟩) (by show w.heap.size ≤ q; omega) (.int .i64 en)).trans (hb5.mono (by have := HB4.out.size; simp [World.setCell]; omega)))
  have H6 := Lib.hid (finish_calls (HI5.out.below hb5) (by omega) (decide (ackOk n1 n2 n3 en)))
  clear k0 k1 k2 k3 f3 hb5 HI5 HQ4 HR4 HB4 HRT
  go_wp2_with fail
  (with_reducible refine H6.out.mono ?_)
  rintro e w6 ⟨rfl, hb6⟩
  have q6 : w6.heap[q]? = some (.cells #[.int .i64 n1, .int .i64 n2, .int .i64 n3, .int .i64 en] 52 (0, 0)) := kept_block HQ5.out hb6
  have r6 := kept_block HR5.out hb6
  have HB6 := Lib.hid (HB5.out.trans (hb6.mono HB5.out.size))
  have hse := ack_end HOC.out HS1.out HS2.out HS3.out HS5.out
  clear hb6 H6 HB5 HR5 HQ5
  generalize endC c5 a5 b.length (decide (ackOk n1 n2 n3 en)) = cf at *
  have HR6 := Lib.hid r6
  by_cases hcf : cf = 0
  · have k0 : w6.cell? ⟨q, 0, none⟩ = some (.int .i64 n1) := cell_of_row w6 q 0 _ _ _ q6
    have k1 : w6.cell? ⟨q, 1, none⟩ = some (.int .i64 n2) := cell_of_row w6 q 1 _ _ _ q6
    have k2 : w6.cell? ⟨q, 2, none⟩ = some (.int .i64 n3) := cell_of_row w6 q 2 _ _ _ q6
    have k3 : w6.cell? ⟨q, 3, none⟩ = some (.int .i64 en) := cell_of_row w6 q 3 _ _ _ q6
    have HSE := Lib.hid (hse.1 hcf)
    subst hcf
    rw [errV_zero]
    clear hse q6 r6
    go_wp2_with fail
    refine (ackOfT_calls _ _ _ _ _).mono ?_
    rintro e w7 ⟨rfl, hb7⟩
    have r7 := kept_block HR6.out hb7
    have HB7 := Lib.hid (HB6.out.trans (hb7.mono HB6.out.size))
    clear k0 k1 k2 k3 hb7 HB6 HR6
    generalize hr : w.heap.size = r at *
    have k0 : w7.cell? ⟨r, 0, none⟩ = some (.int .i64 0) := cell_of_row w7 r 0 _ _ _ r7
    have k1 : w7.cell? ⟨r, 1, none⟩ = some (.int .i64 0) := cell_of_row w7 r 1 _ _ _ r7
    have k2 : w7.cell? ⟨r, 2, none⟩ = some (.int .i64 0) := cell_of_row w7 r 2 _ _ _ r7
    have k3 : w7.cell? ⟨r, 3, none⟩ = some (.int .i64 0) := cell_of_row w7 r 3 _ _ _ r7
    have k4 : w7.cell? ⟨r, 4, none⟩ = some (.int .i64 0) := cell_of_row w7 r 4 _ _ _ r7
    have f0 : w7.frozen? ⟨r, 0, none⟩ = false := frozen_of_row w7 r 0 _ _ r7
    have f1 : w7.frozen? ⟨r, 1, none⟩ = false := frozen_of_row w7 r 1 _ _ r7
    have f2 : w7.frozen? ⟨r, 2, none⟩ = false := frozen_of_row w7 r 2 _ _ r7
    have f3 : w7.frozen? ⟨r, 3, none⟩ = false := frozen_of_row w7 r 3 _ _ r7
    have f4 : w7.frozen? ⟨r, 4, none⟩ = false := frozen_of_row w7 r 4 _ _ r7
    have HW := Lib.hid hr
    clear r7 hr
    go_wp2_with fail
    refine bodyPost_ret (v := ackOut n1 n2 n3 en 0) (by simp [results, Tryz.results11, go_sem, k0, k1, k2, k3, k4]) rfl ⟨_, rfl, HSE.out, ?_⟩
    rw [HW.out]
    exact (((((HB7.out.setCell (Nat.le_refl _) _).setCell (Nat.le_refl _) _).setCell (Nat.le_refl _) _).setCell (Nat.le_refl _) _).setCell (Nat.le_refl _) _)
  · have HSE := Lib.hid (hse.2 hcf)
    rw [errV_ne hcf]
    have HC := Lib.hid (code_calls cf w6 (HG.out.below HB6.out))
    clear hse q6 r6 hcf
    go_wp2_with fail
    refine HC.out.mono ?_
    rintro e w7 ⟨rfl, hb7⟩
    have r7 := kept_block HR6.out hb7
    have HB7 := Lib.hid (HB6.out.trans (hb7.mono HB6.out.size))
    clear hb7 HB6 HR6
    generalize hr : w.heap.size = r at *
    have k0 : w7.cell? ⟨r, 0, none⟩ = some (.int .i64 0) := cell_of_row w7 r 0 _ _ _ r7
    have k1 : w7.cell? ⟨r, 1, none⟩ = some (.int .i64 0) := cell_of_row w7 r 1 _ _ _ r7
    have k2 : w7.cell? ⟨r, 2, none⟩ = some (.int .i64 0) := cell_of_row w7 r 2 _ _ _ r7
    have k3 : w7.cell? ⟨r, 3, none⟩ = some (.int .i64 0) := cell_of_row w7 r 3 _ _ _ r7
    have k4 : w7.cell? ⟨r, 4, none⟩ = some (.int .i64 0) := cell_of_row w7 r 4 _ _ _ r7
    have f0 : w7.frozen? ⟨r, 0, none⟩ = false := frozen_of_row w7 r 0 _ _ r7
    have f1 : w7.frozen? ⟨r, 1, none⟩ = false := frozen_of_row w7 r 1 _ _ r7
    have f2 : w7.frozen? ⟨r, 2, none⟩ = false := frozen_of_row w7 r 2 _ _ r7
    have f3 : w7.frozen? ⟨r, 3, none⟩ = false := frozen_of_row w7 r 3 _ _ r7
    have f4 : w7.frozen? ⟨r, 4, none⟩ = false := frozen_of_row w7 r 4 _ _ r7
    have HW := Lib.hid hr
    clear r7 hr
    go_wp2_with fail
    refine bodyPost_ret (v := ackOut 0 0 0 0 cf) (by simp [results, Tryz.results11, go_sem, k0, k1, k2, k3, k4]) rfl ⟨_, rfl, HSE.out, ?_⟩
    rw [HW.out]
    exact (((((HB7.out.setCell (Nat.le_refl _) _).setCell (Nat.le_refl _) _).setCell (Nat.le_refl _) _).setCell (Nat.le_refl _) _).setCell (Nat.le_refl _) _)
end Go.Proofs.YtjcdcaannajnpaaGreatDoor
