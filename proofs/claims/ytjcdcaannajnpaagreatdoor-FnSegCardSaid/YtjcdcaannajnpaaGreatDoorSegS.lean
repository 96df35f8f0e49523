/- SegRead and AckRead, the model's. -/
import Derived.Test.YtjcdcaannajnpaaGreatDoorRdOpen
import Derived.Deep.RegionHeld3
namespace Go.Proofs.YtjcdcaannajnpaaGreatDoor
open Go.RowKit

theorem seg_open {t b : List UInt8} {c : Nat} (h : openC t 83 = (b, c)) (hc : c ≠ 0) : SegGot t (segOut 0 0 0 [] 0 c) := by
  obtain ⟨h1, h2⟩ := openC_code h hc
  exact .inr ⟨c, hc, rfl, fun b' _ _ _ _ _ hu hs => h1 b' hu hs.1, h2⟩
theorem ack_open {t b : List UInt8} {c : Nat} (h : openC t 65 = (b, c)) (hc : c ≠ 0) : AckGot t (ackOut 0 0 0 0 c) := by
  obtain ⟨h1, h2⟩ := openC_code h hc
  exact .inr ⟨c, hc, rfl, fun b' _ _ _ _ hu hs => h1 b' hu hs.1, h2⟩
theorem step_most {t : List UInt8} {a n a' : Int} {c c' : Nat} (h : Step t a c n a' c') (hc : c' = 0) : a' ≤ (t.length : Int) := (getN_fit (h.back hc).2).2.2
theorem end_three {a : Int} {n : Nat} {ok : Bool} : endC 3 a n ok = 3 := rfl
theorem keep8 {a w w' : World} {p1 p2 p3 p4 p5 p6 p7 p8 : Addr} {x1 x2 x3 x4 x5 x6 x7 x8 : Value} (hb : Below w.heap.size w w')
    (h : Below a.heap.size a w ∧ w.cell? p1 = some x1 ∧ w.cell? p2 = some x2 ∧ w.cell? p3 = some x3 ∧ w.cell? p4 = some x4 ∧ w.cell? p5 = some x5 ∧ w.cell? p6 = some x6 ∧ w.cell? p7 = some x7 ∧ w.cell? p8 = some x8) :
    Below a.heap.size a w' ∧ w'.cell? p1 = some x1 ∧ w'.cell? p2 = some x2 ∧ w'.cell? p3 = some x3 ∧ w'.cell? p4 = some x4 ∧ w'.cell? p5 = some x5 ∧ w'.cell? p6 = some x6 ∧ w'.cell? p7 = some x7 ∧ w'.cell? p8 = some x8 :=
  have c {p : Addr} {x : Value} (h : w.cell? p = some x) : w'.cell? p = some x := (hb.cell (World.block_lt_of_cell? w _ h)).trans h
  ⟨h.1.trans (hb.mono h.1.size), c h.2.1, c h.2.2.1, c h.2.2.2.1, c h.2.2.2.2.1, c h.2.2.2.2.2.1, c h.2.2.2.2.2.2.1, c h.2.2.2.2.2.2.2.1, c h.2.2.2.2.2.2.2.2⟩
theorem keep7 {a w w' : World} {p1 p2 p3 p4 p5 p6 p7 : Addr} {x1 x2 x3 x4 x5 x6 x7 : Value} (hb : Below w.heap.size w w')
    (h : Below a.heap.size a w ∧ w.cell? p1 = some x1 ∧ w.cell? p2 = some x2 ∧ w.cell? p3 = some x3 ∧ w.cell? p4 = some x4 ∧ w.cell? p5 = some x5 ∧ w.cell? p6 = some x6 ∧ w.cell? p7 = some x7) :
    Below a.heap.size a w' ∧ w'.cell? p1 = some x1 ∧ w'.cell? p2 = some x2 ∧ w'.cell? p3 = some x3 ∧ w'.cell? p4 = some x4 ∧ w'.cell? p5 = some x5 ∧ w'.cell? p6 = some x6 ∧ w'.cell? p7 = some x7 :=
  have c {p : Addr} {x : Value} (h : w.cell? p = some x) : w'.cell? p = some x := (hb.cell (World.block_lt_of_cell? w _ h)).trans h
  ⟨h.1.trans (hb.mono h.1.size), c h.2.1, c h.2.2.1, c h.2.2.2.1, c h.2.2.2.2.1, c h.2.2.2.2.2.1, c h.2.2.2.2.2.2.1, c h.2.2.2.2.2.2.2⟩

set_option maxHeartbeats 4000000 in
set_option maxRecDepth 100000 in
theorem segReadS_calls (t : List UInt8) (w : World) (hl : t.length ≤ 9223372036854775807) :
    Calls Tryz.prog 14 #[gs t] w (SegEnd t w) := by
  have HO := Lib.hid (fun W => openS_calls t 83 83 rfl W hl)
  go_enter Tryz.func14, Tryz.ntmps14
  go_wp2_with fail
  (with_reducible refine (HO.out _).mono ?_)
  rintro e w1 ⟨p, b, c0, rfl, ho, hbt, hp, hi0, hb1⟩
  have r1 := (hb1.block w.heap.size (by simp)).trans (alloc_there _ _)
  have hbw1 : Below w.heap.size w w1 := ((Below.refl _ _).alloc (Nat.le_refl _) _).trans (hb1.mono (by simp))
  simp at hp
  have hpr : p ≠ w.heap.size := by omega
  have HOC := Lib.hid ho
  have HB1 := Lib.hid hbw1
  clear ho hbw1 hb1 HO
  generalize hr : w.heap.size = r at *
  have HW := Lib.hid hr
  clear hr
  by_cases hc0 : c0 = 0
  · subst hc0
    have hi := hi0 rfl
    have HR1 := Lib.hid r1
    clear r1 hi0
    have H2 := Lib.hid (numS_calls hi (by omega) ⟨by omega, by omega⟩ (.inl rfl))
    clear hi
    go_wp2_with fail
    (with_reducible refine H2.out.mono ?_)
    rintro e w2 ⟨n1, a1, c1, rfl, ha1, s1, hc1, hi2, hg2⟩
    have HS1 := Lib.hid s1
    have HR2 := Lib.hid (other_block hg2 HR1.out hpr)
    have HB2 := Lib.hid (HB1.out.grown hg2 (by have := HB1.out.size; have := HW.out; omega) (fun k hk => by have := Option.some.inj hk; omega))
    clear s1 hg2 H2 HR1 HB1
    have H3 := Lib.hid (numS_calls hi2 (by omega) ha1 (hc1))
    clear hi2 ha1 hc1
    go_wp2_with fail
    (with_reducible refine H3.out.mono ?_)
    rintro e w3 ⟨n2, a2, c2, rfl, ha2, s2, hc2, hi3, hg3⟩
    have HS2 := Lib.hid s2
    have HR3 := Lib.hid (other_block hg3 HR2.out hpr)
    have HB3 := Lib.hid (HB2.out.grown hg3 (by have := HB2.out.size; have := HW.out; omega) (fun k hk => by have := Option.some.inj hk; omega))
    clear s2 hg3 H3 HR2 HB2
    have H4 := Lib.hid (numS_calls hi3 (by omega) ha2 (hc2))
    clear hi3 ha2 hc2
    go_wp2_with fail
    (with_reducible refine H4.out.mono ?_)
    rintro e w4 ⟨n3, a3, c3, rfl, ha3, s3, hc3, hi4, hg4⟩
    have HS3 := Lib.hid s3
    have HR4 := Lib.hid (other_block hg4 HR3.out hpr)
    have HB4 := Lib.hid (HB3.out.grown hg4 (by have := HB3.out.size; have := HW.out; omega) (fun k hk => by have := Option.some.inj hk; omega))
    clear s3 hg4 H4 HR3 HB3
    have H5 := Lib.hid (strS_calls hi4 (by omega) ha3 (hc3))
    clear hi4 ha3 hc3
    go_wp2_with fail
    (with_reducible refine H5.out.mono ?_)
    rintro e w5 ⟨x, a4, c4, rfl, hxl, ha4, s4, hc4, hi5, hg5⟩
    have HS4 := Lib.hid s4
    have HR5 := Lib.hid (other_block hg5 HR4.out hpr)
    have HB5 := Lib.hid (HB4.out.grown hg5 (by have := HB4.out.size; have := HW.out; omega) (fun k hk => by have := Option.some.inj hk; omega))
    clear s4 hg5 H5 HR4 HB4
    have H6 := Lib.hid (numS_calls hi5 (by omega) ha4 (hc4))
    clear hi5 ha4 hc4
    go_wp2_with fail
    (with_reducible refine H6.out.mono ?_)
    rintro e w6 ⟨en, a5, c5, rfl, ha5, s5, hc5, hi6, hg6⟩
    have HS5 := Lib.hid s5
    have HR6 := Lib.hid (other_block hg6 HR5.out hpr)
    have HB6 := Lib.hid (HB5.out.grown hg6 (by have := HB5.out.size; have := HW.out; omega) (fun k hk => by have := Option.some.inj hk; omega))
    clear s5 hg6 H6 HR5 HB5
    have hse := seg_end HOC.out HS1.out HS2.out HS3.out HS4.out HS5.out
    have hhi := hi6
    have pq : p < w6.heap.size := hi6.lt
    have q0 : (w6.alloc (.cells #[.int .i64 n1, .int .i64 n2, .int .i64 n3, gs x, .int .i64 en] 24)).heap[w6.heap.size]? = some (.cells #[.int .i64 n1, .int .i64 n2, .int .i64 n3, gs x, .int .i64 en] 24 (0, 0)) := alloc_there _ _
    have p0 := kept_block hhi ((Below.refl _ _).alloc (Nat.le_refl _) (.cells #[.int .i64 n1, .int .i64 n2, .int .i64 n3, gs x, .int .i64 en] 24))
    have r0 := kept_block HR6.out ((Below.refl _ _).alloc (Nat.le_refl _) (.cells #[.int .i64 n1, .int .i64 n2, .int .i64 n3, gs x, .int .i64 en] 24))
    have hbn := HB6.out.alloc (by have := HB6.out.size; have := HW.out; omega) (.cells #[.int .i64 n1, .int .i64 n2, .int .i64 n3, gs x, .int .i64 en] 24)
    have hmost := fun h => step_most HS5.out h
    clear hi6 ha5 hhi HR6 HB6
    go_upto_region 5 with fail
    generalize w6.alloc (.cells #[.int .i64 n1, .int .i64 n2, .int .i64 n3, gs x, .int .i64 en] 24) = wn at *
    generalize w6.heap.size = q at *
    have HBN := Lib.hid hbn
    have HRN := Lib.hid r0
    clear hbn r0
    by_cases h5 : c5 = 0
    · have hm := hmost h5
      subst h5
      have k2' : wn.cell? ⟨p, 2, none⟩ = some (.bool false) := cell_of_row wn p 2 _ _ _ p0
      have k1' : wn.cell? ⟨p, 1, none⟩ = some (.int .i64 a5) := cell_of_row wn p 1 _ _ _ p0
      have k0' : wn.cell? ⟨p, 0, none⟩ = some (gs b) := cell_of_row wn p 0 _ _ _ p0
      by_cases ha : a5 = (b.length : Int)
      · have hz : ¬ a5 < (b.length : Int) := by omega
        by_cases hk : segOk n1 n2 n3 x en
        · have HSE := Lib.hid (hse.1 (by unfold endC; rw [if_neg (by omega), if_neg]; rintro (h | h); exact hz h; rw [decide_eq_true hk] at h; cases h))
          have hrt := fun W => segRightS_calls n1 n2 n3 x en W (by omega)
          rw [decide_eq_true hk] at hrt
          have HRT := Lib.hid hrt
          have hd : (a5 != (b.length : Int)) = false := by simp [ha]
          have m0 : wn.cell? ⟨q, 0, none⟩ = some (.int .i64 n1) := cell_of_row wn q 0 _ _ _ q0
          have m1 : wn.cell? ⟨q, 1, none⟩ = some (.int .i64 n2) := cell_of_row wn q 1 _ _ _ q0
          have m2 : wn.cell? ⟨q, 2, none⟩ = some (.int .i64 n3) := cell_of_row wn q 2 _ _ _ q0
          have m3 : wn.cell? ⟨q, 3, none⟩ = some (gs x) := cell_of_row wn q 3 _ _ _ q0
          have m4 : wn.cell? ⟨q, 4, none⟩ = some (.int .i64 en) := cell_of_row wn q 4 _ _ _ q0
          clear hse hm ha hz hk hrt p0 hmost q0
          first | (go_region_held3 (fun W => Below wn.heap.size wn W ∧ W.cell? ⟨p, 0, none⟩ = some (gs b) ∧ W.cell? ⟨p, 1, none⟩ = some (.int .i64 a5) ∧ W.cell? ⟨p, 2, none⟩ = some (.bool false) ∧ W.cell? ⟨q, 0, none⟩ = some (.int .i64 n1) ∧ W.cell? ⟨q, 1, none⟩ = some (.int .i64 n2) ∧ W.cell? ⟨q, 2, none⟩ = some (.int .i64 n3) ∧ W.cell? ⟨q, 3, none⟩ = some (gs x) ∧ W.cell? ⟨q, 4, none⟩ = some (.int .i64 en)) (first | exact ⟨(Below.refl _ _).drew, k0', k1', k2', m0, m1, m2, m3, m4⟩ | assumption | (refine keep8 (by assumption) (by assumption))) (first | (go_at_call 17; (with_reducible refine (HRT.out _).mono ?_); rintro e wz ⟨rfl, hbz⟩))) | fail
          obtain ⟨HBZ, -, -, -, g0, g1, g2, g3, g4⟩ := (by assumption : Below wn.heap.size wn wz ∧ wz.cell? ⟨p, 0, none⟩ = some (gs b) ∧ wz.cell? ⟨p, 1, none⟩ = some (.int .i64 a5) ∧ wz.cell? ⟨p, 2, none⟩ = some (.bool false) ∧ wz.cell? ⟨q, 0, none⟩ = some (.int .i64 n1) ∧ wz.cell? ⟨q, 1, none⟩ = some (.int .i64 n2) ∧ wz.cell? ⟨q, 2, none⟩ = some (.int .i64 n3) ∧ wz.cell? ⟨q, 3, none⟩ = some (gs x) ∧ wz.cell? ⟨q, 4, none⟩ = some (.int .i64 en))
          have HBY := Lib.hid HBZ
          clear k0' k1' k2' m0 m1 m2 m3 m4
          have rr := kept_block HRN.out HBY.out
          have k0 : wz.cell? ⟨r, 0, none⟩ = some (.int .i64 0) := cell_of_row wz r 0 _ _ _ rr
          have k1 : wz.cell? ⟨r, 1, none⟩ = some (.int .i64 0) := cell_of_row wz r 1 _ _ _ rr
          have k2 : wz.cell? ⟨r, 2, none⟩ = some (.int .i64 0) := cell_of_row wz r 2 _ _ _ rr
          have k3 : wz.cell? ⟨r, 3, none⟩ = some (gs []) := cell_of_row wz r 3 _ _ _ rr
          have k4 : wz.cell? ⟨r, 4, none⟩ = some (.int .i64 0) := cell_of_row wz r 4 _ _ _ rr
          have k5 : wz.cell? ⟨r, 5, none⟩ = some (.int .i64 0) := cell_of_row wz r 5 _ _ _ rr
          have z0 : wz.frozen? ⟨r, 0, none⟩ = false := frozen_of_row wz r 0 _ _ rr
          have z1 : wz.frozen? ⟨r, 1, none⟩ = false := frozen_of_row wz r 1 _ _ rr
          have z2 : wz.frozen? ⟨r, 2, none⟩ = false := frozen_of_row wz r 2 _ _ rr
          have z3 : wz.frozen? ⟨r, 3, none⟩ = false := frozen_of_row wz r 3 _ _ rr
          have z4 : wz.frozen? ⟨r, 4, none⟩ = false := frozen_of_row wz r 4 _ _ rr
          have z5 : wz.frozen? ⟨r, 5, none⟩ = false := frozen_of_row wz r 5 _ _ rr
          clear rr
          go_wp2_with fail
          refine bodyPost_ret (v := segOut n1 n2 n3 x en 0) (by simp [results, Tryz.results14, go_sem, k0, k1, k2, k3, k4, k5]) rfl ⟨_, rfl, HSE.out, ?_⟩
          rw [HW.out]
          exact (((((((HBN.out.trans (HBY.out.mono (by have := HBN.out.size; have := HW.out; omega))).setCell (Nat.le_refl _) _).setCell (Nat.le_refl _) _).setCell (Nat.le_refl _) _).setCell (Nat.le_refl _) _).setCell (Nat.le_refl _) _).setCell (Nat.le_refl _) _)
        · have HSE := Lib.hid (hse.2 (by unfold endC; rw [if_neg (by omega), if_pos (.inr (decide_eq_false hk))]; decide))
          have he : endC 0 a5 b.length (decide (segOk n1 n2 n3 x en)) = 3 := by unfold endC; rw [if_neg (by omega), if_pos (.inr (decide_eq_false hk))]
          rw [he] at HSE
          have hrt := fun W => segRightS_calls n1 n2 n3 x en W (by omega)
          rw [decide_eq_false hk] at hrt
          have HRT := Lib.hid hrt
          have hd : (a5 != (b.length : Int)) = false := by simp [ha]
          have m0 : wn.cell? ⟨q, 0, none⟩ = some (.int .i64 n1) := cell_of_row wn q 0 _ _ _ q0
          have m1 : wn.cell? ⟨q, 1, none⟩ = some (.int .i64 n2) := cell_of_row wn q 1 _ _ _ q0
          have m2 : wn.cell? ⟨q, 2, none⟩ = some (.int .i64 n3) := cell_of_row wn q 2 _ _ _ q0
          have m3 : wn.cell? ⟨q, 3, none⟩ = some (gs x) := cell_of_row wn q 3 _ _ _ q0
          have m4 : wn.cell? ⟨q, 4, none⟩ = some (.int .i64 en) := cell_of_row wn q 4 _ _ _ q0
          clear hse hm ha hz hk hrt p0 hmost q0 he
          first | (go_region_held3 (fun W => Below wn.heap.size wn W ∧ W.cell? ⟨p, 0, none⟩ = some (gs b) ∧ W.cell? ⟨p, 1, none⟩ = some (.int .i64 a5) ∧ W.cell? ⟨p, 2, none⟩ = some (.bool false) ∧ W.cell? ⟨q, 0, none⟩ = some (.int .i64 n1) ∧ W.cell? ⟨q, 1, none⟩ = some (.int .i64 n2) ∧ W.cell? ⟨q, 2, none⟩ = some (.int .i64 n3) ∧ W.cell? ⟨q, 3, none⟩ = some (gs x) ∧ W.cell? ⟨q, 4, none⟩ = some (.int .i64 en)) (first | exact ⟨(Below.refl _ _).drew, k0', k1', k2', m0, m1, m2, m3, m4⟩ | assumption | (refine keep8 (by assumption) (by assumption))) (first | (go_at_call 17; (with_reducible refine (HRT.out _).mono ?_); rintro e wz ⟨rfl, hbz⟩))) | fail
          obtain ⟨HBZ, -⟩ := (by assumption : Below wn.heap.size wn wz ∧ wz.cell? ⟨p, 0, none⟩ = some (gs b) ∧ wz.cell? ⟨p, 1, none⟩ = some (.int .i64 a5) ∧ wz.cell? ⟨p, 2, none⟩ = some (.bool false) ∧ wz.cell? ⟨q, 0, none⟩ = some (.int .i64 n1) ∧ wz.cell? ⟨q, 1, none⟩ = some (.int .i64 n2) ∧ wz.cell? ⟨q, 2, none⟩ = some (.int .i64 n3) ∧ wz.cell? ⟨q, 3, none⟩ = some (gs x) ∧ wz.cell? ⟨q, 4, none⟩ = some (.int .i64 en))
          have HBY := Lib.hid HBZ
          clear k0' k1' k2' m0 m1 m2 m3 m4
          have rr := kept_block HRN.out HBY.out
          have k0 : wz.cell? ⟨r, 0, none⟩ = some (.int .i64 0) := cell_of_row wz r 0 _ _ _ rr
          have k1 : wz.cell? ⟨r, 1, none⟩ = some (.int .i64 0) := cell_of_row wz r 1 _ _ _ rr
          have k2 : wz.cell? ⟨r, 2, none⟩ = some (.int .i64 0) := cell_of_row wz r 2 _ _ _ rr
          have k3 : wz.cell? ⟨r, 3, none⟩ = some (gs []) := cell_of_row wz r 3 _ _ _ rr
          have k4 : wz.cell? ⟨r, 4, none⟩ = some (.int .i64 0) := cell_of_row wz r 4 _ _ _ rr
          have k5 : wz.cell? ⟨r, 5, none⟩ = some (.int .i64 0) := cell_of_row wz r 5 _ _ _ rr
          have z0 : wz.frozen? ⟨r, 0, none⟩ = false := frozen_of_row wz r 0 _ _ rr
          have z1 : wz.frozen? ⟨r, 1, none⟩ = false := frozen_of_row wz r 1 _ _ rr
          have z2 : wz.frozen? ⟨r, 2, none⟩ = false := frozen_of_row wz r 2 _ _ rr
          have z3 : wz.frozen? ⟨r, 3, none⟩ = false := frozen_of_row wz r 3 _ _ rr
          have z4 : wz.frozen? ⟨r, 4, none⟩ = false := frozen_of_row wz r 4 _ _ rr
          have z5 : wz.frozen? ⟨r, 5, none⟩ = false := frozen_of_row wz r 5 _ _ rr
          clear rr
          go_wp2_with fail
          refine bodyPost_ret (v := segOut 0 0 0 [] 0 3) (by simp [results, Tryz.results14, go_sem, k0, k1, k2, k3, k4, k5]) rfl ⟨_, rfl, HSE.out, ?_⟩
          rw [HW.out]
          exact (((((((HBN.out.trans (HBY.out.mono (by have := HBN.out.size; have := HW.out; omega))).setCell (Nat.le_refl _) _).setCell (Nat.le_refl _) _).setCell (Nat.le_refl _) _).setCell (Nat.le_refl _) _).setCell (Nat.le_refl _) _).setCell (Nat.le_refl _) _)
      · have he : endC 0 a5 b.length (decide (segOk n1 n2 n3 x en)) = 3 := by unfold endC; rw [if_neg (by omega), if_pos (.inl (by omega))]
        have HSE := Lib.hid (hse.2 (by rw [he]; decide))
        rw [he] at HSE
        have hd : (a5 != (b.length : Int)) = true := by simp [ha]
        clear hse hm ha p0 hmost he q0
        go_quiet (fail)
        clear k0' k1' k2'
        have rr := HRN.out
        have k0 : wn.cell? ⟨r, 0, none⟩ = some (.int .i64 0) := cell_of_row wn r 0 _ _ _ rr
        have k1 : wn.cell? ⟨r, 1, none⟩ = some (.int .i64 0) := cell_of_row wn r 1 _ _ _ rr
        have k2 : wn.cell? ⟨r, 2, none⟩ = some (.int .i64 0) := cell_of_row wn r 2 _ _ _ rr
        have k3 : wn.cell? ⟨r, 3, none⟩ = some (gs []) := cell_of_row wn r 3 _ _ _ rr
        have k4 : wn.cell? ⟨r, 4, none⟩ = some (.int .i64 0) := cell_of_row wn r 4 _ _ _ rr
        have k5 : wn.cell? ⟨r, 5, none⟩ = some (.int .i64 0) := cell_of_row wn r 5 _ _ _ rr
        have z0 : wn.frozen? ⟨r, 0, none⟩ = false := frozen_of_row wn r 0 _ _ rr
        have z1 : wn.frozen? ⟨r, 1, none⟩ = false := frozen_of_row wn r 1 _ _ rr
        have z2 : wn.frozen? ⟨r, 2, none⟩ = false := frozen_of_row wn r 2 _ _ rr
        have z3 : wn.frozen? ⟨r, 3, none⟩ = false := frozen_of_row wn r 3 _ _ rr
        have z4 : wn.frozen? ⟨r, 4, none⟩ = false := frozen_of_row wn r 4 _ _ rr
        have z5 : wn.frozen? ⟨r, 5, none⟩ = false := frozen_of_row wn r 5 _ _ rr
        clear rr
        go_wp2_with fail
        refine bodyPost_ret (v := segOut 0 0 0 [] 0 3) (by simp [results, Tryz.results14, go_sem, k0, k1, k2, k3, k4, k5]) rfl ⟨_, rfl, HSE.out, ?_⟩
        rw [HW.out]
        exact (((((((kept_drewN HBN.out nq).setCell (Nat.le_refl _) _).setCell (Nat.le_refl _) _).setCell (Nat.le_refl _) _).setCell (Nat.le_refl _) _).setCell (Nat.le_refl _) _).setCell (Nat.le_refl _) _)
    · have h3 : c5 = 3 := by omega
      subst h3
      have HSE := Lib.hid (hse.2 (by rw [end_three]; decide))
      rw [end_three] at HSE
      have k2' : wn.cell? ⟨p, 2, none⟩ = some (.bool true) := cell_of_row wn p 2 _ _ _ p0
      clear hse p0 hmost q0
      go_quiet (fail)
      clear k2'
      have rr := HRN.out
      have k0 : wn.cell? ⟨r, 0, none⟩ = some (.int .i64 0) := cell_of_row wn r 0 _ _ _ rr
      have k1 : wn.cell? ⟨r, 1, none⟩ = some (.int .i64 0) := cell_of_row wn r 1 _ _ _ rr
      have k2 : wn.cell? ⟨r, 2, none⟩ = some (.int .i64 0) := cell_of_row wn r 2 _ _ _ rr
      have k3 : wn.cell? ⟨r, 3, none⟩ = some (gs []) := cell_of_row wn r 3 _ _ _ rr
      have k4 : wn.cell? ⟨r, 4, none⟩ = some (.int .i64 0) := cell_of_row wn r 4 _ _ _ rr
      have k5 : wn.cell? ⟨r, 5, none⟩ = some (.int .i64 0) := cell_of_row wn r 5 _ _ _ rr
      have z0 : wn.frozen? ⟨r, 0, none⟩ = false := frozen_of_row wn r 0 _ _ rr
      have z1 : wn.frozen? ⟨r, 1, none⟩ = false := frozen_of_row wn r 1 _ _ rr
      have z2 : wn.frozen? ⟨r, 2, none⟩ = false := frozen_of_row wn r 2 _ _ rr
      have z3 : wn.frozen? ⟨r, 3, none⟩ = false := frozen_of_row wn r 3 _ _ rr
      have z4 : wn.frozen? ⟨r, 4, none⟩ = false := frozen_of_row wn r 4 _ _ rr
      have z5 : wn.frozen? ⟨r, 5, none⟩ = false := frozen_of_row wn r 5 _ _ rr
      clear rr
      go_wp2_with fail
      refine bodyPost_ret (v := segOut 0 0 0 [] 0 3) (by simp [results, Tryz.results14, go_sem, k0, k1, k2, k3, k4, k5]) rfl ⟨_, rfl, HSE.out, ?_⟩
      rw [HW.out]
      exact (((((((kept_drewN HBN.out nq).setCell (Nat.le_refl _) _).setCell (Nat.le_refl _) _).setCell (Nat.le_refl _) _).setCell (Nat.le_refl _) _).setCell (Nat.le_refl _) _).setCell (Nat.le_refl _) _)
  · have HSE := Lib.hid (seg_open HOC.out hc0)
    have hd : ((c0 : Int) != 0) = true := by simp; omega
    clear hi0
    have rr := r1
    have k0 : w1.cell? ⟨r, 0, none⟩ = some (.int .i64 0) := cell_of_row w1 r 0 _ _ _ rr
    have k1 : w1.cell? ⟨r, 1, none⟩ = some (.int .i64 0) := cell_of_row w1 r 1 _ _ _ rr
    have k2 : w1.cell? ⟨r, 2, none⟩ = some (.int .i64 0) := cell_of_row w1 r 2 _ _ _ rr
    have k3 : w1.cell? ⟨r, 3, none⟩ = some (gs []) := cell_of_row w1 r 3 _ _ _ rr
    have k4 : w1.cell? ⟨r, 4, none⟩ = some (.int .i64 0) := cell_of_row w1 r 4 _ _ _ rr
    have k5 : w1.cell? ⟨r, 5, none⟩ = some (.int .i64 0) := cell_of_row w1 r 5 _ _ _ rr
    have z0 : w1.frozen? ⟨r, 0, none⟩ = false := frozen_of_row w1 r 0 _ _ rr
    have z1 : w1.frozen? ⟨r, 1, none⟩ = false := frozen_of_row w1 r 1 _ _ rr
    have z2 : w1.frozen? ⟨r, 2, none⟩ = false := frozen_of_row w1 r 2 _ _ rr
    have z3 : w1.frozen? ⟨r, 3, none⟩ = false := frozen_of_row w1 r 3 _ _ rr
    have z4 : w1.frozen? ⟨r, 4, none⟩ = false := frozen_of_row w1 r 4 _ _ rr
    have z5 : w1.frozen? ⟨r, 5, none⟩ = false := frozen_of_row w1 r 5 _ _ rr
    clear rr
    go_wp2_with fail
    refine bodyPost_ret (v := segOut 0 0 0 [] 0 c0) (by simp [results, Tryz.results14, go_sem, k0, k1, k2, k3, k4, k5]) rfl ⟨_, rfl, HSE.out, ?_⟩
    rw [HW.out]
    exact ((((((HB1.out.setCell (Nat.le_refl _) _).setCell (Nat.le_refl _) _).setCell (Nat.le_refl _) _).setCell (Nat.le_refl _) _).setCell (Nat.le_refl _) _).setCell (Nat.le_refl _) _)

set_option maxHeartbeats 4000000 in
set_option maxRecDepth 100000 in
theorem ackReadS_calls (t : List UInt8) (w : World) (hl : t.length ≤ 9223372036854775807) :
    Calls Tryz.prog 15 #[gs t] w (AckEnd t w) := by
  have HO := Lib.hid (fun W => openS_calls t 65 65 rfl W hl)
  go_enter Tryz.func15, Tryz.ntmps15
  go_wp2_with fail
  (with_reducible refine (HO.out _).mono ?_)
  rintro e w1 ⟨p, b, c0, rfl, ho, hbt, hp, hi0, hb1⟩
  have r1 := (hb1.block w.heap.size (by simp)).trans (alloc_there _ _)
  have hbw1 : Below w.heap.size w w1 := ((Below.refl _ _).alloc (Nat.le_refl _) _).trans (hb1.mono (by simp))
  simp at hp
  have hpr : p ≠ w.heap.size := by omega
  have HOC := Lib.hid ho
  have HB1 := Lib.hid hbw1
  clear ho hbw1 hb1 HO
  generalize hr : w.heap.size = r at *
  have HW := Lib.hid hr
  clear hr
  by_cases hc0 : c0 = 0
  · subst hc0
    have hi := hi0 rfl
    have HR1 := Lib.hid r1
    clear r1 hi0
    have H2 := Lib.hid (numS_calls hi (by omega) ⟨by omega, by omega⟩ (.inl rfl))
    clear hi
    go_wp2_with fail
    (with_reducible refine H2.out.mono ?_)
    rintro e w2 ⟨n1, a1, c1, rfl, ha1, s1, hc1, hi2, hg2⟩
    have HS1 := Lib.hid s1
    have HR2 := Lib.hid (other_block hg2 HR1.out hpr)
    have HB2 := Lib.hid (HB1.out.grown hg2 (by have := HB1.out.size; have := HW.out; omega) (fun k hk => by have := Option.some.inj hk; omega))
    clear s1 hg2 H2 HR1 HB1
    have H3 := Lib.hid (numS_calls hi2 (by omega) ha1 (hc1))
    clear hi2 ha1 hc1
    go_wp2_with fail
    (with_reducible refine H3.out.mono ?_)
    rintro e w3 ⟨n2, a2, c2, rfl, ha2, s2, hc2, hi3, hg3⟩
    have HS2 := Lib.hid s2
    have HR3 := Lib.hid (other_block hg3 HR2.out hpr)
    have HB3 := Lib.hid (HB2.out.grown hg3 (by have := HB2.out.size; have := HW.out; omega) (fun k hk => by have := Option.some.inj hk; omega))
    clear s2 hg3 H3 HR2 HB2
    have H4 := Lib.hid (numS_calls hi3 (by omega) ha2 (hc2))
    clear hi3 ha2 hc2
    go_wp2_with fail
    (with_reducible refine H4.out.mono ?_)
    rintro e w4 ⟨n3, a3, c3, rfl, ha3, s3, hc3, hi4, hg4⟩
    have HS3 := Lib.hid s3
    have HR4 := Lib.hid (other_block hg4 HR3.out hpr)
    have HB4 := Lib.hid (HB3.out.grown hg4 (by have := HB3.out.size; have := HW.out; omega) (fun k hk => by have := Option.some.inj hk; omega))
    clear s3 hg4 H4 HR3 HB3
    have H5 := Lib.hid (numS_calls hi4 (by omega) ha3 (hc3))
    clear hi4 ha3 hc3
    go_wp2_with fail
    (with_reducible refine H5.out.mono ?_)
    rintro e w5 ⟨en, a4, c4, rfl, ha4, s4, hc4, hi5, hg5⟩
    have HS4 := Lib.hid s4
    have HR5 := Lib.hid (other_block hg5 HR4.out hpr)
    have HB5 := Lib.hid (HB4.out.grown hg5 (by have := HB4.out.size; have := HW.out; omega) (fun k hk => by have := Option.some.inj hk; omega))
    clear s4 hg5 H5 HR4 HB4
    have hse := ack_end HOC.out HS1.out HS2.out HS3.out HS4.out
    have hhi := hi5
    have pq : p < w5.heap.size := hi5.lt
    have q0 : (w5.alloc (.cells #[.int .i64 n1, .int .i64 n2, .int .i64 n3, .int .i64 en] 27)).heap[w5.heap.size]? = some (.cells #[.int .i64 n1, .int .i64 n2, .int .i64 n3, .int .i64 en] 27 (0, 0)) := alloc_there _ _
    have p0 := kept_block hhi ((Below.refl _ _).alloc (Nat.le_refl _) (.cells #[.int .i64 n1, .int .i64 n2, .int .i64 n3, .int .i64 en] 27))
    have r0 := kept_block HR5.out ((Below.refl _ _).alloc (Nat.le_refl _) (.cells #[.int .i64 n1, .int .i64 n2, .int .i64 n3, .int .i64 en] 27))
    have hbn := HB5.out.alloc (by have := HB5.out.size; have := HW.out; omega) (.cells #[.int .i64 n1, .int .i64 n2, .int .i64 n3, .int .i64 en] 27)
    have hmost := fun h => step_most HS4.out h
    clear hi5 ha4 hhi HR5 HB5
    go_upto_region 5 with fail
    generalize w5.alloc (.cells #[.int .i64 n1, .int .i64 n2, .int .i64 n3, .int .i64 en] 27) = wn at *
    generalize w5.heap.size = q at *
    have HBN := Lib.hid hbn
    have HRN := Lib.hid r0
    clear hbn r0
    by_cases h5 : c4 = 0
    · have hm := hmost h5
      subst h5
      have k2' : wn.cell? ⟨p, 2, none⟩ = some (.bool false) := cell_of_row wn p 2 _ _ _ p0
      have k1' : wn.cell? ⟨p, 1, none⟩ = some (.int .i64 a4) := cell_of_row wn p 1 _ _ _ p0
      have k0' : wn.cell? ⟨p, 0, none⟩ = some (gs b) := cell_of_row wn p 0 _ _ _ p0
      by_cases ha : a4 = (b.length : Int)
      · have hz : ¬ a4 < (b.length : Int) := by omega
        by_cases hk : ackOk n1 n2 n3 en
        · have HSE := Lib.hid (hse.1 (by unfold endC; rw [if_neg (by omega), if_neg]; rintro (h | h); exact hz h; rw [decide_eq_true hk] at h; cases h))
          have hrt := fun W => ackRightS_calls n1 n2 n3 en W
          rw [decide_eq_true hk] at hrt
          have HRT := Lib.hid hrt
          have hd : (a4 != (b.length : Int)) = false := by simp [ha]
          have m0 : wn.cell? ⟨q, 0, none⟩ = some (.int .i64 n1) := cell_of_row wn q 0 _ _ _ q0
          have m1 : wn.cell? ⟨q, 1, none⟩ = some (.int .i64 n2) := cell_of_row wn q 1 _ _ _ q0
          have m2 : wn.cell? ⟨q, 2, none⟩ = some (.int .i64 n3) := cell_of_row wn q 2 _ _ _ q0
          have m3 : wn.cell? ⟨q, 3, none⟩ = some (.int .i64 en) := cell_of_row wn q 3 _ _ _ q0
          clear hse hm ha hz hk hrt p0 hmost q0
          first | (go_region_held3 (fun W => Below wn.heap.size wn W ∧ W.cell? ⟨p, 0, none⟩ = some (gs b) ∧ W.cell? ⟨p, 1, none⟩ = some (.int .i64 a4) ∧ W.cell? ⟨p, 2, none⟩ = some (.bool false) ∧ W.cell? ⟨q, 0, none⟩ = some (.int .i64 n1) ∧ W.cell? ⟨q, 1, none⟩ = some (.int .i64 n2) ∧ W.cell? ⟨q, 2, none⟩ = some (.int .i64 n3) ∧ W.cell? ⟨q, 3, none⟩ = some (.int .i64 en)) (first | exact ⟨(Below.refl _ _).drew, k0', k1', k2', m0, m1, m2, m3⟩ | assumption | (refine keep7 (by assumption) (by assumption))) (first | (go_at_call 19; (with_reducible refine (HRT.out _).mono ?_); rintro e wz ⟨rfl, hbz⟩))) | fail
          obtain ⟨HBZ, -, -, -, g0, g1, g2, g3⟩ := (by assumption : Below wn.heap.size wn wz ∧ wz.cell? ⟨p, 0, none⟩ = some (gs b) ∧ wz.cell? ⟨p, 1, none⟩ = some (.int .i64 a4) ∧ wz.cell? ⟨p, 2, none⟩ = some (.bool false) ∧ wz.cell? ⟨q, 0, none⟩ = some (.int .i64 n1) ∧ wz.cell? ⟨q, 1, none⟩ = some (.int .i64 n2) ∧ wz.cell? ⟨q, 2, none⟩ = some (.int .i64 n3) ∧ wz.cell? ⟨q, 3, none⟩ = some (.int .i64 en))
          have HBY := Lib.hid HBZ
          clear k0' k1' k2' m0 m1 m2 m3
          have rr := kept_block HRN.out HBY.out
          have k0 : wz.cell? ⟨r, 0, none⟩ = some (.int .i64 0) := cell_of_row wz r 0 _ _ _ rr
          have k1 : wz.cell? ⟨r, 1, none⟩ = some (.int .i64 0) := cell_of_row wz r 1 _ _ _ rr
          have k2 : wz.cell? ⟨r, 2, none⟩ = some (.int .i64 0) := cell_of_row wz r 2 _ _ _ rr
          have k3 : wz.cell? ⟨r, 3, none⟩ = some (.int .i64 0) := cell_of_row wz r 3 _ _ _ rr
          have k4 : wz.cell? ⟨r, 4, none⟩ = some (.int .i64 0) := cell_of_row wz r 4 _ _ _ rr
          have z0 : wz.frozen? ⟨r, 0, none⟩ = false := frozen_of_row wz r 0 _ _ rr
          have z1 : wz.frozen? ⟨r, 1, none⟩ = false := frozen_of_row wz r 1 _ _ rr
          have z2 : wz.frozen? ⟨r, 2, none⟩ = false := frozen_of_row wz r 2 _ _ rr
          have z3 : wz.frozen? ⟨r, 3, none⟩ = false := frozen_of_row wz r 3 _ _ rr
          have z4 : wz.frozen? ⟨r, 4, none⟩ = false := frozen_of_row wz r 4 _ _ rr
          clear rr
          go_wp2_with fail
          refine bodyPost_ret (v := ackOut n1 n2 n3 en 0) (by simp [results, Tryz.results15, go_sem, k0, k1, k2, k3, k4]) rfl ⟨_, rfl, HSE.out, ?_⟩
          rw [HW.out]
          exact ((((((HBN.out.trans (HBY.out.mono (by have := HBN.out.size; have := HW.out; omega))).setCell (Nat.le_refl _) _).setCell (Nat.le_refl _) _).setCell (Nat.le_refl _) _).setCell (Nat.le_refl _) _).setCell (Nat.le_refl _) _)
        · have HSE := Lib.hid (hse.2 (by unfold endC; rw [if_neg (by omega), if_pos (.inr (decide_eq_false hk))]; decide))
          have he : endC 0 a4 b.length (decide (ackOk n1 n2 n3 en)) = 3 := by unfold endC; rw [if_neg (by omega), if_pos (.inr (decide_eq_false hk))]
          rw [he] at HSE
          have hrt := fun W => ackRightS_calls n1 n2 n3 en W
          rw [decide_eq_false hk] at hrt
          have HRT := Lib.hid hrt
          have hd : (a4 != (b.length : Int)) = false := by simp [ha]
          have m0 : wn.cell? ⟨q, 0, none⟩ = some (.int .i64 n1) := cell_of_row wn q 0 _ _ _ q0
          have m1 : wn.cell? ⟨q, 1, none⟩ = some (.int .i64 n2) := cell_of_row wn q 1 _ _ _ q0
          have m2 : wn.cell? ⟨q, 2, none⟩ = some (.int .i64 n3) := cell_of_row wn q 2 _ _ _ q0
          have m3 : wn.cell? ⟨q, 3, none⟩ = some (.int .i64 en) := cell_of_row wn q 3 _ _ _ q0
          clear hse hm ha hz hk hrt p0 hmost q0 he
          first | (go_region_held3 (fun W => Below wn.heap.size wn W ∧ W.cell? ⟨p, 0, none⟩ = some (gs b) ∧ W.cell? ⟨p, 1, none⟩ = some (.int .i64 a4) ∧ W.cell? ⟨p, 2, none⟩ = some (.bool false) ∧ W.cell? ⟨q, 0, none⟩ = some (.int .i64 n1) ∧ W.cell? ⟨q, 1, none⟩ = some (.int .i64 n2) ∧ W.cell? ⟨q, 2, none⟩ = some (.int .i64 n3) ∧ W.cell? ⟨q, 3, none⟩ = some (.int .i64 en)) (first | exact ⟨(Below.refl _ _).drew, k0', k1', k2', m0, m1, m2, m3⟩ | assumption | (refine keep7 (by assumption) (by assumption))) (first | (go_at_call 19; (with_reducible refine (HRT.out _).mono ?_); rintro e wz ⟨rfl, hbz⟩))) | fail
          obtain ⟨HBZ, -⟩ := (by assumption : Below wn.heap.size wn wz ∧ wz.cell? ⟨p, 0, none⟩ = some (gs b) ∧ wz.cell? ⟨p, 1, none⟩ = some (.int .i64 a4) ∧ wz.cell? ⟨p, 2, none⟩ = some (.bool false) ∧ wz.cell? ⟨q, 0, none⟩ = some (.int .i64 n1) ∧ wz.cell? ⟨q, 1, none⟩ = some (.int .i64 n2) ∧ wz.cell? ⟨q, 2, none⟩ = some (.int .i64 n3) ∧ wz.cell? ⟨q, 3, none⟩ = some (.int .i64 en))
          have HBY := Lib.hid HBZ
          clear k0' k1' k2' m0 m1 m2 m3
          have rr := kept_block HRN.out HBY.out
          have k0 : wz.cell? ⟨r, 0, none⟩ = some (.int .i64 0) := cell_of_row wz r 0 _ _ _ rr
          have k1 : wz.cell? ⟨r, 1, none⟩ = some (.int .i64 0) := cell_of_row wz r 1 _ _ _ rr
          have k2 : wz.cell? ⟨r, 2, none⟩ = some (.int .i64 0) := cell_of_row wz r 2 _ _ _ rr
          have k3 : wz.cell? ⟨r, 3, none⟩ = some (.int .i64 0) := cell_of_row wz r 3 _ _ _ rr
          have k4 : wz.cell? ⟨r, 4, none⟩ = some (.int .i64 0) := cell_of_row wz r 4 _ _ _ rr
          have z0 : wz.frozen? ⟨r, 0, none⟩ = false := frozen_of_row wz r 0 _ _ rr
          have z1 : wz.frozen? ⟨r, 1, none⟩ = false := frozen_of_row wz r 1 _ _ rr
          have z2 : wz.frozen? ⟨r, 2, none⟩ = false := frozen_of_row wz r 2 _ _ rr
          have z3 : wz.frozen? ⟨r, 3, none⟩ = false := frozen_of_row wz r 3 _ _ rr
          have z4 : wz.frozen? ⟨r, 4, none⟩ = false := frozen_of_row wz r 4 _ _ rr
          clear rr
          go_wp2_with fail
          refine bodyPost_ret (v := ackOut 0 0 0 0 3) (by simp [results, Tryz.results15, go_sem, k0, k1, k2, k3, k4]) rfl ⟨_, rfl, HSE.out, ?_⟩
          rw [HW.out]
          exact ((((((HBN.out.trans (HBY.out.mono (by have := HBN.out.size; have := HW.out; omega))).setCell (Nat.le_refl _) _).setCell (Nat.le_refl _) _).setCell (Nat.le_refl _) _).setCell (Nat.le_refl _) _).setCell (Nat.le_refl _) _)
      · have he : endC 0 a4 b.length (decide (ackOk n1 n2 n3 en)) = 3 := by unfold endC; rw [if_neg (by omega), if_pos (.inl (by omega))]
        have HSE := Lib.hid (hse.2 (by rw [he]; decide))
        rw [he] at HSE
        have hd : (a4 != (b.length : Int)) = true := by simp [ha]
        clear hse hm ha p0 hmost he q0
        go_quiet (fail)
        clear k0' k1' k2'
        have rr := HRN.out
        have k0 : wn.cell? ⟨r, 0, none⟩ = some (.int .i64 0) := cell_of_row wn r 0 _ _ _ rr
        have k1 : wn.cell? ⟨r, 1, none⟩ = some (.int .i64 0) := cell_of_row wn r 1 _ _ _ rr
        have k2 : wn.cell? ⟨r, 2, none⟩ = some (.int .i64 0) := cell_of_row wn r 2 _ _ _ rr
        have k3 : wn.cell? ⟨r, 3, none⟩ = some (.int .i64 0) := cell_of_row wn r 3 _ _ _ rr
        have k4 : wn.cell? ⟨r, 4, none⟩ = some (.int .i64 0) := cell_of_row wn r 4 _ _ _ rr
        have z0 : wn.frozen? ⟨r, 0, none⟩ = false := frozen_of_row wn r 0 _ _ rr
        have z1 : wn.frozen? ⟨r, 1, none⟩ = false := frozen_of_row wn r 1 _ _ rr
        have z2 : wn.frozen? ⟨r, 2, none⟩ = false := frozen_of_row wn r 2 _ _ rr
        have z3 : wn.frozen? ⟨r, 3, none⟩ = false := frozen_of_row wn r 3 _ _ rr
        have z4 : wn.frozen? ⟨r, 4, none⟩ = false := frozen_of_row wn r 4 _ _ rr
        clear rr
        go_wp2_with fail
        refine bodyPost_ret (v := ackOut 0 0 0 0 3) (by simp [results, Tryz.results15, go_sem, k0, k1, k2, k3, k4]) rfl ⟨_, rfl, HSE.out, ?_⟩
        rw [HW.out]
        exact ((((((kept_drewN HBN.out nq).setCell (Nat.le_refl _) _).setCell (Nat.le_refl _) _).setCell (Nat.le_refl _) _).setCell (Nat.le_refl _) _).setCell (Nat.le_refl _) _)
    · have h3 : c4 = 3 := by omega
      subst h3
      have HSE := Lib.hid (hse.2 (by rw [end_three]; decide))
      rw [end_three] at HSE
      have k2' : wn.cell? ⟨p, 2, none⟩ = some (.bool true) := cell_of_row wn p 2 _ _ _ p0
      clear hse p0 hmost q0
      go_quiet (fail)
      clear k2'
      have rr := HRN.out
      have k0 : wn.cell? ⟨r, 0, none⟩ = some (.int .i64 0) := cell_of_row wn r 0 _ _ _ rr
      have k1 : wn.cell? ⟨r, 1, none⟩ = some (.int .i64 0) := cell_of_row wn r 1 _ _ _ rr
      have k2 : wn.cell? ⟨r, 2, none⟩ = some (.int .i64 0) := cell_of_row wn r 2 _ _ _ rr
      have k3 : wn.cell? ⟨r, 3, none⟩ = some (.int .i64 0) := cell_of_row wn r 3 _ _ _ rr
      have k4 : wn.cell? ⟨r, 4, none⟩ = some (.int .i64 0) := cell_of_row wn r 4 _ _ _ rr
      have z0 : wn.frozen? ⟨r, 0, none⟩ = false := frozen_of_row wn r 0 _ _ rr
      have z1 : wn.frozen? ⟨r, 1, none⟩ = false := frozen_of_row wn r 1 _ _ rr
      have z2 : wn.frozen? ⟨r, 2, none⟩ = false := frozen_of_row wn r 2 _ _ rr
      have z3 : wn.frozen? ⟨r, 3, none⟩ = false := frozen_of_row wn r 3 _ _ rr
      have z4 : wn.frozen? ⟨r, 4, none⟩ = false := frozen_of_row wn r 4 _ _ rr
      clear rr
      go_wp2_with fail
      refine bodyPost_ret (v := ackOut 0 0 0 0 3) (by simp [results, Tryz.results15, go_sem, k0, k1, k2, k3, k4]) rfl ⟨_, rfl, HSE.out, ?_⟩
      rw [HW.out]
      exact ((((((kept_drewN HBN.out nq).setCell (Nat.le_refl _) _).setCell (Nat.le_refl _) _).setCell (Nat.le_refl _) _).setCell (Nat.le_refl _) _).setCell (Nat.le_refl _) _)
  · have HSE := Lib.hid (ack_open HOC.out hc0)
    have hd : ((c0 : Int) != 0) = true := by simp; omega
    clear hi0
    have rr := r1
    have k0 : w1.cell? ⟨r, 0, none⟩ = some (.int .i64 0) := cell_of_row w1 r 0 _ _ _ rr
    have k1 : w1.cell? ⟨r, 1, none⟩ = some (.int .i64 0) := cell_of_row w1 r 1 _ _ _ rr
    have k2 : w1.cell? ⟨r, 2, none⟩ = some (.int .i64 0) := cell_of_row w1 r 2 _ _ _ rr
    have k3 : w1.cell? ⟨r, 3, none⟩ = some (.int .i64 0) := cell_of_row w1 r 3 _ _ _ rr
    have k4 : w1.cell? ⟨r, 4, none⟩ = some (.int .i64 0) := cell_of_row w1 r 4 _ _ _ rr
    have z0 : w1.frozen? ⟨r, 0, none⟩ = false := frozen_of_row w1 r 0 _ _ rr
    have z1 : w1.frozen? ⟨r, 1, none⟩ = false := frozen_of_row w1 r 1 _ _ rr
    have z2 : w1.frozen? ⟨r, 2, none⟩ = false := frozen_of_row w1 r 2 _ _ rr
    have z3 : w1.frozen? ⟨r, 3, none⟩ = false := frozen_of_row w1 r 3 _ _ rr
    have z4 : w1.frozen? ⟨r, 4, none⟩ = false := frozen_of_row w1 r 4 _ _ rr
    clear rr
    go_wp2_with fail
    refine bodyPost_ret (v := ackOut 0 0 0 0 c0) (by simp [results, Tryz.results15, go_sem, k0, k1, k2, k3, k4]) rfl ⟨_, rfl, HSE.out, ?_⟩
    rw [HW.out]
    exact (((((HB1.out.setCell (Nat.le_refl _) _).setCell (Nat.le_refl _) _).setCell (Nat.le_refl _) _).setCell (Nat.le_refl _) _).setCell (Nat.le_refl _) _)
end Go.Proofs.YtjcdcaannajnpaaGreatDoor
