/- The draws of chapter 4's arguments: a piece, an answer, right as a rule. -/
import Derived.Test.YtjcdcaannajnpaaGreatDoorDrawS
import Derived.Test.YtjcdcaannajnpaaGreatDoorRow
namespace Go.Proofs.YtjcdcaannajnpaaGreatDoor
open Go.RowKit

def SegDrawn (w : World) (e : Ending) (w' : World) : Prop := ∃ (n s d : Int) (t : List UInt8) (x : Int), e = .returned (segV n s d t x) ∧ Wide n s d t x ∧ Below w.heap.size w w'
def AckDrawn (w : World) (e : Ending) (w' : World) : Prop := ∃ (n s d x : Int), e = .returned (ackV n s d x) ∧ Wide n s d [] x ∧ Below w.heap.size w w'
theorem kept_blk {w v : World} {r : Nat} {o : Obj} (h : w.heap[r]? = some o) (hb : Below w.heap.size w v) : v.heap[r]? = some o := (hb.block r (Array.getElem?_eq_some_iff.1 h).1).trans h

set_option maxHeartbeats 2000000 in
set_option maxRecDepth 100000 in
theorem drawSegRight_calls {a : Option Addr} {len cap : Nat} {z : List Int} {w : World} (hrow : InRow w a len z) :
    Calls Tryz.prog 21 #[.slice a len cap] w (SegDrawn w) := by
  have H1 := Lib.hid (fun o => source_calls (cap := cap) (inRow_below hrow ((Below.refl _ _).alloc (Nat.le_refl _) o)))
  have HA := Lib.hid (row_below hrow)
  clear hrow
  go_enter Tryz.func21, Tryz.ntmps21
  go_wp2_with fail
  (with_reducible refine (H1.out _).mono ?_)
  rintro e w1 ⟨rfl, s1, hb1⟩
  have HB1 := Lib.hid (((Below.refl _ _).alloc (Nat.le_refl _) _).trans (hb1.mono (by simp)) : Below w.heap.size w w1)
  have r1 := kept_blk (new_there _ _) hb1
  simp at s1
  have HR1 := Lib.hid r1
  have H2 := Lib.hid (segOfD_calls s1)
  clear s1 hb1 r1 H1
  go_wp2_with fail
  (with_reducible refine H2.out.mono ?_)
  rintro e w2 ⟨n1, n2, n3, t, n4, rfl, hwd, s2, g2⟩
  have HR2 := Lib.hid (draw_other g2 HR1.out (by omega))
  have HB2 := Lib.hid (HB1.out.grown g2 (by have := HB1.out.size; omega) (fun k hk => by have := Option.some.inj hk; omega))
  have hr2 : w.heap.size < w2.heap.size := (Array.getElem?_eq_some_iff.1 HR2.out).1
  have hp2 := src_lt s2
  have H3 := Lib.hid (fun o => src_draw (src_alloc s2 o) (most := 8) (by omega))
  clear s2 g2 H2 HR1 HB1
  go_wp2_with fail
  (with_reducible refine (H3.out _).mono ?_)
  rintro e w3 ⟨kk, rfl, kka, kkb, s3, g3⟩
  have q3 := draw_other g3 (new_there _ _) (by omega)
  have HR3 := Lib.hid (draw_other (draw_alloc g3) HR2.out (by omega))
  have HB3 := Lib.hid (HB2.out.grown (draw_alloc g3) (by have := HB2.out.size; omega) (fun k hk => by have := Option.some.inj hk; omega))
  generalize w2.heap.size = q at *
  have HQ3 := Lib.hid q3
  clear q3 H3 HR2 HB2 g3
  by_cases hk0 : kk = 0
  · subst hk0
    have H4 := Lib.hid (src_draw s3 (most := 6) (by omega))
    clear s3
    go_wp2_with fail
    (with_reducible refine H4.out.mono ?_)
    rintro e w4 ⟨y, rfl, ya, yb, s4, g4⟩
    have HB4 := Lib.hid (HB3.out.grown g4 (by have := HB3.out.size; omega) (fun k hk => by have := Option.some.inj hk; omega))
    have qq := draw_other g4 HQ3.out (by omega)
    have rr := draw_other g4 HR3.out (by omega)
    have m0 : w4.cell? ⟨q, 0, none⟩ = some (.int .i64 n1) := cell_of_row w4 q 0 _ _ _ qq
    have m1 : w4.cell? ⟨q, 1, none⟩ = some (.int .i64 n2) := cell_of_row w4 q 1 _ _ _ qq
    have m2 : w4.cell? ⟨q, 2, none⟩ = some (.int .i64 n3) := cell_of_row w4 q 2 _ _ _ qq
    have m3 : w4.cell? ⟨q, 3, none⟩ = some (gs t) := cell_of_row w4 q 3 _ _ _ qq
    have m4 : w4.cell? ⟨q, 4, none⟩ = some (.int .i64 n4) := cell_of_row w4 q 4 _ _ _ qq
    have v0 : w4.frozen? ⟨q, 0, none⟩ = false := frozen_of_row w4 q 0 _ _ qq
    have v1 : w4.frozen? ⟨q, 1, none⟩ = false := frozen_of_row w4 q 1 _ _ qq
    have v2 : w4.frozen? ⟨q, 2, none⟩ = false := frozen_of_row w4 q 2 _ _ qq
    have v3 : w4.frozen? ⟨q, 3, none⟩ = false := frozen_of_row w4 q 3 _ _ qq
    have v4 : w4.frozen? ⟨q, 4, none⟩ = false := frozen_of_row w4 q 4 _ _ qq
    have k0 : w4.cell? ⟨w.heap.size, 0, none⟩ = some (.int .i64 0) := cell_of_row w4 w.heap.size 0 _ _ _ rr
    have k1 : w4.cell? ⟨w.heap.size, 1, none⟩ = some (.int .i64 0) := cell_of_row w4 w.heap.size 1 _ _ _ rr
    have k2 : w4.cell? ⟨w.heap.size, 2, none⟩ = some (.int .i64 0) := cell_of_row w4 w.heap.size 2 _ _ _ rr
    have k3 : w4.cell? ⟨w.heap.size, 3, none⟩ = some (gs []) := cell_of_row w4 w.heap.size 3 _ _ _ rr
    have k4 : w4.cell? ⟨w.heap.size, 4, none⟩ = some (.int .i64 0) := cell_of_row w4 w.heap.size 4 _ _ _ rr
    have f0 : w4.frozen? ⟨w.heap.size, 0, none⟩ = false := frozen_of_row w4 w.heap.size 0 _ _ rr
    have f1 : w4.frozen? ⟨w.heap.size, 1, none⟩ = false := frozen_of_row w4 w.heap.size 1 _ _ rr
    have f2 : w4.frozen? ⟨w.heap.size, 2, none⟩ = false := frozen_of_row w4 w.heap.size 2 _ _ rr
    have f3 : w4.frozen? ⟨w.heap.size, 3, none⟩ = false := frozen_of_row w4 w.heap.size 3 _ _ rr
    have f4 : w4.frozen? ⟨w.heap.size, 4, none⟩ = false := frozen_of_row w4 w.heap.size 4 _ _ rr
    clear qq rr
    clear s4 g4 H4
    go_wp2_with fail
    refine bodyPost_ret (v := segV (y - 1) n2 n3 t n4) (by simp [results, Tryz.results21, go_sem, k0, k1, k2, k3, k4]) rfl ⟨(y - 1), n2, n3, t, n4, rfl, ?_, ?_⟩
    · unfold Wide at *; omega
    · exact ((((((HB4.out.setCell (p := ⟨q, _, none⟩) (by show w.heap.size ≤ q; omega) _).setCell (Nat.le_refl _) _).setCell (Nat.le_refl _) _).setCell (Nat.le_refl _) _).setCell (Nat.le_refl _) _).setCell (Nat.le_refl _) _)
  · by_cases hk1 : kk = 1
    · subst hk1
      have H4 := Lib.hid (src_draw s3 (most := 3) (by omega))
      clear s3 hk0
      go_wp2_with fail
      (with_reducible refine H4.out.mono ?_)
      rintro e w4 ⟨y, rfl, ya, yb, s4, g4⟩
      obtain ⟨y, rfl⟩ := Int.eq_ofNat_of_zero_le ya
      have hy : y ≤ 2 := by omega
      have H5 := Lib.hid (src_bytes s4 (15 + y) (by omega))
      have HB4 := Lib.hid (HB3.out.grown g4 (by have := HB3.out.size; omega) (fun k hk => by have := Option.some.inj hk; omega))
      have HQ4 := Lib.hid (draw_other g4 HQ3.out (by omega))
      have HR4 := Lib.hid (draw_other g4 HR3.out (by omega))
      have e15 : (15 : Int) + (y : Int) = ((15 + y : Nat) : Int) := by omega
      have E15 := Lib.hid e15
      clear s4 g4 H4 ya yb e15
      go_wp2_with fail
      rw [E15.out]
      (with_reducible refine H5.out.mono ?_)
      rintro e w5 ⟨tt, rfl, htt, s5, g5⟩
      have HB5 := Lib.hid (HB4.out.grown g5 (by have := HB4.out.size; omega) (fun k hk => by have := Option.some.inj hk; omega))
      have qq := draw_other g5 HQ4.out (by omega)
      have rr := draw_other g5 HR4.out (by omega)
      have m0 : w5.cell? ⟨q, 0, none⟩ = some (.int .i64 n1) := cell_of_row w5 q 0 _ _ _ qq
      have m1 : w5.cell? ⟨q, 1, none⟩ = some (.int .i64 n2) := cell_of_row w5 q 1 _ _ _ qq
      have m2 : w5.cell? ⟨q, 2, none⟩ = some (.int .i64 n3) := cell_of_row w5 q 2 _ _ _ qq
      have m3 : w5.cell? ⟨q, 3, none⟩ = some (gs t) := cell_of_row w5 q 3 _ _ _ qq
      have m4 : w5.cell? ⟨q, 4, none⟩ = some (.int .i64 n4) := cell_of_row w5 q 4 _ _ _ qq
      have v0 : w5.frozen? ⟨q, 0, none⟩ = false := frozen_of_row w5 q 0 _ _ qq
      have v1 : w5.frozen? ⟨q, 1, none⟩ = false := frozen_of_row w5 q 1 _ _ qq
      have v2 : w5.frozen? ⟨q, 2, none⟩ = false := frozen_of_row w5 q 2 _ _ qq
      have v3 : w5.frozen? ⟨q, 3, none⟩ = false := frozen_of_row w5 q 3 _ _ qq
      have v4 : w5.frozen? ⟨q, 4, none⟩ = false := frozen_of_row w5 q 4 _ _ qq
      have k0 : w5.cell? ⟨w.heap.size, 0, none⟩ = some (.int .i64 0) := cell_of_row w5 w.heap.size 0 _ _ _ rr
      have k1 : w5.cell? ⟨w.heap.size, 1, none⟩ = some (.int .i64 0) := cell_of_row w5 w.heap.size 1 _ _ _ rr
      have k2 : w5.cell? ⟨w.heap.size, 2, none⟩ = some (.int .i64 0) := cell_of_row w5 w.heap.size 2 _ _ _ rr
      have k3 : w5.cell? ⟨w.heap.size, 3, none⟩ = some (gs []) := cell_of_row w5 w.heap.size 3 _ _ _ rr
      have k4 : w5.cell? ⟨w.heap.size, 4, none⟩ = some (.int .i64 0) := cell_of_row w5 w.heap.size 4 _ _ _ rr
      have f0 : w5.frozen? ⟨w.heap.size, 0, none⟩ = false := frozen_of_row w5 w.heap.size 0 _ _ rr
      have f1 : w5.frozen? ⟨w.heap.size, 1, none⟩ = false := frozen_of_row w5 w.heap.size 1 _ _ rr
      have f2 : w5.frozen? ⟨w.heap.size, 2, none⟩ = false := frozen_of_row w5 w.heap.size 2 _ _ rr
      have f3 : w5.frozen? ⟨w.heap.size, 3, none⟩ = false := frozen_of_row w5 w.heap.size 3 _ _ rr
      have f4 : w5.frozen? ⟨w.heap.size, 4, none⟩ = false := frozen_of_row w5 w.heap.size 4 _ _ rr
      clear qq rr
      clear s5 g5 H5
      go_wp2_with fail
      refine bodyPost_ret (v := segV n1 n2 n3 tt n4) (by simp [results, Tryz.results21, go_sem, k0, k1, k2, k3, k4]) rfl ⟨n1, n2, n3, tt, n4, rfl, ?_, ?_⟩
      · unfold Wide at *; omega
      · exact ((((((HB5.out.setCell (p := ⟨q, _, none⟩) (by show w.heap.size ≤ q; omega) _).setCell (Nat.le_refl _) _).setCell (Nat.le_refl _) _).setCell (Nat.le_refl _) _).setCell (Nat.le_refl _) _).setCell (Nat.le_refl _) _)
    · by_cases hk2 : kk = 2
      · subst hk2
        have H4 := Lib.hid (src_edge s3)
        clear s3 hk0 hk1
        go_wp2_with fail
        (with_reducible refine H4.out.mono ?_)
        rintro e w4 ⟨y, rfl, yy, s4, g4⟩
        have HB4 := Lib.hid (HB3.out.grown g4 (by have := HB3.out.size; omega) (fun k hk => by have := Option.some.inj hk; omega))
        have qq := draw_other g4 HQ3.out (by omega)
        have rr := draw_other g4 HR3.out (by omega)
        have m0 : w4.cell? ⟨q, 0, none⟩ = some (.int .i64 n1) := cell_of_row w4 q 0 _ _ _ qq
        have m1 : w4.cell? ⟨q, 1, none⟩ = some (.int .i64 n2) := cell_of_row w4 q 1 _ _ _ qq
        have m2 : w4.cell? ⟨q, 2, none⟩ = some (.int .i64 n3) := cell_of_row w4 q 2 _ _ _ qq
        have m3 : w4.cell? ⟨q, 3, none⟩ = some (gs t) := cell_of_row w4 q 3 _ _ _ qq
        have m4 : w4.cell? ⟨q, 4, none⟩ = some (.int .i64 n4) := cell_of_row w4 q 4 _ _ _ qq
        have v0 : w4.frozen? ⟨q, 0, none⟩ = false := frozen_of_row w4 q 0 _ _ qq
        have v1 : w4.frozen? ⟨q, 1, none⟩ = false := frozen_of_row w4 q 1 _ _ qq
        have v2 : w4.frozen? ⟨q, 2, none⟩ = false := frozen_of_row w4 q 2 _ _ qq
        have v3 : w4.frozen? ⟨q, 3, none⟩ = false := frozen_of_row w4 q 3 _ _ qq
        have v4 : w4.frozen? ⟨q, 4, none⟩ = false := frozen_of_row w4 q 4 _ _ qq
        have k0 : w4.cell? ⟨w.heap.size, 0, none⟩ = some (.int .i64 0) := cell_of_row w4 w.heap.size 0 _ _ _ rr
        have k1 : w4.cell? ⟨w.heap.size, 1, none⟩ = some (.int .i64 0) := cell_of_row w4 w.heap.size 1 _ _ _ rr
        have k2 : w4.cell? ⟨w.heap.size, 2, none⟩ = some (.int .i64 0) := cell_of_row w4 w.heap.size 2 _ _ _ rr
        have k3 : w4.cell? ⟨w.heap.size, 3, none⟩ = some (gs []) := cell_of_row w4 w.heap.size 3 _ _ _ rr
        have k4 : w4.cell? ⟨w.heap.size, 4, none⟩ = some (.int .i64 0) := cell_of_row w4 w.heap.size 4 _ _ _ rr
        have f0 : w4.frozen? ⟨w.heap.size, 0, none⟩ = false := frozen_of_row w4 w.heap.size 0 _ _ rr
        have f1 : w4.frozen? ⟨w.heap.size, 1, none⟩ = false := frozen_of_row w4 w.heap.size 1 _ _ rr
        have f2 : w4.frozen? ⟨w.heap.size, 2, none⟩ = false := frozen_of_row w4 w.heap.size 2 _ _ rr
        have f3 : w4.frozen? ⟨w.heap.size, 3, none⟩ = false := frozen_of_row w4 w.heap.size 3 _ _ rr
        have f4 : w4.frozen? ⟨w.heap.size, 4, none⟩ = false := frozen_of_row w4 w.heap.size 4 _ _ rr
        clear qq rr
        clear s4 g4 H4
        go_wp2_with fail
        refine bodyPost_ret (v := segV n1 n2 n3 t y) (by simp [results, Tryz.results21, go_sem, k0, k1, k2, k3, k4]) rfl ⟨n1, n2, n3, t, y, rfl, ?_, ?_⟩
        · unfold Wide at *; omega
        · exact ((((((HB4.out.setCell (p := ⟨q, _, none⟩) (by show w.heap.size ≤ q; omega) _).setCell (Nat.le_refl _) _).setCell (Nat.le_refl _) _).setCell (Nat.le_refl _) _).setCell (Nat.le_refl _) _).setCell (Nat.le_refl _) _)
      · have d0 : (kk == 0) = false := by simpa using hk0
        have d1 : (kk == 1) = false := by simpa using hk1
        have d2 : (kk == 2) = false := by simpa using hk2
        have qq := HQ3.out
        have rr := HR3.out
        have m0 : w3.cell? ⟨q, 0, none⟩ = some (.int .i64 n1) := cell_of_row w3 q 0 _ _ _ qq
        have m1 : w3.cell? ⟨q, 1, none⟩ = some (.int .i64 n2) := cell_of_row w3 q 1 _ _ _ qq
        have m2 : w3.cell? ⟨q, 2, none⟩ = some (.int .i64 n3) := cell_of_row w3 q 2 _ _ _ qq
        have m3 : w3.cell? ⟨q, 3, none⟩ = some (gs t) := cell_of_row w3 q 3 _ _ _ qq
        have m4 : w3.cell? ⟨q, 4, none⟩ = some (.int .i64 n4) := cell_of_row w3 q 4 _ _ _ qq
        have v0 : w3.frozen? ⟨q, 0, none⟩ = false := frozen_of_row w3 q 0 _ _ qq
        have v1 : w3.frozen? ⟨q, 1, none⟩ = false := frozen_of_row w3 q 1 _ _ qq
        have v2 : w3.frozen? ⟨q, 2, none⟩ = false := frozen_of_row w3 q 2 _ _ qq
        have v3 : w3.frozen? ⟨q, 3, none⟩ = false := frozen_of_row w3 q 3 _ _ qq
        have v4 : w3.frozen? ⟨q, 4, none⟩ = false := frozen_of_row w3 q 4 _ _ qq
        have k0 : w3.cell? ⟨w.heap.size, 0, none⟩ = some (.int .i64 0) := cell_of_row w3 w.heap.size 0 _ _ _ rr
        have k1 : w3.cell? ⟨w.heap.size, 1, none⟩ = some (.int .i64 0) := cell_of_row w3 w.heap.size 1 _ _ _ rr
        have k2 : w3.cell? ⟨w.heap.size, 2, none⟩ = some (.int .i64 0) := cell_of_row w3 w.heap.size 2 _ _ _ rr
        have k3 : w3.cell? ⟨w.heap.size, 3, none⟩ = some (gs []) := cell_of_row w3 w.heap.size 3 _ _ _ rr
        have k4 : w3.cell? ⟨w.heap.size, 4, none⟩ = some (.int .i64 0) := cell_of_row w3 w.heap.size 4 _ _ _ rr
        have f0 : w3.frozen? ⟨w.heap.size, 0, none⟩ = false := frozen_of_row w3 w.heap.size 0 _ _ rr
        have f1 : w3.frozen? ⟨w.heap.size, 1, none⟩ = false := frozen_of_row w3 w.heap.size 1 _ _ rr
        have f2 : w3.frozen? ⟨w.heap.size, 2, none⟩ = false := frozen_of_row w3 w.heap.size 2 _ _ rr
        have f3 : w3.frozen? ⟨w.heap.size, 3, none⟩ = false := frozen_of_row w3 w.heap.size 3 _ _ rr
        have f4 : w3.frozen? ⟨w.heap.size, 4, none⟩ = false := frozen_of_row w3 w.heap.size 4 _ _ rr
        clear qq rr
        clear s3 hk0 hk1 hk2
        go_wp2_with fail
        refine bodyPost_ret (v := segV n1 n2 n3 t n4) (by simp [results, Tryz.results21, go_sem, k0, k1, k2, k3, k4]) rfl ⟨n1, n2, n3, t, n4, rfl, ?_, ?_⟩
        · unfold Wide at *; omega
        · exact (((((HB3.out.setCell (Nat.le_refl _) _).setCell (Nat.le_refl _) _).setCell (Nat.le_refl _) _).setCell (Nat.le_refl _) _).setCell (Nat.le_refl _) _)

set_option maxHeartbeats 2000000 in
set_option maxRecDepth 100000 in
theorem drawAckRight_calls {a : Option Addr} {len cap : Nat} {z : List Int} {w : World} (hrow : InRow w a len z) :
    Calls Tryz.prog 22 #[.slice a len cap] w (AckDrawn w) := by
  have H1 := Lib.hid (fun o => source_calls (cap := cap) (inRow_below hrow ((Below.refl _ _).alloc (Nat.le_refl _) o)))
  have HA := Lib.hid (row_below hrow)
  clear hrow
  go_enter Tryz.func22, Tryz.ntmps22
  go_wp2_with fail
  (with_reducible refine (H1.out _).mono ?_)
  rintro e w1 ⟨rfl, s1, hb1⟩
  have HB1 := Lib.hid (((Below.refl _ _).alloc (Nat.le_refl _) _).trans (hb1.mono (by simp)) : Below w.heap.size w w1)
  have r1 := kept_blk (new_there _ _) hb1
  simp at s1
  have HR1 := Lib.hid r1
  have H2 := Lib.hid (ackOf_calls s1)
  clear s1 hb1 r1 H1
  go_wp2_with fail
  (with_reducible refine H2.out.mono ?_)
  rintro e w2 ⟨n1, n2, n3, n4, rfl, hwd, s2, g2⟩
  have HR2 := Lib.hid (draw_other g2 HR1.out (by omega))
  have HB2 := Lib.hid (HB1.out.grown g2 (by have := HB1.out.size; omega) (fun k hk => by have := Option.some.inj hk; omega))
  have hr2 : w.heap.size < w2.heap.size := (Array.getElem?_eq_some_iff.1 HR2.out).1
  have hp2 := src_lt s2
  have H3 := Lib.hid (fun o => src_one (src_alloc s2 o) (most := 4) (by omega))
  clear s2 g2 H2 HR1 HB1
  go_wp2_with fail
  (with_reducible refine (H3.out _).mono ?_)
  rintro e w3 ⟨kk, rfl, s3, g3⟩
  have q3 := draw_other g3 (new_there _ _) (by omega)
  have HR3 := Lib.hid (draw_other (draw_alloc g3) HR2.out (by omega))
  have HB3 := Lib.hid (HB2.out.grown (draw_alloc g3) (by have := HB2.out.size; omega) (fun k hk => by have := Option.some.inj hk; omega))
  generalize w2.heap.size = q at *
  have HQ3 := Lib.hid q3
  clear q3 H3 HR2 HB2 g3
  cases kk with
  | true =>
    have H4 := Lib.hid (src_edge s3)
    clear s3
    go_wp2_with fail
    (with_reducible refine H4.out.mono ?_)
    rintro e w4 ⟨y, rfl, yy, s4, g4⟩
    have HB4 := Lib.hid (HB3.out.grown g4 (by have := HB3.out.size; omega) (fun k hk => by have := Option.some.inj hk; omega))
    have HQ4 := Lib.hid (draw_other g4 HQ3.out (by omega))
    have HR4 := Lib.hid (draw_other g4 HR3.out (by omega))
    have u3 := cell_of_row w4 q 3 _ _ _ HQ4.out
    have v3 := frozen_of_row w4 q 3 _ _ HQ4.out
    have H5 := Lib.hid (src_draw (src_set (off := 3) (q := q) (x := .int .i64 y) s4 (by omega) (fun y' hy' hl' => by have := HA.out y' hy' hl'; omega)) (most := 6) (by omega))
    clear s4 g4 H4
    go_wp2_with fail
    (with_reducible refine H5.out.mono ?_)
    rintro e w5 ⟨y5, rfl, ya, yb, s5, g5⟩
    have qq : w5.heap[q]? = some (.cells #[.int .i64 n1, .int .i64 n2, .int .i64 n3, .int .i64 y] 27 (0, 0)) := draw_other g5 (set_at (off := 3) HQ4.out (.int .i64 y)) (by omega)
    have rr := draw_other g5 ((Below.heap_setCell w4 ⟨q, 3, none⟩ (.int .i64 y) w.heap.size (by show w.heap.size ≠ q; omega)).trans HR4.out) (by omega)
    have HB5 := Lib.hid ((HB4.out.setCell (p := ⟨q, 3, none⟩) (by show w.heap.size ≤ q; omega) (.int .i64 y)).grown g5 (by have := HB4.out.size; simp [World.setCell]; omega) (fun k hk => by have := Option.some.inj hk; omega))
    clear u3 v3
    have m0 : w5.cell? ⟨q, 0, none⟩ = some (.int .i64 n1) := cell_of_row w5 q 0 _ _ _ qq
    have m1 : w5.cell? ⟨q, 1, none⟩ = some (.int .i64 n2) := cell_of_row w5 q 1 _ _ _ qq
    have m2 : w5.cell? ⟨q, 2, none⟩ = some (.int .i64 n3) := cell_of_row w5 q 2 _ _ _ qq
    have m3 : w5.cell? ⟨q, 3, none⟩ = some (.int .i64 y) := cell_of_row w5 q 3 _ _ _ qq
    have v0 : w5.frozen? ⟨q, 0, none⟩ = false := frozen_of_row w5 q 0 _ _ qq
    have v1 : w5.frozen? ⟨q, 1, none⟩ = false := frozen_of_row w5 q 1 _ _ qq
    have v2 : w5.frozen? ⟨q, 2, none⟩ = false := frozen_of_row w5 q 2 _ _ qq
    have v3 : w5.frozen? ⟨q, 3, none⟩ = false := frozen_of_row w5 q 3 _ _ qq
    have k0 : w5.cell? ⟨w.heap.size, 0, none⟩ = some (.int .i64 0) := cell_of_row w5 w.heap.size 0 _ _ _ rr
    have k1 : w5.cell? ⟨w.heap.size, 1, none⟩ = some (.int .i64 0) := cell_of_row w5 w.heap.size 1 _ _ _ rr
    have k2 : w5.cell? ⟨w.heap.size, 2, none⟩ = some (.int .i64 0) := cell_of_row w5 w.heap.size 2 _ _ _ rr
    have k3 : w5.cell? ⟨w.heap.size, 3, none⟩ = some (.int .i64 0) := cell_of_row w5 w.heap.size 3 _ _ _ rr
    have f0 : w5.frozen? ⟨w.heap.size, 0, none⟩ = false := frozen_of_row w5 w.heap.size 0 _ _ rr
    have f1 : w5.frozen? ⟨w.heap.size, 1, none⟩ = false := frozen_of_row w5 w.heap.size 1 _ _ rr
    have f2 : w5.frozen? ⟨w.heap.size, 2, none⟩ = false := frozen_of_row w5 w.heap.size 2 _ _ rr
    have f3 : w5.frozen? ⟨w.heap.size, 3, none⟩ = false := frozen_of_row w5 w.heap.size 3 _ _ rr
    clear qq rr s5 g5 H5
    go_wp2_with fail
    refine bodyPost_ret (v := ackV (y5 - 1) n2 n3 y) (by simp [results, Tryz.results22, go_sem, k0, k1, k2, k3]) rfl ⟨(y5 - 1), n2, n3, y, rfl, ?_, ?_⟩
    · unfold Wide at *; (try simp at *); omega
    · exact (((((HB5.out.setCell (p := ⟨q, _, none⟩) (by show w.heap.size ≤ q; omega) _).setCell (Nat.le_refl _) _).setCell (Nat.le_refl _) _).setCell (Nat.le_refl _) _).setCell (Nat.le_refl _) _)
  | false =>
    have qq := HQ3.out
    have rr := HR3.out
    have m0 : w3.cell? ⟨q, 0, none⟩ = some (.int .i64 n1) := cell_of_row w3 q 0 _ _ _ qq
    have m1 : w3.cell? ⟨q, 1, none⟩ = some (.int .i64 n2) := cell_of_row w3 q 1 _ _ _ qq
    have m2 : w3.cell? ⟨q, 2, none⟩ = some (.int .i64 n3) := cell_of_row w3 q 2 _ _ _ qq
    have m3 : w3.cell? ⟨q, 3, none⟩ = some (.int .i64 n4) := cell_of_row w3 q 3 _ _ _ qq
    have v0 : w3.frozen? ⟨q, 0, none⟩ = false := frozen_of_row w3 q 0 _ _ qq
    have v1 : w3.frozen? ⟨q, 1, none⟩ = false := frozen_of_row w3 q 1 _ _ qq
    have v2 : w3.frozen? ⟨q, 2, none⟩ = false := frozen_of_row w3 q 2 _ _ qq
    have v3 : w3.frozen? ⟨q, 3, none⟩ = false := frozen_of_row w3 q 3 _ _ qq
    have k0 : w3.cell? ⟨w.heap.size, 0, none⟩ = some (.int .i64 0) := cell_of_row w3 w.heap.size 0 _ _ _ rr
    have k1 : w3.cell? ⟨w.heap.size, 1, none⟩ = some (.int .i64 0) := cell_of_row w3 w.heap.size 1 _ _ _ rr
    have k2 : w3.cell? ⟨w.heap.size, 2, none⟩ = some (.int .i64 0) := cell_of_row w3 w.heap.size 2 _ _ _ rr
    have k3 : w3.cell? ⟨w.heap.size, 3, none⟩ = some (.int .i64 0) := cell_of_row w3 w.heap.size 3 _ _ _ rr
    have f0 : w3.frozen? ⟨w.heap.size, 0, none⟩ = false := frozen_of_row w3 w.heap.size 0 _ _ rr
    have f1 : w3.frozen? ⟨w.heap.size, 1, none⟩ = false := frozen_of_row w3 w.heap.size 1 _ _ rr
    have f2 : w3.frozen? ⟨w.heap.size, 2, none⟩ = false := frozen_of_row w3 w.heap.size 2 _ _ rr
    have f3 : w3.frozen? ⟨w.heap.size, 3, none⟩ = false := frozen_of_row w3 w.heap.size 3 _ _ rr
    clear qq rr
    clear s3
    go_wp2_with fail
    refine bodyPost_ret (v := ackV n1 n2 n3 n4) (by simp [results, Tryz.results22, go_sem, k0, k1, k2, k3]) rfl ⟨n1, n2, n3, n4, rfl, ?_, ?_⟩
    · unfold Wide at *; (try simp at *); omega
    · exact ((((HB3.out.setCell (Nat.le_refl _) _).setCell (Nat.le_refl _) _).setCell (Nat.le_refl _) _).setCell (Nat.le_refl _) _)

theorem drawSegBytes_calls {a : Option Addr} {len cap : Nat} {z : List Int} {w : World} (hrow : InRow w a len z) :
    Calls Tryz.prog 4 #[.slice a len cap] w (SegDrawn w) := by
  have H1 := Lib.hid (fun o => drawSegRight_calls (cap := cap) (inRow_below hrow ((Below.refl _ _).alloc (Nat.le_refl _) o)))
  clear hrow
  go_enter Tryz.func4, Tryz.ntmps4
  go_wp2_with fail
  (with_reducible refine (H1.out _).mono ?_)
  rintro e w1 ⟨n1, n2, n3, t, n4, rfl, hw, hb1⟩
  have HB1 := Lib.hid (((Below.refl _ _).alloc (Nat.le_refl _) _).trans (hb1.mono (by simp)) : Below w.heap.size w w1)
  have rr := kept_blk (new_there _ _) hb1
  have HW := Lib.hid hw
  have k0 : w1.cell? ⟨w.heap.size, 0, none⟩ = some (.int .i64 0) := cell_of_row w1 w.heap.size 0 _ _ _ rr
  have k1 : w1.cell? ⟨w.heap.size, 1, none⟩ = some (.int .i64 0) := cell_of_row w1 w.heap.size 1 _ _ _ rr
  have k2 : w1.cell? ⟨w.heap.size, 2, none⟩ = some (.int .i64 0) := cell_of_row w1 w.heap.size 2 _ _ _ rr
  have k3 : w1.cell? ⟨w.heap.size, 3, none⟩ = some (gs []) := cell_of_row w1 w.heap.size 3 _ _ _ rr
  have k4 : w1.cell? ⟨w.heap.size, 4, none⟩ = some (.int .i64 0) := cell_of_row w1 w.heap.size 4 _ _ _ rr
  have f0 : w1.frozen? ⟨w.heap.size, 0, none⟩ = false := frozen_of_row w1 w.heap.size 0 _ _ rr
  have f1 : w1.frozen? ⟨w.heap.size, 1, none⟩ = false := frozen_of_row w1 w.heap.size 1 _ _ rr
  have f2 : w1.frozen? ⟨w.heap.size, 2, none⟩ = false := frozen_of_row w1 w.heap.size 2 _ _ rr
  have f3 : w1.frozen? ⟨w.heap.size, 3, none⟩ = false := frozen_of_row w1 w.heap.size 3 _ _ rr
  have f4 : w1.frozen? ⟨w.heap.size, 4, none⟩ = false := frozen_of_row w1 w.heap.size 4 _ _ rr
  clear hb1 rr hw
  go_wp2_with fail
  refine bodyPost_ret (v := segV n1 n2 n3 t n4) (by simp [results, Tryz.results4, go_sem, k0, k1, k2, k3, k4]) rfl ⟨_, _, _, _, _, rfl, HW.out, ?_⟩
  exact ((((HB1.out.setCell (Nat.le_refl _) _).setCell (Nat.le_refl _) _).setCell (Nat.le_refl _) _).setCell (Nat.le_refl _) _).setCell (Nat.le_refl _) _
theorem drawAckBytes_calls {a : Option Addr} {len cap : Nat} {z : List Int} {w : World} (hrow : InRow w a len z) :
    Calls Tryz.prog 5 #[.slice a len cap] w (AckDrawn w) := by
  have H1 := Lib.hid (fun o => drawAckRight_calls (cap := cap) (inRow_below hrow ((Below.refl _ _).alloc (Nat.le_refl _) o)))
  clear hrow
  go_enter Tryz.func5, Tryz.ntmps5
  go_wp2_with fail
  (with_reducible refine (H1.out _).mono ?_)
  rintro e w1 ⟨n1, n2, n3, n4, rfl, hw, hb1⟩
  have HB1 := Lib.hid (((Below.refl _ _).alloc (Nat.le_refl _) _).trans (hb1.mono (by simp)) : Below w.heap.size w w1)
  have rr := kept_blk (new_there _ _) hb1
  have HW := Lib.hid hw
  have k0 : w1.cell? ⟨w.heap.size, 0, none⟩ = some (.int .i64 0) := cell_of_row w1 w.heap.size 0 _ _ _ rr
  have k1 : w1.cell? ⟨w.heap.size, 1, none⟩ = some (.int .i64 0) := cell_of_row w1 w.heap.size 1 _ _ _ rr
  have k2 : w1.cell? ⟨w.heap.size, 2, none⟩ = some (.int .i64 0) := cell_of_row w1 w.heap.size 2 _ _ _ rr
  have k3 : w1.cell? ⟨w.heap.size, 3, none⟩ = some (.int .i64 0) := cell_of_row w1 w.heap.size 3 _ _ _ rr
  have f0 : w1.frozen? ⟨w.heap.size, 0, none⟩ = false := frozen_of_row w1 w.heap.size 0 _ _ rr
  have f1 : w1.frozen? ⟨w.heap.size, 1, none⟩ = false := frozen_of_row w1 w.heap.size 1 _ _ rr
  have f2 : w1.frozen? ⟨w.heap.size, 2, none⟩ = false := frozen_of_row w1 w.heap.size 2 _ _ rr
  have f3 : w1.frozen? ⟨w.heap.size, 3, none⟩ = false := frozen_of_row w1 w.heap.size 3 _ _ rr
  clear hb1 rr hw
  go_wp2_with fail
  refine bodyPost_ret (v := ackV n1 n2 n3 n4) (by simp [results, Tryz.results5, go_sem, k0, k1, k2, k3]) rfl ⟨_, _, _, _, rfl, HW.out, ?_⟩
  exact (((HB1.out.setCell (Nat.le_refl _) _).setCell (Nat.le_refl _) _).setCell (Nat.le_refl _) _).setCell (Nat.le_refl _) _
end Go.Proofs.YtjcdcaannajnpaaGreatDoor
