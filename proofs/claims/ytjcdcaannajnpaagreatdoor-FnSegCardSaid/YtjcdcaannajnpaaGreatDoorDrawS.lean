/- The draws of chapter 4: a piece, an answer. -/
import Derived.Test.YtjcdcaannajnpaaGreatDoorDrawT
import Derived.Test.YtjcdcaannajnpaaGreatDoorSegR
namespace Go.Proofs.YtjcdcaannajnpaaGreatDoor
open Go.RowKit

/-- Numbers of int64, and a small text. -/
def Wide (p s d : Int) (t : List UInt8) (e : Int) : Prop := (-9223372036854775808 ≤ p ∧ p ≤ 9223372036854775807) ∧ (-9223372036854775808 ≤ s ∧ s ≤ 9223372036854775807) ∧ (-9223372036854775808 ≤ d ∧ d ≤ 9223372036854775807) ∧ t.length ≤ 20 ∧ (-9223372036854775808 ≤ e ∧ e ≤ 9223372036854775807)
/-- A piece was drawn; an answer. -/
def DrawnSeg (a : Option Addr) (len cap : Nat) (z : List Int) (p : Nat) (w : World) (e : Ending) (w' : World) : Prop :=
  ∃ (n s d : Int) (t : List UInt8) (x : Int), e = .returned (segV n s d t x) ∧ Wide n s d t x ∧ Src a len cap z p w' ∧ w.grownBy w' (some p)
def DrawnAck (a : Option Addr) (len cap : Nat) (z : List Int) (p : Nat) (w : World) (e : Ending) (w' : World) : Prop :=
  ∃ (n s d x : Int), e = .returned (ackV n s d x) ∧ Wide n s d [] x ∧ Src a len cap z p w' ∧ w.grownBy w' (some p)
theorem new_there (w : World) (o : Obj) : (w.alloc o).heap[w.heap.size]? = some o := by
  show (w.heap.push o)[w.heap.size]? = _
  simp
theorem draw_other {w v : World} {p q : Nat} {o : Obj} (h : w.grownBy v (some p)) (ho : w.heap[q]? = some o) (hne : p ≠ q) : v.heap[q]? = some o :=
  (h.block q (Array.getElem?_eq_some_iff.1 ho).1 (by intro e; exact hne (Option.some.inj e).symm)).trans ho
theorem draw_alloc {w v : World} {p : Nat} {o : Obj} (h : (w.alloc o).grownBy v (some p)) : w.grownBy v (some p) := grown_trans (World.grownBy_alloc w o (some p)) h
theorem draw_far {w v : World} {p q off : Nat} {x : Value} (h : w.grownBy v (some p)) (hq : w.heap.size ≤ q) : w.grownBy (v.setCell ⟨q, off, none⟩ x) (some p) :=
  ⟨h.os, h.tape, h.output, by simpa [World.setCell] using h.size, fun i hi hne => (Below.heap_setCell v ⟨q, off, none⟩ x i (by show i ≠ q; omega)).trans (h.block i hi hne)⟩
theorem draw_below {w v v' : World} {p : Nat} (h : w.grownBy v (some p)) (hb : Below v.heap.size v v') : w.grownBy v' (some p) :=
  ⟨hb.os.trans h.os, hb.tape.trans h.tape, hb.output.trans h.output, Nat.le_trans h.size hb.size, fun i hi hne => (hb.block i (Nat.lt_of_lt_of_le hi h.size)).trans (h.block i hi hne)⟩
theorem src_set {a : Option Addr} {len cap : Nat} {z : List Int} {p q off : Nat} {w : World} {x : Value} (h : Src a len cap z p w) (hp : p ≠ q) (ha : ∀ y, a = some y → 0 < len → y.block ≠ q) : Src a len cap z p (w.setCell ⟨q, off, none⟩ x) := by
  obtain ⟨hrow, hne, k, mix, size, hb, rest⟩ := h
  refine ⟨⟨fun y hy i hi => ?_, hrow.fit, hrow.some, hrow.small⟩, hne, k, mix, size, (Below.heap_setCell w ⟨q, off, none⟩ x p hp).trans hb, rest⟩
  have hc := hrow.cell y hy i hi
  have hk : (y.add i).block ≠ q := by rw [add_block]; exact ha y hy (by omega)
  exact (World.cell?_of_block (Below.heap_setCell w ⟨q, off, none⟩ x _ hk)).trans hc
theorem src_below {a : Option Addr} {len cap : Nat} {z : List Int} {p : Nat} {w w' : World} (h : Src a len cap z p w) (hb : Below w.heap.size w w') : Src a len cap z p w' := by
  obtain ⟨hrow, hne, k, mix, size, hk, rest⟩ := h
  refine ⟨⟨fun y hy i hi => ?_, hrow.fit, hrow.some, hrow.small⟩, hne, k, mix, size, (hb.block p (Array.getElem?_eq_some_iff.1 hk).1).trans hk, rest⟩
  have hc := hrow.cell y hy i hi
  exact (hb.cell (World.block_lt_of_cell? w _ hc)).trans hc
theorem src_row_lt {a : Option Addr} {len cap : Nat} {z : List Int} {p : Nat} {w : World} (h : Src a len cap z p w) : ∀ y, a = some y → 0 < len → y.block < w.heap.size := row_below h.1

set_option maxHeartbeats 1000000 in
set_option maxRecDepth 100000 in
theorem ackOf_calls {a : Option Addr} {len cap : Nat} {z : List Int} {p : Nat} {w : World} (h : Src a len cap z p w) :
    Calls Tryz.prog 38 #[.pointer (some ⟨p, 0, none⟩)] w (DrawnAck a len cap z p w) := by
  have hpl := src_lt h
  have harow := src_row_lt h
  have H1 := Lib.hid (fun o => src_draw (src_alloc h o) (most := 2) (by omega))
  clear h
  go_enter Tryz.func38, Tryz.ntmps38
  go_wp2_with fail
  (with_reducible refine (H1.out _).mono ?_)
  rintro e w1 ⟨n1, rfl, n1a, n1b, s1, g1⟩
  have b1 := draw_other g1 (new_there _ _) (by omega)
  have HB1 := Lib.hid b1
  have HG1 := Lib.hid (draw_alloc g1)
  have H2 := Lib.hid (src_draw s1 (most := 6) (by omega))
  clear s1 g1 b1 H1
  go_wp2_with fail
  (with_reducible refine H2.out.mono ?_)
  rintro e w2 ⟨n2, rfl, n2a, n2b, s2, g2⟩
  have HB2 := Lib.hid (draw_other g2 HB1.out (by omega))
  have HG2 := Lib.hid (grown_trans HG1.out g2)
  have H3 := Lib.hid (src_draw s2 (most := 30) (by omega))
  clear s2 g2 H2 HB1 HG1
  go_wp2_with fail
  (with_reducible refine H3.out.mono ?_)
  rintro e w3 ⟨n3, rfl, n3a, n3b, s3, g3⟩
  have HB3 := Lib.hid (draw_other g3 HB2.out (by omega))
  have HG3 := Lib.hid (grown_trans HG2.out g3)
  have H4 := Lib.hid (src_draw s3 (most := 60) (by omega))
  clear s3 g3 H3 HB2 HG2
  go_wp2_with fail
  (with_reducible refine H4.out.mono ?_)
  rintro e w4 ⟨n4, rfl, n4a, n4b, s4, g4⟩
  have b4 := draw_other g4 HB3.out (by omega)
  have HG4 := Lib.hid (grown_trans HG3.out g4)
  have HS4 := Lib.hid s4
  clear s4 g4 H4 HB3 HG3
  generalize hq : w.heap.size = q at *
  have k0 : w4.cell? ⟨q, 0, none⟩ = some (.int .i64 0) := cell_of_row w4 q 0 _ _ _ b4
  have k1 : w4.cell? ⟨q, 1, none⟩ = some (.int .i64 0) := cell_of_row w4 q 1 _ _ _ b4
  have k2 : w4.cell? ⟨q, 2, none⟩ = some (.int .i64 0) := cell_of_row w4 q 2 _ _ _ b4
  have k3 : w4.cell? ⟨q, 3, none⟩ = some (.int .i64 0) := cell_of_row w4 q 3 _ _ _ b4
  have f0 : w4.frozen? ⟨q, 0, none⟩ = false := frozen_of_row w4 q 0 _ _ b4
  have f1 : w4.frozen? ⟨q, 1, none⟩ = false := frozen_of_row w4 q 1 _ _ b4
  have f2 : w4.frozen? ⟨q, 2, none⟩ = false := frozen_of_row w4 q 2 _ _ b4
  have f3 : w4.frozen? ⟨q, 3, none⟩ = false := frozen_of_row w4 q 3 _ _ b4
  have HQ := Lib.hid hq
  have HA := Lib.hid harow
  clear b4 hq harow
  go_wp2_with fail
  refine bodyPost_ret (v := ackV n1 n2 n3 n4) (by simp [results, Tryz.results38, go_sem, k0, k1, k2, k3]) rfl ⟨n1, n2, n3, n4, rfl, ?_, ?_, ?_⟩
  · unfold Wide; simp; omega
  · have ha : ∀ y, a = some y → 0 < len → y.block ≠ q := fun y hy hl => by have := HA.out y hy hl; omega
    exact src_set (src_set (src_set (src_set HS4.out (by omega) ha) (by omega) ha) (by omega) ha) (by omega) ha
  · have hqw := HQ.out
    exact draw_far (draw_far (draw_far (draw_far HG4.out (by omega)) (by omega)) (by omega)) (by omega)

set_option maxHeartbeats 2000000 in
set_option maxRecDepth 100000 in
theorem segOfD_calls {a : Option Addr} {len cap : Nat} {z : List Int} {p : Nat} {w : World} (h : Src a len cap z p w) :
    Calls Tryz.prog 33 #[.pointer (some ⟨p, 0, none⟩)] w (DrawnSeg a len cap z p w) := by
  have hpl := src_lt h
  have harow := src_row_lt h
  have H1 := Lib.hid (fun o => src_draw (src_alloc h o) (most := 2) (by omega))
  clear h
  go_enter Tryz.func33, Tryz.ntmps33
  go_wp2_with fail
  (with_reducible refine (H1.out _).mono ?_)
  rintro e w1 ⟨n1, rfl, n1a, n1b, s1, g1⟩
  have b1 := draw_other g1 (new_there _ _) (by omega)
  have HB1 := Lib.hid b1
  have HG1 := Lib.hid (draw_alloc g1)
  have H2 := Lib.hid (src_draw s1 (most := 6) (by omega))
  clear s1 g1 b1 H1
  generalize hr : w.heap.size = r at *
  have HQ := Lib.hid hr
  have HA := Lib.hid harow
  clear hr harow
  go_wp2_with fail
  (with_reducible refine H2.out.mono ?_)
  rintro e w2 ⟨n2, rfl, n2a, n2b, s2, g2⟩
  have HB2 := Lib.hid (draw_other g2 HB1.out (by omega))
  have HG2 := Lib.hid (grown_trans HG1.out g2)
  have H3 := Lib.hid (src_draw s2 (most := 30) (by omega))
  clear s2 g2 H2 HB1 HG1
  go_wp2_with fail
  (with_reducible refine H3.out.mono ?_)
  rintro e w3 ⟨n3, rfl, n3a, n3b, s3, g3⟩
  have HB3 := Lib.hid (draw_other g3 HB2.out (by omega))
  have HG3 := Lib.hid (grown_trans HG2.out g3)
  have H4 := Lib.hid (src_draw s3 (most := 6) (by omega))
  clear s3 g3 H3 HB2 HG2
  go_wp2_with fail
  (with_reducible refine H4.out.mono ?_)
  rintro e w4 ⟨n4, rfl, n4a, n4b, s4, g4⟩
  have HB4 := Lib.hid (draw_other g4 HB3.out (by omega))
  have HG4 := Lib.hid (grown_trans HG3.out g4)
  obtain ⟨m, rfl⟩ := Int.eq_ofNat_of_zero_le n4a
  have hm : m ≤ 5 := by omega
  have H5 := Lib.hid (src_bytes s4 m (by omega))
  clear s4 g4 H4 HB3 HG3 n4a n4b
  go_wp2_with fail
  (with_reducible refine H5.out.mono ?_)
  rintro e w5 ⟨t, rfl, htl, s5, g5⟩
  have HB5 := Lib.hid (draw_other g5 HB4.out (by omega))
  have HG5 := Lib.hid (grown_trans HG4.out g5)
  have hp5 := src_lt s5
  have hr5 : r < w5.heap.size := (Array.getElem?_eq_some_iff.1 HB5.out).1
  have H6 := Lib.hid (fun o => src_one (src_alloc s5 o) (most := 4) (by omega))
  clear s5 g5 H5 HB4 HG4
  go_wp2_with fail
  (with_reducible refine (H6.out _).mono ?_)
  rintro e w6 ⟨bb, rfl, s6, g6⟩
  have q6 := draw_other g6 (new_there _ _) (by omega)
  have HB6 := Lib.hid (draw_other (draw_alloc g6) HB5.out (by omega))
  have HG6 := Lib.hid (grown_trans HG5.out (draw_alloc g6))
  generalize w5.heap.size = q at *
  have hpq : p ≠ q := by omega
  have hrq : r ≠ q := by omega
  have HQ6 := Lib.hid q6
  clear q6 H6 HB5 HG5
  cases bb with
  | true =>
    have H7 := Lib.hid (src_draw s6 (most := 40) (by omega))
    clear s6 g6
    go_wp2_with fail
    (with_reducible refine H7.out.mono ?_)
    rintro e w7 ⟨n7, rfl, n7a, n7b, s7, g7⟩
    have q7 := draw_other g7 HQ6.out hpq
    have rr := draw_other g7 HB6.out (by omega)
    have HG7 := Lib.hid (grown_trans HG6.out g7)
    have HS7 := Lib.hid s7
    have m0 : w7.cell? ⟨q, 0, none⟩ = some (.int .i64 n1) := cell_of_row w7 q 0 _ _ _ q7
    have m1 : w7.cell? ⟨q, 1, none⟩ = some (.int .i64 n2) := cell_of_row w7 q 1 _ _ _ q7
    have m2 : w7.cell? ⟨q, 2, none⟩ = some (.int .i64 n3) := cell_of_row w7 q 2 _ _ _ q7
    have m3 : w7.cell? ⟨q, 3, none⟩ = some (gs t) := cell_of_row w7 q 3 _ _ _ q7
    have m4 : w7.cell? ⟨q, 4, none⟩ = some (.int .i64 (-1)) := cell_of_row w7 q 4 _ _ _ q7
    have g4 := frozen_of_row w7 q 4 _ _ q7
    have k0 : w7.cell? ⟨r, 0, none⟩ = some (.int .i64 0) := cell_of_row w7 r 0 _ _ _ rr
    have k1 : w7.cell? ⟨r, 1, none⟩ = some (.int .i64 0) := cell_of_row w7 r 1 _ _ _ rr
    have k2 : w7.cell? ⟨r, 2, none⟩ = some (.int .i64 0) := cell_of_row w7 r 2 _ _ _ rr
    have k3 : w7.cell? ⟨r, 3, none⟩ = some (gs []) := cell_of_row w7 r 3 _ _ _ rr
    have k4 : w7.cell? ⟨r, 4, none⟩ = some (.int .i64 0) := cell_of_row w7 r 4 _ _ _ rr
    have f0 : w7.frozen? ⟨r, 0, none⟩ = false := frozen_of_row w7 r 0 _ _ rr
    have f1 : w7.frozen? ⟨r, 1, none⟩ = false := frozen_of_row w7 r 1 _ _ rr
    have f2 : w7.frozen? ⟨r, 2, none⟩ = false := frozen_of_row w7 r 2 _ _ rr
    have f3 : w7.frozen? ⟨r, 3, none⟩ = false := frozen_of_row w7 r 3 _ _ rr
    have f4 : w7.frozen? ⟨r, 4, none⟩ = false := frozen_of_row w7 r 4 _ _ rr
    clear q7 rr s7 g7 HB6 HQ6 HG6 H7
    go_wp2_with fail
    refine bodyPost_ret (v := segV n1 n2 n3 t n7) (by simp [results, Tryz.results33, go_sem, k0, k1, k2, k3, k4]) rfl ⟨n1, n2, n3, t, n7, rfl, ?_, ?_, ?_⟩
    · unfold Wide; omega
    · have hqw := HQ.out
      have ha : ∀ y, a = some y → 0 < len → y.block ≠ r := fun y hy hl => by have := HA.out y hy hl; omega
      have ha2 : ∀ y, a = some y → 0 < len → y.block ≠ q := fun y hy hl => by have := HA.out y hy hl; omega
      exact src_set (src_set (src_set (src_set (src_set (src_set HS7.out hpq ha2) (by omega) ha) (by omega) ha) (by omega) ha) (by omega) ha) (by omega) ha
    · have hqw := HQ.out
      exact draw_far (draw_far (draw_far (draw_far (draw_far (draw_far HG7.out (by omega)) (by omega)) (by omega)) (by omega)) (by omega)) (by omega)
  | false =>
    have q7 := HQ6.out
    have rr := HB6.out
    have HS7 := Lib.hid s6
    have m0 : w6.cell? ⟨q, 0, none⟩ = some (.int .i64 n1) := cell_of_row w6 q 0 _ _ _ q7
    have m1 : w6.cell? ⟨q, 1, none⟩ = some (.int .i64 n2) := cell_of_row w6 q 1 _ _ _ q7
    have m2 : w6.cell? ⟨q, 2, none⟩ = some (.int .i64 n3) := cell_of_row w6 q 2 _ _ _ q7
    have m3 : w6.cell? ⟨q, 3, none⟩ = some (gs t) := cell_of_row w6 q 3 _ _ _ q7
    have m4 : w6.cell? ⟨q, 4, none⟩ = some (.int .i64 (-1)) := cell_of_row w6 q 4 _ _ _ q7
    have k0 : w6.cell? ⟨r, 0, none⟩ = some (.int .i64 0) := cell_of_row w6 r 0 _ _ _ rr
    have k1 : w6.cell? ⟨r, 1, none⟩ = some (.int .i64 0) := cell_of_row w6 r 1 _ _ _ rr
    have k2 : w6.cell? ⟨r, 2, none⟩ = some (.int .i64 0) := cell_of_row w6 r 2 _ _ _ rr
    have k3 : w6.cell? ⟨r, 3, none⟩ = some (gs []) := cell_of_row w6 r 3 _ _ _ rr
    have k4 : w6.cell? ⟨r, 4, none⟩ = some (.int .i64 0) := cell_of_row w6 r 4 _ _ _ rr
    have f0 : w6.frozen? ⟨r, 0, none⟩ = false := frozen_of_row w6 r 0 _ _ rr
    have f1 : w6.frozen? ⟨r, 1, none⟩ = false := frozen_of_row w6 r 1 _ _ rr
    have f2 : w6.frozen? ⟨r, 2, none⟩ = false := frozen_of_row w6 r 2 _ _ rr
    have f3 : w6.frozen? ⟨r, 3, none⟩ = false := frozen_of_row w6 r 3 _ _ rr
    have f4 : w6.frozen? ⟨r, 4, none⟩ = false := frozen_of_row w6 r 4 _ _ rr
    clear q7 rr s6 g6 HB6 HQ6
    go_wp2_with fail
    refine bodyPost_ret (v := segV n1 n2 n3 t (-1)) (by simp [results, Tryz.results33, go_sem, k0, k1, k2, k3, k4]) rfl ⟨n1, n2, n3, t, -1, rfl, ?_, ?_, ?_⟩
    · unfold Wide; omega
    · have hqw := HQ.out
      have ha : ∀ y, a = some y → 0 < len → y.block ≠ r := fun y hy hl => by have := HA.out y hy hl; omega
      exact src_set (src_set (src_set (src_set (src_set HS7.out (by omega) ha) (by omega) ha) (by omega) ha) (by omega) ha) (by omega) ha
    · have hqw := HQ.out
      exact draw_far (draw_far (draw_far (draw_far (draw_far HG6.out (by omega)) (by omega)) (by omega)) (by omega)) (by omega)
end Go.Proofs.YtjcdcaannajnpaaGreatDoor
