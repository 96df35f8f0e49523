/- The program's reader: itemsIn, item by item. -/
import Derived.Test.YtjcdcaannajnpaaGreatDoorSteps
import Derived.Test.YtjcdcaannajnpaaGreatDoorGetTI
import Derived.Test.YtjcdcaannajnpaaGreatDoorSegRS
import Derived.Deep.QuietTactic
import Derived.BigQuiet
namespace Go.Proofs.YtjcdcaannajnpaaGreatDoor
open Go.RowKit

/-- The error that a reader holds: none, or a fault. -/
def errV (c : Nat) : Value := if c = 0 then .nilIface else faultV c
theorem errV_zero : errV 0 = .nilIface := by unfold errV; rw [if_pos rfl]
theorem errV_ne {c : Nat} (h : c ≠ 0) : errV c = faultV c := by unfold errV; rw [if_neg h]

/-- A block of known cells, a cell of it written. -/
theorem blk_set {w : World} {p off : Nat} {C : Array Value} {T : TypeId} (h : w.heap[p]? = some (.cells C T (0, 0))) (x : Value) : (w.setCell ⟨p, off, none⟩ x).heap[p]? = some (.cells (C.setIfInBounds off x) T (0, 0)) := by
  simp only [World.setCell, Array.getElem?_modify, h]
  simp
theorem grew_set {w v : World} {p : Nat} {off : Nat} {x : Value} (h : w.grownBy v (some p)) : w.grownBy (v.setCell ⟨p, off, none⟩ x) (some p) :=
  ⟨h.os, h.tape, h.output, by simpa [World.setCell] using h.size, fun i hi hne => (Below.heap_setCell v ⟨p, off, none⟩ x i (by rintro rfl; exact hne rfl)).trans (h.block i hi hne)⟩
theorem grew_drewN {w v : World} {r : Option Nat} (h : w.grownBy v r) (n : Nat) : w.grownBy (v.drewN n) r := ⟨h.os, h.tape, h.output, h.size, h.block⟩
theorem grew_trans {a b c : World} {p : Nat} (h : a.grownBy b (some p)) (k : b.grownBy c (some p)) : a.grownBy c (some p) :=
  ⟨k.os.trans h.os, k.tape.trans h.tape, k.output.trans h.output, Nat.le_trans h.size k.size, fun i hi hne => (k.block i (Nat.lt_of_lt_of_le hi h.size) hne).trans (h.block i hi hne)⟩
theorem grew_below {a b : World} {p : Nat} (h : Below a.heap.size a b) : a.grownBy b (some p) := ⟨h.os, h.tape, h.output, h.size, fun i hi _ => h.block i hi⟩

/-- Block p holds a reader. -/
def Items (p : Nat) (t : List UInt8) (a : Int) (c : Nat) (w : World) : Prop := w.heap[p]? = some (.cells #[gs t, .int .i64 a, errV c] 90 (0, 0))
theorem Items.below {p : Nat} {t : List UInt8} {a : Int} {c : Nat} {w w' : World} (h : Items p t a c w) (hb : Below w.heap.size w w') : Items p t a c w' :=
  (hb.block p (Array.getElem?_eq_some_iff.1 h).1).trans h
theorem Items.lt {p : Nat} {t : List UInt8} {a : Int} {c : Nat} {w : World} (h : Items p t a c w) : p < w.heap.size := (Array.getElem?_eq_some_iff.1 h).1

theorem kept_drewN {B : Nat} {a w : World} (h : Below B a w) (n : Nat) : Below B a (w.drewN n) := ⟨h.os, h.tape, h.output, h.size, h.block⟩

def NumGot (p : Nat) (t : List UInt8) (a : Int) (c : Nat) (w : World) (e : Ending) (w' : World) : Prop :=
  ∃ (n a' : Int) (c' : Nat), e = .returned (.int .i64 n) ∧ (-9223372036854775808 ≤ a' ∧ a' ≤ 9223372036854775807) ∧ Step t a c n a' c' ∧ Items p t a' c' w' ∧ w.grownBy w' (some p)
def TextGot (p : Nat) (t : List UInt8) (a : Int) (c : Nat) (w : World) (e : Ending) (w' : World) : Prop :=
  ∃ (x : List UInt8) (a' : Int) (c' : Nat), e = .returned (gs x) ∧ x.length ≤ t.length ∧ (-9223372036854775808 ≤ a' ∧ a' ≤ 9223372036854775807) ∧ StepT t a c x a' c' ∧ Items p t a' c' w' ∧ w.grownBy w' (some p)

theorem move_bad {p : Nat} {t : List UInt8} {a : Int} {w : World} (h : Items p t a 0 w) (b : Int) (c : Int) :
    Calls Tryz.prog 66 #[.pointer (some ⟨p, 0, none⟩), .int .i64 b, faultV c] w fun e w' => e = .returned (.tuple #[]) ∧ Items p t b 3 w' ∧ w.grownBy w' (some p) := by
  have h' : w.heap[p]? = some (.cells #[gs t, .int .i64 a, errV 0] 90 (0, 0)) := h
  have c1 : w.cell? ⟨p, 1, none⟩ = some (.int .i64 a) := cell_of_row w p 1 _ _ _ h'
  have c2 : w.cell? ⟨p, 2, none⟩ = some (errV 0) := cell_of_row w p 2 _ _ _ h'
  have f1 : w.frozen? ⟨p, 1, none⟩ = false := frozen_of_row w p 1 _ _ h'
  have f2 : w.frozen? ⟨p, 2, none⟩ = false := frozen_of_row w p 2 _ _ h'
  have H := Lib.hid h'
  clear h h'
  generalize errV 0 = z at *
  go_enter Tryz.func66, Tryz.ntmps66
  go_wp2_with fail
  go_end0
  refine ⟨rfl, ?_, grew_set (grew_set (World.grownBy.refl _ _))⟩
  show _ = _
  rw [blk_set (blk_set H.out _) _]
  rfl
theorem move_ok {p : Nat} {t : List UInt8} {a : Int} {w : World} (h : Items p t a 0 w) (b : Int) :
    Calls Tryz.prog 66 #[.pointer (some ⟨p, 0, none⟩), .int .i64 b, .nilIface] w fun e w' => e = .returned (.tuple #[]) ∧ Items p t b 0 w' ∧ w.grownBy w' (some p) := by
  have h' : w.heap[p]? = some (.cells #[gs t, .int .i64 a, errV 0] 90 (0, 0)) := h
  have c1 : w.cell? ⟨p, 1, none⟩ = some (.int .i64 a) := cell_of_row w p 1 _ _ _ h'
  have f1 : w.frozen? ⟨p, 1, none⟩ = false := frozen_of_row w p 1 _ _ h'
  have H := Lib.hid h'
  clear h h'
  go_enter Tryz.func66, Tryz.ntmps66
  go_wp2_with fail
  go_end0
  refine ⟨rfl, ?_, grew_set (World.grownBy.refl _ _)⟩
  show _ = _
  rw [blk_set H.out _]
  rfl

theorem getN_out (t : List UInt8) (a : Int) : -9223372036854775808 ≤ (getN t a).2.1 ∧ (getN t a).2.1 ≤ 9223372036854775807 := by
  rcases getN_cases t a with ⟨c, _, h⟩ | ⟨n, b, h⟩
  · rw [h]; exact ⟨by dsimp only; omega, by dsimp only; omega⟩
  · have := getN_fit h; rw [h]; dsimp only; omega

set_option maxHeartbeats 1000000 in
set_option maxRecDepth 100000 in
theorem num_calls {p : Nat} {t : List UInt8} {a : Int} {c : Nat} {w : World} (h : Items p t a c w) (hl : t.length ≤ 9223372036854775807) (ha : -9223372036854775808 ≤ a ∧ a ≤ 9223372036854775807) :
    Calls Tryz.prog 42 #[.pointer (some ⟨p, 0, none⟩)] w (NumGot p t a c w) := by
  have h' : w.heap[p]? = some (.cells #[gs t, .int .i64 a, errV c] 90 (0, 0)) := h
  have c0 : w.cell? ⟨p, 0, none⟩ = some (gs t) := cell_of_row w p 0 _ _ _ h'
  have c1 : w.cell? ⟨p, 1, none⟩ = some (.int .i64 a) := cell_of_row w p 1 _ _ _ h'
  have c2 : w.cell? ⟨p, 2, none⟩ = some (errV c) := cell_of_row w p 2 _ _ _ h'
  by_cases hc : c = 0
  · subst hc
    rw [errV_zero] at c2
    have HI := Lib.hid h
    clear h h'
    rcases hn : getN t a with ⟨n, b, k⟩
    have hr : ∀ W, Calls Tryz.prog 67 #[gs t, .int .i64 a] W fun e w' => e = .returned (readOut (n, b, k)) ∧ w' = W := fun W => (read_calls t a W hl ha.1 ha.2).mono (fun e w' hh => ⟨by rw [← hn]; exact hh.1, hh.2.symm⟩)
    have hout := getN_out t a
    rw [hn] at hout
    have HO := Lib.hid hout
    by_cases hk : k = 0
    · subst hk
      have hst : Step t a 0 n b 0 := .inl ⟨rfl, rfl, hn⟩
      have HST := Lib.hid hst
      clear hst
      unfold readOut at hr
      rw [if_pos rfl] at hr
      have HR := Lib.hid hr
      have HA := Lib.hid ha
      clear hr hn hout ha
      go_enter Tryz.func42, Tryz.ntmps42
      go_wp2_with fail
      go_quiet ((go_at_call 67; exact Calls.quiet_of_same (HR.out _)))
      go_wp2_with fail
      (with_reducible refine (move_ok (HI.out.below (kept_drewN (Below.refl _ _) nq)) b).mono ?_)
      rintro e w1 ⟨rfl, hi1, hg1⟩
      have HE := Lib.hid (And.intro hi1 hg1)
      clear hi1 hg1
      go_wp2_with fail
      go_ret
      exact ⟨n, b, 0, rfl, HO.out, HST.out, HE.out.1, ⟨HE.out.2.os, HE.out.2.tape, HE.out.2.output, HE.out.2.size, HE.out.2.block⟩⟩
    · have hst : Step t a 0 n b 3 := .inr ⟨by decide, .inr ⟨rfl, rfl, by rw [hn]; exact hk⟩⟩
      have HST := Lib.hid hst
      clear hst
      unfold readOut at hr
      rw [if_neg hk] at hr
      have HR := Lib.hid hr
      have HA := Lib.hid ha
      clear hr hn hout ha
      go_enter Tryz.func42, Tryz.ntmps42
      go_wp2_with fail
      go_quiet ((go_at_call 67; exact Calls.quiet_of_same (HR.out _)))
      go_wp2_with fail
      (with_reducible refine (move_bad (HI.out.below (kept_drewN (Below.refl _ _) nq)) b k).mono ?_)
      rintro e w1 ⟨rfl, hi1, hg1⟩
      have HE := Lib.hid (And.intro hi1 hg1)
      clear hi1 hg1
      go_wp2_with fail
      go_ret
      exact ⟨n, b, 3, rfl, HO.out, HST.out, HE.out.1, ⟨HE.out.2.os, HE.out.2.tape, HE.out.2.output, HE.out.2.size, HE.out.2.block⟩⟩
  · rw [errV_ne hc] at c2
    have hst : Step t a c 0 a c := .inr ⟨hc, .inl ⟨hc, rfl⟩⟩
    have HST := Lib.hid hst
    clear hst
    have HI := Lib.hid h
    have HA := Lib.hid ha
    clear h h' hc ha
    go_enter Tryz.func42, Tryz.ntmps42
    go_wp2_with fail
    go_ret
    exact ⟨0, a, c, rfl, HA.out, HST.out, HI.out, World.grownBy.refl _ _⟩
theorem getT_len (t : List UInt8) (a : Int) : (getT t a).1.length ≤ t.length := by
  unfold getT
  split
  · simp
  · split
    · simp
    · split
      · simp
      · simp; omega
theorem getT_out (t : List UInt8) (a : Int) : -9223372036854775808 ≤ (getT t a).2.1 ∧ (getT t a).2.1 ≤ 9223372036854775807 := by
  rcases getN_cases t a with ⟨c, hc, h⟩ | ⟨n, b, h⟩
  · rw [getT_bad h hc]; exact ⟨by dsimp only; omega, by dsimp only; omega⟩
  · obtain ⟨h1, h2, h3⟩ := getN_fit h
    by_cases g0 : n < 0
    · rw [getT_form h (.inl g0)]; exact ⟨by dsimp only; omega, by dsimp only; omega⟩
    · by_cases g1 : 8000 < n
      · rw [getT_form h (.inr g1)]; exact ⟨by dsimp only; omega, by dsimp only; omega⟩
      · by_cases g2 : (t.length : Int) < b + n
        · rw [getT_short h g0 g1 g2]; exact ⟨by dsimp only; omega, by dsimp only; omega⟩
        · rw [getT_ok h g0 g1 g2]; exact ⟨by dsimp only; omega, by dsimp only; omega⟩

set_option maxHeartbeats 1000000 in
set_option maxRecDepth 100000 in
theorem text_calls {p : Nat} {t : List UInt8} {a : Int} {c : Nat} {w : World} (h : Items p t a c w) (hl : t.length ≤ 9223372036854775807) (ha : -9223372036854775808 ≤ a ∧ a ≤ 9223372036854775807) :
    Calls Tryz.prog 41 #[.pointer (some ⟨p, 0, none⟩)] w (TextGot p t a c w) := by
  have h' : w.heap[p]? = some (.cells #[gs t, .int .i64 a, errV c] 90 (0, 0)) := h
  have c0 : w.cell? ⟨p, 0, none⟩ = some (gs t) := cell_of_row w p 0 _ _ _ h'
  have c1 : w.cell? ⟨p, 1, none⟩ = some (.int .i64 a) := cell_of_row w p 1 _ _ _ h'
  have c2 : w.cell? ⟨p, 2, none⟩ = some (errV c) := cell_of_row w p 2 _ _ _ h'
  by_cases hc : c = 0
  · subst hc
    rw [errV_zero] at c2
    have HI := Lib.hid h
    clear h h'
    rcases hn : getT t a with ⟨n, b, k⟩
    have hr : ∀ W, Calls Tryz.prog 65 #[gs t, .int .i64 a] W fun e w' => e = .returned (readTOut (n, b, k)) ∧ w' = W := fun W => (readT_calls t a W hl ha.1 ha.2).mono (fun e w' hh => ⟨by rw [← hn]; exact hh.1, hh.2.symm⟩)
    have hout := getT_out t a
    have hxl := getT_len t a
    rw [hn] at hout hxl
    have HX := Lib.hid hxl
    have HO := Lib.hid hout
    by_cases hk : k = 0
    · subst hk
      have hst : StepT t a 0 n b 0 := .inl ⟨rfl, rfl, hn⟩
      have HST := Lib.hid hst
      clear hst
      unfold readTOut at hr
      rw [if_pos rfl] at hr
      have HR := Lib.hid hr
      have HA := Lib.hid ha
      clear hr hn hout ha hxl
      go_enter Tryz.func41, Tryz.ntmps41
      go_wp2_with fail
      go_quiet ((go_at_call 65; exact Calls.quiet_of_same (HR.out _)))
      go_wp2_with fail
      (with_reducible refine (move_ok (HI.out.below (kept_drewN (Below.refl _ _) nq)) b).mono ?_)
      rintro e w1 ⟨rfl, hi1, hg1⟩
      have HE := Lib.hid (And.intro hi1 hg1)
      clear hi1 hg1
      go_wp2_with fail
      go_ret
      exact ⟨n, b, 0, rfl, HX.out, HO.out, HST.out, HE.out.1, ⟨HE.out.2.os, HE.out.2.tape, HE.out.2.output, HE.out.2.size, HE.out.2.block⟩⟩
    · have hst : StepT t a 0 n b 3 := .inr ⟨by decide, .inr ⟨rfl, rfl, by rw [hn]; exact hk⟩⟩
      have HST := Lib.hid hst
      clear hst
      unfold readTOut at hr
      rw [if_neg hk] at hr
      have HR := Lib.hid hr
      have HA := Lib.hid ha
      clear hr hn hout ha hxl
      go_enter Tryz.func41, Tryz.ntmps41
      go_wp2_with fail
      go_quiet ((go_at_call 65; exact Calls.quiet_of_same (HR.out _)))
      go_wp2_with fail
      (with_reducible refine (move_bad (HI.out.below (kept_drewN (Below.refl _ _) nq)) b k).mono ?_)
      rintro e w1 ⟨rfl, hi1, hg1⟩
      have HE := Lib.hid (And.intro hi1 hg1)
      clear hi1 hg1
      go_wp2_with fail
      go_ret
      exact ⟨n, b, 3, rfl, HX.out, HO.out, HST.out, HE.out.1, ⟨HE.out.2.os, HE.out.2.tape, HE.out.2.output, HE.out.2.size, HE.out.2.block⟩⟩
  · rw [errV_ne hc] at c2
    have hst : StepT t a c [] a c := .inr ⟨hc, .inl ⟨hc, rfl⟩⟩
    have HST := Lib.hid hst
    clear hst
    have HI := Lib.hid h
    have HA := Lib.hid ha
    clear h h' hc ha
    go_enter Tryz.func41, Tryz.ntmps41
    go_wp2_with fail
    go_ret
    exact ⟨[], a, c, rfl, by simp, HA.out, HST.out, HI.out, World.grownBy.refl _ _⟩
end Go.Proofs.YtjcdcaannajnpaaGreatDoor
