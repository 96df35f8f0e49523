/- A list of pieces in memory; which lists are right; the model's PiecesRight. -/
import Derived.Test.YtdcahilfmhkmiaaGreatDoorPackA
import Derived.Test.YtdcahilfmhkmiaaGreatDoorProg
import Derived.StillTailTactics
import Derived.Deep.RegionHeld3
import Derived.Deep.QuietTactic
import Derived.BigQuiet
namespace Go.Proofs.YtdcahilfmhkmiaaGreatDoor
open Go.RowKit

/-- A piece: where it begins, its bytes. -/
abbrev Pc := Int × List UInt8
abbrev pcv (p : Pc) : Value := .agg #[.int .i64 p.1, gs p.2]
/-- The piece at a place of the list. -/
def pcAt (l : List Pc) (i : Nat) : Pc := l.getD i (0, [])
def pcEnd (p : Pc) : Int := p.1 + p.2.length

/-- The pieces l, in memory behind a. -/
structure InPcs (w : World) (a : Option Addr) (len : Nat) (l : List Pc) : Prop where
  long : l.length = len
  most : len ≤ 2000000
  there : 0 < len → ∃ b o, a = some ⟨b, o, none⟩
  cell : ∀ b o, a = some ⟨b, o, none⟩ → ∀ i, i < len → w.cell? ⟨b, o + i * 2, none⟩ = some (.int .i64 (pcAt l i).1) ∧ w.cell? ⟨b, o + i * 2 + 1, none⟩ = some (gs (pcAt l i).2)
  fit : ∀ i, i < len → -9223372036854775808 ≤ (pcAt l i).1 ∧ (pcAt l i).1 ≤ 9223372036854775807 ∧ (pcAt l i).2.length ≤ 2000000

/-- The piece at i keeps the rule. -/
def okP (l : List Pc) (i : Nat) : Prop := (pcAt l i).2 ≠ [] ∧ 0 ≤ (pcAt l i).1 ∧ (pcAt l i).1 ≤ 1000000 ∧ (0 < i → pcEnd (pcAt l (i - 1)) < (pcAt l i).1)
def okUp (l : List Pc) (k : Nat) : Prop := ∀ i, i < k → okP l i
def right (l : List Pc) : Prop := l.length ≤ 40 ∧ okUp l l.length
instance (l : List Pc) : Decidable (right l) := by unfold right okUp okP; infer_instance
theorem okUp_zero (l : List Pc) : okUp l 0 := fun i h => by omega
theorem okUp_succ {l : List Pc} {k : Nat} (h : okUp l k) (hk : okP l k) : okUp l (k + 1) := fun i hi => by
  by_cases e : i = k
  · subst e; exact hk
  · exact h i (by omega)
theorem not_right {l : List Pc} {k : Nat} (hk : k < l.length) (h : ¬ okP l k) : ¬ right l := fun hr => h (hr.2 k hk)

theorem endS_calls (p : Pc) (w : World) : Calls Tryz.prog 142 #[pcv p] w fun e w' => e = .returned (.int .i64 (wrap64 (pcEnd p))) ∧ Below w.heap.size w w' := by
  obtain ⟨a, t⟩ := p
  go_enter Tryz.func142, Tryz.ntmps142
  go_wp2
  go_ret
  exact ⟨rfl, (Below.refl _ _).alloc (Nat.le_refl _) _⟩
theorem timeS_calls (n : Int) (w : World) : Calls Tryz.prog 84 #[.int .i64 n] w fun e w' => e = .returned (.bool (decide (0 ≤ n ∧ n ≤ 1000000))) ∧ w' = w := by
  go_enter Tryz.func84, Tryz.ntmps84
  go_wp2
  all_goals go_ret
  all_goals refine ⟨ret_bool ?_, rfl⟩
  all_goals simp <;> omega

theorem InPcs.below {w w' : World} {a : Option Addr} {len : Nat} {l : List Pc} (h : InPcs w a len l) (hb : Below w.heap.size w w') : InPcs w' a len l :=
  ⟨h.long, h.most, h.there, fun b o ha i hi => by
    obtain ⟨c0, c1⟩ := h.cell b o ha i hi
    exact ⟨(hb.cell (World.block_lt_of_cell? w _ c0)).trans c0, (hb.cell (World.block_lt_of_cell? w _ c1)).trans c1⟩, h.fit⟩

/-- Four cells that a region reads, behind a call that makes memory. -/
theorem keep4 {a w w' : World} {p q r s : Addr} {x y z u : Value} (hb : Below w.heap.size w w') (h : Below a.heap.size a w ∧ w.cell? p = some x ∧ w.cell? q = some y ∧ w.cell? r = some z ∧ w.cell? s = some u) :
    Below a.heap.size a w' ∧ w'.cell? p = some x ∧ w'.cell? q = some y ∧ w'.cell? r = some z ∧ w'.cell? s = some u :=
  have c {p : Addr} {x : Value} (h : w.cell? p = some x) : w'.cell? p = some x := (hb.cell (World.block_lt_of_cell? w _ h)).trans h
  ⟨h.1.trans (hb.mono h.1.size), c h.2.1, c h.2.2.1, c h.2.2.2.1, c h.2.2.2.2⟩
theorem below_drewN {B : Nat} {a w : World} (h : Below B a w) (n : Nat) : Below B a (w.drewN n) := ⟨h.os, h.tape, h.output, h.size, h.block⟩
set_option maxHeartbeats 1000000 in
set_option maxRecDepth 100000 in
theorem rightS_calls {a : Option Addr} {len cap : Nat} {l : List Pc} {w : World} (h : InPcs w a len l) :
    Calls Tryz.prog 85 #[.slice a len cap] w fun e w' => e = .returned (.bool (decide (right l))) ∧ Below w.heap.size w w' := by
  have hm := h.most
  have hlen := h.long
  go_enter Tryz.func85, Tryz.ntmps85
  go_wp2_with fail
  go_loopw [3] (fun i wr => ∃ k : Nat, i = .int .i64 (k : Int) ∧ k ≤ len ∧ k ≤ 41 ∧ okUp l k ∧ Below w.heap.size w wr) (fun i wr => len - (intOf i).toNat)
  case atStart => exact ⟨0, rfl, Nat.zero_le _, by omega, okUp_zero l, Below.refl _ _⟩
  case round =>
    obtain ⟨k, rfl, hk, hk41, hok, hbl⟩ := hrel
    by_cases hkl : k < len
    · by_cases hk40 : k ≤ 40
      · have hh := h.below hbl
        obtain ⟨b, o, rfl⟩ := hh.there (by omega)
        obtain ⟨c0, c1⟩ := hh.cell b o rfl k hkl
        obtain ⟨f0, f1, f2⟩ := hh.fit k hkl
        have hst : okP l k → okUp l (k + 1) := okUp_succ hok
        have hno : ¬ okP l k → ¬ right l := not_right (by omega)
        have hpr : 0 < k → 0 ≤ (pcAt l (k - 1)).1 ∧ (pcAt l (k - 1)).1 ≤ 1000000 := fun h => ⟨(hok (k - 1) (by omega)).2.1, (hok (k - 1) (by omega)).2.2.1⟩
        unfold okP at hst hno
        generalize pcAt l k = p at *
        obtain ⟨at0, t⟩ := p
        dsimp only at c0 c1 f0 f1 f2 hst hno
        have HS := Lib.hid hst
        have HN := Lib.hid hno
        have HBL := Lib.hid hbl
        have HH := Lib.hid hh
        clear hst hno hok hbl hh h
        cases ht : t.isEmpty with
        | true =>
          have hno : ¬ right l := HN.out (fun h => h.1 (by simpa using ht))
          have HF := Lib.hid hno; clear hno
          go_wp2_with fail
          go_quiet (fail)
          go_wp2_with fail
          go_ret
          exact ⟨ret_bool (by rw [decide_eq_false HF.out]), below_drewN HBL.out _⟩
        | false =>
          by_cases hti : 0 ≤ at0 ∧ at0 ≤ 1000000
          · have hcall := timeS_calls at0
            rw [decide_eq_true hti] at hcall
            have HC := Lib.hid hcall; clear hcall
            rcases Nat.eq_zero_or_pos k with h0 | h0
            · have hz : decide (0 < k) = false := by simp; omega
              have hok' : okUp l (k + 1) := HS.out ⟨by intro e; rw [e] at ht; simp at ht, hti.1, hti.2, fun h => by omega⟩
              have HF := Lib.hid hok'
              clear hok' hti h0
              go_wp2_with fail
              go_quiet ((go_at_call 84; exact Calls.quiet_of_same (HC.out _)))
              go_wp2_with fail
              go_roundw
              case rel => exact ⟨k + 1, by go_num, by omega, by omega, HF.out, below_drewN HBL.out _⟩
              case measure => simp [intOf]; omega
            · have hz : decide (0 < k) = true := by simp; omega
              have hkm : IntKind.i64.wrap ((k : Int) - 1) = ((k - 1 : Nat) : Int) := by rw [IntWalk.i64_in _ (by omega)]; omega
              have hkl1 : k - 1 < len := by omega
              have hh := HH.out
              obtain ⟨d0, d1⟩ := hh.cell b o rfl (k - 1) hkl1
              obtain ⟨g0, g1, g2⟩ := hh.fit (k - 1) hkl1
              clear hh
              have hp1 := hpr h0
              generalize pcAt l (k - 1) = q at *
              obtain ⟨at1, t1⟩ := q
              dsimp only at d0 d1 g0 g1 g2 hp1
              have hend := endS_calls (at1, t1)
              have hwr : wrap64 (pcEnd (at1, t1)) = pcEnd (at1, t1) := IntWalk.wrap64_in _ (by unfold pcEnd; dsimp only; omega)
              rw [hwr] at hend
              generalize pcEnd (at1, t1) = E at *
              have HE := Lib.hid hend; clear hend hwr hp1 hpr
              rcases Int.lt_or_le E at0 with hlt | hle
              · have hd : decide (at0 ≤ E) = false := by simp; omega
                have hok' : okUp l (k + 1) := HS.out ⟨by intro e; rw [e] at ht; simp at ht, hti.1, hti.2, fun _ => hlt⟩
                have HF := Lib.hid hok'
                clear hok' hti h0 hlt HS HN
                go_wp2_with fail
                first | (go_region_held3 (fun W => Below w.heap.size w W ∧ W.cell? ⟨b, o + k * 2, none⟩ = some (.int .i64 at0) ∧ W.cell? ⟨b, o + k * 2 + 1, none⟩ = some (gs t) ∧ W.cell? ⟨b, o + (k - 1) * 2, none⟩ = some (.int .i64 at1) ∧ W.cell? ⟨b, o + (k - 1) * 2 + 1, none⟩ = some (gs t1)) (first | exact ⟨HBL.out.drew, c0, c1, d0, d1⟩ | assumption | (refine keep4 (by assumption) (by assumption))) (first | (go_at_call 84; refine (HC.out _).mono ?_; rintro e w1 ⟨rfl, rfl⟩) | (go_at_call 142; refine (HE.out _).mono ?_; rintro e w1 ⟨rfl, hb1⟩))) | fail
                have HB2 : Below w.heap.size w w1 := (by assumption : Below w.heap.size w w1 ∧ _).1
                go_wp2_with fail
                go_roundw
                case rel => exact ⟨k + 1, by go_num, by omega, by omega, HF.out, HB2⟩
                case measure => simp [intOf]; omega
              · have hd : decide (at0 ≤ E) = true := by simp; omega
                have hno : ¬ right l := HN.out (fun h => by have := h.2.2.2 h0; omega)
                have HF := Lib.hid hno
                clear hno hti h0 hle HS HN
                go_wp2_with fail
                first | (go_region_held3 (fun W => Below w.heap.size w W ∧ W.cell? ⟨b, o + k * 2, none⟩ = some (.int .i64 at0) ∧ W.cell? ⟨b, o + k * 2 + 1, none⟩ = some (gs t) ∧ W.cell? ⟨b, o + (k - 1) * 2, none⟩ = some (.int .i64 at1) ∧ W.cell? ⟨b, o + (k - 1) * 2 + 1, none⟩ = some (gs t1)) (first | exact ⟨HBL.out.drew, c0, c1, d0, d1⟩ | assumption | (refine keep4 (by assumption) (by assumption))) (first | (go_at_call 84; refine (HC.out _).mono ?_; rintro e w1 ⟨rfl, rfl⟩) | (go_at_call 142; refine (HE.out _).mono ?_; rintro e w1 ⟨rfl, hb1⟩))) | fail
                have HB2 : Below w.heap.size w w1 := (by assumption : Below w.heap.size w w1 ∧ _).1
                go_wp2_with fail
                go_ret
                exact ⟨ret_bool (by rw [decide_eq_false HF.out]), HB2⟩
          · have hno : ¬ right l := HN.out (fun h => hti ⟨h.2.1, h.2.2.1⟩)
            have HF := Lib.hid hno; clear hno
            have hcall := timeS_calls at0
            rw [decide_eq_false hti] at hcall
            have HC := Lib.hid hcall; clear hcall hti
            go_wp2_with fail
            go_quiet ((go_at_call 84; exact Calls.quiet_of_same (HC.out _)))
            go_wp2_with fail
            go_ret
            exact ⟨ret_bool (by rw [decide_eq_false HF.out]), below_drewN HBL.out _⟩
      · have hno : ¬ right l := fun h => by have := h.1; omega
        have HF := Lib.hid hno
        have hd : decide (len ≤ 40) = false := by simp; omega
        clear hno h hok
        go_wp2_with fail
        go_ret
        exact ⟨ret_bool (by rw [decide_eq_false HF.out]; simp; omega), hbl⟩
    · have hkl' : k = len := by omega
      have hr : decide (right l) = decide (len ≤ 40) := by
        rw [decide_eq_decide]
        subst hkl' hlen
        exact ⟨fun h => h.1, fun h => ⟨h, hok⟩⟩
      have HR := Lib.hid hr
      clear h hok hr hlen
      go_wp2_with fail
      go_ret
      exact ⟨ret_bool (by rw [HR.out, decide_eq_decide]; omega), hbl⟩
end Go.Proofs.YtdcahilfmhkmiaaGreatDoor
