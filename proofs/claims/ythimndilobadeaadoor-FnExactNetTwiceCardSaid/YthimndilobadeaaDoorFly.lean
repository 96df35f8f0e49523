/- Which nets are right, and how many things fly: the model and the program. -/
import Derived.Test.YthimndilobadeaaDoorNetLaw
namespace Go.Proofs.YthimndilobadeaaDoor
open Go.RowKit

def isThing (t : List UInt8) : Prop := 1 ≤ t.length ∧ t.length ≤ 100
instance (t : List UInt8) : Decidable (isThing t) := by unfold isThing; infer_instance
def canFly (l : Tx) : Prop := l.length ≤ 8 ∧ ∀ i, i < l.length → isThing (txAt l i)
instance (l : Tx) : Decidable (canFly l) := by unfold canFly; infer_instance
def netRight (n : Nt) : Prop := (1 ≤ n.length ∧ n.length ≤ 4) ∧ ∀ i, i < n.length → canFly (wyAt n i).1 ∧ canFly (wyAt n i).2
instance (n : Nt) : Decidable (netRight n) := by unfold netRight; infer_instance
def flyUp (l : Tx) (k : Nat) : Prop := ∀ i, i < k → isThing (txAt l i)
theorem flyUp_zero (l : Tx) : flyUp l 0 := fun i h => by omega
theorem flyUp_succ {l : Tx} {k : Nat} (h : flyUp l k) (hk : isThing (txAt l k)) : flyUp l (k + 1) := fun i hi => by
  by_cases e : i = k
  · subst e; exact hk
  · exact h i (by omega)
theorem not_fly {l : Tx} {k : Nat} (hk : k < l.length) (h : ¬ isThing (txAt l k)) : ¬ canFly l := fun hr => h (hr.2 k hk)
def netUp (n : Nt) (k : Nat) : Prop := ∀ i, i < k → canFly (wyAt n i).1 ∧ canFly (wyAt n i).2
theorem netUp_zero (n : Nt) : netUp n 0 := fun i h => by omega
theorem netUp_succ {n : Nt} {k : Nat} (h : netUp n k) (hk : canFly (wyAt n k).1 ∧ canFly (wyAt n k).2) : netUp n (k + 1) := fun i hi => by
  by_cases e : i = k
  · subst e; exact hk
  · exact h i (by omega)
theorem not_net {n : Nt} {k : Nat} (hk : k < n.length) (h : ¬ (canFly (wyAt n k).1 ∧ canFly (wyAt n k).2)) : ¬ netRight n := fun hr => h (hr.2 k hk)

set_option maxHeartbeats 1000000 in
set_option maxRecDepth 100000 in
theorem flyS_calls {a : Option Addr} {len cap : Nat} {l : Tx} {w : World} (h : InTx w a len l) :
    Calls Tryd.prog 43 #[.slice a len cap] w fun e w' => e = .returned (.bool (decide (canFly l))) ∧ Below w.heap.size w w' := by
  have hm := h.most
  have hlen := h.long
  have hres : ∃ R, R = decide (canFly l) := ⟨_, rfl⟩
  obtain ⟨R, hR⟩ := hres
  rw [← hR]
  have HRR := Lib.hid hR
  clear hR
  go_enter Tryd.func43, Tryd.ntmps43
  go_wp2_with fail
  go_loopw [3] (fun i wr => ∃ k : Nat, i = .int .i64 (k : Int) ∧ k ≤ len ∧ k ≤ 9 ∧ flyUp l k ∧ wr = w) (fun i _ => len - (intOf i).toNat)
  case atStart => exact ⟨0, rfl, Nat.zero_le _, by omega, flyUp_zero _, rfl⟩
  case round =>
    obtain ⟨k, rfl, hk, hk9, hup, rfl⟩ := hrel
    by_cases hkl : k < len ∧ k ≤ 8
    · obtain ⟨hkl, hk8⟩ := hkl
      obtain ⟨b, o, rfl⟩ := h.there (by omega)
      have c0 := h.cell b o rfl k hkl
      have f0 := h.fit k hkl
      have h1 : (k : Int) < (len : Int) := by omega
      have h2 : (k : Int) ≤ 8 := by omega
      by_cases hth : isThing (txAt l k)
      · have hst := flyUp_succ hup hth
        unfold isThing at hth
        generalize txAt l k = t at *
        have h3 : ¬ (t.length : Int) < 1 := by omega
        have h4 : ¬ (t.length : Int) > 100 := by omega
        have HST := Lib.hid hst
        clear h hst hup
        go_wp2_with fail
        exact ⟨⟨k + 1, by go_num, by omega, by omega, HST.out, trivial⟩, by simp [intOf]; omega⟩
      · have hno : R = false := by rw [HRR.out, decide_eq_false (not_fly (by omega) hth)]
        have HN := Lib.hid hno
        unfold isThing at hth
        generalize txAt l k = t at *
        clear h hup hno
        by_cases h3 : (t.length : Int) < 1
        · go_wp2_with fail
          go_ret
          exact ⟨ret_bool HN.out.symm, Below.refl _ _⟩
        · have h4 : (t.length : Int) > 100 := by omega
          go_wp2_with fail
          go_ret
          exact ⟨ret_bool HN.out.symm, Below.refl _ _⟩
    · have hr : R = decide ((len : Int) ≤ 8) := by
        rw [HRR.out]
        apply decide_eq_decide.2
        unfold canFly
        constructor
        · intro hc; omega
        · intro hc; exact ⟨by omega, fun i hi => hup i (by omega)⟩
      have HR := Lib.hid hr
      clear h hup hr
      by_cases h1 : (k : Int) < (len : Int)
      · have h2 : ¬ (k : Int) ≤ 8 := by omega
        go_wp2_with fail
        go_ret
        exact ⟨ret_bool HR.out.symm, Below.refl _ _⟩
      · go_wp2_with fail
        go_ret
        exact ⟨ret_bool HR.out.symm, Below.refl _ _⟩
theorem thingI_calls (t : List UInt8) (ht : t.length ≤ 9223372036854775807) (w : World) : Calls Tryd.prog 57 #[gs t] w fun e w' => e = .returned (.bool (decide (isThing t))) ∧ w' = w := by
  have hres : ∃ R, R = decide (isThing t) := ⟨_, rfl⟩
  obtain ⟨R, hR⟩ := hres
  rw [← hR]
  by_cases h1 : (t.length : Int) ≥ 1
  · have hr : R = decide ((t.length : Int) ≤ 100) := by rw [hR]; apply decide_eq_decide.2; unfold isThing; omega
    have HR := Lib.hid hr
    clear hr hR
    go_enter Tryd.func57, Tryd.ntmps57
    go_wp2
    go_ret
    exact ⟨ret_bool HR.out.symm, rfl⟩
  · have hr : R = false := by rw [hR]; apply decide_eq_false; unfold isThing; omega
    have HR := Lib.hid hr
    clear hr hR
    go_enter Tryd.func57, Tryd.ntmps57
    go_wp2
    go_ret
    exact ⟨ret_bool HR.out.symm, rfl⟩

set_option maxHeartbeats 1000000 in
set_option maxRecDepth 100000 in
theorem flyI_calls {a : Option Addr} {len cap : Nat} {l : Tx} {w : World} (h : InTx w a len l) :
    Calls Tryd.prog 52 #[.slice a len cap] w fun e w' => e = .returned (.bool (decide (canFly l))) ∧ Below w.heap.size w w' := by
  have hm := h.most
  have hlen := h.long
  have hres : ∃ R, R = decide (canFly l) := ⟨_, rfl⟩
  obtain ⟨R, hR⟩ := hres
  rw [← hR]
  have HRR := Lib.hid hR
  clear hR
  by_cases h8 : (len : Int) > 8
  · have hr : R = false := by rw [HRR.out, decide_eq_false (fun hc => by have := hc.1; omega)]
    have HR := Lib.hid hr
    clear h hr
    go_enter Tryd.func52, Tryd.ntmps52
    go_wp2_with fail
    go_ret
    exact ⟨ret_bool HR.out.symm, Below.refl _ _⟩
  · go_enter Tryd.func52, Tryd.ntmps52
    go_wp2_with fail
    go_loopw [10] (fun i wr => ∃ k : Nat, i = .int .i64 (k : Int) ∧ k ≤ len ∧ flyUp l k ∧ wr = w) (fun i _ => len - (intOf i).toNat)
    case atStart => exact ⟨0, rfl, Nat.zero_le _, flyUp_zero _, rfl⟩
    case round =>
      obtain ⟨k, rfl, hk, hup, rfl⟩ := hrel
      by_cases hkl : k < len
      · obtain ⟨b, o, rfl⟩ := h.there (by omega)
        have c0 := h.cell b o rfl k hkl
        have f0 := h.fit k hkl
        have hcall := thingI_calls (txAt l k) (by omega)
        by_cases hth : isThing (txAt l k)
        · have hst := flyUp_succ hup hth
          rw [decide_eq_true hth] at hcall
          generalize txAt l k = t at *
          have HST := Lib.hid hst
          have HC := Lib.hid hcall
          clear h hst hup hth hcall
          go_wp2_with (go_at_call 57; refine (HC.out _).mono ?_; rintro e w1 ⟨rfl, rfl⟩)
          exact ⟨⟨k + 1, by go_num, by omega, HST.out, trivial⟩, by simp [intOf]; omega⟩
        · have hno : R = false := by rw [HRR.out, decide_eq_false (not_fly (by omega) hth)]
          have HN := Lib.hid hno
          rw [decide_eq_false hth] at hcall
          generalize txAt l k = t at *
          have HC := Lib.hid hcall
          clear h hup hno hth hcall
          go_wp2_with (go_at_call 57; refine (HC.out _).mono ?_; rintro e w1 ⟨rfl, rfl⟩)
          go_ret
          exact ⟨ret_bool HN.out.symm, Below.refl _ _⟩
      · have hr : R = true := by rw [HRR.out, decide_eq_true (show canFly l from ⟨by omega, fun i hi => hup i (by omega)⟩)]
        have HR := Lib.hid hr
        clear h hup hr
        go_wp2_with fail
        go_ret
        exact ⟨ret_bool HR.out.symm, Below.refl _ _⟩
end Go.Proofs.YthimndilobadeaaDoor
