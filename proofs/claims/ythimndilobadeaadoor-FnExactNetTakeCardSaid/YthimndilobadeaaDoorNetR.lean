/- NetRight and Flying: the model and the program. -/
import Derived.Test.YthimndilobadeaaDoorFly
import Derived.Test.YthimndilobadeaaDoorWayTo
namespace Go.Proofs.YthimndilobadeaaDoor
open Go.RowKit

set_option maxHeartbeats 1000000 in
set_option maxRecDepth 100000 in
theorem netRightS_calls {S : Nat → Prop} {a : Option Addr} {len cap : Nat} {n : Nt} {w : World} (h : InNet S w a len n) :
    Calls Tryd.prog 32 #[.slice a len cap] w fun e w' => e = .returned (.bool (decide (netRight n))) ∧ Below w.heap.size w w' := by
  have hm := h.most
  have hlen := h.long
  have hres : ∃ R, R = decide (netRight n) := ⟨_, rfl⟩
  obtain ⟨R, hR⟩ := hres
  rw [← hR]
  have HRR := Lib.hid hR
  clear hR
  go_enter Tryd.func32, Tryd.ntmps32
  go_wp2_with fail
  go_loopw [3] (fun i wr => ∃ k : Nat, i = .int .i64 (k : Int) ∧ k ≤ len ∧ k ≤ 5 ∧ netUp n k ∧ Below w.heap.size w wr) (fun i _ => len - (intOf i).toNat)
  case atStart => exact ⟨0, rfl, Nat.zero_le _, by omega, netUp_zero _, Below.refl _ _⟩
  case round =>
    obtain ⟨k, rfl, hk, hk5, hup, hbl⟩ := hrel
    by_cases hkl : k < len ∧ k ≤ 4
    · obtain ⟨hkl, hk4⟩ := hkl
      have hh := h.below hbl
      obtain ⟨b, o, rfl⟩ := hh.there (by omega)
      obtain ⟨-, x, cx, y, cy, c0, c1, r0, r1, -, -⟩ := hh.cell b o rfl k hkl
      have h1 : (k : Int) < (len : Int) := by omega
      have h2 : (k : Int) ≤ 4 := by omega
      have hcall := flyS_calls (cap := cx) r0
      by_cases hx : canFly (wyAt n k).1
      · rw [decide_eq_true hx] at hcall
        have hcall2 := fun (W : World) (hb : Below wr.heap.size wr W) => flyS_calls (cap := cy) (r1.below hb)
        by_cases hy : canFly (wyAt n k).2
        · simp only [decide_eq_true hy] at hcall2
          have hst := netUp_succ hup ⟨hx, hy⟩
          generalize (wyAt n k).1.length = p0 at *
          generalize (wyAt n k).2.length = p1 at *
          have HC := Lib.hid hcall
          have HC2 := Lib.hid hcall2
          have HST := Lib.hid hst
          have HBL := Lib.hid hbl
          clear hh h hup hbl hcall hcall2 hst hx hy r0 r1
          go_wp2_with fail
          refine HC.out.mono ?_
          rintro e w1 ⟨rfl, hb1⟩
          have c1 := (hb1.cell (World.block_lt_of_cell? _ _ c1)).trans c1
          go_wp2_with fail
          refine (HC2.out _ hb1).mono ?_
          rintro e w2 ⟨rfl, hb2⟩
          have HB2 := Lib.hid (HBL.out.trans ((hb1.trans (hb2.mono hb1.size)).mono HBL.out.size))
          clear hb1 hb2 HBL
          go_wp2_with fail
          exact ⟨⟨k + 1, by go_num, by omega, by omega, HST.out, HB2.out⟩, by simp [intOf]; omega⟩
        · simp only [decide_eq_false hy] at hcall2
          have hno : R = false := by rw [HRR.out, decide_eq_false (not_net (by omega) (fun hc => hy hc.2))]
          generalize (wyAt n k).1.length = p0 at *
          generalize (wyAt n k).2.length = p1 at *
          have HC := Lib.hid hcall
          have HC2 := Lib.hid hcall2
          have HN := Lib.hid hno
          have HBL := Lib.hid hbl
          clear hh h hup hbl hcall hcall2 hno hx hy r0 r1
          go_wp2_with fail
          refine HC.out.mono ?_
          rintro e w1 ⟨rfl, hb1⟩
          have c1 := (hb1.cell (World.block_lt_of_cell? _ _ c1)).trans c1
          go_wp2_with fail
          refine (HC2.out _ hb1).mono ?_
          rintro e w2 ⟨rfl, hb2⟩
          have HB2 := Lib.hid (HBL.out.trans ((hb1.trans (hb2.mono hb1.size)).mono HBL.out.size))
          clear hb1 hb2 HBL
          go_wp2_with fail
          go_ret
          exact ⟨ret_bool HN.out.symm, HB2.out⟩
      · rw [decide_eq_false hx] at hcall
        have hno : R = false := by rw [HRR.out, decide_eq_false (not_net (by omega) (fun hc => hx hc.1))]
        generalize (wyAt n k).1.length = p0 at *
        have HC := Lib.hid hcall
        have HN := Lib.hid hno
        have HBL := Lib.hid hbl
        clear hh h hup hbl hcall hno hx r0 r1
        go_wp2_with fail
        refine HC.out.mono ?_
        rintro e w1 ⟨rfl, hb1⟩
        have HB2 := Lib.hid (HBL.out.trans (hb1.mono HBL.out.size))
        clear hb1 HBL
        go_wp2_with fail
        go_ret
        exact ⟨ret_bool HN.out.symm, HB2.out⟩
    · have hr : R = (decide ((len : Int) ≥ 1) && decide ((len : Int) ≤ 4)) := by
        rw [HRR.out, ← Bool.decide_and]
        apply decide_eq_decide.2
        unfold netRight
        constructor
        · intro hc; omega
        · intro hc; exact ⟨by omega, fun i hi => hup i (by omega)⟩
      have HR := Lib.hid hr
      have HBL := Lib.hid hbl
      clear h hup hr hbl
      by_cases h1 : (k : Int) < (len : Int)
      · have h2 : ¬ (k : Int) ≤ 4 := by omega
        have h3 : (len : Int) ≥ 1 := by omega
        go_wp2_with fail
        go_ret
        exact ⟨ret_bool (by rw [HR.out, decide_eq_true h3]; simp), HBL.out⟩
      · by_cases h3 : (len : Int) ≥ 1
        · go_wp2_with fail
          go_ret
          exact ⟨ret_bool (by rw [HR.out, decide_eq_true h3]; simp), HBL.out⟩
        · have HD := Lib.hid (decide_eq_false h3)
          go_wp2_with fail
          go_ret
          exact ⟨ret_bool (by rw [HR.out, HD.out]; simp), HBL.out⟩

set_option maxHeartbeats 1000000 in
set_option maxRecDepth 100000 in
theorem netRightI_calls {S : Nat → Prop} {a : Option Addr} {len cap : Nat} {n : Nt} {w : World} (h : InNet S w a len n) :
    Calls Tryd.prog 45 #[.slice a len cap] w fun e w' => e = .returned (.bool (decide (netRight n))) ∧ Below w.heap.size w w' := by
  have hm := h.most
  have hlen := h.long
  have hres : ∃ R, R = decide (netRight n) := ⟨_, rfl⟩
  obtain ⟨R, hR⟩ := hres
  rw [← hR]
  have HRR := Lib.hid hR
  clear hR
  by_cases h1 : (len : Int) < 1
  · have hr : R = false := by rw [HRR.out, decide_eq_false (fun hc => by have := hc.1; omega)]
    have HR := Lib.hid hr
    clear h hr
    go_enter Tryd.func45, Tryd.ntmps45
    go_wp2_with fail
    go_ret
    exact ⟨ret_bool HR.out.symm, Below.refl _ _⟩
  · by_cases h4 : (len : Int) > 4
    · have hr : R = false := by rw [HRR.out, decide_eq_false (fun hc => by have := hc.1; omega)]
      have HR := Lib.hid hr
      clear h hr
      go_enter Tryd.func45, Tryd.ntmps45
      go_wp2_with fail
      go_ret
      exact ⟨ret_bool HR.out.symm, Below.refl _ _⟩
    · go_enter Tryd.func45, Tryd.ntmps45
      go_wp2_with fail
      go_loopw [15] (fun i wr => ∃ k : Nat, i = .int .i64 (k : Int) ∧ k ≤ len ∧ netUp n k ∧ Below w.heap.size w wr) (fun i _ => len - (intOf i).toNat)
      case atStart => exact ⟨0, rfl, Nat.zero_le _, netUp_zero _, Below.refl _ _⟩
      case round =>
        obtain ⟨k, rfl, hk, hup, hbl⟩ := hrel
        by_cases hkl : k < len
        · have hh := h.below hbl
          obtain ⟨b, o, rfl⟩ := hh.there (by omega)
          obtain ⟨-, x, cx, y, cy, c0, c1, r0, r1, -, -⟩ := hh.cell b o rfl k hkl
          have hcall := fun (W : World) (hb : Below wr.heap.size wr W) => flyI_calls (cap := cx) (r0.below hb)
          by_cases hx : canFly (wyAt n k).1
          · simp only [decide_eq_true hx] at hcall
            have hcall2 := fun (W : World) (hb : Below wr.heap.size wr W) => flyI_calls (cap := cy) (r1.below hb)
            by_cases hy : canFly (wyAt n k).2
            · simp only [decide_eq_true hy] at hcall2
              have hst := netUp_succ hup ⟨hx, hy⟩
              generalize (wyAt n k).1.length = p0 at *
              generalize (wyAt n k).2.length = p1 at *
              have HC := Lib.hid hcall
              have HC2 := Lib.hid hcall2
              have HST := Lib.hid hst
              have HBL := Lib.hid hbl
              clear hh h hup hbl hcall hcall2 hst hx hy r0 r1
              go_wp2_with fail
              refine (HC.out _ ((Below.refl _ _).alloc (Nat.le_refl _) _)).mono ?_
              rintro e w1 ⟨rfl, hb1⟩
              have d1 := arg_second hb1
              replace hb1 := below_arg hb1
              go_wp2_with fail
              refine (HC2.out _ hb1).mono ?_
              rintro e w2 ⟨rfl, hb2⟩
              have HB2 := Lib.hid (HBL.out.trans ((hb1.trans (hb2.mono hb1.size)).mono HBL.out.size))
              clear hb1 hb2 HBL
              go_wp2_with fail
              exact ⟨⟨k + 1, by go_num, by omega, HST.out, HB2.out⟩, by simp [intOf]; omega⟩
            · simp only [decide_eq_false hy] at hcall2
              have hno : R = false := by rw [HRR.out, decide_eq_false (not_net (by omega) (fun hc => hy hc.2))]
              generalize (wyAt n k).1.length = p0 at *
              generalize (wyAt n k).2.length = p1 at *
              have HC := Lib.hid hcall
              have HC2 := Lib.hid hcall2
              have HN := Lib.hid hno
              have HBL := Lib.hid hbl
              clear hh h hup hbl hcall hcall2 hno hx hy r0 r1
              go_wp2_with fail
              refine (HC.out _ ((Below.refl _ _).alloc (Nat.le_refl _) _)).mono ?_
              rintro e w1 ⟨rfl, hb1⟩
              have d1 := arg_second hb1
              replace hb1 := below_arg hb1
              go_wp2_with fail
              refine (HC2.out _ hb1).mono ?_
              rintro e w2 ⟨rfl, hb2⟩
              have HB2 := Lib.hid (HBL.out.trans ((hb1.trans (hb2.mono hb1.size)).mono HBL.out.size))
              clear hb1 hb2 HBL
              go_wp2_with fail
              go_ret
              exact ⟨ret_bool HN.out.symm, HB2.out⟩
          · simp only [decide_eq_false hx] at hcall
            have hno : R = false := by rw [HRR.out, decide_eq_false (not_net (by omega) (fun hc => hx hc.1))]
            generalize (wyAt n k).1.length = p0 at *
            generalize (wyAt n k).2.length = p1 at *
            have HC := Lib.hid hcall
            have HN := Lib.hid hno
            have HBL := Lib.hid hbl
            clear hh h hup hbl hcall hno hx r0 r1
            go_wp2_with fail
            refine (HC.out _ ((Below.refl _ _).alloc (Nat.le_refl _) _)).mono ?_
            rintro e w1 ⟨rfl, hb1⟩
            replace hb1 := below_arg hb1
            have HB2 := Lib.hid (HBL.out.trans (hb1.mono HBL.out.size))
            clear hb1 HBL
            go_wp2_with fail
            go_ret
            exact ⟨ret_bool HN.out.symm, HB2.out⟩
        · have hr : R = true := by rw [HRR.out, decide_eq_true (show netRight n from ⟨by omega, fun i hi => hup i (by omega)⟩)]
          have HR := Lib.hid hr
          have HBL := Lib.hid hbl
          clear h hup hr hbl
          go_wp2_with fail
          go_ret
          exact ⟨ret_bool HR.out.symm, HBL.out⟩

theorem netSum_fly : ∀ l : Nt, (∀ p ∈ l, canFly p.1 ∧ canFly p.2) → netSum l ≤ 16 * l.length
  | [], _ => by simp [netSum]
  | p :: l, h => by
    have ih := netSum_fly l (fun q hq => h q (List.mem_cons_of_mem _ hq))
    have hp := h p (by simp)
    have h1 := hp.1.1
    have h2 := hp.2.1
    simp only [netSum, List.length_cons]
    omega
theorem netRight_each {n : Nt} (h : netRight n) : ∀ p ∈ n, canFly p.1 ∧ canFly p.2 := fun p hp => by
  obtain ⟨i, hi, rfl⟩ := List.mem_iff_getElem.1 hp
  have := h.2 i hi
  rwa [wyAt_get hi] at this
theorem netSum_right {n : Nt} (h : netRight n) : netSum n ≤ 64 := by
  have := netSum_fly n (netRight_each h)
  have := h.1.2
  omega


end Go.Proofs.YthimndilobadeaaDoor
