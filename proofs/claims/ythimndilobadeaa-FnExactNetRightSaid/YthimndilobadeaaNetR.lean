/- NetRight and Flying: the model and the program. -/
import Derived.Test.YthimndilobadeaaFly
import Derived.Test.YthimndilobadeaaWayTo
namespace Go.Proofs.Ythimndilobadeaa
open Go.RowKit

set_option maxHeartbeats 1000000 in
set_option maxRecDepth 100000 in
theorem netRightS_calls {S : Nat → Prop} {a : Option Addr} {len cap : Nat} {n : Nt} {w : World} (h : InNet S w a len n) :
    Calls Try.prog 6 #[.slice a len cap] w fun e w' => e = .returned (.bool (decide (netRight n))) ∧ Below w.heap.size w w' := by
  have hm := h.most
  have hlen := h.long
  have hres : ∃ R, R = decide (netRight n) := ⟨_, rfl⟩
  obtain ⟨R, hR⟩ := hres
  rw [← hR]
  have HRR := Lib.hid hR
  clear hR
  go_enter Try.func6, Try.ntmps6
  go_wp2_with fail
  go_loopw [3] (fun i wr => ∃ k : Nat, i = .int .i64 (k : Int) ∧ k ≤ len ∧ k ≤ 5 ∧ netUp n k ∧ Below w.heap.size w wr) (fun i _ => len - (intOf i).toNat)
  case atStart => exact ⟨0, rfl, Nat.zero_le _, by omega, netUp_zero _, Below.refl _ _⟩
  case round =>
    obtain ⟨k, rfl, hk, hk5, hup, hbl⟩ := hrel
    by_cases hkl : k < len ∧ k ≤ 4
    · obtain ⟨hkl, hk4⟩ := hkl
      have hh := h.below hbl
      obtain ⟨b, o, rfl⟩ := hh.there (by omega)
      obtain ⟨-, x, cx, y, cy, c0, c1, r0, r1, -, -⟩ := hh.cell b o rfl k hkl
      have h1 : (k : Int) < (len : Int) := by omega
      have h2 : (k : Int) ≤ 4 := by omega
      have hcall := flyS_calls (cap := cx) r0
      by_cases hx : canFly (wyAt n k).1
      · rw [decide_eq_true hx] at hcall
        have hcall2 := fun (W : World) (hb : Below wr.heap.size wr W) => flyS_calls (cap := cy) (r1.below hb)
        by_cases hy : canFly (wyAt n k).2
        · simp only [decide_eq_true hy] at hcall2
          have hst := netUp_succ hup ⟨hx, hy⟩
          generalize (wyAt n k).1.length = p0 at *
          generalize (wyAt n k).2.length = p1 at *
          have HC := Lib.hid hcall
          have HC2 := Lib.hid hcall2
          have HST := Lib.hid hst
          have HBL := Lib.hid hbl
          clear hh h hup hbl hcall hcall2 hst hx hy r0 r1
          go_wp2_with fail
          refine HC.out.mono ?_
          rintro e w1 ⟨rfl, hb1⟩
          have c1 := (hb1.cell (World.block_lt_of_cell? _ _ c1)).trans c1
          go_wp2_with fail
          refine (HC2.out _ hb1).mono ?_
          rintro e w2 ⟨rfl, hb2⟩
          have HB2 := Lib.hid (HBL.out.trans ((hb1.trans (hb2.mono hb1.size)).mono HBL.out.size))
          clear hb1 hb2 HBL
          go_wp2_with fail
          exact ⟨⟨k + 1, by go_num, by omega, by omega, HST.out, HB2.out⟩, by simp [intOf]; omega⟩
        · simp only [decide_eq_false hy] at hcall2
          have hno : R = false := by rw [HRR.out, decide_eq_false (not_net (by omega) (fun hc => hy hc.2))]
          generalize (wyAt n k).1.length = p0 at *
          generalize (wyAt n k).2.length = p1 at *
          have HC := Lib.hid hcall
          have HC2 := Lib.hid hcall2
          have HN := Lib.hid hno
          have HBL := Lib.hid hbl
          clear hh h hup hbl hcall hcall2 hno hx hy r0 r1
          go_wp2_with fail
          refine HC.out.mono ?_
          rintro e w1 ⟨rfl, hb1⟩
          have c1 := (hb1.cell (World.block_lt_of_cell? _ _ c1)).trans c1
          go_wp2_with fail
          refine (HC2.out _ hb1).mono ?_
          rintro e w2 ⟨rfl, hb2⟩
          have HB2 := Lib.hid (HBL.out.trans ((hb1.trans (hb2.mono hb1.size)).mono HBL.out.size))
          clear hb1 hb2 HBL
          go_wp2_with fail
          go_ret
          exact ⟨ret_bool HN.out.symm, HB2.out⟩
      · rw [decide_eq_false hx] at hcall
        have hno : R = false := by rw [HRR.out, decide_eq_false (not_net (by omega) (fun hc => hx hc.1))]
        generalize (wyAt n k).1.length = p0 at *
        have HC := Lib.hid hcall
        have HN := Lib.hid hno
        have HBL := Lib.hid hbl
        clear hh h hup hbl hcall hno hx r0 r1
        go_wp2_with fail
        refine HC.out.mono ?_
        rintro e w1 ⟨rfl, hb1⟩
        have HB2 := Lib.hid (HBL.out.trans (hb1.mono HBL.out.size))
        clear hb1 HBL
        go_wp2_with fail
        go_ret
        exact ⟨ret_bool HN.out.symm, HB2.out⟩
    · have hr : R = (decide ((len : Int) ≥ 1) && decide ((len : Int) ≤ 4)) := by
        rw [HRR.out, ← Bool.decide_and]
        apply decide_eq_decide.2
        unfold netRight
        constructor
        · intro hc; omega
        · intro hc; exact ⟨by omega, fun i hi => hup i (by omega)⟩
      have HR := Lib.hid hr
      have HBL := Lib.hid hbl
      clear h hup hr hbl
      by_cases h1 : (k : Int) < (len : Int)
      · have h2 : ¬ (k : Int) ≤ 4 := by omega
        have h3 : (len : Int) ≥ 1 := by omega
        go_wp2_with fail
        go_ret
        exact ⟨ret_bool (by rw [HR.out, decide_eq_true h3]; simp), HBL.out⟩
      · by_cases h3 : (len : Int) ≥ 1
        · go_wp2_with fail
          go_ret
          exact ⟨ret_bool (by rw [HR.out, decide_eq_true h3]; simp), HBL.out⟩
        · have HD := Lib.hid (decide_eq_false h3)
          go_wp2_with fail
          go_ret
          exact ⟨ret_bool (by rw [HR.out, HD.out]; simp), HBL.out⟩

set_option maxHeartbeats 1000000 in
set_option maxRecDepth 100000 in
theorem netRightI_calls {S : Nat → Prop} {a : Option Addr} {len cap : Nat} {n : Nt} {w : World} (h : InNet S w a len n) :
    Calls Try.prog 8 #[.slice a len cap] w fun e w' => e = .returned (.bool (decide (netRight n))) ∧ Below w.heap.size w w' := by
  have hm := h.most
  have hlen := h.long
  have hres : ∃ R, R = decide (netRight n) := ⟨_, rfl⟩
  obtain ⟨R, hR⟩ := hres
  rw [← hR]
  have HRR := Lib.hid hR
  clear hR
  by_cases h1 : (len : Int) < 1
  · have hr : R = false := by rw [HRR.out, decide_eq_false (fun hc => by have := hc.1; omega)]
    have HR := Lib.hid hr
    clear h hr
    go_enter Try.func8, Try.ntmps8
    go_wp2_with fail
    go_ret
    exact ⟨ret_bool HR.out.symm, Below.refl _ _⟩
  · by_cases h4 : (len : Int) > 4
    · have hr : R = false := by rw [HRR.out, decide_eq_false (fun hc => by have := hc.1; omega)]
      have HR := Lib.hid hr
      clear h hr
      go_enter Try.func8, Try.ntmps8
      go_wp2_with fail
      go_ret
      exact ⟨ret_bool HR.out.symm, Below.refl _ _⟩
    · go_enter Try.func8, Try.ntmps8
      go_wp2_with fail
      go_loopw [15] (fun i wr => ∃ k : Nat, i = .int .i64 (k : Int) ∧ k ≤ len ∧ netUp n k ∧ Below w.heap.size w wr) (fun i _ => len - (intOf i).toNat)
      case atStart => exact ⟨0, rfl, Nat.zero_le _, netUp_zero _, Below.refl _ _⟩
      case round =>
        obtain ⟨k, rfl, hk, hup, hbl⟩ := hrel
        by_cases hkl : k < len
        · have hh := h.below hbl
          obtain ⟨b, o, rfl⟩ := hh.there (by omega)
          obtain ⟨-, x, cx, y, cy, c0, c1, r0, r1, -, -⟩ := hh.cell b o rfl k hkl
          have hcall := fun (W : World) (hb : Below wr.heap.size wr W) => flyI_calls (cap := cx) (r0.below hb)
          by_cases hx : canFly (wyAt n k).1
          · simp only [decide_eq_true hx] at hcall
            have hcall2 := fun (W : World) (hb : Below wr.heap.size wr W) => flyI_calls (cap := cy) (r1.below hb)
            by_cases hy : canFly (wyAt n k).2
            · simp only [decide_eq_true hy] at hcall2
              have hst := netUp_succ hup ⟨hx, hy⟩
              generalize (wyAt n k).1.length = p0 at *
              generalize (wyAt n k).2.length = p1 at *
              have HC := Lib.hid hcall
              have HC2 := Lib.hid hcall2
              have HST := Lib.hid hst
              have HBL := Lib.hid hbl
              clear hh h hup hbl hcall hcall2 hst hx hy r0 r1
              go_wp2_with fail
              refine (HC.out _ ((Below.refl _ _).alloc (Nat.le_refl _) _)).mono ?_
              rintro e w1 ⟨rfl, hb1⟩
              have d1 := arg_second hb1
              replace hb1 := below_arg hb1
              go_wp2_with fail
              refine (HC2.out _ hb1).mono ?_
              rintro e w2 ⟨rfl, hb2⟩
              have HB2 := Lib.hid (HBL.out.trans ((hb1.trans (hb2.mono hb1.size)).mono HBL.out.size))
              clear hb1 hb2 HBL
              go_wp2_with fail
              exact ⟨⟨k + 1, by go_num, by omega, HST.out, HB2.out⟩, by simp [intOf]; omega⟩
            · simp only [decide_eq_false hy] at hcall2
              have hno : R = false := by rw [HRR.out, decide_eq_false (not_net (by omega) (fun hc => hy hc.2))]
              generalize (wyAt n k).1.length = p0 at *
              generalize (wyAt n k).2.length = p1 at *
              have HC := Lib.hid hcall
              have HC2 := Lib.hid hcall2
              have HN := Lib.hid hno
              have HBL := Lib.hid hbl
              clear hh h hup hbl hcall hcall2 hno hx hy r0 r1
              go_wp2_with fail
              refine (HC.out _ ((Below.refl _ _).alloc (Nat.le_refl _) _)).mono ?_
              rintro e w1 ⟨rfl, hb1⟩
              have d1 := arg_second hb1
              replace hb1 := below_arg hb1
              go_wp2_with fail
              refine (HC2.out _ hb1).mono ?_
              rintro e w2 ⟨rfl, hb2⟩
              have HB2 := Lib.hid (HBL.out.trans ((hb1.trans (hb2.mono hb1.size)).mono HBL.out.size))
              clear hb1 hb2 HBL
              go_wp2_with fail
              go_ret
              exact ⟨ret_bool HN.out.symm, HB2.out⟩
          · simp only [decide_eq_false hx] at hcall
            have hno : R = false := by rw [HRR.out, decide_eq_false (not_net (by omega) (fun hc => hx hc.1))]
            generalize (wyAt n k).1.length = p0 at *
            generalize (wyAt n k).2.length = p1 at *
            have HC := Lib.hid hcall
            have HN := Lib.hid hno
            have HBL := Lib.hid hbl
            clear hh h hup hbl hcall hno hx r0 r1
            go_wp2_with fail
            refine (HC.out _ ((Below.refl _ _).alloc (Nat.le_refl _) _)).mono ?_
            rintro e w1 ⟨rfl, hb1⟩
            replace hb1 := below_arg hb1
            have HB2 := Lib.hid (HBL.out.trans (hb1.mono HBL.out.size))
            clear hb1 HBL
            go_wp2_with fail
            go_ret
            exact ⟨ret_bool HN.out.symm, HB2.out⟩
        · have hr : R = true := by rw [HRR.out, decide_eq_true (show netRight n from ⟨by omega, fun i hi => hup i (by omega)⟩)]
          have HR := Lib.hid hr
          have HBL := Lib.hid hbl
          clear h hup hr hbl
          go_wp2_with fail
          go_ret
          exact ⟨ret_bool HR.out.symm, HBL.out⟩

theorem netSum_fly : ∀ l : Nt, (∀ p ∈ l, canFly p.1 ∧ canFly p.2) → netSum l ≤ 16 * l.length
  | [], _ => by simp [netSum]
  | p :: l, h => by
    have ih := netSum_fly l (fun q hq => h q (List.mem_cons_of_mem _ hq))
    have hp := h p (by simp)
    have h1 := hp.1.1
    have h2 := hp.2.1
    simp only [netSum, List.length_cons]
    omega
theorem netRight_each {n : Nt} (h : netRight n) : ∀ p ∈ n, canFly p.1 ∧ canFly p.2 := fun p hp => by
  obtain ⟨i, hi, rfl⟩ := List.mem_iff_getElem.1 hp
  have := h.2 i hi
  rwa [wyAt_get hi] at this
theorem netSum_right {n : Nt} (h : netRight n) : netSum n ≤ 64 := by
  have := netSum_fly n (netRight_each h)
  have := h.1.2
  omega

set_option maxHeartbeats 1000000 in
set_option maxRecDepth 100000 in
theorem flyingS_calls {S : Nat → Prop} {a : Option Addr} {len cap : Nat} {n : Nt} {w : World} (h : InNet S w a len n) :
    Calls Try.prog 10 #[.slice a len cap] w fun e w' => e = .returned (.int .i64 (if netRight n then (netSum n : Int) else -1)) ∧ Below w.heap.size w w' := by
  have hm := h.most
  have hlen := h.long
  have hcall := netRightS_calls (cap := cap) h
  by_cases hr : netRight n
  · rw [if_pos hr]
    rw [decide_eq_true hr] at hcall
    have hs := netSum_right hr
    have hres : ∃ R, R = netSum n := ⟨_, rfl⟩
    obtain ⟨R, hR⟩ := hres
    rw [← hR] at hs ⊢
    have HRR := Lib.hid hR
    have HC := Lib.hid hcall
    clear hR hcall hr
    go_enter Try.func10, Try.ntmps10
    go_wp2_with fail
    refine HC.out.mono ?_
    rintro e w1 ⟨rfl, hb1⟩
    go_wp2_with fail
    go_loopw [3, 4] (fun s i wr => ∃ k m : Nat, i = .int .i64 (k : Int) ∧ s = .int .i64 (m : Int) ∧ k ≤ len ∧ R = m + netSum (n.drop k) ∧ Below w.heap.size w wr) (fun _ i _ => len - (intOf i).toNat)
    case atStart => exact ⟨0, 0, rfl, rfl, Nat.zero_le _, by rw [HRR.out]; simp, hb1⟩
    case round =>
      obtain ⟨k, m, rfl, rfl, hk, hsum, hbl⟩ := hrel
      by_cases hkl : k < len
      · have hh := h.below hbl
        obtain ⟨b, o, rfl⟩ := hh.there (by omega)
        obtain ⟨-, x, cx, y, cy, c0, c1, r0, r1, -, -⟩ := hh.cell b o rfl k hkl
        rw [nt_drop (by omega : k < n.length)] at hsum
        simp only [netSum] at hsum
        have hl0 := r0.most
        have hl1 := r1.most
        generalize (wyAt n k).1.length = p0 at *
        generalize (wyAt n k).2.length = p1 at *
        have HBL := Lib.hid hbl
        have HS := Lib.hid hsum
        have hb0 : m + (p0 + p1) ≤ 64 := by omega
        clear hh h hbl r0 r1 hsum hb1 HC
        go_wp2_with fail
        go_quiet (fail)
        go_wp2_with fail
        exact ⟨⟨k + 1, m + (p0 + p1), by go_num, by go_num, by omega, by have := HS.out; omega, tx_drewN HBL.out _⟩, by simp [intOf]; omega⟩
      · have hd : n.drop k = [] := List.drop_eq_nil_of_le (by omega)
        rw [hd] at hsum
        have HS := Lib.hid hsum
        have HBL := Lib.hid hbl
        clear h hbl hsum hd
        go_wp2_with fail
        go_ret
        exact ⟨ret_int (by have := HS.out; simp only [netSum] at this; omega), HBL.out⟩
  · rw [if_neg hr]
    rw [decide_eq_false hr] at hcall
    have HC := Lib.hid hcall
    clear hcall hr h
    go_enter Try.func10, Try.ntmps10
    go_wp2_with fail
    refine HC.out.mono ?_
    rintro e w1 ⟨rfl, hb1⟩
    have HB := Lib.hid hb1
    clear hb1
    go_wp2_with fail
    go_ret
    exact ⟨rfl, HB.out⟩

set_option maxHeartbeats 1000000 in
set_option maxRecDepth 100000 in
theorem flyingI_calls {S : Nat → Prop} {a : Option Addr} {len cap : Nat} {n : Nt} {w : World} (h : InNet S w a len n) :
    Calls Try.prog 11 #[.slice a len cap] w fun e w' => e = .returned (.int .i64 (if netRight n then (netSum n : Int) else -1)) ∧ Below w.heap.size w w' := by
  have hm := h.most
  have hlen := h.long
  have hcall := netRightI_calls (cap := cap) h
  by_cases hr : netRight n
  · rw [if_pos hr]
    rw [decide_eq_true hr] at hcall
    have hs := netSum_right hr
    have hres : ∃ R, R = netSum n := ⟨_, rfl⟩
    obtain ⟨R, hR⟩ := hres
    rw [← hR] at hs ⊢
    have HRR := Lib.hid hR
    have HC := Lib.hid hcall
    clear hR hcall hr
    go_enter Try.func11, Try.ntmps11
    go_wp2_with fail
    refine HC.out.mono ?_
    rintro e w1 ⟨rfl, hb1⟩
    go_wp2_with fail
    go_loopw [3, 11] (fun s i wr => ∃ k m : Nat, i = .int .i64 (k : Int) ∧ s = .int .i64 (m : Int) ∧ k ≤ len ∧ R = m + netSum (n.drop k) ∧ Below w.heap.size w wr) (fun _ i _ => len - (intOf i).toNat)
    case atStart => exact ⟨0, 0, rfl, rfl, Nat.zero_le _, by rw [HRR.out]; simp, hb1⟩
    case round =>
      obtain ⟨k, m, rfl, rfl, hk, hsum, hbl⟩ := hrel
      by_cases hkl : k < len
      · have hh := h.below hbl
        obtain ⟨b, o, rfl⟩ := hh.there (by omega)
        obtain ⟨-, x, cx, y, cy, c0, c1, r0, r1, -, -⟩ := hh.cell b o rfl k hkl
        rw [nt_drop (by omega : k < n.length)] at hsum
        simp only [netSum] at hsum
        have hl0 := r0.most
        have hl1 := r1.most
        generalize (wyAt n k).1.length = p0 at *
        generalize (wyAt n k).2.length = p1 at *
        have HBL := Lib.hid hbl
        have HS := Lib.hid hsum
        have hb0 : m + (p0 + p1) ≤ 64 := by omega
        clear hh h hbl r0 r1 hsum hb1 HC
        have hsz := HBL.out.size
        go_wp2_with fail
        exact ⟨⟨k + 1, m + (p0 + p1), by go_num, by go_num, by omega, by have := HS.out; omega, HBL.out.alloc (by omega) _⟩, by simp [intOf]; omega⟩
      · have hd : n.drop k = [] := List.drop_eq_nil_of_le (by omega)
        rw [hd] at hsum
        have HS := Lib.hid hsum
        have HBL := Lib.hid hbl
        clear h hbl hsum hd
        go_wp2_with fail
        go_ret
        exact ⟨ret_int (by have := HS.out; simp only [netSum] at this; omega), HBL.out⟩
  · rw [if_neg hr]
    rw [decide_eq_false hr] at hcall
    have HC := Lib.hid hcall
    clear hcall hr h
    go_enter Try.func11, Try.ntmps11
    go_wp2_with fail
    refine HC.out.mono ?_
    rintro e w1 ⟨rfl, hb1⟩
    have HB := Lib.hid hb1
    clear hb1
    go_wp2_with fail
    go_ret
    exact ⟨rfl, HB.out⟩
end Go.Proofs.Ythimndilobadeaa
