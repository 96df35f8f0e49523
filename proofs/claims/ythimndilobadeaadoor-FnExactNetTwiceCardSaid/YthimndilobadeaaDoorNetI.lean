/- The program's openRing and openRingAt: the ring that is asked for, or what is wrong. -/
import Derived.Test.YthimndilobadeaaDoorAs
import Derived.Test.YthimndilobadeaaDoorNetR
import Derived.Test.YthimndilobadeaaDoorWays
import Derived.Test.YthimndilobadeaaDoorNetOut
import Derived.Test.YthimndilobadeaaDoorNetDef
import Derived.OwnWalk
namespace Go.Proofs.YthimndilobadeaaDoor
open Go.RowKit

theorem RoadsTo.ring {w : World} {g len p : Nat} {n : Nt} (h : RoadsTo w g len n) (hp : p < len) (back : Bool) : ∃ f, RingAt w g (ringO p back) f (lst (wyAt n p) back) := by
  obtain ⟨h1, h2⟩ := h p hp
  cases back
  · exact h1
  · exact h2
theorem dirI_calls (back : Bool) (w : World) : Calls Tryd.prog 47 #[.bool back] w fun e w' => e = .returned (.int .i64 (if back then 1 else 0)) ∧ w' = w := by
  cases back <;> (go_enter Tryd.func47, Tryd.ntmps47; go_wp2; go_ret; exact ⟨rfl, rfl⟩)

/-- What openRing says. -/
def Opened (w : World) (len : Nat) (n : Nt) (path : Int) (back : Bool) (c : Nat) (e : Ending) (w' : World) : Prop :=
  (c ≠ 0 ∧ e = .returned (.tuple #[.slice none 0 0, .pointer none, faultV c]) ∧ Below w.heap.size w w') ∨
  (c = 0 ∧ ∃ g, e = .returned (.tuple #[.slice (some ⟨g, 0, none⟩) len len, .pointer (some ⟨g, ringO path.toNat back, none⟩), .nilIface]) ∧ RoadsTo w' g len n ∧ w.heap.size ≤ g ∧ g < w'.heap.size ∧ Below w.heap.size w w')

set_option maxHeartbeats 2000000 in
set_option maxRecDepth 100000 in
theorem openRing_calls {S : Nat → Prop} {a : Option Addr} {len cap : Nat} {n : Nt} {w : World} (h : InNet S w a len n) (path : Int) (h1 : -9223372036854775808 ≤ path) (h2 : path ≤ 9223372036854775807) (back : Bool) :
    Calls Tryd.prog 36 #[.slice a len cap, .int .i64 path, .bool back] w (Opened w len n path back (openC n path)) := by
  have hm := h.most
  have hlen := h.long
  by_cases hbig : (len : Int) > 400
  · have hc : openC n path = 2 := by unfold openC; rw [if_pos (by omega)]
    rw [hc]
    clear h
    go_enter Tryd.func36, Tryd.ntmps36
    go_wp2_with fail
    go_ret3
    exact .inl ⟨by omega, rfl, Below.refl _ _⟩
  · have hcall := netRightI_calls (cap := cap) h
    by_cases hr : netRight n
    · rw [decide_eq_true hr] at hcall
      have HC := Lib.hid hcall
      clear hcall
      by_cases hp : path < 0 ∨ (len : Int) ≤ path
      · have hc : openC n path = 6 := by unfold openC; rw [if_neg (by omega), if_neg (by simpa using hr), if_pos (by omega)]
        rw [hc]
        clear h hr hc
        by_cases hp0 : path < 0
        · go_enter Tryd.func36, Tryd.ntmps36
          go_wp2_with fail
          refine HC.out.mono ?_
          rintro e w1 ⟨rfl, hb1⟩
          have HB := Lib.hid hb1
          clear hb1 HC
          go_wp2_with fail
          go_ret3
          exact .inl ⟨by omega, rfl, HB.out⟩
        · have hp1 : path ≥ (len : Int) := by omega
          go_enter Tryd.func36, Tryd.ntmps36
          go_wp2_with fail
          refine HC.out.mono ?_
          rintro e w1 ⟨rfl, hb1⟩
          have HB := Lib.hid hb1
          clear hb1 HC
          go_wp2_with fail
          go_ret3
          exact .inl ⟨by omega, rfl, HB.out⟩
      · have hc : openC n path = 0 := by unfold openC; rw [if_neg (by omega), if_neg (by simpa using hr), if_neg (by omega)]
        rw [hc]
        obtain ⟨k, rfl⟩ : ∃ k : Nat, path = (k : Int) := ⟨path.toNat, by omega⟩
        have hp0 : ¬ (k : Int) < 0 := by omega
        have hp1 : ¬ (k : Int) ≥ (len : Int) := by omega
        have hp2 : (k : Int) < (len : Int) := by omega
        have hcall := fun (W : World) (hb : Below w.heap.size w W) => roadsOf_calls (cap := cap) (h.below hb) hr
        have hdir := fun W => dirI_calls back W
        have H2 := Lib.hid hcall
        have HD := Lib.hid hdir
        clear h hr hc hp hcall hdir
        go_enter Tryd.func36, Tryd.ntmps36
        go_wp2_with fail
        refine HC.out.mono ?_
        rintro e w1 ⟨rfl, hb1⟩
        have HB := Lib.hid hb1
        clear hb1 HC
        go_wp2_with fail
        refine (H2.out _ HB.out).mono ?_
        rintro e w2 ⟨g, rfl, hrd, hg1, hg2, hb2⟩
        have HR := Lib.hid hrd
        have HB2 := Lib.hid (HB.out.trans (hb2.mono HB.out.size))
        have hs := HB.out.size
        clear hrd hb2 HB H2
        cases back
        all_goals
          go_wp2_with fail
          go_quiet ((go_at_call 47; exact Calls.quiet_of_same (HD.out _)))
          go_wp2_with fail
          go_ret3
          exact .inr ⟨rfl, g, by simp [ringO], fun i hi => by obtain ⟨⟨f, r1⟩, f', r2⟩ := HR.out i hi; exact ⟨⟨f, r1.drewN _⟩, f', r2.drewN _⟩, by omega, hg2, tx_drewN HB2.out _⟩
    · rw [decide_eq_false hr] at hcall
      have hc : openC n path = 1 := by unfold openC; rw [if_neg (by omega), if_pos hr]
      rw [hc]
      have HC := Lib.hid hcall
      clear h hr hc hcall
      go_enter Tryd.func36, Tryd.ntmps36
      go_wp2_with fail
      refine HC.out.mono ?_
      rintro e w1 ⟨rfl, hb1⟩
      have HB := Lib.hid hb1
      clear hb1 HC
      go_wp2_with fail
      go_ret3
      exact .inl ⟨by omega, rfl, HB.out⟩

set_option maxHeartbeats 2000000 in
set_option maxRecDepth 100000 in
theorem openRingAt_calls {S : Nat → Prop} {a : Option Addr} {len cap : Nat} {n : Nt} {w : World} (h : InNet S w a len n) (path : Int) (h1 : -9223372036854775808 ≤ path) (h2 : path ≤ 9223372036854775807) (back : Bool) (x : Int) :
    Calls Tryd.prog 20 #[.slice a len cap, .int .i64 path, .bool back, .int .i64 x] w (Opened w len n path back (openAtC n path back x)) := by
  have hcall := openRing_calls (cap := cap) h path h1 h2 back
  have hlen := h.long
  by_cases hc : openC n path = 0
  · obtain ⟨-, hr, hp0, hp1⟩ := openC_ok hc
    obtain ⟨k, rfl⟩ : ∃ k : Nat, path = (k : Int) := ⟨path.toNat, by omega⟩
    have hm := fun (W : World) (g : Nat) (hrd : RoadsTo W g len n) => hrd.ring (p := k) (by omega) back
    have hat : openAtC n k back x = if x < 0 ∨ ((lst (wyAt n k) back).length : Int) ≤ x then 6 else 0 := by unfold openAtC; rw [if_neg (by omega)]; rfl
    rw [hc] at hcall
    by_cases hx : x < 0 ∨ ((lst (wyAt n k) back).length : Int) ≤ x
    · rw [hat, if_pos hx]
      have HC := Lib.hid hcall
      have HM := Lib.hid hm
      clear hcall hm hat hc h hr
      by_cases hx0 : x < 0
      · clear hx
        go_enter Tryd.func20, Tryd.ntmps20
        go_wp2_with fail
        refine HC.out.mono ?_
        rintro e w1 (⟨h0, -⟩ | ⟨-, g, rfl, hrd, hg1, hg2, hb1⟩)
        · exact absurd rfl h0
        have HB := Lib.hid hb1
        clear hb1 HC hrd
        go_wp2_with fail
        go_ret3
        exact .inl ⟨by omega, rfl, HB.out⟩
      · have hx1 : x ≥ ((lst (wyAt n k) back).length : Int) := by omega
        clear hx
        go_enter Tryd.func20, Tryd.ntmps20
        go_wp2_with fail
        refine HC.out.mono ?_
        rintro e w1 (⟨h0, -⟩ | ⟨-, g, rfl, hrd, hg1, hg2, hb1⟩)
        · exact absurd rfl h0
        obtain ⟨f, hring⟩ := HM.out _ _ hrd
        have c9 := hring.at9
        simp only [Int.toNat_natCast]
        generalize ringO k back = o at *
        have HB := Lib.hid hb1
        clear hb1 HC hrd hring
        go_wp2_with fail
        go_ret3
        exact .inl ⟨by omega, rfl, HB.out⟩
    · rw [hat, if_neg hx]
      have hx0 : ¬ x < 0 := by omega
      have hx1 : ¬ x ≥ ((lst (wyAt n k) back).length : Int) := by omega
      have HC := Lib.hid hcall
      have HM := Lib.hid hm
      clear hcall hm hat hc h hr hx
      go_enter Tryd.func20, Tryd.ntmps20
      go_wp2_with fail
      refine HC.out.mono ?_
      rintro e w1 (⟨h0, -⟩ | ⟨-, g, rfl, hrd, hg1, hg2, hb1⟩)
      · exact absurd rfl h0
      obtain ⟨f, hring⟩ := HM.out _ _ hrd
      have c9 := hring.at9
      simp only [Int.toNat_natCast]
      have hoe : ∃ o, ringO k back = o := ⟨_, rfl⟩
      obtain ⟨o, ho⟩ := hoe
      rw [ho] at c9 ⊢
      have HO := Lib.hid ho
      have HB := Lib.hid hb1
      have HRD := Lib.hid hrd
      clear hb1 HC hrd hring ho
      go_wp2_with fail
      go_ret3
      exact .inr ⟨rfl, g, by simp [HO.out], HRD.out, hg1, hg2, HB.out⟩
  · have hat : openAtC n path back x = openC n path := by unfold openAtC; rw [if_pos hc]
    rw [hat]
    generalize openC n path = c at *
    have HC := Lib.hid hcall
    clear hcall h hat
    go_enter Tryd.func20, Tryd.ntmps20
    go_wp2_with fail
    refine HC.out.mono ?_
    rintro e w1 (⟨h0, rfl, hb1⟩ | ⟨h0, -⟩)
    · have HB := Lib.hid hb1
      clear hb1 HC
      go_wp2_with fail
      go_ret3
      exact .inl ⟨hc, rfl, HB.out⟩
    · exact absurd h0 hc
end Go.Proofs.YthimndilobadeaaDoor
