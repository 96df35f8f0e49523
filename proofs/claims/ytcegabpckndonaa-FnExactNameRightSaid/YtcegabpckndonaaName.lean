/- NameRight, the program's and the model's. -/
import Derived.Test.YtcegabpckndonaaRows
import Derived.Test.YtcegabpckndonaaBase
namespace Go.Proofs.Ytcegabpckndonaa
open Go.RowKit

def letB (c : UInt8) : Bool := decide (97 ≤ c.toNat) && decide (c.toNat ≤ 122)
def nmB (c : UInt8) : Bool := letB c || (decide (48 ≤ c.toNat) && decide (c.toNat ≤ 57)) || decide (c.toNat = 95)
def okAt (j : Nat) (c : UInt8) : Bool := if j = 0 then letB c else nmB c
/-- The first k bytes are fit for their places. -/
def okTo (t : List UInt8) (k : Nat) : Prop := ∀ j (h : j < t.length), j < k → okAt j t[j] = true
def nameR (t : List UInt8) : Prop := 1 ≤ t.length ∧ t.length ≤ 20 ∧ okTo t t.length
/-- What NameRight answers. -/
def SomeName (t : List UInt8) (w : World) (e : Ending) (w' : World) : Prop := (∃ b : Bool, e = .returned (.bool b) ∧ (b = true ↔ nameR t)) ∧ w = w'

theorem nameNo {t : List UInt8} {w : World} (h : ¬ nameR t) : SomeName t w (.returned (.bool false)) w := ⟨⟨false, rfl, by simp [h]⟩, rfl⟩
theorem nameYes {t : List UInt8} {w : World} (h : nameR t) : SomeName t w (.returned (.bool true)) w := ⟨⟨true, rfl, by simp [h]⟩, rfl⟩
theorem okTo_zero (t : List UInt8) : okTo t 0 := fun j _ h => by omega
theorem okTo_succ {t : List UInt8} {k : Nat} (h : okTo t k) (hk : k < t.length) (hc : okAt k t[k] = true) : okTo t (k + 1) := fun j hj hlt => by
  by_cases e : j = k
  · subst e; exact hc
  · exact h j hj (by omega)
theorem okTo_bad {t : List UInt8} {k : Nat} (hk : k < t.length) (hc : okAt k t[k] = false) : ¬ nameR t := fun h => by
  have := h.2.2 k hk hk
  rw [hc] at this; cases this

theorem let_yes {c : UInt8} (h1 : (97 : Int) ≤ (c.toNat : Int)) (h2 : (c.toNat : Int) ≤ 122) : letB c = true := by simp [letB]; omega
theorem let_no {c : UInt8} (h : (c.toNat : Int) < 97 ∨ 122 < (c.toNat : Int)) : letB c = false := by simp [letB]; omega
theorem letB_hi {c : UInt8} (h : (97 : Int) ≤ (c.toNat : Int)) : letB c = decide ((c.toNat : Int) ≤ 122) := by rw [Bool.eq_iff_iff]; simp [letB]; omega
theorem nm_let {c : UInt8} (h : letB c = true) : nmB c = true := by simp [nmB, h]
theorem nm_dig {c : UInt8} (h1 : (48 : Int) ≤ (c.toNat : Int)) (h2 : (c.toNat : Int) ≤ 57) : nmB c = true := by simp [nmB, letB]; omega
theorem nm_low {c : UInt8} (h1 : (95 : Int) ≤ (c.toNat : Int)) (h2 : (c.toNat : Int) ≤ 95) : nmB c = true := by simp [nmB, letB]; omega
theorem nm_no {c : UInt8} (h : (c.toNat : Int) < 48 ∨ (57 < (c.toNat : Int) ∧ (c.toNat : Int) < 95) ∨ (95 < (c.toNat : Int) ∧ (c.toNat : Int) < 97) ∨ 122 < (c.toNat : Int)) : nmB c = false := by
  simp [nmB, letB]; omega
theorem okAt_zero (c : UInt8) : okAt 0 c = letB c := by simp [okAt]
theorem okAt_pos {k : Nat} (h : 0 < k) (c : UInt8) : okAt k c = nmB c := by simp [okAt]; omega

/-- All ways in which a byte stands to the tests. -/
theorem byte_ways (c : UInt8) : ((97 : Int) ≤ (c.toNat : Int) ∧ (c.toNat : Int) ≤ 122) ∨ ((48 : Int) ≤ (c.toNat : Int) ∧ (c.toNat : Int) ≤ 57) ∨ ((95 : Int) ≤ (c.toNat : Int) ∧ (c.toNat : Int) ≤ 95) ∨
    (c.toNat : Int) < 48 ∨ (57 < (c.toNat : Int) ∧ (c.toNat : Int) < 95) ∨ (95 < (c.toNat : Int) ∧ (c.toNat : Int) < 97) ∨ 122 < (c.toNat : Int) := by omega
theorem nm_of_ways (c : UInt8) (h : letB c = true ∨ nmB c = true) : nmB c = true := by rcases h with h | h; exact nm_let h; exact h

set_option maxHeartbeats 1000000 in
set_option maxRecDepth 100000 in
theorem nameS_calls (t : List UInt8) (w : World) (hl : t.length ≤ 9223372036854775807) :
    Calls Try.prog 13 #[gs t] w (SomeName t w) := by
  go_enter Try.func13, Try.ntmps13
  by_cases h1 : t.length < 1
  · go_wp2
    go_ret
    exact nameNo (fun h => by have := h.1; omega)
  · by_cases h2 : 20 < t.length
    · go_wp2
      go_ret
      exact nameNo (fun h => by have := h.2.1; omega)
    · go_wp2
      go_loop [3, 4] (fun i c => ∃ k : Nat, i = .int .i64 (k : Int) ∧ k ≤ t.length ∧ okTo t k) (fun i c => t.length - (intOf i).toNat)
      case atStart => exact ⟨0, rfl, Nat.zero_le _, okTo_zero t⟩
      case round =>
        obtain ⟨k, rfl, hk, hok⟩ := hrel
        by_cases hkl : k < t.length
        · obtain ⟨c, hc⟩ : ∃ c : UInt8, c = t[k] := ⟨_, rfl⟩
          have hc' : ((⟨t.toArray⟩ : ByteArray)[k]'(by simpa [ByteArray.size] using hkl)) = c := by rw [hc]; rfl
          have HC := Lib.hid hc; clear hc
          have hstep : okAt k c = true → okTo t (k + 1) := fun h => okTo_succ hok hkl (by rw [← HC.out]; exact h)
          have hbad : okAt k c = false → ¬ nameR t := fun h => okTo_bad hkl (by rw [← HC.out]; exact h)
          have HS := Lib.hid hstep
          have HB := Lib.hid hbad
          clear hstep hbad hok
          rcases Nat.eq_zero_or_pos k with h0 | h0
          · subst h0
            rcases byte_ways c with ⟨g1, g2⟩ | ⟨g1, g2⟩ | ⟨g1, g2⟩ | g | ⟨g1, g2⟩ | ⟨g1, g2⟩ | g
            all_goals go_wp2
            all_goals first
              | (go_ret; exact nameNo (HB.out (by rw [okAt_zero]; exact let_no (by omega))))
              | (exfalso; have hx : (!decide ((c.toNat : Int) ≤ 122)) = false := by assumption
                 simp at hx; omega)
              | exact ⟨⟨1, rfl, by omega, HS.out (by rw [okAt_zero]; exact let_yes (by omega) (by omega))⟩, by simp [intOf]; omega⟩
          · have hk0 : ((k : Int) == 0) = false := by simp; omega
            rcases byte_ways c with ⟨g1, g2⟩ | ⟨g1, g2⟩ | ⟨g1, g2⟩ | g | ⟨g1, g2⟩ | ⟨g1, g2⟩ | g
            all_goals go_wp2
            all_goals first
              | (go_ret; exact nameNo (HB.out (by rw [okAt_pos h0]; exact nm_no (by omega))))
              | (exfalso; have hx : (!decide ((c.toNat : Int) ≤ 57)) = false ∨ ((c.toNat : Int) != 95) = false := by assumption
                 simp at hx; omega)
              | (exfalso; have hx : (!decide ((c.toNat : Int) ≤ 122)) = false ∨ (!decide ((c.toNat : Int) ≤ 57)) = false ∨ ((c.toNat : Int) != 95) = false := by assumption
                 simp at hx; omega)
              | exact ⟨⟨k + 1, by go_num, by omega, HS.out (by rw [okAt_pos h0]; exact nm_let (let_yes (by assumption) (by assumption)))⟩, by simp [intOf]; omega⟩
              | exact ⟨⟨k + 1, by go_num, by omega, HS.out (by rw [okAt_pos h0]; exact nm_dig (by assumption) (by assumption))⟩, by simp [intOf]; omega⟩
              | exact ⟨⟨k + 1, by go_num, by omega, HS.out (by rw [okAt_pos h0]; exact nm_low (by assumption) (by assumption))⟩, by simp [intOf]; omega⟩
              | (exfalso; have hx : (!decide ((c.toNat : Int) ≤ 57)) = true ∧ ((c.toNat : Int) != 95) = true := by assumption
                 simp at hx; omega)
        · go_wp2
          go_ret
          have : k = t.length := by omega
          subst this
          exact nameYes ⟨by omega, by omega, hok⟩

theorem letter_calls (c : UInt8) (w : World) : Calls Try.prog 24 #[.int .u8 (c.toNat : Int)] w fun e w' => e = .returned (.bool (letB c)) ∧ w = w' := by
  have hb := c.toNat_lt
  rcases Nat.lt_or_ge c.toNat 97 with h | h
  · have hv : letB c = false := let_no (by omega)
    have HV := Lib.hid hv; clear hv
    have h' : (c.toNat : Int) < 97 := by omega
    go_enter Try.func24, Try.ntmps24
    go_wp2
    go_ret
    exact ⟨by rw [HV.out]; rfl, rfl⟩
  · have h' : (97 : Int) ≤ (c.toNat : Int) := by omega
    have hv := letB_hi h'
    have HV := Lib.hid hv; clear hv
    go_enter Try.func24, Try.ntmps24
    go_wp2
    all_goals go_ret
    all_goals exact ⟨by rw [HV.out]; rfl, rfl⟩

theorem nameByte_calls (c : UInt8) (w : World) : Calls Try.prog 25 #[.int .u8 (c.toNat : Int)] w fun e w' => e = .returned (.bool (nmB c)) ∧ w = w' := by
  have hb := c.toNat_lt
  cases hl : letB c with
  | true =>
    have HV := Lib.hid (nm_let hl)
    have hlc := letter_calls c
    rw [hl] at hlc
    have HL := Lib.hid hlc; clear hlc hl
    go_enter Try.func25, Try.ntmps25
    go_wp2_with (go_at_call 24; refine (HL.out _).mono ?_; rintro e w1 ⟨rfl, rfl⟩)
    all_goals go_ret
    all_goals exact ⟨by rw [HV.out]; rfl, rfl⟩
  | false =>
    have hlc := letter_calls c
    rw [hl] at hlc
    have HL := Lib.hid hlc; clear hlc
    have hn : nmB c = ((decide (48 ≤ c.toNat) && decide (c.toNat ≤ 57)) || decide (c.toNat = 95)) := by simp [nmB, hl]
    have HN := Lib.hid hn; clear hn hl
    rcases (by omega : (48 : Int) ≤ (c.toNat : Int) ∨ (c.toNat : Int) < 48) with g | g
    all_goals
      go_enter Try.func25, Try.ntmps25
      go_wp2_with (go_at_call 24; refine (HL.out _).mono ?_; rintro e w1 ⟨rfl, rfl⟩)
    all_goals go_ret
    all_goals exact ⟨ret_bool (by rw [HN.out, Bool.eq_iff_iff]; simp; omega), rfl⟩

set_option maxHeartbeats 1000000 in
set_option maxRecDepth 100000 in
theorem nameI_calls (t : List UInt8) (w : World) (hl : t.length ≤ 9223372036854775807) :
    Calls Try.prog 14 #[gs t] w (SomeName t w) := by
  by_cases h1 : t.length < 1
  · go_enter Try.func14, Try.ntmps14
    go_wp2_with fail
    go_ret
    exact nameNo (fun h => by have := h.1; omega)
  · by_cases h2 : 20 < t.length
    · go_enter Try.func14, Try.ntmps14
      go_wp2_with fail
      go_ret
      exact nameNo (fun h => by have := h.2.1; omega)
    · have h0 : 0 < t.length := by omega
      obtain ⟨c, hc⟩ : ∃ c : UInt8, c = t[0] := ⟨_, rfl⟩
      have hc' : ((⟨t.toArray⟩ : ByteArray)[0]'(by simpa [ByteArray.size] using h0)) = c := by rw [hc]; rfl
      cases hlc : letB c with
      | false =>
        have hb : ¬ nameR t := okTo_bad h0 (by rw [← hc, okAt_zero]; exact hlc)
        have HB := Lib.hid hb; clear hb hc
        have hcall := letter_calls c
        rw [hlc] at hcall
        have HL := Lib.hid hcall; clear hcall hlc
        go_enter Try.func14, Try.ntmps14
        go_wp2_with (go_at_call 24; refine (HL.out _).mono ?_; rintro e w1 ⟨rfl, rfl⟩)
        go_ret
        exact nameNo HB.out
      | true =>
        have hok : okTo t 1 := okTo_succ (okTo_zero t) h0 (by rw [← hc, okAt_zero]; exact hlc)
        have hcall := letter_calls c
        rw [hlc] at hcall
        have HL := Lib.hid hcall; clear hcall hlc hc
        go_enter Try.func14, Try.ntmps14
        go_wp2_with (go_at_call 24; refine (HL.out _).mono ?_; rintro e w1 ⟨rfl, rfl⟩)
        clear hc'
        go_loop [3] (fun i => ∃ k : Nat, i = .int .i64 (k : Int) ∧ 1 ≤ k ∧ k ≤ t.length ∧ okTo t k) (fun i => t.length - (intOf i).toNat)
        case atStart => exact ⟨1, rfl, by omega, by omega, hok⟩
        case round =>
          clear hok
          obtain ⟨k, rfl, hk1, hk, hok⟩ := hrel
          by_cases hkl : k < t.length
          · obtain ⟨c, hc⟩ : ∃ c : UInt8, c = t[k] := ⟨_, rfl⟩
            have hc' : ((⟨t.toArray⟩ : ByteArray)[k]'(by simpa [ByteArray.size] using hkl)) = c := by rw [hc]; rfl
            cases hn : nmB c with
            | true =>
              have hs := okTo_succ hok hkl (by rw [← hc, okAt_pos hk1]; exact hn)
              have hcall := nameByte_calls c
              rw [hn] at hcall
              have HC := Lib.hid hcall; clear hcall hc hn hok
              go_wp2_with (go_at_call 25; refine (HC.out _).mono ?_; rintro e w1 ⟨rfl, rfl⟩)
              go_round
              case rel => exact ⟨k + 1, by go_num, by omega, by omega, hs⟩
              case measure => simp [intOf]; omega
            | false =>
              have hb : ¬ nameR t := okTo_bad hkl (by rw [← hc, okAt_pos hk1]; exact hn)
              have HB := Lib.hid hb; clear hb
              have hcall := nameByte_calls c
              rw [hn] at hcall
              have HC := Lib.hid hcall; clear hcall hc hn hok
              go_wp2_with (go_at_call 25; refine (HC.out _).mono ?_; rintro e w1 ⟨rfl, rfl⟩)
              go_ret
              exact nameNo HB.out
          · go_wp2_with fail
            go_ret
            have : k = t.length := by omega
            subst this
            exact nameYes ⟨by omega, by omega, hok⟩
end Go.Proofs.Ytcegabpckndonaa
