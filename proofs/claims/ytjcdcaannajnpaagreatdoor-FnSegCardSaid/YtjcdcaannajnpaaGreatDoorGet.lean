/- GetNum, the program's and the model's: both give 'getN'. -/
import Derived.Test.YtjcdcaannajnpaaGreatDoorAs
import Derived.Test.YtjcdcaannajnpaaGreatDoorNum
import Derived.Test.YtjcdcaannajnpaaGreatDoorGetPlain
namespace Go.Proofs.YtjcdcaannajnpaaGreatDoor
open Go.RowKit

/-- A NumOut. -/
abbrev numOut (n a : Int) (c : Nat) : Value := .agg #[.int .i64 n, .int .i64 a, .int .i64 (c : Int)]
abbrev numOutOf (r : Int × Int × Nat) : Value := numOut r.1 r.2.1 r.2.2

set_option maxHeartbeats 1000000 in
set_option maxRecDepth 100000 in
theorem getS_calls (t : List UInt8) (a : Int) (w : World) (hl : t.length ≤ 9223372036854775807) (h1 : -9223372036854775808 ≤ a) (h2 : a ≤ 9223372036854775807) :
    Calls Tryz.prog 72 #[gs t, .int .i64 a] w fun e w' => e = .returned (numOutOf (getN t a)) ∧ Below w.heap.size w w' := by
  by_cases hb : 8000 < t.length
  · have HN := Lib.hid (getN_big (a := a) hb)
    go_enter Tryz.func72, Tryz.ntmps72
    go_wp2
    go_returns
    exact ⟨by rw [HN.out]; rfl, by go_grown⟩
  · by_cases hn : a < 0
    · have HN := Lib.hid (getN_neg hb hn)
      go_enter Tryz.func72, Tryz.ntmps72
      go_wp2
      go_returns
      exact ⟨by rw [HN.out]; rfl, by go_grown⟩
    · obtain ⟨a, rfl⟩ := Int.eq_ofNat_of_zero_le (show 0 ≤ a by omega)
      clear hn
      go_enter Tryz.func72, Tryz.ntmps72
      go_wp2
      go_loop [5, 6] (fun u i => ∃ j q : Nat, i = .int .i64 (j : Int) ∧ u = .int .u64 (q : Int) ∧ GetAt t a j q) (fun u i => 10 - (intOf i).toNat)
      case atStart => exact ⟨0, 0, rfl, rfl, GetAt.start t a⟩
      case round =>
        obtain ⟨j, q, rfl, rfl, hj⟩ := hrel
        have hj10 := hj.1
        have HJ := Lib.hid hj; clear hj
        by_cases hj9 : j < 10
        · by_cases hs : t.length ≤ a + j
          · have HN := Lib.hid (HJ.out.short hb hj9 hs)
            go_wp2
            go_returns
            exact ⟨by rw [HN.out]; rfl, by go_grown⟩
          · have hlt : a + j < t.length := by omega
            obtain ⟨c, hc⟩ : ∃ c : UInt8, c = t[a + j] := ⟨_, rfl⟩
            have hc' : ((⟨t.toArray⟩ : ByteArray)[a + j]'(by simpa [ByteArray.size] using hlt)) = c := by rw [hc]; rfl
            have hcl : (c.toNat : Int) < 256 := by have := c.toNat_lt; omega
            have HC := Lib.hid hc; clear hc
            rcases Nat.lt_or_ge c.toNat 128 with h128 | h128
            · by_cases hw : (j = 9 ∧ 1 < c.toNat) ∨ (c.toNat = 0 ∧ 0 < j)
              · have HN := Lib.hid (HJ.out.wrong hb hj9 hlt (by rw [← HC.out]; exact hw))
                rcases hw with ⟨rfl, g⟩ | ⟨g, g0⟩
                · go_wp2
                  go_returns
                  exact ⟨by rw [HN.out]; rfl, by go_grown⟩
                · have g1 : (c.toNat : Int) ≤ 0 := by omega
                  have g2 : ((c.toNat : Int) == 0) = true := by simp; omega
                  clear g
                  by_cases h9 : j = 9
                  · subst h9
                    go_wp2
                    go_returns
                    exact ⟨by rw [HN.out]; rfl, by go_grown⟩
                  · have h9' : j < 9 := by omega
                    clear h9
                    go_wp2
                    go_returns
                    exact ⟨by rw [HN.out]; rfl, by go_grown⟩
              · have hn := HJ.out.last hb hj9 hlt (by rw [← HC.out]; exact h128) (by rw [← HC.out]; omega) (by rw [← HC.out]; omega)
                rw [← HC.out] at hn
                have hsm := (get_small HJ.out.2.1 hj9 (c := c.toNat) (by omega)).2
                have hwr := shift_in hsm
                generalize q + c.toNat % 128 * 128 ^ j = x at hn hsm hwr
                have HN := Lib.hid hn; clear hn
                have h0 : 0 < j → 1 ≤ (c.toNat : Int) := by omega
                by_cases h9 : j = 9
                · subst h9
                  have hc1 : (c.toNat : Int) ≤ 1 := by omega
                  have hw9 := shift_nine hwr (by omega)
                  clear hw hwr
                  rcases Nat.mod_two_eq_zero_or_one x with hp | hp
                  · have hp' : (x : Int) % 2 = 0 := by omega
                    have HU := Lib.hid (unfold_even hp)
                    clear hp
                    go_wp2
                    all_goals go_returns
                    all_goals exact ⟨by rw [HN.out, HU.out]; rfl, by go_grown⟩
                  · have hp' : (x : Int) % 2 = 1 := by omega
                    have HU := Lib.hid (unfold_odd hp)
                    clear hp
                    go_wp2
                    all_goals go_returns
                    all_goals exact ⟨by rw [HN.out, HU.out]; rfl, by go_grown⟩
                · have h9' : j < 9 := by omega
                  clear h9 hw
                  rcases Nat.mod_two_eq_zero_or_one x with hp | hp
                  · have hp' : (x : Int) % 2 = 0 := by omega
                    have HU := Lib.hid (unfold_even hp)
                    clear hp
                    go_wp2
                    all_goals go_returns
                    all_goals exact ⟨by rw [HN.out, HU.out]; rfl, by go_grown⟩
                  · have hp' : (x : Int) % 2 = 1 := by omega
                    have HU := Lib.hid (unfold_odd hp)
                    clear hp
                    go_wp2
                    all_goals go_returns
                    all_goals exact ⟨by rw [HN.out, HU.out]; rfl, by go_grown⟩
            · by_cases h9 : j = 9
              · subst h9
                have HN := Lib.hid (HJ.out.wrong hb hj9 hlt (.inl ⟨rfl, by rw [← HC.out]; omega⟩))
                go_wp2
                go_returns
                exact ⟨by rw [HN.out]; rfl, by go_grown⟩
              · have HX := Lib.hid (HJ.out.next hj9 hlt (by rw [← HC.out]; omega) h9)
                have h9' : j < 9 := by omega
                clear h9
                have HW := Lib.hid (shift_in (get_small HJ.out.2.1 hj9 (c := c.toNat) (by omega)).2)
                go_wp2
                exact ⟨⟨j + 1, _, by go_num, val_int HW.out, by rw [HC.out]; exact HX.out⟩, by simp [intOf]; omega⟩
        · obtain rfl : j = 10 := by omega
          have HN := Lib.hid (HJ.out.over hb)
          go_wp2
          go_returns
          exact ⟨by rw [HN.out]; rfl, by go_grown⟩
end Go.Proofs.YtjcdcaannajnpaaGreatDoor
