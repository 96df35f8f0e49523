/- The CRC, the program's and the model's. -/
import Derived.Test.YtjcdcaannajnpaaGreatDoorRows
import Derived.Test.YtjcdcaannajnpaaGreatDoorBase
import Derived.Test.YtjcdcaannajnpaaGreatDoorCrcPlain
namespace Go.Proofs.YtjcdcaannajnpaaGreatDoor
open Go.RowKit

set_option maxHeartbeats 1000000 in
set_option maxRecDepth 100000 in
theorem crcS_calls (crc : Nat) (t : List UInt8) (w : World) (hl : t.length ≤ 9223372036854775807) (hc : crc < 4294967296) :
    Calls Tryz.prog 62 #[.int .i64 (crc : Int), gs t] w fun e w' => e = .returned (.int .i64 (crcOn crc t : Int)) ∧ w = w' := by
  have ho := ones_in hc
  go_enter Tryz.func62, Tryz.ntmps62
  go_wp2
  go_loop [5, 6] (fun r i => ∃ k : Nat, i = .int .i64 (k : Int) ∧ k ≤ t.length ∧ r = .int .u32 (crcFold (flip crc) (t.take k) : Int)) (fun r i => t.length - (intOf i).toNat)
  case atStart => exact ⟨0, rfl, Nat.zero_le _, rfl⟩
  case round =>
    obtain ⟨k, rfl, hk, rfl⟩ := hrel
    have hlt := crcFold_lt (t.take k) (flip_lt crc)
    by_cases hkl : k < t.length
    · have ht := crcFold_take (r := flip crc) hkl
      have HT := Lib.hid ht; clear ht
      obtain ⟨c, hc⟩ : ∃ c : UInt8, c = t[k] := ⟨_, rfl⟩
      have hc' : ((⟨t.toArray⟩ : ByteArray)[k]'(by simpa [ByteArray.size] using hkl)) = c := by rw [hc]; rfl
      have HC := Lib.hid hc; clear hc
      generalize hre : crcFold (flip crc) (List.take k t) = r at *
      have HR := Lib.hid hre; clear hre
      have hcl : (c.toNat : Int) < 256 := by have := c.toNat_lt; omega
      have hb := byte_in hlt c
      have hlt2 := xor_lt32 hlt (show c.toNat < 4294967296 by have := c.toNat_lt; omega)
      go_wp2
      go_loop [5, 7] (fun q j => ∃ m : Nat, j = .int .i64 (m : Int) ∧ m ≤ 8 ∧ q = .int .u32 (crcSteps m (r ^^^ c.toNat) : Int)) (fun q j => 8 - (intOf j).toNat)
      case atStart => exact ⟨0, rfl, by omega, rfl⟩
      case round =>
        obtain ⟨m, rfl, hm, rfl⟩ := hrel
        have hs := crcSteps_succ m (r ^^^ c.toNat)
        have hq := crcSteps_lt m hlt2
        have HS := Lib.hid hs; clear hs
        clear hb
        generalize hqe : crcSteps m (r ^^^ c.toNat) = q at *
        have HQ := Lib.hid hqe; clear hqe
        by_cases hm8 : m < 8
        · rcases Nat.mod_two_eq_zero_or_one q with hp | hp
          · have h1 := and_one_even hq hp
            have hst := step_even hp
            have HP := Lib.hid hst; clear hst hp
            go_wp2
            go_round
            case rel => exact ⟨m + 1, by go_num, by omega, val_int (by rw [HP.out, HS.out])⟩
            case measure => simp [intOf]; omega
          · have h1 := and_one_odd hq hp
            have hst := step_odd hq hp
            have HP := Lib.hid hst; clear hst hp
            go_wp2
            go_round
            case rel => exact ⟨m + 1, by go_num, by omega, val_int (by rw [HP.out, HS.out])⟩
            case measure => simp [intOf]; omega
        · obtain rfl : m = 8 := by omega
          go_wp2
          go_round
          case rel => exact ⟨k + 1, by go_num, by omega, val_int (by rw [HT.out, ← HC.out, ← HQ.out]; rfl)⟩
          case measure => simp [intOf]; omega
    · have ho2 := ones_in hlt
      have hf := flip_lt (crcFold (flip crc) (t.take k))
      have hk' : k = t.length := by omega
      have HK := Lib.hid hk'; clear hk'
      go_wp2
      go_ret
      exact ⟨ret_int (by rw [HK.out, List.take_length]; rfl), rfl⟩

theorem not_in {r : Nat} (h : r < 4294967296) : bits .xor .u32 IntKind.u32.max (r : Int) = (flip r : Int) := by
  rw [not_u32 _ (by omega) (by omega)]; unfold flip; omega

set_option maxHeartbeats 1000000 in
set_option maxRecDepth 100000 in
theorem crcByte_calls (r : Nat) (c : UInt8) (w : World) (hr : r < 4294967296) :
    Calls Tryz.prog 88 #[.int .u32 (r : Int), .int .u8 (c.toNat : Int)] w fun e w' => e = .returned (.int .u32 (crcByteN r c : Int)) ∧ w = w' := by
  have hcl : (c.toNat : Int) < 256 := by have := c.toNat_lt; omega
  have hb := byte_in hr c
  have hlt2 := xor_lt32 hr (show c.toNat < 4294967296 by have := c.toNat_lt; omega)
  go_enter Tryz.func88, Tryz.ntmps88
  go_wp2
  go_loop [0, 10] (fun q j => ∃ m : Nat, j = .int .i64 (m : Int) ∧ m ≤ 8 ∧ q = .int .u32 (crcSteps m (r ^^^ c.toNat) : Int)) (fun q j => 8 - (intOf j).toNat)
  case atStart => exact ⟨0, rfl, by omega, rfl⟩
  case round =>
    obtain ⟨m, rfl, hm, rfl⟩ := hrel
    have hs := crcSteps_succ m (r ^^^ c.toNat)
    have hq := crcSteps_lt m hlt2
    have HS := Lib.hid hs; clear hs
    clear hb
    generalize hqe : crcSteps m (r ^^^ c.toNat) = q at *
    have HQ := Lib.hid hqe; clear hqe
    by_cases hm8 : m < 8
    · rcases Nat.mod_two_eq_zero_or_one q with hp | hp
      · have hst := step_even hp
        have HP := Lib.hid hst; clear hst
        have h1 : ((q : Int) % 2) = 0 := by omega
        clear hp
        go_wp2
        go_round
        case rel => exact ⟨m + 1, by go_num, by omega, val_int (by rw [HP.out, HS.out])⟩
        case measure => simp [intOf]; omega
      · have hst := step_odd hq hp
        have HP := Lib.hid hst; clear hst
        have h1 : ((q : Int) % 2) = 1 := by omega
        clear hp
        go_wp2
        go_round
        case rel => exact ⟨m + 1, by go_num, by omega, val_int (by rw [HP.out, HS.out])⟩
        case measure => simp [intOf]; omega
    · obtain rfl : m = 8 := by omega
      go_wp2
      go_ret
      exact ⟨ret_int (by rw [← HQ.out]; rfl), rfl⟩

set_option maxHeartbeats 1000000 in
set_option maxRecDepth 100000 in
theorem crcMoreI_calls (crc : Int) (t : List UInt8) (w : World) (hl : t.length ≤ 9223372036854775807) (h1 : -9223372036854775808 ≤ crc) (h2 : crc ≤ 9223372036854775807) :
    Calls Tryz.prog 84 #[.int .i64 crc, gs t] w fun e w' => e = .returned (.int .i64 (crcMoreN crc t : Int)) ∧ w = w' := by
  by_cases ha : 8000 < t.length
  · have HN := Lib.hid (crcMoreN_no (crc := crc) (.inl ha))
    go_enter Tryz.func84, Tryz.ntmps84
    go_wp2_with fail
    go_ret
    exact ⟨by rw [HN.out]; rfl, rfl⟩
  · by_cases hb : crc < 0
    · have HN := Lib.hid (crcMoreN_no (t := t) (.inr (.inl hb)))
      go_enter Tryz.func84, Tryz.ntmps84
      go_wp2_with fail
      go_ret
      exact ⟨by rw [HN.out]; rfl, rfl⟩
    · by_cases hc : 4294967295 < crc
      · have HN := Lib.hid (crcMoreN_no (t := t) (.inr (.inr hc)))
        go_enter Tryz.func84, Tryz.ntmps84
        go_wp2_with fail
        go_ret
        exact ⟨by rw [HN.out]; rfl, rfl⟩
      · obtain ⟨n, rfl⟩ := Int.eq_ofNat_of_zero_le (show 0 ≤ crc by omega)
        have hn : n < 4294967296 := by omega
        have HN := Lib.hid (crcMoreN_yes (t := t) (crc := n) (by omega) hn)
        have ho := not_in hn
        have hfl := flip_lt n
        go_enter Tryz.func84, Tryz.ntmps84
        go_wp2_with fail
        clear ho
        go_loop [5, 6] (fun r i => ∃ k : Nat, i = .int .i64 (k : Int) ∧ k ≤ t.length ∧ r = .int .u32 (crcFold (flip n) (t.take k) : Int)) (fun r i => t.length - (intOf i).toNat)
        case atStart => exact ⟨0, rfl, Nat.zero_le _, rfl⟩
        case round =>
          obtain ⟨k, rfl, hk, rfl⟩ := hrel
          have hlt := crcFold_lt (t.take k) (flip_lt n)
          by_cases hkl : k < t.length
          · have ht := crcFold_take (r := flip n) hkl
            have HT := Lib.hid ht; clear ht
            obtain ⟨c, hc⟩ : ∃ c : UInt8, c = t[k] := ⟨_, rfl⟩
            have hc' : ((⟨t.toArray⟩ : ByteArray)[k]'(by simpa [ByteArray.size] using hkl)) = c := by rw [hc]; rfl
            have HC := Lib.hid hc; clear hc
            generalize hre : crcFold (flip n) (List.take k t) = r at *
            have HR := Lib.hid hre; clear hre
            go_wp2_with (go_at_call 88; refine (crcByte_calls _ _ _ hlt).mono ?_; rintro e w1 ⟨rfl, rfl⟩)
            go_round
            case rel => exact ⟨k + 1, by go_num, by omega, val_int (by rw [HT.out, ← HC.out])⟩
            case measure => simp [intOf]; omega
          · have ho2 := not_in hlt
            have hf := flip_lt (crcFold (flip n) (t.take k))
            have hk' : k = t.length := by omega
            have HK := Lib.hid hk'; clear hk'
            go_wp2_with fail
            go_ret
            exact ⟨ret_int (by rw [HN.out, HK.out, List.take_length]; rfl), rfl⟩


theorem crcN_big {t : List UInt8} (h : 8000 < t.length) : crcN t = 0 := by unfold crcN; rw [if_pos h]
theorem crcN_small {t : List UInt8} (h : ¬ 8000 < t.length) : crcN t = crcOn 0 t := by unfold crcN; rw [if_neg h]


set_option maxHeartbeats 400000 in
set_option maxRecDepth 100000 in
theorem crcTextI_calls (t : List UInt8) (w : World) (hl : t.length ≤ 9223372036854775807) :
    Calls Tryz.prog 75 #[gs t] w fun e w' => e = .returned (.int .i64 (crcN t : Int)) ∧ w = w' := by
  have HN := Lib.hid (crcN_more t)
  go_enter Tryz.func75, Tryz.ntmps75
  go_wp2_with (go_at_call 84; refine (crcMoreI_calls 0 _ _ hl (by omega) (by omega)).mono ?_; rintro e w1 ⟨rfl, rfl⟩)
  go_ret
  exact ⟨ret_int (by rw [HN.out]), rfl⟩
end Go.Proofs.YtjcdcaannajnpaaGreatDoor
