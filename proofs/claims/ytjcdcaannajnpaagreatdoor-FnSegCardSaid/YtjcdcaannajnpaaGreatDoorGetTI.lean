/- readText and GetText, the program's. -/
import Derived.Test.YtjcdcaannajnpaaGreatDoorGetT
namespace Go.Proofs.YtjcdcaannajnpaaGreatDoor
open Go.RowKit

def readTOut (r : List UInt8 × Int × Nat) : Value := .tuple #[gs r.1, .int .i64 r.2.1, if r.2.2 = 0 then .nilIface else faultV r.2.2]
theorem readT_bad {t : List UInt8} {a : Int} {c : Nat} {v : Value} (h : getT t a = ([], 0, c)) (hc : c ≠ 0) (hv : v = .tuple #[.string ⟨#[]⟩, .int .i64 0, faultV c]) : Ending.returned v = .returned (readTOut (getT t a)) := by
  rw [h, hv, readTOut, if_neg hc]
theorem readT_ok {t l : List UInt8} {a b : Int} {v : Value} (h : getT t a = (l, b, 0)) (hv : v = .tuple #[gs l, .int .i64 b, .nilIface]) : Ending.returned v = .returned (readTOut (getT t a)) := by
  rw [h, hv, readTOut, if_pos rfl]
theorem getT_cases (t : List UInt8) (a : Int) : (∃ c, c ≠ 0 ∧ getT t a = ([], 0, c)) ∨ ∃ l b, getT t a = (l, b, 0) := by
  unfold getT
  split
  · exact .inl ⟨_, ‹_›, rfl⟩
  · split
    · exact .inl ⟨3, by decide, rfl⟩
    · split
      · exact .inl ⟨4, by decide, rfl⟩
      · exact .inr ⟨_, _, rfl⟩

set_option maxHeartbeats 1000000 in
set_option maxRecDepth 100000 in
theorem readT_calls (t : List UInt8) (a : Int) (w : World) (hl : t.length ≤ 9223372036854775807) (h1 : -9223372036854775808 ≤ a) (h2 : a ≤ 9223372036854775807) :
    Calls Tryz.prog 65 #[gs t, .int .i64 a] w fun e w' => e = .returned (readTOut (getT t a)) ∧ w = w' := by
  have hr := fun W => read_calls t a W hl h1 h2
  unfold ReadPost at hr
  rcases getN_cases t a with ⟨c, hc, hn⟩ | ⟨n, b, hn⟩
  · have HT := Lib.hid (getT_bad hn hc)
    rw [hn, readOut, if_neg hc] at hr
    have HR := Lib.hid hr
    clear hr hn
    go_enter Tryz.func65, Tryz.ntmps65
    go_wp2_with fail
    refine (HR.out _).mono ?_
    rintro e w1 ⟨rfl, rfl⟩
    go_wp2_with fail
    go_ret3
    exact ⟨readT_bad HT.out hc rfl, rfl⟩
  · obtain ⟨hlen, hb0, hbl⟩ := getN_fit hn
    rw [hn, readOut, if_pos rfl] at hr
    have HR := Lib.hid hr
    clear hr
    by_cases hn0 : n < 0
    · have HT := Lib.hid (getT_form hn (.inl hn0))
      clear hn
      go_enter Tryz.func65, Tryz.ntmps65
      go_wp2_with fail
      refine (HR.out _).mono ?_
      rintro e w1 ⟨rfl, rfl⟩
      go_wp2_with fail
      go_ret3
      exact ⟨readT_bad HT.out (by decide) rfl, rfl⟩
    · by_cases hn8 : 8000 < n
      · have HT := Lib.hid (getT_form hn (.inr hn8))
        clear hn
        go_enter Tryz.func65, Tryz.ntmps65
        go_wp2_with fail
        refine (HR.out _).mono ?_
        rintro e w1 ⟨rfl, rfl⟩
        go_wp2_with fail
        go_ret3
        exact ⟨readT_bad HT.out (by decide) rfl, rfl⟩
      · by_cases hsh : (t.length : Int) < b + n
        · have HT := Lib.hid (getT_short hn hn0 hn8 hsh)
          clear hn
          go_enter Tryz.func65, Tryz.ntmps65
          go_wp2_with fail
          refine (HR.out _).mono ?_
          rintro e w1 ⟨rfl, rfl⟩
          go_wp2_with fail
          go_ret3
          exact ⟨readT_bad HT.out (by decide) rfl, rfl⟩
        · have HT := Lib.hid (getT_ok hn hn0 hn8 hsh)
          clear hn
          obtain ⟨b, rfl⟩ := Int.eq_ofNat_of_zero_le hb0
          obtain ⟨n, rfl⟩ := Int.eq_ofNat_of_zero_le (show 0 ≤ n by omega)
          have hsl := slice_text (P := Tryz.prog) (T := 9) Tryz.underlying9 t b n (by omega)
          go_enter Tryz.func65, Tryz.ntmps65
          go_wp2_with fail
          refine (HR.out _).mono ?_
          rintro e w1 ⟨rfl, rfl⟩
          go_wp2_with fail
          go_ret3
          exact ⟨readT_ok HT.out rfl, rfl⟩


end Go.Proofs.YtjcdcaannajnpaaGreatDoor
