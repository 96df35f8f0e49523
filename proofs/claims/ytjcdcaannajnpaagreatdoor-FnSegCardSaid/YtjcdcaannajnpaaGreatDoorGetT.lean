/- GetText, the program's and the model's: both give 'getT'. -/
import Derived.Test.YtjcdcaannajnpaaGreatDoorGetI
import Derived.Test.YtjcdcaannajnpaaGreatDoorSlice
import Derived.RegionTactic
import Derived.BigRegion
namespace Go.Proofs.YtjcdcaannajnpaaGreatDoor
open Go.RowKit

/-- A TextOut. -/
abbrev textOut (l : List UInt8) (a : Int) (c : Nat) : Value := .agg #[gs l, .int .i64 a, .int .i64 (c : Int)]
abbrev textOutOf (r : List UInt8 × Int × Nat) : Value := textOut r.1 r.2.1 r.2.2

set_option maxHeartbeats 1000000 in
set_option maxRecDepth 100000 in
theorem getTS_calls (t : List UInt8) (a : Int) (w : World) (hl : t.length ≤ 9223372036854775807) (h1 : -9223372036854775808 ≤ a) (h2 : a ≤ 9223372036854775807) :
    Calls Tryz.prog 73 #[gs t, .int .i64 a] w fun e w' => e = .returned (textOutOf (getT t a)) ∧ Below w.heap.size w w' := by
  have hr := fun W => getS_calls t a W hl h1 h2
  rcases getN_cases t a with ⟨c, hc, hn⟩ | ⟨n, b, hn⟩
  · have HT := Lib.hid (getT_bad hn hc)
    rw [hn] at hr
    have hc' : ((c : Int) != 0) = true := by rw [bne_iff_ne]; omega
    have HR := Lib.hid hr
    clear hr hn
    go_enter Tryz.func73, Tryz.ntmps73
    go_wp2_with fail
    refine (HR.out _).mono ?_
    rintro e w1 ⟨rfl, hb1⟩
    have hbw : Below w.heap.size w w1 := ((Below.refl _ _).alloc (Nat.le_refl _) _).trans (hb1.mono (by simp))
    have hs := hb1.size
    have hs1 := size_kept hb1
    obtain ⟨hc1, hf1⟩ := bcell hb1
    simp at hs hc1 hf1
    go_wp2_with fail
    refine bodyPost_ret (v := .agg #[.string ⟨#[]⟩, .int .i64 0, .int .i64 (c : Int)]) ?_ rfl ?_
    · simp [results, Tryz.results73, go_sem, hc1, hs1]
    · exact ⟨by first | (rw [HT.out]; done) | (rw [HT.out]; rfl), by go_grown⟩
  · obtain ⟨hlen, hb0, hbl⟩ := getN_fit hn
    by_cases hn0 : n < 0
    · have HT := Lib.hid (getT_form hn (.inl hn0))
      rw [hn] at hr
      have HR := Lib.hid hr
      clear hr hn
      go_enter Tryz.func73, Tryz.ntmps73
      go_wp2_with fail
      refine (HR.out _).mono ?_
      rintro e w1 ⟨rfl, hb1⟩
      have hbw : Below w.heap.size w w1 := ((Below.refl _ _).alloc (Nat.le_refl _) _).trans (hb1.mono (by simp))
      have hs := hb1.size
      have hs1 := size_kept hb1
      obtain ⟨hc1, hf1⟩ := bcell hb1
      simp at hs hc1 hf1
      go_wp2_with fail
      refine bodyPost_ret (v := .agg #[.string ⟨#[]⟩, .int .i64 0, .int .i64 3]) ?_ rfl ?_
      · simp [results, Tryz.results73, go_sem, hc1, hs1]
      · exact ⟨by first | (rw [HT.out]; done) | (rw [HT.out]; rfl), by go_grown⟩
    · by_cases hn8 : 8000 < n
      · have HT := Lib.hid (getT_form hn (.inr hn8))
        rw [hn] at hr
        have HR := Lib.hid hr
        clear hr hn
        go_enter Tryz.func73, Tryz.ntmps73
        go_wp2_with fail
        refine (HR.out _).mono ?_
        rintro e w1 ⟨rfl, hb1⟩
        have hbw : Below w.heap.size w w1 := ((Below.refl _ _).alloc (Nat.le_refl _) _).trans (hb1.mono (by simp))
        have hs := hb1.size
        have hs1 := size_kept hb1
        obtain ⟨hc1, hf1⟩ := bcell hb1
        simp at hs hc1 hf1
        go_wp2_with fail
        refine bodyPost_ret (v := .agg #[.string ⟨#[]⟩, .int .i64 0, .int .i64 3]) ?_ rfl ?_
        · simp [results, Tryz.results73, go_sem, hc1, hs1]
        · exact ⟨by first | (rw [HT.out]; done) | (rw [HT.out]; rfl), by go_grown⟩
      · by_cases hsh : (t.length : Int) < b + n
        · have HT := Lib.hid (getT_short hn hn0 hn8 hsh)
          rw [hn] at hr
          have HR := Lib.hid hr
          clear hr hn
          go_enter Tryz.func73, Tryz.ntmps73
          go_wp2_with fail
          refine (HR.out _).mono ?_
          rintro e w1 ⟨rfl, hb1⟩
          have hbw : Below w.heap.size w w1 := ((Below.refl _ _).alloc (Nat.le_refl _) _).trans (hb1.mono (by simp))
          have hs := hb1.size
          have hs1 := size_kept hb1
          obtain ⟨hc1, hf1⟩ := bcell hb1
          simp at hs hc1 hf1
          go_wp2_with fail
          refine bodyPost_ret (v := .agg #[.string ⟨#[]⟩, .int .i64 0, .int .i64 4]) ?_ rfl ?_
          · simp [results, Tryz.results73, go_sem, hc1, hs1]
          · exact ⟨by first | (rw [HT.out]; done) | (rw [HT.out]; rfl), by go_grown⟩
        · have HT := Lib.hid (getT_ok hn hn0 hn8 hsh)
          rw [hn] at hr
          have HR := Lib.hid hr
          clear hr hn
          obtain ⟨b, rfl⟩ := Int.eq_ofNat_of_zero_le hb0
          obtain ⟨n, rfl⟩ := Int.eq_ofNat_of_zero_le (show 0 ≤ n by omega)
          have hsl := slice_text (P := Tryz.prog) (T := 9) Tryz.underlying9 t b n (by omega)
          have hwr : IntKind.i64.wrap ((b : Int) + (n : Int)) = (b : Int) + (n : Int) := IntWalk.i64_in _ (by omega)
          go_enter Tryz.func73, Tryz.ntmps73
          go_wp2_with fail
          refine (HR.out _).mono ?_
          rintro e w1 ⟨rfl, hb1⟩
          have hbw : Below w.heap.size w w1 := ((Below.refl _ _).alloc (Nat.le_refl _) _).trans (hb1.mono (by simp))
          have hs := hb1.size
          have hs1 := size_kept hb1
          obtain ⟨hc1, hf1⟩ := bcell hb1
          simp at hs hc1 hf1
          go_wp2_with fail
          go_region
          go_wp2
          refine bodyPost_ret (v := textOut ((t.drop b).take n) ((b : Int) + (n : Int)) 0) ?_ rfl ?_
          · simp [results, Tryz.results73, go_sem, hc1, hs1]
          · exact ⟨by rw [HT.out]; rfl, by go_grown⟩
end Go.Proofs.YtjcdcaannajnpaaGreatDoor
