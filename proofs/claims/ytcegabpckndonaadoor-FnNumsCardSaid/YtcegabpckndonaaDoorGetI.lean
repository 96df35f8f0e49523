/- GetNum, the program's. -/
import Derived.Test.YtcegabpckndonaaDoorRead
namespace Go.Proofs.YtcegabpckndonaaDoor
open Go.RowKit

theorem readOut_bad {t : List UInt8} {a : Int} {c : Nat} (h : (getN t a).2.2 = c) (hc : c ≠ 0) : readOut (getN t a) = .tuple #[.int .i64 (getN t a).1, .int .i64 (getN t a).2.1, faultV c] := by
  rw [readOut, h, if_neg hc]
theorem readOut_ok {t : List UInt8} {a : Int} (h : (getN t a).2.2 = 0) : readOut (getN t a) = .tuple #[.int .i64 (getN t a).1, .int .i64 (getN t a).2.1, .nilIface] := by
  rw [readOut, h, if_pos rfl]
theorem getN_cases (t : List UInt8) (a : Int) : (∃ c, c ≠ 0 ∧ getN t a = (0, 0, c)) ∨ ∃ n b, getN t a = (n, b, 0) := by
  unfold getN
  split
  · exact .inl ⟨2, by decide, rfl⟩
  · split
    · exact .inl ⟨1, by decide, rfl⟩
    · split
      · exact .inr ⟨_, _, rfl⟩
      · exact .inl ⟨_, ‹_›, rfl⟩

set_option maxHeartbeats 1000000 in
set_option maxRecDepth 100000 in
theorem getI_calls (t : List UInt8) (a : Int) (w : World) (hg : EtCell w) (hl : t.length ≤ 9223372036854775807) (h1 : -9223372036854775808 ≤ a) (h2 : a ≤ 9223372036854775807) :
    Calls Tryd.prog 11 #[gs t, .int .i64 a] w fun e w' => e = .returned (numOutOf (getN t a)) ∧ Below w.heap.size w w' := by
  have hr := fun W => read_calls t a W hl h1 h2
  rcases getN_cases t a with ⟨c, hc, hn⟩ | ⟨n, b, hn⟩
  · unfold ReadPost at hr
    rw [hn, readOut, if_neg hc] at hr
    rw [hn]
    have HR := Lib.hid hr
    have HG := Lib.hid hg
    clear hr hn hg
    go_enter Tryd.func11, Tryd.ntmps11
    go_wp2_with fail
    refine (HR.out _).mono ?_
    rintro e w1 ⟨rfl, rfl⟩
    go_wp2_with fail
    refine (code_calls _ _ (HG.out.below (by go_grown))).mono ?_
    rintro e w1 ⟨rfl, hb1⟩
    have hs := hb1.size
    have hbw : Below w.heap.size w w1 := ((Below.refl _ _).alloc (Nat.le_refl _) _).trans (hb1.mono (by simp))
    obtain ⟨hc1, hf1⟩ := bcell hb1
    simp at hs hc1 hf1
    go_wp2_with fail
    refine bodyPost_ret (v := numOut 0 0 c) (by simp [results, Tryd.results11, go_sem, hc1]) rfl ⟨rfl, ?_⟩
    go_grown
  · unfold ReadPost at hr
    rw [hn, readOut, if_pos rfl] at hr
    rw [hn]
    have HR := Lib.hid hr
    clear hr hn hg
    go_enter Tryd.func11, Tryd.ntmps11
    go_wp2_with fail
    refine (HR.out _).mono ?_
    rintro e w1 ⟨rfl, rfl⟩
    go_wp2_with fail
    go_returns
    exact ⟨rfl, by go_grown⟩

set_option maxHeartbeats 400000 in
theorem eqNum_calls (n a c : Int) (w : World) : Calls Tryd.prog 26 #[.agg #[.int .i64 n, .int .i64 a, .int .i64 c], .agg #[.int .i64 n, .int .i64 a, .int .i64 c]] w fun e w' => e = .returned (.bool true) ∧ Below w.heap.size w w' := by
  go_enter Tryd.func26, Tryd.ntmps26
  go_wp2
  go_ret
  exact ⟨rfl, by go_grown⟩
end Go.Proofs.YtcegabpckndonaaDoor
