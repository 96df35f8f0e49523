/- FnExactClockSlow: for every clock the program answers as the model. No condition. -/
import Derived.Test.YtiplbnmblobecaaOpenClk
import Derived.Test.YtiplbnmblobecaaClkI
import Derived.ProofKit
import Derived.OpenShut
import Derived.ShutString
import Derived.ChangeOld
import Derived.Below
namespace Go.Proofs.Ytiplbnmblobecaa.lawClockSlow
open Go.ChangeShapes Go.WideShapes Go.ChangeAt Go.RowKit
open Go.ChangeMaps (open_string shut_string)
set_option maxHeartbeats 1000000 in
set_option maxRecDepth 100000 in
theorem walk (m v r : Int) (w : World) (_w0 : -9223372036854775808 ≤ m ∧ m ≤ 9223372036854775807) (_w1 : -9223372036854775808 ≤ v ∧ v ≤ 9223372036854775807) (_w2 : -9223372036854775808 ≤ r ∧ r ≤ 9223372036854775807) :
    Calls Try.prog 6 #[clkV m v r] w fun e w' => e = .returned (.bool true) ∧ Below w.heap.size w w' := by
  obtain ⟨a, b, c, hq⟩ : ∃ a b c, slowV m v r = clkV a b c := by unfold slowV; split <;> exact ⟨_, _, _, rfl⟩
  have HS := Lib.hid (fun W => clkSlowS_calls m v r W)
  have HI := Lib.hid (fun W => clkSlowI_calls m v r W)
  rw [hq] at HS HI
  clear hq
  go_enter Try.func6, Try.ntmps6
  go_wp2_with fail
  have n0 := three_at w (.int .i64 m) (.int .i64 v) (.int .i64 r) 23
  have hb : Below w.heap.size w (w.alloc (.cells #[.int .i64 m, .int .i64 v, .int .i64 r] 23)) := (Below.refl _ _).alloc (Nat.le_refl _) _
  generalize w.alloc (.cells #[.int .i64 m, .int .i64 v, .int .i64 r] 23) = W at *
  have N0 := Lib.hid n0
  have HB0 := Lib.hid hb
  clear hb n0
  refine (toClock_calls m v r _).mono ?_
  rintro e w1 ⟨rfl, hb1⟩
  have m0 := N0.out.below hb1
  have HB1 := Lib.hid (HB0.out.trans (hb1.mono HB0.out.size))
  clear hb1 HB0 N0
  have N0 := Lib.hid m0
  obtain ⟨c00, c01, c02, z00, z01, z02⟩ := m0
  go_wp2_with fail
  refine (HS.out _).mono ?_
  rintro e w2 ⟨rfl, hb2⟩
  have m0 := N0.out.below hb2
  have HB2 := Lib.hid (HB1.out.trans (hb2.mono HB1.out.size))
  clear hb2 HB1 N0
  clear c00 c01 c02 z00 z01 z02
  have hb := (Below.refl _ w2).alloc (Nat.le_refl _) (.cells #[.int .i64 a, .int .i64 b, .int .i64 c] 25)
  replace m0 := m0.below hb
  have HC := Lib.hid (HB2.out.trans (hb.mono HB2.out.size))
  clear hb HB2
  have N0 := Lib.hid m0
  obtain ⟨c00, c01, c02, z00, z01, z02⟩ := m0
  go_wp2_with fail
  have m1 := three_at w2 (.int .i64 a) (.int .i64 b) (.int .i64 c) 25
  have HB2 := HC
  clear HC
  generalize hV : w2.alloc (.cells #[.int .i64 a, .int .i64 b, .int .i64 c] 25) = V2 at *
  clear hV
  have N1 := Lib.hid m1
  obtain ⟨c10, c11, c12, z10, z11, z12⟩ := m1
  refine (toClock_calls m v r _).mono ?_
  rintro e w3 ⟨rfl, hb3⟩
  have m0 := N0.out.below hb3
  have m1 := N1.out.below hb3
  have HB3 := Lib.hid (HB2.out.trans (hb3.mono HB2.out.size))
  clear hb3 HB2 N0 N1
  clear c00 c01 c02 z00 z01 z02
  clear c10 c11 c12 z10 z11 z12
  have N0 := Lib.hid m0
  obtain ⟨c00, c01, c02, z00, z01, z02⟩ := m0
  have N1 := Lib.hid m1
  obtain ⟨c10, c11, c12, z10, z11, z12⟩ := m1
  go_wp2_with fail
  refine (HI.out _).mono ?_
  rintro e w4 ⟨rfl, hb4⟩
  have m0 := N0.out.below hb4
  have m1 := N1.out.below hb4
  have HB4 := Lib.hid (HB3.out.trans (hb4.mono HB3.out.size))
  clear hb4 HB3 N0 N1
  clear c00 c01 c02 z00 z01 z02
  clear c10 c11 c12 z10 z11 z12
  have hb := (Below.refl _ w4).alloc (Nat.le_refl _) (.cells #[.int .i64 a, .int .i64 b, .int .i64 c] 25)
  replace m0 := m0.below hb
  replace m1 := m1.below hb
  have HC := Lib.hid (HB4.out.trans (hb.mono HB4.out.size))
  clear hb HB4
  have N0 := Lib.hid m0
  obtain ⟨c00, c01, c02, z00, z01, z02⟩ := m0
  have N1 := Lib.hid m1
  obtain ⟨c10, c11, c12, z10, z11, z12⟩ := m1
  go_wp2_with fail
  have m2 := three_at w4 (.int .i64 a) (.int .i64 b) (.int .i64 c) 25
  have HB4 := HC
  clear HC
  generalize hV : w4.alloc (.cells #[.int .i64 a, .int .i64 b, .int .i64 c] 25) = V4 at *
  clear hV
  have N2 := Lib.hid m2
  obtain ⟨c20, c21, c22, z20, z21, z22⟩ := m2
  refine (eqClock_same a b c _).mono ?_
  rintro e w5 ⟨rfl, hb5⟩
  have HB5 := HB4.out.trans (hb5.mono HB4.out.size)
  go_wp2_with fail
  go_ret
  exact ⟨rfl, HB5⟩
theorem own : ownKnob Try.prog.godebug = none := by kernel_rfl
theorem laidOut : laidOutB Try.prog = true := by kernel_rfl
set_option maxRecDepth 100000 in
theorem contract (H : Type) (enc : TypeId × Value → H) (W : World) (base : Nat) (args : Array Value) (ds gs : List (DataW H)) (before : List MemPlace)
    (hval : ∀ (j : Nat) t v, Try.f6.params[j]? = some t → args[j]? = some v → Value.okWide Try.prog W .any base t v)
    (hW : DataW.Whole enc Try.prog Try.f6.params.toList Rows.fnExactClockSlowSpec.vars false W args.toList ds gs before) :
    Calls Try.prog 6 args W fun e W' => ∃ v, e = .returned v ∧ Rows.fnExactClockSlowSpec.post enc Try.prog Try.f6 false true false false W args v W' := by
  have hW' := hW
  obtain ⟨p, q, hA0, hV, rfl, hfz, hnd⟩ := hW
  have hA : DataW.TrodAll enc Try.prog W 0 (fun _ => true) true Try.f6.params.toList args.toList ds p := hA0
  rw [Try.params6] at hA hval
  obtain ⟨v0, vs0, d0, ds0, p0, q0, hargs, rfl, rfl, h0, r0⟩ := trodAll_cons hA
  obtain ⟨rfl, rfl, rfl⟩ := trodAll_nil r0
  obtain rfl : args = #[v0] := by cases args; simp_all
  obtain ⟨rfl, rfl⟩ := trodVars_none hV
  have k0 := h0
  have lt0 : ∀ x ∈ p0, x.block < W.heap.size := by obtain ⟨m, hm⟩ := k0; exact DataW.trod_lt m _ _ _ hm
  obtain ⟨m0, s0, u0, rfl, w0m, w0s, w0u⟩ := open_clock (hval 0 23 v0 rfl rfl) h0
  clear hA0
  refine (walk m0 s0 u0 W w0m w0s w0u).mono fun e W' ⟨he, bel⟩ => ?_
  subst he
  exact ⟨_, rfl, _, _, _, [], _, [], hW', trodAll_mk1 (shut_bool Try.underlying4 _), (trodAll_cons_mk (Below.trod laidOut (by kernel_rfl) (of_decide_eq_true (by kernel_rfl)) k0 bel lt0) trodAll_mk0), rfl, bel.frame _, fun h => by cases h⟩

set_option maxRecDepth 100000 in
theorem lifted (os : Os) (started : os.Started) (H : Type) (enc : TypeId × Value → H) :
    ReturnsInHanded {} Try.checked os 6 .any (Rows.fnExactClockSlowSpec.pre6 enc Try.prog Try.f6 Rows.fnExactClockSlowRow.domain false) (Rows.fnExactClockSlowSpec.post enc Try.prog Try.f6 false true false false) := by
  refine returnsInHanded_of_change (C := Try.checked) own started (by kernel_rfl) Try.func6
    (ChangeSpec.witness6 (enc := enc) (C := Try.checked) false ⟨#[], #[.agg #[.int .i64 0, .int .i64 0, .int .i64 0]], []⟩ 8 (by kernel_rfl) (by kernel_rfl) (by kernel_rfl) (by kernel_rfl)) ?_
  intro W base args ds gs before hval hW hcnd _
  exact contract H enc W base args ds gs before hval hW

/-- THE STATEMENT. -/
theorem proved : Rows.FnExactClockSlowSaid :=
  OpenClaim.holds_of_wide 6 Try.f6 rfl rfl rfl rfl rfl rfl rfl ⟨rfl, rfl, rfl, rfl, rfl⟩ rfl rfl rfl rfl rfl (by kernel_rfl) Try.func6 (by kernel_rfl)
    (of_decide_eq_true (by kernel_rfl)) (by unfold Func.isWrapper; first | (rw [if_pos (by decide +kernel)]; kernel_rfl) | (rw [if_neg (by decide +kernel)]; exact ⟨rfl, rfl⟩))
    (fun os started H enc _ => lifted os started H enc)
#print axioms proved
end Go.Proofs.Ytiplbnmblobecaa.lawClockSlow
