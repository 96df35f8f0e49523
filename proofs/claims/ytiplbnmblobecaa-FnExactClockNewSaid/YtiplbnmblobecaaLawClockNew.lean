/- FnExactClockNew: the program answers as the model. No condition. -/
import Derived.Test.YtiplbnmblobecaaOpenClk
import Derived.Test.YtiplbnmblobecaaClkI
import Derived.ProofKit
import Derived.OpenShut
import Derived.ShutString
import Derived.ChangeOld
import Derived.Below
namespace Go.Proofs.Ytiplbnmblobecaa.lawClockNew
open Go.ChangeShapes Go.WideShapes Go.ChangeAt Go.RowKit
open Go.ChangeMaps (open_string shut_string)
set_option maxHeartbeats 1000000 in
set_option maxRecDepth 100000 in
theorem walk (w : World) :
    Calls Try.prog 4 #[] w fun e w' => e = .returned (.bool true) ∧ Below w.heap.size w w' := by
  go_enter Try.func4, Try.ntmps4
  go_wp2_with fail
  have hb := Below.refl w.heap.size w
  have HB0 := Lib.hid hb
  clear hb
  refine (clkNewS_calls _).mono ?_
  rintro e w1 ⟨rfl, hb1⟩
  have HB1 := Lib.hid (HB0.out.trans (hb1.mono HB0.out.size))
  clear hb1 HB0
  have hb := (Below.refl _ w1).alloc (Nat.le_refl _) (.cells #[.int .i64 0, .int .i64 0, .int .i64 8] 25)
  have HC := Lib.hid (HB1.out.trans (hb.mono HB1.out.size))
  clear hb HB1
  go_wp2_with fail
  have m0 := three_at w1 (.int .i64 0) (.int .i64 0) (.int .i64 8) 25
  have HB1 := HC
  clear HC
  generalize hV : w1.alloc (.cells #[.int .i64 0, .int .i64 0, .int .i64 8] 25) = V1 at *
  clear hV
  have N0 := Lib.hid m0
  obtain ⟨c00, c01, c02, z00, z01, z02⟩ := m0
  refine (clkNewI_calls _).mono ?_
  rintro e w2 ⟨rfl, hb2⟩
  have m0 := N0.out.below hb2
  have HB2 := Lib.hid (HB1.out.trans (hb2.mono HB1.out.size))
  clear hb2 HB1 N0
  clear c00 c01 c02 z00 z01 z02
  have hb := (Below.refl _ w2).alloc (Nat.le_refl _) (.cells #[.int .i64 0, .int .i64 0, .int .i64 8] 25)
  replace m0 := m0.below hb
  have HC := Lib.hid (HB2.out.trans (hb.mono HB2.out.size))
  clear hb HB2
  have N0 := Lib.hid m0
  obtain ⟨c00, c01, c02, z00, z01, z02⟩ := m0
  go_wp2_with fail
  have m1 := three_at w2 (.int .i64 0) (.int .i64 0) (.int .i64 8) 25
  have HB2 := HC
  clear HC
  generalize hV : w2.alloc (.cells #[.int .i64 0, .int .i64 0, .int .i64 8] 25) = V2 at *
  clear hV
  have N1 := Lib.hid m1
  obtain ⟨c10, c11, c12, z10, z11, z12⟩ := m1
  refine (eqClock_same 0 0 8 _).mono ?_
  rintro e w3 ⟨rfl, hb3⟩
  have HB3 := HB2.out.trans (hb3.mono HB2.out.size)
  go_wp2_with fail
  go_ret
  exact ⟨rfl, HB3⟩
theorem own : ownKnob Try.prog.godebug = none := by kernel_rfl
theorem laidOut : laidOutB Try.prog = true := by kernel_rfl
set_option maxRecDepth 100000 in
theorem contract (H : Type) (enc : TypeId × Value → H) (W : World) (base : Nat) (args : Array Value) (ds gs : List (DataW H)) (before : List MemPlace)
    (hval : ∀ (j : Nat) t v, Try.f4.params[j]? = some t → args[j]? = some v → Value.okWide Try.prog W .any base t v)
    (hW : DataW.Whole enc Try.prog Try.f4.params.toList Rows.fnExactClockNewSpec.vars false W args.toList ds gs before) :
    Calls Try.prog 4 args W fun e W' => ∃ v, e = .returned v ∧ Rows.fnExactClockNewSpec.post enc Try.prog Try.f4 false true false false W args v W' := by
  have hW' := hW
  obtain ⟨p, q, hA0, hV, rfl, hfz, hnd⟩ := hW
  have hA : DataW.TrodAll enc Try.prog W 0 (fun _ => true) true Try.f4.params.toList args.toList ds p := hA0
  rw [Try.params4] at hA hval
  obtain ⟨hargs, rfl, rfl⟩ := trodAll_nil hA
  obtain rfl : args = #[] := by cases args; simp_all
  obtain ⟨rfl, rfl⟩ := trodVars_none hV
  clear hA0
  refine (walk  W ).mono fun e W' ⟨he, bel⟩ => ?_
  subst he
  exact ⟨_, rfl, _, _, _, [], _, [], hW', trodAll_mk1 (shut_bool Try.underlying4 _), trodAll_mk0, rfl, bel.frame _, fun h => by cases h⟩

set_option maxRecDepth 100000 in
theorem lifted (os : Os) (started : os.Started) (H : Type) (enc : TypeId × Value → H) :
    ReturnsInHanded {} Try.checked os 4 .any (Rows.fnExactClockNewSpec.pre6 enc Try.prog Try.f4 Rows.fnExactClockNewRow.domain false) (Rows.fnExactClockNewSpec.post enc Try.prog Try.f4 false true false false) := by
  refine returnsInHanded_of_change (C := Try.checked) own started (by kernel_rfl) Try.func4
    (ChangeSpec.witness6 (enc := enc) (C := Try.checked) false ⟨#[], #[], []⟩ 8 (by kernel_rfl) (by kernel_rfl) (by kernel_rfl) (by kernel_rfl)) ?_
  intro W base args ds gs before hval hW hcnd _
  exact contract H enc W base args ds gs before hval hW

/-- THE STATEMENT. -/
theorem proved : Rows.FnExactClockNewSaid :=
  OpenClaim.holds_of_wide 4 Try.f4 rfl rfl rfl rfl rfl rfl rfl ⟨rfl, rfl, rfl, rfl, rfl⟩ rfl rfl rfl rfl rfl (by kernel_rfl) Try.func4 (by kernel_rfl)
    (of_decide_eq_true (by kernel_rfl)) (by unfold Func.isWrapper; first | (rw [if_pos (by decide +kernel)]; kernel_rfl) | (rw [if_neg (by decide +kernel)]; exact ⟨rfl, rfl⟩))
    (fun os started H enc _ => lifted os started H enc)
#print axioms proved
end Go.Proofs.Ytiplbnmblobecaa.lawClockNew
