/- FnExactClockLess: for every two clocks the program answers as the model. No condition. -/
import Derived.Test.YtiplbnmblobecaaOpenClk
import Derived.Test.YtiplbnmblobecaaClkI
import Derived.ProofKit
import Derived.OpenShut
import Derived.ShutString
import Derived.ChangeOld
import Derived.Below
import Derived.Deep.RegionHeld3
namespace Go.Proofs.Ytiplbnmblobecaa.lawClockLess
open Go.ChangeShapes Go.WideShapes Go.ChangeAt Go.RowKit
open Go.ChangeMaps (open_string shut_string)
theorem keep_two {w V X : World} {m v r m' v' r' : Int} (h : Below w.heap.size w V ∧ V.cell? ⟨w.heap.size, 0, none⟩ = some (.int .i64 m) ∧ V.cell? ⟨w.heap.size, 1, none⟩ = some (.int .i64 v) ∧ V.cell? ⟨w.heap.size, 2, none⟩ = some (.int .i64 r) ∧ V.cell? ⟨w.heap.size + 1, 0, none⟩ = some (.int .i64 m') ∧ V.cell? ⟨w.heap.size + 1, 1, none⟩ = some (.int .i64 v') ∧ V.cell? ⟨w.heap.size + 1, 2, none⟩ = some (.int .i64 r')) (hlt : w.heap.size + 1 < V.heap.size) (hb : Below V.heap.size V X) : Below w.heap.size w X ∧ X.cell? ⟨w.heap.size, 0, none⟩ = some (.int .i64 m) ∧ X.cell? ⟨w.heap.size, 1, none⟩ = some (.int .i64 v) ∧ X.cell? ⟨w.heap.size, 2, none⟩ = some (.int .i64 r) ∧ X.cell? ⟨w.heap.size + 1, 0, none⟩ = some (.int .i64 m') ∧ X.cell? ⟨w.heap.size + 1, 1, none⟩ = some (.int .i64 v') ∧ X.cell? ⟨w.heap.size + 1, 2, none⟩ = some (.int .i64 r') :=
  ⟨h.1.trans (hb.mono h.1.size), (hb.cell (by simp; omega)).trans h.2.1, (hb.cell (by simp; omega)).trans h.2.2.1, (hb.cell (by simp; omega)).trans h.2.2.2.1, (hb.cell hlt).trans h.2.2.2.2.1, (hb.cell hlt).trans h.2.2.2.2.2.1, (hb.cell hlt).trans h.2.2.2.2.2.2⟩
theorem lt_two {w V : World} {m v r m' v' r' : Int} (h : Below w.heap.size w V ∧ V.cell? ⟨w.heap.size, 0, none⟩ = some (.int .i64 m) ∧ V.cell? ⟨w.heap.size, 1, none⟩ = some (.int .i64 v) ∧ V.cell? ⟨w.heap.size, 2, none⟩ = some (.int .i64 r) ∧ V.cell? ⟨w.heap.size + 1, 0, none⟩ = some (.int .i64 m') ∧ V.cell? ⟨w.heap.size + 1, 1, none⟩ = some (.int .i64 v') ∧ V.cell? ⟨w.heap.size + 1, 2, none⟩ = some (.int .i64 r')) : w.heap.size + 1 < V.heap.size := World.block_lt_of_cell? _ _ h.2.2.2.2.2.2
set_option maxHeartbeats 1000000 in
set_option maxRecDepth 100000 in
theorem walk (m v r m' v' r' : Int) (w : World) (_w0 : -9223372036854775808 ≤ m ∧ m ≤ 9223372036854775807) (_w1 : -9223372036854775808 ≤ v ∧ v ≤ 9223372036854775807) (_w2 : -9223372036854775808 ≤ r ∧ r ≤ 9223372036854775807) (_w3 : -9223372036854775808 ≤ m' ∧ m' ≤ 9223372036854775807) (_w4 : -9223372036854775808 ≤ v' ∧ v' ≤ 9223372036854775807) (_w5 : -9223372036854775808 ≤ r' ∧ r' ≤ 9223372036854775807) :
    Calls Try.prog 7 #[clkV m v r, clkV m' v' r'] w fun e w' => e = .returned (.bool true) ∧ Below w.heap.size w w' := by
  have T1 := Lib.hid (fun W => toClock_calls m v r W)
  have T2 := Lib.hid (fun W => toClock_calls m' v' r' W)
  have LS := Lib.hid (fun W => clkLessS_calls m v r m' v' r' W)
  have LI := Lib.hid (fun W => clkLessI_calls m v r m' v' r' W)
  generalize decide (m < m') = q at *
  go_enter Try.func7, Try.ntmps7
  go_wp2_with fail
  have h2 := three_two w (.int .i64 m) (.int .i64 v) (.int .i64 r) (.int .i64 m') (.int .i64 v') (.int .i64 r') 23 23
  dsimp only at h2
  generalize (w.alloc (.cells #[.int .i64 m, .int .i64 v, .int .i64 r] 23)).alloc (.cells #[.int .i64 m', .int .i64 v', .int .i64 r'] 23) = W at *
  obtain ⟨n0, n1, _, hb⟩ := h2
  have HB := Lib.hid hb
  obtain ⟨s0, s1, s2, -, -, -⟩ := n0
  obtain ⟨s3, s4, s5, -, -, -⟩ := n1
  clear hb
  go_region_held3 (fun V => Below w.heap.size w V ∧ V.cell? ⟨w.heap.size, 0, none⟩ = some (.int .i64 m) ∧ V.cell? ⟨w.heap.size, 1, none⟩ = some (.int .i64 v) ∧ V.cell? ⟨w.heap.size, 2, none⟩ = some (.int .i64 r) ∧ V.cell? ⟨w.heap.size + 1, 0, none⟩ = some (.int .i64 m') ∧ V.cell? ⟨w.heap.size + 1, 1, none⟩ = some (.int .i64 v') ∧ V.cell? ⟨w.heap.size + 1, 2, none⟩ = some (.int .i64 r')) (first | exact ⟨HB.out.drew, s0, s1, s2, s3, s4, s5⟩ | exact ⟨HB.out, s0, s1, s2, s3, s4, s5⟩ | assumption | (refine keep_two (by assumption) (lt_two (by assumption)) (by assumption))) (first | (go_at_call 9; (with_reducible refine (T1.out _).mono ?_); rintro e wz ⟨rfl, hbz⟩) | (go_at_call 9; (with_reducible refine (T2.out _).mono ?_); rintro e wz ⟨rfl, hbz⟩) | (go_at_call 18; (with_reducible refine (LS.out _).mono ?_); rintro e wz ⟨rfl, hbz⟩))
  all_goals
    have hk : Below w.heap.size w wz ∧ wz.cell? ⟨w.heap.size, 0, none⟩ = some (.int .i64 m) ∧ wz.cell? ⟨w.heap.size, 1, none⟩ = some (.int .i64 v) ∧ wz.cell? ⟨w.heap.size, 2, none⟩ = some (.int .i64 r) ∧ wz.cell? ⟨w.heap.size + 1, 0, none⟩ = some (.int .i64 m') ∧ wz.cell? ⟨w.heap.size + 1, 1, none⟩ = some (.int .i64 v') ∧ wz.cell? ⟨w.heap.size + 1, 2, none⟩ = some (.int .i64 r') := by assumption
    clear HB s0 s1 s2 s3 s4 s5
    obtain ⟨hb, s0, s1, s2, s3, s4, s5⟩ := id hk
    have HB := Lib.hid hb
    clear hb hk
    go_wp2_with fail
    go_region_held3 (fun V => Below w.heap.size w V ∧ V.cell? ⟨w.heap.size, 0, none⟩ = some (.int .i64 m) ∧ V.cell? ⟨w.heap.size, 1, none⟩ = some (.int .i64 v) ∧ V.cell? ⟨w.heap.size, 2, none⟩ = some (.int .i64 r) ∧ V.cell? ⟨w.heap.size + 1, 0, none⟩ = some (.int .i64 m') ∧ V.cell? ⟨w.heap.size + 1, 1, none⟩ = some (.int .i64 v') ∧ V.cell? ⟨w.heap.size + 1, 2, none⟩ = some (.int .i64 r')) (first | exact ⟨HB.out.drew, s0, s1, s2, s3, s4, s5⟩ | exact ⟨HB.out, s0, s1, s2, s3, s4, s5⟩ | assumption | (refine keep_two (by assumption) (lt_two (by assumption)) (by assumption))) (first | (go_at_call 9; (with_reducible refine (T1.out _).mono ?_); rintro e wz ⟨rfl, hbz⟩) | (go_at_call 9; (with_reducible refine (T2.out _).mono ?_); rintro e wz ⟨rfl, hbz⟩) | (go_at_call 19; (with_reducible refine (LI.out _).mono ?_); rintro e wz ⟨rfl, hbz⟩))
    all_goals
      have hk : Below w.heap.size w wz ∧ wz.cell? ⟨w.heap.size, 0, none⟩ = some (.int .i64 m) ∧ wz.cell? ⟨w.heap.size, 1, none⟩ = some (.int .i64 v) ∧ wz.cell? ⟨w.heap.size, 2, none⟩ = some (.int .i64 r) ∧ wz.cell? ⟨w.heap.size + 1, 0, none⟩ = some (.int .i64 m') ∧ wz.cell? ⟨w.heap.size + 1, 1, none⟩ = some (.int .i64 v') ∧ wz.cell? ⟨w.heap.size + 1, 2, none⟩ = some (.int .i64 r') := by assumption
      have hb := hk.1
      go_wp2_with fail
      go_ret
      exact ⟨rfl, hb⟩
theorem own : ownKnob Try.prog.godebug = none := by kernel_rfl
theorem laidOut : laidOutB Try.prog = true := by kernel_rfl
set_option maxRecDepth 100000 in
theorem contract (H : Type) (enc : TypeId × Value → H) (W : World) (base : Nat) (args : Array Value) (ds gs : List (DataW H)) (before : List MemPlace)
    (hval : ∀ (j : Nat) t v, Try.f7.params[j]? = some t → args[j]? = some v → Value.okWide Try.prog W .any base t v)
    (hW : DataW.Whole enc Try.prog Try.f7.params.toList Rows.fnExactClockLessSpec.vars false W args.toList ds gs before) :
    Calls Try.prog 7 args W fun e W' => ∃ v, e = .returned v ∧ Rows.fnExactClockLessSpec.post enc Try.prog Try.f7 false true false false W args v W' := by
  have hW' := hW
  obtain ⟨p, q, hA0, hV, rfl, hfz, hnd⟩ := hW
  have hA : DataW.TrodAll enc Try.prog W 0 (fun _ => true) true Try.f7.params.toList args.toList ds p := hA0
  rw [Try.params7] at hA hval
  obtain ⟨v0, vs0, d0, ds0, p0, q0, hargs, rfl, rfl, h0, r0⟩ := trodAll_cons hA
  obtain ⟨v1, vs1, d1, ds1, p1, q1, rfl, rfl, rfl, h1, r1⟩ := trodAll_cons r0
  obtain ⟨rfl, rfl, rfl⟩ := trodAll_nil r1
  obtain rfl : args = #[v0, v1] := by cases args; simp_all
  obtain ⟨rfl, rfl⟩ := trodVars_none hV
  have k0 := h0
  have lt0 : ∀ x ∈ p0, x.block < W.heap.size := by obtain ⟨m, hm⟩ := k0; exact DataW.trod_lt m _ _ _ hm
  obtain ⟨m0, s0, u0, rfl, w0m, w0s, w0u⟩ := open_clock (hval 0 23 v0 rfl rfl) h0
  have k1 := h1
  have lt1 : ∀ x ∈ p1, x.block < W.heap.size := by obtain ⟨m, hm⟩ := k1; exact DataW.trod_lt m _ _ _ hm
  obtain ⟨m1, s1, u1, rfl, w1m, w1s, w1u⟩ := open_clock (hval 1 23 v1 rfl rfl) h1
  clear hA0
  refine (walk m0 s0 u0 m1 s1 u1 W w0m w0s w0u w1m w1s w1u).mono fun e W' ⟨he, bel⟩ => ?_
  subst he
  exact ⟨_, rfl, _, _, _, [], _, [], hW', trodAll_mk1 (shut_bool Try.underlying4 _), (trodAll_cons_mk (Below.trod laidOut (by kernel_rfl) (of_decide_eq_true (by kernel_rfl)) k0 bel lt0) (trodAll_cons_mk (Below.trod laidOut (by kernel_rfl) (of_decide_eq_true (by kernel_rfl)) k1 bel lt1) trodAll_mk0)), rfl, bel.frame _, fun h => by cases h⟩

set_option maxRecDepth 100000 in
theorem lifted (os : Os) (started : os.Started) (H : Type) (enc : TypeId × Value → H) :
    ReturnsInHanded {} Try.checked os 7 .any (Rows.fnExactClockLessSpec.pre6 enc Try.prog Try.f7 Rows.fnExactClockLessRow.domain false) (Rows.fnExactClockLessSpec.post enc Try.prog Try.f7 false true false false) := by
  refine returnsInHanded_of_change (C := Try.checked) own started (by kernel_rfl) Try.func7
    (ChangeSpec.witness6 (enc := enc) (C := Try.checked) false ⟨#[], #[.agg #[.int .i64 0, .int .i64 0, .int .i64 0], .agg #[.int .i64 0, .int .i64 0, .int .i64 0]], []⟩ 8 (by kernel_rfl) (by kernel_rfl) (by kernel_rfl) (by kernel_rfl)) ?_
  intro W base args ds gs before hval hW hcnd _
  exact contract H enc W base args ds gs before hval hW

/-- THE STATEMENT. -/
theorem proved : Rows.FnExactClockLessSaid :=
  OpenClaim.holds_of_wide 7 Try.f7 rfl rfl rfl rfl rfl rfl rfl ⟨rfl, rfl, rfl, rfl, rfl⟩ rfl rfl rfl rfl rfl (by kernel_rfl) Try.func7 (by kernel_rfl)
    (of_decide_eq_true (by kernel_rfl)) (by unfold Func.isWrapper; first | (rw [if_pos (by decide +kernel)]; kernel_rfl) | (rw [if_neg (by decide +kernel)]; exact ⟨rfl, rfl⟩))
    (fun os started H enc _ => lifted os started H enc)
#print axioms proved
end Go.Proofs.Ytiplbnmblobecaa.lawClockLess
