/- FnExactFlying: for every net the program's Flying answers as the model's, and the net is as it was. No condition. -/
import Derived.Test.YthimndilobadeaaRows
import Derived.Test.YthimndilobadeaaNetTo
import Derived.Test.YthimndilobadeaaNetArg
import Derived.Test.YthimndilobadeaaNetR
import Derived.ProofKit
import Derived.OpenShut
import Derived.ShutString
import Derived.ChangeOld
import Derived.Below
namespace Go.Proofs.Ythimndilobadeaa.lawFlying
open Go.ChangeShapes Go.WideShapes Go.ChangeAt Go.RowKit
open Go.ChangeMaps (open_string shut_string)
set_option maxHeartbeats 1000000 in
set_option maxRecDepth 100000 in
theorem walk (a : Option Addr) (len cap : Nat) (n : Nt) (w : World) (w0 : RawNet w a len n) :
    Calls Try.prog 4 #[.slice a len cap] w fun e w' => e = .returned (.bool true) ∧ Below w.heap.size w w' := by
  by_cases hs : szNet n 1048576 < 0
  · go_enter Try.func4, Try.ntmps4
    go_wp2_with (go_at_call 5; refine (szWayS_calls w0).mono ?_; rintro e w1 ⟨rfl, hb1⟩)
    all_goals first
      | (go_ret; exact ⟨rfl, hb1⟩)
      | (exfalso; omega)
  · have h0 := inNet_of w0 (by omega)
    have hspec := fun (S : Nat → Prop) (W : World) (x : Option Addr) (c : Nat) (h : InNet S W x len n) => flyingS_calls (cap := c) h
    have himpl := fun (S : Nat → Prop) (W : World) (x : Option Addr) (c : Nat) (h : InNet S W x len n) => flyingI_calls (cap := c) h
    generalize (if netRight n then (netSum n : Int) else -1) = q at hspec himpl
    have HSP := Lib.hid hspec
    have HIM := Lib.hid himpl
    clear hspec himpl
    go_enter Try.func4, Try.ntmps4
    go_wp2_with fail
    refine (szWayS_calls w0).mono ?_
    rintro e w1 ⟨rfl, hb1⟩
    have h1 := h0.below hb1
    generalize szNet n 1048576 = r at *
    have H0 := Lib.hid h0
    clear w0 h0
    go_wp2_with fail
    refine (toWayS_calls h1).mono ?_
    rintro e w2 ⟨g, P, Q, rfl, ho, hb2⟩
    have hi := ho.in'
    clear ho
    go_wp2_with fail
    refine (HSP.out _ _ _ _ hi).mono ?_
    rintro e w3 ⟨rfl, hb3⟩
    have hA := hb1.trans (hb2.mono hb1.size)
    have hB := hA.trans (hb3.mono hA.size)
    clear hb1 hb2 hb3 hi h1 hA
    have h3 := H0.out.below hB
    go_wp2_with fail
    refine (toWayS_calls h3).mono ?_
    rintro e w4 ⟨g4, P4, Q4, rfl, ho4, hb4⟩
    have hi4 := ho4.in'
    clear h3 ho4
    go_wp2_with fail
    refine (HIM.out _ _ _ _ hi4).mono ?_
    rintro e w5 ⟨rfl, hb5⟩
    have hi5 := hi4.below hb5
    have hC := hB.trans (hb4.mono hB.size)
    have hD := hC.trans (hb5.mono hC.size)
    have h5 := H0.out.below hD
    clear hi4 hb4 hb5 hB hC
    go_wp2_with fail
    refine (toWayS_calls h5).mono ?_
    rintro e w6 ⟨g6, P6, Q6, rfl, ho6, hb6⟩
    have hi6 := ho6.in'
    have hi7 := hi5.below hb6
    have hE := hD.trans (hb6.mono hD.size)
    clear hi5 h5 hb6 hD ho6
    go_wp2_with fail
    refine (eqWayS_calls hi7 hi6).mono ?_
    rintro e w7 ⟨rfl, hb7⟩
    have hF := hE.trans (hb7.mono hE.size)
    clear hi6 hi7 hb7 hE
    go_wp2_with fail
    go_ret
    exact ⟨rfl, hF⟩
theorem own : ownKnob Try.prog.godebug = none := by kernel_rfl
theorem laidOut : laidOutB Try.prog = true := by kernel_rfl
set_option maxRecDepth 100000 in
theorem contract (H : Type) (enc : TypeId × Value → H) (W : World) (base : Nat) (args : Array Value) (ds gs : List (DataW H)) (before : List MemPlace)
    (hval : ∀ (j : Nat) t v, Try.f4.params[j]? = some t → args[j]? = some v → Value.okWide Try.prog W .any base t v)
    (hW : DataW.Whole enc Try.prog Try.f4.params.toList Rows.fnExactFlyingSpec.vars false W args.toList ds gs before) :
    Calls Try.prog 4 args W fun e W' => ∃ v, e = .returned v ∧ Rows.fnExactFlyingSpec.post enc Try.prog Try.f4 false true false false W args v W' := by
  have hW' := hW
  obtain ⟨p, q, hA0, hV, rfl, hfz, hnd⟩ := hW
  have hA : DataW.TrodAll enc Try.prog W 0 (fun _ => true) true Try.f4.params.toList args.toList ds p := hA0
  rw [Try.params4] at hA hval
  obtain ⟨v0, vs0, d0, ds0, p0, q0, hargs, rfl, rfl, h0, r0⟩ := trodAll_cons hA
  obtain ⟨rfl, rfl, rfl⟩ := trodAll_nil r0
  obtain rfl : args = #[v0] := by cases args; simp_all
  obtain ⟨rfl, rfl⟩ := trodVars_none hV
  obtain ⟨a0, len0, cap0, rfl⟩ := okWide_slice Try.underlying22 (hval 0 22 v0 rfl rfl)
  have k0 := h0
  have lt0 : ∀ x ∈ p0, x.block < W.heap.size := by obtain ⟨m, hm⟩ := k0; exact DataW.trod_lt m _ _ _ hm
  obtain ⟨z0, w0⟩ : ∃ l, RawNet W a0 len0 l := by obtain ⟨fuel, hf⟩ := h0; exact open_net (cap := cap0) (by simp [Value.cells]) hf
  clear hA0
  refine (walk a0 len0 cap0 z0 W w0).mono fun e W' ⟨he, bel⟩ => ?_
  subst he
  exact ⟨_, rfl, _, _, _, [], _, [], hW', trodAll_mk1 (shut_bool Try.underlying4 _), (trodAll_cons_mk (Below.trod laidOut (by kernel_rfl) (of_decide_eq_true (by kernel_rfl)) k0 bel lt0) trodAll_mk0), rfl, bel.frame _, fun h => by cases h⟩

set_option maxRecDepth 100000 in
theorem lifted (os : Os) (started : os.Started) (H : Type) (enc : TypeId × Value → H) :
    ReturnsInHanded {} Try.checked os 4 .any (Rows.fnExactFlyingSpec.pre6 enc Try.prog Try.f4 Rows.fnExactFlyingRow.domain false) (Rows.fnExactFlyingSpec.post enc Try.prog Try.f4 false true false false) := by
  refine returnsInHanded_of_change (C := Try.checked) own started (by kernel_rfl) Try.func4
    (ChangeSpec.witness6 (enc := enc) (C := Try.checked) false ⟨#[], #[.slice none 0 0], []⟩ 8 (by kernel_rfl) (by kernel_rfl) (by kernel_rfl) (by kernel_rfl)) ?_
  intro W base args ds gs before hval hW hcnd _
  exact contract H enc W base args ds gs before hval hW

/-- THE STATEMENT. -/
theorem proved : Rows.FnExactFlyingSaid :=
  OpenClaim.holds_of_wide 4 Try.f4 rfl rfl rfl rfl rfl rfl rfl ⟨rfl, rfl, rfl, rfl, rfl⟩ rfl rfl rfl rfl rfl (by kernel_rfl) Try.func4 (by kernel_rfl)
    (of_decide_eq_true (by kernel_rfl)) (by unfold Func.isWrapper; first | (rw [if_pos (by decide +kernel)]; kernel_rfl) | (rw [if_neg (by decide +kernel)]; exact ⟨rfl, rfl⟩))
    (fun os started H enc _ => lifted os started H enc)
#print axioms proved
end Go.Proofs.Ythimndilobadeaa.lawFlying
