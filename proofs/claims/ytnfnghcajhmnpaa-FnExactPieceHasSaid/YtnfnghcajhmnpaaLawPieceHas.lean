/- FnExactPieceHas: for every list of pieces and every place the program's PieceHas answers as the model's, and the list is as it was. No condition. -/
import Derived.Test.YtnfnghcajhmnpaaRows
import Derived.Test.YtnfnghcajhmnpaaPieceEq
import Derived.Test.YtnfnghcajhmnpaaPieceArg
import Derived.Test.YtnfnghcajhmnpaaHasI
import Derived.ProofKit
import Derived.OpenShut
import Derived.ShutString
import Derived.ChangeOld
import Derived.Below
namespace Go.Proofs.Ytnfnghcajhmnpaa.lawPieceHas
open Go.ChangeShapes Go.WideShapes Go.ChangeAt Go.RowKit
open Go.ChangeMaps (open_string shut_string)
set_option maxHeartbeats 1000000 in
set_option maxRecDepth 100000 in
theorem walk (a : Option Addr) (len cap : Nat) (l : List Pc) (n : Int) (w : World) (w0 : RawPcs w a len l) (w1 : (Lit.int .i64 n).wf = true) :
    Calls Try.prog 6 #[.slice a len cap, .int .i64 n] w fun e w' => e = .returned (.bool true) ∧ Below w.heap.size w w' := by
  obtain ⟨n1, n2⟩ := i64_bounds w1
  clear w1
  by_cases hs : szAll l 1048576 < 0
  · go_enter Try.func6, Try.ntmps6
    go_wp2_with (go_at_call 10; refine (szPieceS_calls w0).mono ?_; rintro e w1 ⟨rfl, hb1⟩)
    all_goals first
      | (go_ret; exact ⟨rfl, hb1⟩)
      | (exfalso; omega)
  · have h0 := inPcs_of w0 (by omega)
    go_enter Try.func6, Try.ntmps6
    go_wp2_with fail
    refine (szPieceS_calls w0).mono ?_
    rintro e w1 ⟨rfl, hb1⟩
    have h1 := h0.below hb1
    generalize szAll l 1048576 = r at *
    have HW := Lib.hid w0
    have H0 := Lib.hid h0
    clear w0 h0
    go_wp2_with fail
    refine (toPieceS_calls h1).mono ?_
    rintro e w2 ⟨g, rfl, hg, hi, hb2⟩
    go_wp2_with fail
    refine (hasS_calls hi n n1 n2).mono ?_
    rintro e w3 ⟨rfl, hb3⟩
    have hA := hb1.trans (hb2.mono hb1.size)
    have hB := hA.trans (hb3.mono hA.size)
    clear hb1 hb2 hb3 hi h1 hA
    have h3 := H0.out.below hB
    go_wp2_with fail
    refine (toPieceS_calls h3).mono ?_
    rintro e w4 ⟨g4, rfl, hg4, hi4, hb4⟩
    clear h3
    go_wp2_with fail
    refine (hasI_calls hi4 n).mono ?_
    rintro e w5 ⟨rfl, hb5⟩
    have hi5 := hi4.below hb5
    have hC := hB.trans (hb4.mono hB.size)
    have hD := hC.trans (hb5.mono hC.size)
    have h5 := H0.out.below hD
    clear hi4 hb4 hb5 hB hC
    generalize hasN l n = q
    go_wp2_with fail
    refine (toPieceS_calls h5).mono ?_
    rintro e w6 ⟨g6, rfl, hg6, hi6, hb6⟩
    have hi7 := hi5.below hb6
    have hE := hD.trans (hb6.mono hD.size)
    clear hi5 h5 hb6 hD
    go_wp2_with fail
    refine (eqPieceS_calls hi7 hi6).mono ?_
    rintro e w7 ⟨rfl, hb7⟩
    have hF := hE.trans (hb7.mono hE.size)
    clear hi6 hi7 hb7 hE
    go_wp2_with fail
    go_ret
    exact ⟨rfl, hF⟩
theorem own : ownKnob Try.prog.godebug = none := by kernel_rfl
theorem laidOut : laidOutB Try.prog = true := by kernel_rfl
set_option maxRecDepth 100000 in
theorem contract (H : Type) (enc : TypeId × Value → H) (W : World) (base : Nat) (args : Array Value) (ds gs : List (DataW H)) (before : List MemPlace)
    (hval : ∀ (j : Nat) t v, Try.f6.params[j]? = some t → args[j]? = some v → Value.okWide Try.prog W .any base t v)
    (hW : DataW.Whole enc Try.prog Try.f6.params.toList Rows.fnExactPieceHasSpec.vars false W args.toList ds gs before) :
    Calls Try.prog 6 args W fun e W' => ∃ v, e = .returned v ∧ Rows.fnExactPieceHasSpec.post enc Try.prog Try.f6 false true false false W args v W' := by
  have hW' := hW
  obtain ⟨p, q, hA0, hV, rfl, hfz, hnd⟩ := hW
  have hA : DataW.TrodAll enc Try.prog W 0 (fun _ => true) true Try.f6.params.toList args.toList ds p := hA0
  rw [Try.params6] at hA hval
  obtain ⟨v0, vs0, d0, ds0, p0, q0, hargs, rfl, rfl, h0, r0⟩ := trodAll_cons hA
  obtain ⟨v1, vs1, d1, ds1, p1, q1, rfl, rfl, rfl, h1, r1⟩ := trodAll_cons r0
  obtain ⟨rfl, rfl, rfl⟩ := trodAll_nil r1
  obtain rfl : args = #[v0, v1] := by cases args; simp_all
  obtain ⟨rfl, rfl⟩ := trodVars_none hV
  obtain ⟨a0, len0, cap0, rfl⟩ := okWide_slice Try.underlying22 (hval 0 22 v0 rfl rfl)
  have k0 := h0
  have lt0 : ∀ x ∈ p0, x.block < W.heap.size := by obtain ⟨m, hm⟩ := k0; exact DataW.trod_lt m _ _ _ hm
  obtain ⟨z0, w0⟩ : ∃ l, RawPcs W a0 len0 l := by obtain ⟨fuel, hf⟩ := h0; exact open_pieces (cap := cap0) (by simp [Value.cells]) hf
  obtain ⟨a1, rfl, rfl, rfl, w1⟩ := open_int Try.underlying2 (hval 1 2 v1 rfl rfl) h1
  clear hA0
  refine (walk a0 len0 cap0 z0 a1 W w0 w1).mono fun e W' ⟨he, bel⟩ => ?_
  subst he
  exact ⟨_, rfl, _, _, _, [], _, [], hW', trodAll_mk1 (shut_bool Try.underlying4 _), (trodAll_cons_mk (Below.trod laidOut (by kernel_rfl) (of_decide_eq_true (by kernel_rfl)) k0 bel lt0) (trodAll_cons_mk (shut_int Try.underlying2 w1) trodAll_mk0)), rfl, bel.frame _, fun h => by cases h⟩

set_option maxRecDepth 100000 in
theorem lifted (os : Os) (started : os.Started) (H : Type) (enc : TypeId × Value → H) :
    ReturnsInHanded {} Try.checked os 6 .any (Rows.fnExactPieceHasSpec.pre6 enc Try.prog Try.f6 Rows.fnExactPieceHasRow.domain false) (Rows.fnExactPieceHasSpec.post enc Try.prog Try.f6 false true false false) := by
  refine returnsInHanded_of_change (C := Try.checked) own started (by kernel_rfl) Try.func6
    (ChangeSpec.witness6 (enc := enc) (C := Try.checked) false ⟨#[], #[.slice none 0 0, .int .i64 0], []⟩ 8 (by kernel_rfl) (by kernel_rfl) (by kernel_rfl) (by kernel_rfl)) ?_
  intro W base args ds gs before hval hW hcnd _
  exact contract H enc W base args ds gs before hval hW

/-- THE STATEMENT. -/
theorem proved : Rows.FnExactPieceHasSaid :=
  OpenClaim.holds_of_wide 6 Try.f6 rfl rfl rfl rfl rfl rfl rfl ⟨rfl, rfl, rfl, rfl, rfl⟩ rfl rfl rfl rfl rfl (by kernel_rfl) Try.func6 (by kernel_rfl)
    (of_decide_eq_true (by kernel_rfl)) (by unfold Func.isWrapper; first | (rw [if_pos (by decide +kernel)]; kernel_rfl) | (rw [if_neg (by decide +kernel)]; exact ⟨rfl, rfl⟩))
    (fun os started H enc _ => lifted os started H enc)
#print axioms proved
end Go.Proofs.Ytnfnghcajhmnpaa.lawPieceHas
