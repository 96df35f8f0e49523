/- FnExactPieceCut: for every list of pieces and every place the program's PieceCut answers as the model's, the list is as it was, and the answer shares no memory with it or with another answer. No condition. -/
import Derived.Test.YtnfnghcajhmnpaaRows
import Derived.Test.YtnfnghcajhmnpaaPieceEq
import Derived.Test.YtnfnghcajhmnpaaPieceArg
import Derived.Test.YtnfnghcajhmnpaaPieceRow
import Derived.Test.YtnfnghcajhmnpaaCutP
import Derived.ProofKit
import Derived.OpenShut
import Derived.ShutString
import Derived.ChangeOld
import Derived.Below
namespace Go.Proofs.Ytnfnghcajhmnpaa.lawPieceCut
open Go.ChangeShapes Go.WideShapes Go.ChangeAt Go.RowKit
open Go.ChangeMaps (open_string shut_string)
set_option maxHeartbeats 4000000 in
set_option maxRecDepth 100000 in
theorem walk (a : Option Addr) (len cap : Nat) (l : List Pc) (n : Int) (w : World) (w0 : RawPcs w a len l) (w1 : (Lit.int .i64 n).wf = true) :
    Calls Try.prog 4 #[.slice a len cap, .int .i64 n] w fun e w' => e = .returned (.bool true) ∧ Below w.heap.size w w' := by
  obtain ⟨n1, n2⟩ := i64_bounds w1
  clear w1
  by_cases hs : szAll l 1048576 < 0
  · go_enter Try.func4, Try.ntmps4
    go_wp2_with (go_at_call 10; refine (szPieceS_calls w0).mono ?_; rintro e w1 ⟨rfl, hb1⟩)
    all_goals first
      | (go_ret; exact ⟨rfl, hb1⟩)
      | (exfalso; omega)
  · have h0 := inPcs_of w0 (by omega)
    have hrl : (cutR l n).1.length ≤ 2000000 := cutR_len h0.long h0.most n
    have hrf : ∀ p ∈ (cutR l n).1, -9223372036854775808 ≤ p.1 ∧ p.1 ≤ 9223372036854775807 ∧ p.2.length ≤ 2000000 := cutR_fits (fun p hp => by obtain ⟨k, hk, rfl⟩ := mem_pcAt hp; exact h0.fit k (by rw [← h0.long]; exact hk)) n n1 n2
    have hspec := fun (w : World) (a : Option Addr) (cap : Nat) (h : InPcs w a len l) => (cutRS_calls (cap := cap) h n n1 n2).mono (fun e w' ho => outRow_row ho hrl hrf)
    have himpl := fun (w : World) (a : Option Addr) (cap : Nat) (h : InPcs w a len l) => (cutRI_calls (cap := cap) h n).mono (fun e w' ho => outRow_row ho hrl hrf)
    generalize (cutR l n) = R at *
    obtain ⟨L, c⟩ := R
    dsimp only at hspec himpl hrl
    generalize hnn : L.length = nn at *
    have HSP := Lib.hid hspec
    have HIM := Lib.hid himpl
    have H0 := Lib.hid h0
    clear hspec himpl hrf hnn
    go_enter Try.func4, Try.ntmps4
    go_wp2_with fail
    refine (szPieceS_calls w0).mono ?_
    rintro e w1 ⟨rfl, hb1⟩
    have h1 := H0.out.below hb1
    generalize szAll l 1048576 = r at *
    clear w0 h0
    go_wp2_with fail
    refine (toPieceS_calls h1).mono ?_
    rintro e w2 ⟨g, rfl, -, hi, hb2⟩
    go_wp2_with fail
    refine (HSP.out _ _ _ hi).mono ?_
    rintro e w3 ⟨a3, c3, rfl, hr3, hb3⟩
    have hA := hb1.trans (hb2.mono hb1.size)
    have hB := hA.trans (hb3.mono hA.size)
    have hs3 := hB.size
    have hbx : Below w3.heap.size w3 (w3.alloc (.cells #[.slice a3 nn c3, .int .i64 c] 30)) := (Below.refl _ _).alloc (Nat.le_refl _) _
    have x60 : (w3.alloc (.cells #[.slice a3 nn c3, .int .i64 c] 30)).cell? ⟨w3.heap.size, 0, none⟩ = some (.slice a3 nn c3) := by simp
    have x61 : (w3.alloc (.cells #[.slice a3 nn c3, .int .i64 c] 30)).cell? ⟨w3.heap.size, 1, none⟩ = some (.int .i64 c) := by simp
    have hC := hB.trans (hbx.mono hs3)
    have r3 := hr3.below hbx
    have HR3 := Lib.hid hr3.own
    have h3 := H0.out.below hC
    have hsz4 : (w3.alloc (.cells #[.slice a3 nn c3, .int .i64 c] 30)).heap.size = w3.heap.size + 1 := by simp
    clear hb1 hb2 hb3 hi h1 hA hr3 hbx
    go_wp2_with fail
    generalize w3.alloc (.cells #[.slice a3 nn c3, .int .i64 c] 30) = w4 at *
    have HS4 := Lib.hid hsz4
    clear hsz4
    refine (toPieceS_own h3).mono ?_
    rintro e w5 ⟨gx, rfl, hgx, hi5, hb5, hop5, hgx2⟩
    have r5 := r3.below hb5
    have hD := hC.trans (hb5.mono hC.size)
    have y60 := (hb5.cell (World.block_lt_of_cell? _ _ x60)).trans x60
    have y61 := (hb5.cell (World.block_lt_of_cell? _ _ x61)).trans x61
    have hgx3 : w3.heap.size < gx := by have := HS4.out; omega
    have hs5 : w.heap.size ≤ w3.heap.size := hs3
    clear hb5 r3 h3 x60 x61 hB hC hgx
    go_wp2_with fail
    refine (HIM.out _ _ _ hi5).mono ?_
    rintro e w6 ⟨a6, c6, rfl, hr6, hb6⟩
    have hE := hD.trans (hb6.mono hD.size)
    have hs6 := hE.size
    have z60 := (hb6.cell (World.block_lt_of_cell? _ _ y60)).trans y60
    have z61 := (hb6.cell (World.block_lt_of_cell? _ _ y61)).trans y61
    have r6 := r5.below hb6
    have i6 := hi5.below hb6
    have o6 := hop5.below hb6
    have h36 : w3.heap.size < w6.heap.size := World.block_lt_of_cell? _ _ z60
    have h56 : w5.heap.size ≤ w6.heap.size := hb6.size
    have HQ6 := Lib.hid hr6.own
    clear hi5 hop5 r5 y60 y61 hb6 hD
    go_wp2_with fail
    have hbx : Below w6.heap.size w6 (w6.alloc (.cells #[.slice a6 nn c6, .int .i64 c] 30)) := (Below.refl _ _).alloc (Nat.le_refl _) _
    have bx7 : Boxes (w6.alloc (.cells #[.slice a6 nn c6, .int .i64 c] 30)) w3.heap.size w6.heap.size (.slice a3 nn c3) (.slice a6 nn c6) c := ⟨(hbx.cell h36).trans z60, (hbx.cell h36).trans z61, by simp, by simp⟩
    have r7 := r6.below hbx
    have q7 := hr6.below hbx
    have i7 := i6.below hbx
    have o7 := o6.below hbx
    have hF := hE.trans (hbx.mono hs6)
    generalize w6.alloc (.cells #[.slice a6 nn c6, .int .i64 c] 30) = w7 at *
    clear hbx r6 hr6 i6 o6 z60 z61 hE
    refine (eqOut_calls c c q7.in' r7.in').mono ?_
    rintro e w8 ⟨rfl, hb8⟩
    simp only [decide_true, Bool.and_self]
    have HBX := Lib.hid (bx7.below hb8)
    have r8 := r7.below hb8
    have q8 := q7.below hb8
    have i8 := i7.below hb8
    have o8 := o7.below hb8
    have hG := hF.trans (hb8.mono hF.size)
    have h8 := H0.out.below hG
    clear bx7 r7 q7 i7 o7 hb8 hF
    go_wp2_with fail
    refine (toPieceS_calls h8).mono ?_
    rintro e w9 ⟨g9, rfl, -, i9', hb9⟩
    have i9 := i8.below hb9
    have hG := hG.trans (hb9.mono hG.size)
    have HBX := Lib.hid (HBX.out.below hb9)
    have r9 := r8.below hb9
    have q9 := q8.below hb9
    have o9 := o8.below hb9
    clear r8 q8 i8 o8 hb9 h8
    go_wp2_with fail
    refine (eqPieceS_calls i9 i9').mono ?_
    rintro e w10 ⟨rfl, hb10⟩
    simp only [decide_true]
    have hG := hG.trans (hb10.mono hG.size)
    have HBX := Lib.hid (HBX.out.below hb10)
    have r10 := r9.below hb10
    have q10 := q9.below hb10
    have o10 := o9.below hb10
    have hmk := mark_calls (cap := len) (k := 1) o10 H0.out.most (by omega)
    have HMK := Lib.hid hmk
    clear r9 q9 i9 i9' o9 o10 hb10 hmk
    go_wp2_with fail
    refine HMK.out.mono ?_
    rintro e w11 ⟨rfl, -, -, hg11⟩
    have hG := hG.grown hg11 hG.size (fun k hk => by cases hk; omega)
    have HBX := Lib.hid (HBX.out.grown hg11 (by omega) (by omega))
    have r11 := r10.grown hg11 (fun b o e => by have := (HR3.out b o e).2; omega)
    have q11 := q10.grown hg11 (fun b o e => by have := (HQ6.out b o e).1; omega)
    obtain ⟨z60, z61, z80, z81⟩ := HBX.out
    have hlm := H0.out.most
    clear r10 q10 hg11 HMK
    go_wp2_with fail
    refine (eqOut_calls c c q11.in' r11.in').mono ?_
    rintro e w12 ⟨rfl, hb12⟩
    simp only [decide_true, Bool.and_self]
    have hG := hG.trans (hb12.mono hG.size)
    have HBX := Lib.hid (HBX.out.below hb12)
    have r12 := r11.below hb12
    have q12 := q11.below hb12
    have hmk := markRow_calls (cap := c6) (k := 1) c q12 (by omega) gx
    have HMK := Lib.hid hmk
    clear r11 q11 hb12 hmk z60 z61 z80 z81
    obtain ⟨z60, z61, z80, z81⟩ := HBX.out
    go_wp2_with fail
    refine HMK.out.mono ?_
    rintro e w13 ⟨rfl, k13, g13, hg13, hgg⟩
    have hgq : (g13 = gx) ∨ (w5.heap.size ≤ g13 ∧ g13 < w6.heap.size) := by
      rcases hgg with h | ⟨o, h⟩
      · exact .inl h
      · exact .inr (HQ6.out g13 o h)
    have hG := hG.grown hg13 hG.size (fun k hk => by cases hk; omega)
    have HBX := Lib.hid (HBX.out.grown hg13 (by omega) (by omega))
    have r13 := r12.grown hg13 (fun b o e => by have := (HR3.out b o e).2; omega)
    have hhe := heldOut_calls (cap := c6) (k := 1) c k13 (by omega)
    have HHE := Lib.hid hhe
    have h13 := q12.in'.most
    clear r12 q12 hg13 hgg hgq hhe HMK z60 z61 z80 z81
    obtain ⟨z60, z61, z80, z81⟩ := HBX.out
    go_wp2_with fail
    refine HHE.out.mono ?_
    rintro e w14 ⟨rfl, hb14⟩
    have hG := hG.trans (hb14.mono hG.size)
    have HBX := Lib.hid (HBX.out.below hb14)
    have r14 := r13.below hb14
    have k14 := k13.below hb14
    have h14 := H0.out.below hG
    clear r13 k13 hb14 HHE z60 z61 z80 z81
    go_wp2_with fail
    refine (toPieceS_calls h14).mono ?_
    rintro e w15 ⟨g15, rfl, -, i15, hb15⟩
    have hG := hG.trans (hb15.mono hG.size)
    have HBX := Lib.hid (HBX.out.below hb15)
    have r15 := r14.below hb15
    have k15 := k14.below hb15
    clear r14 k14 h14 hb15
    go_wp2_with fail
    refine (HIM.out _ _ _ i15).mono ?_
    rintro e w16 ⟨a16, c16, rfl, hr16, hb16⟩
    have hG := hG.trans (hb16.mono hG.size)
    have HBX := Lib.hid (HBX.out.below hb16)
    have r16 := r15.below hb16
    have k16 := k15.below hb16
    clear r15 k15 i15 hb16
    obtain ⟨z60, z61, z80, z81⟩ := HBX.out
    have h3l : w3.heap.size < w16.heap.size := World.block_lt_of_cell? _ _ z60
    have h6l : w6.heap.size < w16.heap.size := World.block_lt_of_cell? _ _ z80
    go_wp2_with fail
    have hbx : Below w16.heap.size w16 (w16.alloc (.cells #[.slice a16 nn c16, .int .i64 c] 30)) := (Below.refl _ _).alloc (Nat.le_refl _) _
    have hG := hG.trans (hbx.mono hG.size)
    have HBX := Lib.hid (HBX.out.below hbx)
    have r17 := r16.below hbx
    have k17 := k16.below hbx
    have q17 := hr16.below hbx
    generalize w16.alloc (.cells #[.slice a16 nn c16, .int .i64 c] 30) = w17 at *
    clear hbx r16 k16 hr16 z60 z61 z80 z81
    refine (eqOut_calls c c q17.in' r17.in').mono ?_
    rintro e w18 ⟨rfl, hb18⟩
    simp only [decide_true, Bool.and_self]
    have hG := hG.trans (hb18.mono hG.size)
    have HBX := Lib.hid (HBX.out.below hb18)
    have k18 := k17.below hb18
    have hhe := heldOut_calls (cap := c6) (k := 1) c k18 (by omega)
    have HHE := Lib.hid hhe
    clear r17 q17 k17 hb18 hhe
    obtain ⟨z60, z61, z80, z81⟩ := HBX.out
    go_wp2_with fail
    refine HHE.out.mono ?_
    rintro e w19 ⟨rfl, hb19⟩
    have HG := Lib.hid (hG.trans (hb19.mono hG.size))
    clear k18 hb19 hG
    go_wp2_with fail
    go_ret
    exact ⟨rfl, HG.out⟩
theorem own : ownKnob Try.prog.godebug = none := by kernel_rfl
theorem laidOut : laidOutB Try.prog = true := by kernel_rfl
set_option maxRecDepth 100000 in
theorem contract (H : Type) (enc : TypeId × Value → H) (W : World) (base : Nat) (args : Array Value) (ds gs : List (DataW H)) (before : List MemPlace)
    (hval : ∀ (j : Nat) t v, Try.f4.params[j]? = some t → args[j]? = some v → Value.okWide Try.prog W .any base t v)
    (hW : DataW.Whole enc Try.prog Try.f4.params.toList Rows.fnExactPieceCutSpec.vars false W args.toList ds gs before) :
    Calls Try.prog 4 args W fun e W' => ∃ v, e = .returned v ∧ Rows.fnExactPieceCutSpec.post enc Try.prog Try.f4 false true false false W args v W' := by
  have hW' := hW
  obtain ⟨p, q, hA0, hV, rfl, hfz, hnd⟩ := hW
  have hA : DataW.TrodAll enc Try.prog W 0 (fun _ => true) true Try.f4.params.toList args.toList ds p := hA0
  rw [Try.params4] at hA hval
  obtain ⟨v0, vs0, d0, ds0, p0, q0, hargs, rfl, rfl, h0, r0⟩ := trodAll_cons hA
  obtain ⟨v1, vs1, d1, ds1, p1, q1, rfl, rfl, rfl, h1, r1⟩ := trodAll_cons r0
  obtain ⟨rfl, rfl, rfl⟩ := trodAll_nil r1
  obtain rfl : args = #[v0, v1] := by cases args; simp_all
  obtain ⟨rfl, rfl⟩ := trodVars_none hV
  obtain ⟨a0, len0, cap0, rfl⟩ := okWide_slice Try.underlying22 (hval 0 22 v0 rfl rfl)
  have k0 := h0
  have lt0 : ∀ x ∈ p0, x.block < W.heap.size := by obtain ⟨m, hm⟩ := k0; exact DataW.trod_lt m _ _ _ hm
  obtain ⟨z0, w0⟩ : ∃ l, RawPcs W a0 len0 l := by obtain ⟨fuel, hf⟩ := h0; exact open_pieces (cap := cap0) (by simp [Value.cells]) hf
  obtain ⟨a1, rfl, rfl, rfl, w1⟩ := open_int Try.underlying2 (hval 1 2 v1 rfl rfl) h1
  clear hA0
  refine (walk a0 len0 cap0 z0 a1 W w0 w1).mono fun e W' ⟨he, bel⟩ => ?_
  subst he
  exact ⟨_, rfl, _, _, _, [], _, [], hW', trodAll_mk1 (shut_bool Try.underlying4 _), (trodAll_cons_mk (Below.trod laidOut (by kernel_rfl) (of_decide_eq_true (by kernel_rfl)) k0 bel lt0) (trodAll_cons_mk (shut_int Try.underlying2 w1) trodAll_mk0)), rfl, bel.frame _, fun h => by cases h⟩

set_option maxRecDepth 100000 in
theorem lifted (os : Os) (started : os.Started) (H : Type) (enc : TypeId × Value → H) :
    ReturnsInHanded {} Try.checked os 4 .any (Rows.fnExactPieceCutSpec.pre6 enc Try.prog Try.f4 Rows.fnExactPieceCutRow.domain false) (Rows.fnExactPieceCutSpec.post enc Try.prog Try.f4 false true false false) := by
  refine returnsInHanded_of_change (C := Try.checked) own started (by kernel_rfl) Try.func4
    (ChangeSpec.witness6 (enc := enc) (C := Try.checked) false ⟨#[], #[.slice none 0 0, .int .i64 0], []⟩ 8 (by kernel_rfl) (by kernel_rfl) (by kernel_rfl) (by kernel_rfl)) ?_
  intro W base args ds gs before hval hW hcnd _
  exact contract H enc W base args ds gs before hval hW

/-- THE STATEMENT. -/
theorem proved : Rows.FnExactPieceCutSaid :=
  OpenClaim.holds_of_wide 4 Try.f4 rfl rfl rfl rfl rfl rfl rfl ⟨rfl, rfl, rfl, rfl, rfl⟩ rfl rfl rfl rfl rfl (by kernel_rfl) Try.func4 (by kernel_rfl)
    (of_decide_eq_true (by kernel_rfl)) (by unfold Func.isWrapper; first | (rw [if_pos (by decide +kernel)]; kernel_rfl) | (rw [if_neg (by decide +kernel)]; exact ⟨rfl, rfl⟩))
    (fun os started H enc _ => lifted os started H enc)
#print axioms proved
end Go.Proofs.Ytnfnghcajhmnpaa.lawPieceCut
