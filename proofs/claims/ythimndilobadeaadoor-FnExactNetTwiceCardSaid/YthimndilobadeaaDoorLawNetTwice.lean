/- FnExactNetTwice: for every net, path, direction and place the program's NetTwice answers as the model's, the net is as it was, and the answer shares no memory with it or with another answer. No condition. -/
import Derived.Test.YthimndilobadeaaDoorRows
import Derived.Test.YthimndilobadeaaDoorNetNS
import Derived.Test.YthimndilobadeaaDoorNetArg
import Derived.ProofKit
import Derived.OpenShut
import Derived.ShutString
import Derived.ChangeOld
import Derived.Below
import Derived.Test.YthimndilobadeaaDoorCards
import Derived.Test.YthimndilobadeaaDoorTie
import Derived.Test.YthimndilobadeaaDoorAs
import Derived.Deep.DeepHandedRow
namespace Go.Proofs.YthimndilobadeaaDoor.lawNetTwice
open Go.ChangeShapes Go.WideShapes Go.ChangeAt Go.RowKit
open Go.ChangeMaps (open_string shut_string)
set_option maxHeartbeats 4000000 in
set_option maxRecDepth 100000 in
theorem walk (a : Option Addr) (len cap : Nat) (n : Nt) (path : Int) (back : Bool) (x : Int) (w : World) (w0 : RawNet w a len n) (w1 : (Lit.int .i64 path).wf = true) (_ : (Lit.int .i64 x).wf = true) (hg : EtCell w) :
    Calls Tryd.prog 4 #[.slice a len cap, .int .i64 path, .bool back, .int .i64 x] w fun e w' => e = .returned (.bool true) ∧ Below w.heap.size w w' := by
  obtain ⟨n1, n2⟩ := i64_bounds w1
  clear w1
  by_cases hs : szNet n 1048576 < 0
  · go_enter Tryd.func4, Tryd.ntmps4
    go_wp2_with (go_at_call 5; refine (szWayS_calls w0).mono ?_; rintro e w1 ⟨rfl, hb1⟩)
    all_goals first
      | (go_ret; exact ⟨rfl, hb1⟩)
      | (exfalso; omega)
  · have h0 := inNet_of w0 (by omega)
    have hsn := szNet_sum (l := n) (n := 1048576) (by omega)
    have hsr := twiceR_sum n path back x
    have hspec := fun (V : World) (lo hi g l c : Nat) (P Q : Nat → Nat) (h : NetOwn V lo hi g l n P Q) => twiceS_calls (cap := c) h path n1 n2 back x
    have himpl := fun (V : World) (lo hi g l c : Nat) (P Q : Nat → Nat) (h : NetOwn V lo hi g l n P Q) (he : EtCell V) => twiceI_calls (cap := c) h.in' path n1 n2 back x he
    generalize twiceR n path back x = R at *
    obtain ⟨N, bs, c⟩ := R
    dsimp only at hsr
    unfold NetSays at hspec
    unfold NetAns at himpl
    dsimp only at hspec himpl
    have HSP := Lib.hid hspec
    have HIM := Lib.hid himpl
    have H0 := Lib.hid h0
    have HG := Lib.hid hg
    clear hspec himpl hg
    go_enter Tryd.func4, Tryd.ntmps4
    go_wp2_with fail
    refine (szWayS_calls w0).mono ?_
    rintro e w1 ⟨rfl, hb1⟩
    have h1 := H0.out.below hb1
    generalize szNet n 1048576 = r at *
    clear w0 h0
    go_wp2_with fail
    refine (toWayS_calls h1).mono ?_
    rintro e w2 ⟨g2, P2, Q2, rfl, ho2, hb2⟩
    have HO2 := Lib.hid ho2
    clear ho2
    go_wp2_with fail
    refine (HSP.out _ _ _ _ _ _ _ _ HO2.out).mono ?_
    rintro e w3 ⟨a3, l3, c3, rfl, hi3, hb3⟩
    have hA := hb1.trans (hb2.mono hb1.size)
    have hB := hA.trans (hb3.mono hA.size)
    have hs3 := hB.size
    have hl3 := hi3.lt
    have hbx : Below w3.heap.size w3 (w3.alloc (.cells #[.slice a3 l3 c3, gs bs, .int .i64 c] 26)) := (Below.refl _ _).alloc (Nat.le_refl _) _
    have hsz4 : (w3.alloc (.cells #[.slice a3 l3 c3, gs bs, .int .i64 c] 26)).heap.size = w3.heap.size + 1 := by simp
    have hx4 := box_at w3 (.slice a3 l3 c3) bs c 26
    have h4 := H0.out.below (hB.trans (hbx.mono hs3))
    have HB3 := Lib.hid (hB.trans (hbx.mono hs3))
    have HX4 := Lib.hid hx4
    have HI4 := Lib.hid (hl3.below hbx)
    clear hb1 hb2 hb3 hA hB hi3 hl3 hx4 hbx h1 HO2
    unfold netV
    go_wp2_with fail
    generalize w3.alloc (.cells #[.slice a3 l3 c3, gs bs, .int .i64 c] 26) = w4 at *
    refine (toWayS_calls h4).mono ?_
    rintro e w5 ⟨gx, P, Q, rfl, hox, hb5⟩
    have HB5 := Lib.hid (HB3.out.trans (hb5.mono HB3.out.size))
    have HOX := Lib.hid hox
    have HK5 := Lib.hid hb5
    have hs5 := hb5.size
    clear hox hb5 h4
    go_wp2_with fail
    refine (HIM.out _ _ _ _ _ _ _ _ HOX.out (HG.out.below HB5.out)).mono ?_
    rintro e w6 ⟨a6, l6, c6, rfl, hr6, hb6⟩
    have hb46 := HK5.out.trans (hb6.mono hs5)
    have hs6 := hb6.size
    have hbx : Below w6.heap.size w6 (w6.alloc (.cells #[.slice a6 l6 c6, gs bs, .int .i64 c] 26)) := (Below.refl _ _).alloc (Nat.le_refl _) _
    have hb47 := hb46.trans (hbx.mono hb46.size)
    have hx7 := box_at w6 (.slice a6 l6 c6) bs c 26
    have kA : ∀ {o : Nat} {v : Value}, w4.cell? ⟨w3.heap.size, o, none⟩ = some v → (w6.alloc (.cells #[.slice a6 l6 c6, gs bs, .int .i64 c] 26)).cell? ⟨w3.heap.size, o, none⟩ = some v := fun h => (hb47.cell (World.block_lt_of_cell? _ _ h)).trans h
    have hns : NS w w3.heap.size w6.heap.size w4.heap.size w5.heap.size w5.heap.size w6.heap.size l3 c3 l6 c6 gx len a3 a6 bs c N n N P Q (w6.alloc (.cells #[.slice a6 l6 c6, gs bs, .int .i64 c] 26)) :=
      ⟨HB3.out.trans (hb47.mono HB3.out.size), ⟨hs3, by omega, by omega, Nat.le_refl _, by omega, Nat.le_refl _⟩, (HOX.out.below hb6).below hbx, hr6.below hbx, HI4.out.below hb47, kA HX4.out.1, kA HX4.out.2.1, kA HX4.out.2.2, hx7.1, hx7.2.1, hx7.2.2⟩
    have HNS := Lib.hid hns
    have z0 := (hb46.cell (World.block_lt_of_cell? _ _ HX4.out.1)).trans HX4.out.1
    have z1 := (hb46.cell (World.block_lt_of_cell? _ _ HX4.out.2.1)).trans HX4.out.2.1
    have z2 := (hb46.cell (World.block_lt_of_cell? _ _ HX4.out.2.2)).trans HX4.out.2.2
    have h36 : w3.heap.size < w6.heap.size := by omega
    have HS := Lib.hid (show w.heap.size ≤ w3.heap.size ∧ w3.heap.size < w4.heap.size ∧ w4.heap.size ≤ w5.heap.size ∧ w5.heap.size ≤ w6.heap.size from ⟨hs3, by omega, by omega, by omega⟩)
    clear hb6 hr6 hb46 hbx hb47 hx7 kA hns HK5 HB5 HOX HB3 HX4 HI4
    unfold netV
    go_wp2_with fail
    generalize w6.alloc (.cells #[.slice a6 l6 c6, gs bs, .int .i64 c] 26) = w7 at *
    clear z0 z1 z2
    refine (eqNetOut_calls bs c HNS.out.r.in' HNS.out.s).mono ?_
    rintro e w8 ⟨rfl, hb8⟩
    have HN8 := Lib.hid (HNS.out.next hb8)
    clear hb8 HNS
    go_wp2_with fail
    refine (toWayS_calls (H0.out.below HN8.out.below)).mono ?_
    rintro e w9 ⟨g9, P9, Q9, rfl, ho9, hb9⟩
    have HO9 := Lib.hid ho9
    have HN9 := Lib.hid (HN8.out.next hb9)
    clear hb9 HN8 ho9
    go_wp2_with fail
    refine (eqWayS_calls HN9.out.x.in' HO9.out.in').mono ?_
    rintro e w10 ⟨rfl, hb10⟩
    simp only [decide_true]
    have HNA := Lib.hid (HN9.out.next hb10)
    clear hb10 HN9 HO9
    have hmk := markWayS_calls (cap := len) (k := 1) HNA.out.x (by omega)
    have HMK := Lib.hid hmk
    clear hmk
    have z0 := HNA.out.a0
    have z1 := HNA.out.a1
    have z2 := HNA.out.a2
    have y0 := HNA.out.g0
    have y1 := HNA.out.g1
    have y2 := HNA.out.g2
    go_wp2_with fail
    refine HMK.out.mono ?_
    rintro e w11 ⟨rfl, ho11, hk11⟩
    have HNB := Lib.hid (HNA.out.markX ho11 hk11)
    clear hk11 ho11 HNA HMK z0 z1 z2 y0 y1 y2
    have z0 := HNB.out.a0
    have z1 := HNB.out.a1
    have z2 := HNB.out.a2
    have y0 := HNB.out.g0
    have y1 := HNB.out.g1
    have y2 := HNB.out.g2
    have hq1 : ¬ ((1 + netSum n : Nat) : Int) < 0 := by omega
    go_wp2_with fail
    refine (eqNetOut_calls bs c HNB.out.r.in' HNB.out.s).mono ?_
    rintro e w12 ⟨rfl, hb12⟩
    have HNC := Lib.hid (HNB.out.next hb12)
    clear hb12 HNB z0 z1 z2 y0 y1 y2
    have z0 := HNC.out.a0
    have z1 := HNC.out.a1
    have z2 := HNC.out.a2
    have y0 := HNC.out.g0
    have y1 := HNC.out.g1
    have y2 := HNC.out.g2
    have hmk := markRow_net (cap := c6) (k := 1) bs c HNC.out.r (by omega)
    have HMK := Lib.hid hmk
    clear hmk
    go_wp2_with fail
    refine HMK.out.mono ?_
    rintro e w13 ⟨rfl, ho13, hk13⟩
    have HND := Lib.hid (HNC.out.markG ho13 hk13)
    clear hk13 ho13 HNC HMK z0 z1 z2 y0 y1 y2
    have z0 := HND.out.a0
    have z1 := HND.out.a1
    have z2 := HND.out.a2
    have y0 := HND.out.g0
    have y1 := HND.out.g1
    have y2 := HND.out.g2
    have hhe := heldNetOut_calls (cap := c6) (k := 1) bs c HND.out.r.in' (by omega)
    have HHE := Lib.hid hhe
    clear hhe
    have hq2 : ¬ ((1 + netSum N : Nat) : Int) < 0 := by omega
    go_wp2_with fail
    refine HHE.out.mono ?_
    rintro e w14 ⟨rfl, hb14⟩
    have HNE := Lib.hid (HND.out.next hb14)
    clear hb14 HND HHE z0 z1 z2 y0 y1 y2
    go_wp2_with fail
    refine (toWayS_calls (H0.out.below HNE.out.below)).mono ?_
    rintro e w15 ⟨g15, P15, Q15, rfl, ho15, hb15⟩
    have HO15 := Lib.hid ho15
    have HNF := Lib.hid (HNE.out.next hb15)
    clear hb15 HNE ho15
    go_wp2_with fail
    refine (HIM.out _ _ _ _ _ _ _ _ HO15.out (HG.out.below HNF.out.below)).mono ?_
    rintro e w16 ⟨a16, l16, c16, rfl, hr16, hb16⟩
    have HNG := Lib.hid (HNF.out.next hb16)
    have HR16 := Lib.hid hr16
    clear hb16 hr16 HNF HO15
    have z0 := HNG.out.a0
    have z1 := HNG.out.a1
    have z2 := HNG.out.a2
    have h3l := World.block_lt_of_cell? _ _ z0
    have hbx : Below w16.heap.size w16 (w16.alloc (.cells #[.slice a16 l16 c16, gs bs, .int .i64 c] 26)) := (Below.refl _ _).alloc (Nat.le_refl _) _
    have HNH := Lib.hid (HNG.out.next hbx)
    have HR17 := Lib.hid (HR16.out.below hbx)
    dsimp only at h3l
    clear hbx HR16 HNG
    unfold netV
    go_wp2_with fail
    generalize w16.alloc (.cells #[.slice a16 l16 c16, gs bs, .int .i64 c] 26) = w17 at *
    clear z0 z1 z2 h3l
    refine (eqNetOut_calls bs c HR17.out.in' HNH.out.s).mono ?_
    rintro e w18 ⟨rfl, hb18⟩
    have HNI := Lib.hid (HNH.out.next hb18)
    clear hb18 HNH HR17
    have z0 := HNI.out.a0
    have z1 := HNI.out.a1
    have z2 := HNI.out.a2
    have y0 := HNI.out.g0
    have y1 := HNI.out.g1
    have y2 := HNI.out.g2
    have hhe := heldNetOut_calls (cap := c6) (k := 1) bs c HNI.out.r.in' (by omega)
    have HHE := Lib.hid hhe
    clear hhe
    go_wp2_with fail
    refine HHE.out.mono ?_
    rintro e w19 ⟨rfl, hb19⟩
    have HB := Lib.hid (HNI.out.next hb19).below
    clear hb19 HNI HHE z0 z1 z2 y0 y1 y2
    go_wp2_with fail
    go_ret
    exact ⟨rfl, HB.out⟩
theorem own : ownKnob Tryd.prog.godebug = none := by kernel_rfl
theorem laidOut : laidOutB Tryd.prog = true := by kernel_rfl
set_option maxRecDepth 100000 in
theorem contract (H : Type) (enc : TypeId × Value → H) (W : World) (base : Nat) (args : Array Value) (ds gs : List (DataW H)) (before : List MemPlace)
    (hval : ∀ (j : Nat) t v, Tryd.f4.params[j]? = some t → args[j]? = some v → Value.okWide Tryd.prog W .any base t v)
    (hW : DataW.Whole enc Tryd.prog Tryd.f4.params.toList Rows.fnExactNetTwiceSpec.vars false W args.toList ds gs before) (hL : laidMetH Tryd.prog Rows.fnExactNetTwiceRow.laid W) :
    Calls Tryd.prog 4 args W fun e W' => ∃ v, e = .returned v ∧ Rows.fnExactNetTwiceSpec.post enc Tryd.prog Tryd.f4 false true false false W args v W' := by
  have hW' := hW
  obtain ⟨p, q, hA0, hV, rfl, hfz, hnd⟩ := hW
  have hA : DataW.TrodAll enc Tryd.prog W 0 (fun _ => true) true Tryd.f4.params.toList args.toList ds p := hA0
  rw [Tryd.params4] at hA hval
  obtain ⟨v0, vs0, d0, ds0, p0, q0, hargs, rfl, rfl, h0, r0⟩ := trodAll_cons hA
  obtain ⟨v1, vs1, d1, ds1, p1, q1, rfl, rfl, rfl, h1, r1⟩ := trodAll_cons r0
  obtain ⟨v2, vs2, d2, ds2, p2, q2, rfl, rfl, rfl, h2, r2⟩ := trodAll_cons r1
  obtain ⟨v3, vs3, d3, ds3, p3, q3, rfl, rfl, rfl, h3, r3⟩ := trodAll_cons r2
  obtain ⟨rfl, rfl, rfl⟩ := trodAll_nil r3
  obtain rfl : args = #[v0, v1, v2, v3] := by cases args; simp_all
  obtain ⟨rfl, rfl⟩ := trodVars_none hV
  obtain ⟨a0, len0, cap0, rfl⟩ := okWide_slice Tryd.underlying22 (hval 0 22 v0 rfl rfl)
  have k0 := h0
  have lt0 : ∀ x ∈ p0, x.block < W.heap.size := by obtain ⟨m, hm⟩ := k0; exact DataW.trod_lt m _ _ _ hm
  obtain ⟨z0, w0⟩ : ∃ l, RawNet W a0 len0 l := by obtain ⟨fuel, hf⟩ := h0; exact open_net (cap := cap0) (by simp [Value.cells]) hf
  obtain ⟨a1, rfl, rfl, rfl, w1⟩ := open_int Tryd.underlying2 (hval 1 2 v1 rfl rfl) h1
  obtain ⟨a2, rfl, rfl, rfl⟩ := open_bool Tryd.underlying4 (hval 2 4 v2 rfl rfl) h2
  obtain ⟨a3, rfl, rfl, rfl, w3⟩ := open_int Tryd.underlying2 (hval 3 2 v3 rfl rfl) h3
  clear hA0
  refine (walk a0 len0 cap0 z0 a1 a2 a3 W w0 w1 w3 (etCell_of_laid hL)).mono fun e W' ⟨he, bel⟩ => ?_
  subst he
  exact ⟨_, rfl, _, _, _, [], _, [], hW', trodAll_mk1 (shut_bool Tryd.underlying4 _), (trodAll_cons_mk (Below.trod laidOut (by kernel_rfl) (of_decide_eq_true (by kernel_rfl)) k0 bel lt0) (trodAll_cons_mk (shut_int Tryd.underlying2 w1) (trodAll_cons_mk (shut_bool Tryd.underlying4 _) (trodAll_cons_mk (shut_int Tryd.underlying2 w3) trodAll_mk0)))), rfl, bel.frame _, fun h => by cases h⟩

theorem reads (os : Os) {H : Type} (enc : TypeId × Value → H) : ∃ places, DataW.whole enc Tryd.prog ((laidWorld os).forCall (fun _ _ => 0) ⟨#[], #[.slice none 0 0, .int .i64 0, .bool false, .int .i64 0], []⟩).memory Tryd.f4.params.toList Rows.fnExactNetTwiceSpec.vars false (#[.slice none 0 0, .int .i64 0, .bool false, .int .i64 0] : Array Value).toList 8 = some ([.nil, .lit (.int .i64 0), .lit (.bool false), .lit (.int .i64 0)], [], places) :=
  ⟨[], by kernel_rfl⟩

set_option maxRecDepth 100000 in
theorem lifted (os : Os) (started : os.Started) (H : Type) (enc : TypeId × Value → H) (F : Stop.Interp) :
    ReturnsInHanded {} Tryd.checked os 4 .any ((OpenSpec.ofChange Rows.fnExactNetTwiceSpec).preRow enc Tryd.prog Tryd.f4 Rows.fnExactNetTwiceRow.domain false Rows.fnExactNetTwiceRow.laid) (((OpenSpec.ofChange Rows.fnExactNetTwiceSpec).at F).post enc Tryd.prog Tryd.f4 false true false false) := by
  obtain ⟨places, hx⟩ := reads os enc
  refine returnsInHanded_of_row (C := Tryd.checked) (s := OpenSpec.ofChange Rows.fnExactNetTwiceSpec) own started (by kernel_rfl) Tryd.func4
    (witness_row_at (enc := enc) (C := Tryd.checked) false (laidWorld os) #[.slice none 0 0, .int .i64 0, .bool false, .int .i64 0] rfl (by kernel_rfl) (by kernel_rfl) (by kernel_rfl)
      (OpenSpec.preRow_of_cond 8 hx (by kernel_rfl) (fun k hk => by cases hk) (by kernel_rfl) (laidWorld_met os _))) ?_
  intro W base args ds gs before hval hW _ _ _ hL _ _
  exact contract H enc W base args ds gs before hval hW hL

theorem said : Rows.FnExactNetTwiceSaid :=
  OpenClaim.holds_of_cond 4 Tryd.f4 rfl rfl rfl rfl rfl rfl rfl ⟨rfl, rfl, rfl, rfl, rfl⟩ rfl rfl rfl rfl rfl (by kernel_rfl) Tryd.func4 (by kernel_rfl)
    (of_decide_eq_true (by kernel_rfl)) (by unfold Func.isWrapper; first | (rw [if_pos (by decide +kernel)]; kernel_rfl) | (rw [if_neg (by decide +kernel)]; exact ⟨rfl, rfl⟩))
    (fun os started H enc _ F => by rw [OpenClaim.pre_eq_preRow]; exact lifted os started H enc F)

theorem plain (f : FuncId) (fn : Func) (hf : Tryd.pinned.checked.prog.funcNamed "loop.example/g00847/laws.FnExactNetTwice" = some f) (hfn : Tryd.pinned.checked.prog.funcs[f]? = some fn) :
    true = Tryd.pinned.checked.prog.looks [] ∧ ∀ (j : Nat) t, fn.params[j]? = some t → Tryd.pinned.checked.prog.wantsStandIn t = false := by
  obtain rfl : f = 4 := Option.some.inj ((show Tryd.prog.funcNamed "loop.example/g00847/laws.FnExactNetTwice" = some 4 by kernel_rfl).symm.trans hf) |>.symm
  obtain rfl : fn = Tryd.f4 := (Option.some.inj (Tryd.func4.symm.trans hfn)).symm
  refine ⟨by kernel_rfl, fun j t ht => ?_⟩
  rw [Tryd.params4] at ht
  have key : ∀ t ∈ ([22, 2, 4, 2] : List TypeId), Tryd.prog.wantsStandIn t = false := List.forall_mem_cons.2 ⟨by kernel_rfl, List.forall_mem_cons.2 ⟨by kernel_rfl, List.forall_mem_cons.2 ⟨by kernel_rfl, List.forall_mem_cons.2 ⟨by kernel_rfl, fun _ h => by cases h⟩⟩⟩⟩
  exact key t (by simpa using Array.mem_of_getElem? ht)

/-- THE CARD. -/
theorem proved : Rows.FnExactNetTwiceCardSaid :=
  Claim7.holds_tied_plain_at .later [] _ _ _ _ said (fun _ h => by cases h) (by kernel_rfl) (fun _ h => by cases h) fnExactNetTwice_row_tie rfl ⟨rfl, rfl⟩ (by kernel_rfl) rfl plain (by kernel_rfl)
#print axioms proved
end Go.Proofs.YthimndilobadeaaDoor.lawNetTwice
