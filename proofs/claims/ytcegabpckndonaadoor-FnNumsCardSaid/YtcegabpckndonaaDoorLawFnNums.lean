/- FnNums: promise 1 as a law: a drawn number, or text, is got back from its bytes, with the place behind it; of bytes that end too early nothing is got. errors.errorType is laid (the card ties it). -/
import Derived.Test.YtcegabpckndonaaDoorNumsPlain
import Derived.Test.YtcegabpckndonaaDoorDrawB
import Derived.Test.YtcegabpckndonaaDoorGetTI
import Derived.Test.YtcegabpckndonaaDoorText
import Derived.Test.YtcegabpckndonaaDoorRow
import Derived.Test.YtcegabpckndonaaDoorSlice
import Derived.ProofKit
import Derived.OpenShut
import Derived.ShutString
import Derived.ChangeOld
import Derived.Below
import Derived.Test.YtcegabpckndonaaDoorCards
import Derived.Test.YtcegabpckndonaaDoorTie
import Derived.Test.YtcegabpckndonaaDoorAs
import Derived.Deep.DeepHandedRow
namespace Go.Proofs.YtcegabpckndonaaDoor.lawFnNums
open Go.ChangeShapes Go.WideShapes Go.ChangeAt Go.RowKit
open Go.ChangeMaps (open_string shut_string)

theorem below_next {w w1 w2 : World} (h1 : Below w.heap.size w w1) (h2 : Below w1.heap.size w1 w2) : Below w.heap.size w w2 := h1.trans (h2.mono h1.size)

theorem num_code (n a c : Int) (W : World) : (Instr.field 26 (.agg #[.int .i64 n, .int .i64 a, .int .i64 c]) 2).run Tryd.prog W = .ok (.int .i64 c) W := by kernel_rfl
theorem text_code (s : ByteArray) (a c : Int) (W : World) : (Instr.field 31 (.agg #[.string s, .int .i64 a, .int .i64 c]) 2).run Tryd.prog W = .ok (.int .i64 c) W := by kernel_rfl
theorem num_back {n : Int} (h1 : -9223372036854775808 ≤ n) (h2 : n ≤ 9223372036854775807) (w : World) (hg : EtCell w) :
    Calls Tryd.prog 11 #[.string ((⟨#[120, 121]⟩ : ByteArray) ++ ⟨(putN n).toArray⟩ ++ ⟨#[122]⟩), .int .i64 2] w fun e w' => e = .returned (.agg #[.int .i64 n, .int .i64 (((putN n).length : Int) + 2), .int .i64 0]) ∧ Below w.heap.size w w' := by
  have hp := putN_ten h1 h2
  have hb := getN_back h1 h2 [120, 121] [122] (by simp; omega)
  have e : ((⟨#[120, 121]⟩ : ByteArray) ++ ⟨(putN n).toArray⟩ ++ ⟨#[122]⟩) = ⟨([120, 121] ++ (putN n ++ [122])).toArray⟩ := by
    apply ByteArray.ext; simp
  have hc := getI_calls ([120, 121] ++ (putN n ++ [122])) 2 w hg (by simp; omega) (by omega) (by omega)
  rw [show getN ([120, 121] ++ (putN n ++ [122])) 2 = _ from hb] at hc
  rw [e]
  refine hc.mono ?_
  rintro e w' ⟨rfl, hb⟩
  refine ⟨?_, hb⟩
  show Ending.returned (.agg #[.int .i64 n, .int .i64 (((2 : Nat) : Int) + ((putN n).length : Int)), .int .i64 ((0 : Nat) : Int)]) = _
  rw [show ((2 : Nat) : Int) + ((putN n).length : Int) = ((putN n).length : Int) + 2 by omega]
  rfl
theorem num_cut {n : Int} (h1 : -9223372036854775808 ≤ n) (h2 : n ≤ 9223372036854775807) (w : World) (hg : EtCell w) :
    Calls Tryd.prog 11 #[gs ((putN n).take ((putN n).length - 1)), .int .i64 0] w fun e w' => e = .returned (.agg #[.int .i64 0, .int .i64 0, .int .i64 4]) ∧ Below w.heap.size w w' := by
  have hp := putN_ten h1 h2
  have hc := getI_calls ((putN n).dropLast) 0 w hg (by simp; omega) (by omega) (by omega)
  rw [getN_cut h1 h2] at hc
  rw [← List.dropLast_eq_take]
  exact hc
theorem text_back (u : List UInt8) (h : (putN u.length).length + u.length ≤ 7999) (w : World) (hg : EtCell w) :
    Calls Tryd.prog 15 #[.string ((⟨#[120]⟩ : ByteArray) ++ ⟨(putN u.length ++ u).toArray⟩), .int .i64 1] w fun e w' => e = .returned (.agg #[gs u, .int .i64 (((putN u.length ++ u).length : Int) + 1), .int .i64 0]) ∧ Below w.heap.size w w' := by
  have hb := getT_back u [120] (by simp; omega)
  have e : ((⟨#[120]⟩ : ByteArray) ++ ⟨(putN u.length ++ u).toArray⟩) = ⟨([120] ++ (putN u.length ++ u)).toArray⟩ := by
    apply ByteArray.ext; simp
  have hc := getTI_calls ([120] ++ (putN u.length ++ u)) 1 w hg (by simp; omega) (by omega) (by omega)
  rw [show getT ([120] ++ (putN u.length ++ u)) 1 = _ from hb] at hc
  rw [e]
  refine hc.mono ?_
  rintro e w' ⟨rfl, hb⟩
  refine ⟨?_, hb⟩
  show Ending.returned (.agg #[gs u, .int .i64 (((1 : Nat) : Int) + ((putN u.length).length : Int) + (u.length : Int)), .int .i64 ((0 : Nat) : Int)]) = _
  rw [show ((1 : Nat) : Int) + ((putN u.length).length : Int) + (u.length : Int) = ((putN u.length ++ u).length : Int) + 1 by simp; omega]
  rfl
theorem text_cut (u : List UInt8) (h : (putN u.length).length + u.length ≤ 7999) (w : World) (hg : EtCell w) :
    Calls Tryd.prog 15 #[gs ((putN u.length ++ u).take ((putN u.length ++ u).length - 1)), .int .i64 0] w fun e w' => e = .returned (.agg #[.string ⟨#[]⟩, .int .i64 0, .int .i64 4]) ∧ Below w.heap.size w w' := by
  have hc := getTI_calls ((putN u.length ++ u).dropLast) 0 w hg (by simp; omega) (by omega) (by omega)
  rw [getT_cut u (by omega)] at hc
  rw [← List.dropLast_eq_take]
  exact hc

set_option maxHeartbeats 2000000 in
set_option maxRecDepth 100000 in
theorem walk (a0 : Option Addr) (len0 cap0 : Nat) (z0 : List Int) (a1 : Option Addr) (len1 cap1 : Nat) (z1 : List Int) (w : World) (w0 : IsRow .u8 w a0 len0 cap0 z0) (w1 : IsRow .u8 w a1 len1 cap1 z1) (hg : EtCell w) :
    Calls Tryd.prog 3 #[.slice a0 len0 cap0, .slice a1 len1 cap1] w fun e w' => e = .returned (.bool true) ∧ Below w.heap.size w w' := by
  by_cases hl0 : 1048576 < len0
  · go_enter Tryd.func3, Tryd.ntmps3
    go_wp2_with fail
    go_ret
    exact ⟨rfl, Below.refl _ _⟩
  · by_cases hl1 : 1048576 < len1
    · go_enter Tryd.func3, Tryd.ntmps3
      go_wp2_with fail
      go_ret
      exact ⟨rfl, Below.refl _ _⟩
    · have HR0 := Lib.hid (inRow_of w0 (by omega))
      have HR1 := Lib.hid (inRow_of w1 (by omega))
      have HG := Lib.hid hg
      clear w0 w1 hg
      have fn := num_code
      have ft := text_code
      go_enter Tryd.func3, Tryd.ntmps3
      go_wp2_with fail
      refine (drawPutNum_calls HR0.out).mono ?_
      rintro e w1 ⟨n, rfl, ⟨hn1, hn2⟩, hb1⟩
      have HB1 := Lib.hid hb1
      clear hb1
      go_wp2_with fail
      refine (putI_calls n _ hn1 hn2).mono ?_
      rintro e w2 ⟨rfl, hb2⟩
      have HB2 := Lib.hid (below_next HB1.out hb2)
      clear hb2 HB1
      have hp10 := putN_ten hn1 hn2
      have hp1 := (putN_length n).2
      go_wp2_with fail
      refine (putS_calls n _ hn1 hn2).mono ?_
      rintro e w3 ⟨rfl, hb3⟩
      have HB3 := Lib.hid (below_next HB2.out hb3)
      clear hb3 HB2
      go_wp2_with fail
      refine (num_back hn1 hn2 _ (HG.out.below HB3.out)).mono ?_
      rintro e w4 ⟨rfl, hb4⟩
      have HB4 := Lib.hid (below_next HB3.out hb4)
      clear hb4 HB3
      have hsl := slice_head (P := Tryd.prog) (T := 9) Tryd.underlying9 (putN n) ((putN n).length - 1) (((putN n).length : Int) - 1) (by omega) (by omega)
      go_wp2_with fail
      have HB5 := Lib.hid (HB4.out.alloc HB4.out.size (.cells #[.int .i64 n, .int .i64 (((putN n).length : Int) + 2), .int .i64 0] 26))
      refine (num_cut hn1 hn2 _ (HG.out.below HB5.out)).mono ?_
      rintro e w5 ⟨rfl, hb5⟩
      have HB6 := Lib.hid (below_next HB5.out hb5)
      clear hb5 HB5 HB4 hsl
      go_wp2_with fail
      refine (drawPutText_calls (inRow_below HR1.out HB6.out)).mono ?_
      rintro e w6 ⟨u, rfl, hu, hb6⟩
      have HB7 := Lib.hid (below_next HB6.out hb6)
      clear hb6 HB6
      by_cases h8 : 8000 < u.length
      · have HT := Lib.hid (putT_big h8)
        go_wp2_with fail
        refine (putTextI_calls u _ (by omega)).mono ?_
        rintro e w7 ⟨rfl, hb7⟩
        have HB8 := Lib.hid (below_next HB7.out hb7)
        clear hb7 HB7
        rw [HT.out]
        go_wp2_with fail
        refine (putTextS_calls u _ (by omega)).mono ?_
        rintro e w8 ⟨rfl, hb8⟩
        have HB9 := Lib.hid (below_next HB8.out hb8)
        clear hb8 HB8
        rw [HT.out]
        go_wp2_with fail
        refine (putTextS_calls u _ (by omega)).mono ?_
        rintro e w9 ⟨rfl, hb9⟩
        have HB10 := Lib.hid (below_next HB9.out hb9)
        clear hb9 HB9
        rw [HT.out]
        go_wp2_with fail
        go_ret
        exact ⟨rfl, HB10.out⟩
      · have HT := Lib.hid (putT_small h8)
        have hpu := putN_length u.length
        go_wp2_with fail
        refine (putTextI_calls u _ (by omega)).mono ?_
        rintro e w7 ⟨rfl, hb7⟩
        have HB8 := Lib.hid (below_next HB7.out hb7)
        clear hb7 HB7
        rw [HT.out]
        have hpl : (putN u.length ++ u).length = (putN u.length).length + u.length := by simp
        have HT2 := Lib.hid (text_back u)
        have HT3 := Lib.hid (text_cut u)
        have hsl := slice_head (P := Tryd.prog) (T := 9) Tryd.underlying9 (putN u.length ++ u) ((putN u.length ++ u).length - 1) (((putN u.length ++ u).length : Int) - 1) (by omega) (by omega)
        have hne : ¬ putN u.length ++ u = [] := by intro e; rw [e] at hpl; simp at hpl; omega
        generalize hP : putN u.length ++ u = P at *
        have hP1 : 1 ≤ P.length := by omega
        have hPe : P.isEmpty = false := by simpa using hne
        have hPb : (P == []) = false := by simpa using hne
        have hP2 : P.length ≤ 8011 := by omega
        have HPL := Lib.hid hpl
        clear hpl
        go_wp2_with fail
        refine (putTextS_calls u _ (by omega)).mono ?_
        rintro e w8 ⟨rfl, hb8⟩
        have HB9 := Lib.hid (below_next HB8.out hb8)
        clear hb8 HB8
        rw [HT.out]
        by_cases h9 : 7999 < P.length
        · go_wp2_with fail
          go_ret
          exact ⟨rfl, HB9.out⟩
        · have HT4 := Lib.hid (HT2.out (by have := HPL.out; omega))
          have HT5 := Lib.hid (HT3.out (by have := HPL.out; omega))
          go_wp2_with fail
          refine (HT4.out _ (HG.out.below HB9.out)).mono ?_
          rintro e w9 ⟨rfl, hb9⟩
          have HB10 := Lib.hid (below_next HB9.out hb9)
          clear hb9 HB9
          go_wp2_with fail
          refine (HT5.out _ (HG.out.below HB10.out)).mono ?_
          rintro e w10 ⟨rfl, hb10⟩
          have HB11 := Lib.hid (below_next HB10.out hb10)
          clear hb10 HB10
          go_wp2_with fail
          go_ret
          exact ⟨rfl, HB11.out⟩
theorem own : ownKnob Tryd.prog.godebug = none := by kernel_rfl
theorem laidOut : laidOutB Tryd.prog = true := by kernel_rfl
set_option maxRecDepth 100000 in
theorem contract (H : Type) (enc : TypeId × Value → H) (W : World) (base : Nat) (args : Array Value) (ds gs : List (DataW H)) (before : List MemPlace)
    (hval : ∀ (j : Nat) t v, Tryd.f3.params[j]? = some t → args[j]? = some v → Value.okWide Tryd.prog W .any base t v)
    (hW : DataW.Whole enc Tryd.prog Tryd.f3.params.toList Rows.fnNumsSpec.vars false W args.toList ds gs before) (hL : laidMetH Tryd.prog Rows.fnNumsRow.laid W) :
    Calls Tryd.prog 3 args W fun e W' => ∃ v, e = .returned v ∧ Rows.fnNumsSpec.post enc Tryd.prog Tryd.f3 false true false false W args v W' := by
  have hW' := hW
  obtain ⟨p, q, hA0, hV, rfl, hfz, hnd⟩ := hW
  have hA : DataW.TrodAll enc Tryd.prog W 0 (fun _ => true) true Tryd.f3.params.toList args.toList ds p := hA0
  rw [Tryd.params3] at hA hval
  obtain ⟨v0, vs0, d0, ds0, p0, q0, hargs, rfl, rfl, h0, r0⟩ := trodAll_cons hA
  obtain ⟨v1, vs1, d1, ds1, p1, q1, rfl, rfl, rfl, h1, r1⟩ := trodAll_cons r0
  obtain ⟨rfl, rfl, rfl⟩ := trodAll_nil r1
  obtain rfl : args = #[v0, v1] := by cases args; simp_all
  obtain ⟨rfl, rfl⟩ := trodVars_none hV
  obtain ⟨a0, len0, cap0, rfl⟩ := okWide_slice Tryd.underlying22 (hval 0 22 v0 rfl rfl)
  have k0 := h0
  have lt0 : ∀ x ∈ p0, x.block < W.heap.size := by obtain ⟨m, hm⟩ := k0; exact DataW.trod_lt m _ _ _ hm
  obtain ⟨z0, w0⟩ : ∃ zs, IsRow .u8 W a0 len0 cap0 zs := by
    obtain ⟨fuel, hf⟩ := h0
    rcases open_ints Tryd.underlying22 Tryd.underlying5 (by kernel_rfl) hf with ⟨hcs, _⟩ | ⟨x, l, c, zs, hcs, _, hl, hm, hz, _, hcell, hwz⟩
    · simp [Value.cells] at hcs
      obtain ⟨rfl, rfl, rfl⟩ := hcs
      exact ⟨[], .inl ⟨rfl, rfl, rfl, rfl⟩⟩
    · simp [Value.cells] at hcs
      obtain ⟨rfl, rfl, rfl⟩ := hcs
      exact ⟨zs, .inr ⟨_, rfl, hl, hm, by simpa using hz, hcell, hwz⟩⟩
  obtain ⟨a1, len1, cap1, rfl⟩ := okWide_slice Tryd.underlying22 (hval 1 22 v1 rfl rfl)
  have k1 := h1
  have lt1 : ∀ x ∈ p1, x.block < W.heap.size := by obtain ⟨m, hm⟩ := k1; exact DataW.trod_lt m _ _ _ hm
  obtain ⟨z1, w1⟩ : ∃ zs, IsRow .u8 W a1 len1 cap1 zs := by
    obtain ⟨fuel, hf⟩ := h1
    rcases open_ints Tryd.underlying22 Tryd.underlying5 (by kernel_rfl) hf with ⟨hcs, _⟩ | ⟨x, l, c, zs, hcs, _, hl, hm, hz, _, hcell, hwz⟩
    · simp [Value.cells] at hcs
      obtain ⟨rfl, rfl, rfl⟩ := hcs
      exact ⟨[], .inl ⟨rfl, rfl, rfl, rfl⟩⟩
    · simp [Value.cells] at hcs
      obtain ⟨rfl, rfl, rfl⟩ := hcs
      exact ⟨zs, .inr ⟨_, rfl, hl, hm, by simpa using hz, hcell, hwz⟩⟩
  clear hA0
  refine (walk a0 len0 cap0 z0 a1 len1 cap1 z1 W w0 w1 (etCell_of_laid hL)).mono fun e W' ⟨he, bel⟩ => ?_
  subst he
  exact ⟨_, rfl, _, _, _, [], _, [], hW', trodAll_mk1 (shut_bool Tryd.underlying4 _), (trodAll_cons_mk (Below.trod laidOut (by kernel_rfl) (of_decide_eq_true (by kernel_rfl)) k0 bel lt0) (trodAll_cons_mk (Below.trod laidOut (by kernel_rfl) (of_decide_eq_true (by kernel_rfl)) k1 bel lt1) trodAll_mk0)), rfl, bel.frame _, fun h => by cases h⟩

theorem reads (os : Os) {H : Type} (enc : TypeId × Value → H) : ∃ places, DataW.whole enc Tryd.prog ((laidWorld os).forCall (fun _ _ => 0) ⟨#[], #[.slice none 0 0, .slice none 0 0], []⟩).memory Tryd.f3.params.toList Rows.fnNumsSpec.vars false (#[.slice none 0 0, .slice none 0 0] : Array Value).toList 8 = some ([.nil, .nil], [], places) :=
  ⟨[], by kernel_rfl⟩

set_option maxRecDepth 100000 in
theorem lifted (os : Os) (started : os.Started) (H : Type) (enc : TypeId × Value → H) (F : Stop.Interp) :
    ReturnsInHanded {} Tryd.checked os 3 .any ((OpenSpec.ofChange Rows.fnNumsSpec).preRow enc Tryd.prog Tryd.f3 Rows.fnNumsRow.domain false Rows.fnNumsRow.laid) (((OpenSpec.ofChange Rows.fnNumsSpec).at F).post enc Tryd.prog Tryd.f3 false true false false) := by
  obtain ⟨places, hx⟩ := reads os enc
  refine returnsInHanded_of_row (C := Tryd.checked) (s := OpenSpec.ofChange Rows.fnNumsSpec) own started (by kernel_rfl) Tryd.func3
    (witness_row_at (enc := enc) (C := Tryd.checked) false (laidWorld os) #[.slice none 0 0, .slice none 0 0] rfl (by kernel_rfl) (by kernel_rfl) (by kernel_rfl)
      (OpenSpec.preRow_of_cond 8 hx (by kernel_rfl) (fun k hk => by cases hk) (by kernel_rfl) (laidWorld_met os _))) ?_
  intro W base args ds gs before hval hW _ _ _ hL _ _
  exact contract H enc W base args ds gs before hval hW hL

theorem said : Rows.FnNumsSaid :=
  OpenClaim.holds_of_cond 3 Tryd.f3 rfl rfl rfl rfl rfl rfl rfl ⟨rfl, rfl, rfl, rfl, rfl⟩ rfl rfl rfl rfl rfl (by kernel_rfl) Tryd.func3 (by kernel_rfl)
    (of_decide_eq_true (by kernel_rfl)) (by unfold Func.isWrapper; first | (rw [if_pos (by decide +kernel)]; kernel_rfl) | (rw [if_neg (by decide +kernel)]; exact ⟨rfl, rfl⟩))
    (fun os started H enc _ F => by rw [OpenClaim.pre_eq_preRow]; exact lifted os started H enc F)

theorem plain (f : FuncId) (fn : Func) (hf : Tryd.pinned.checked.prog.funcNamed "loop.example/g00847/laws.FnNums" = some f) (hfn : Tryd.pinned.checked.prog.funcs[f]? = some fn) :
    true = Tryd.pinned.checked.prog.looks [] ∧ ∀ (j : Nat) t, fn.params[j]? = some t → Tryd.pinned.checked.prog.wantsStandIn t = false := by
  obtain rfl : f = 3 := Option.some.inj ((show Tryd.prog.funcNamed "loop.example/g00847/laws.FnNums" = some 3 by kernel_rfl).symm.trans hf) |>.symm
  obtain rfl : fn = Tryd.f3 := (Option.some.inj (Tryd.func3.symm.trans hfn)).symm
  refine ⟨by kernel_rfl, fun j t ht => ?_⟩
  rw [Tryd.params3] at ht
  have key : ∀ t ∈ ([22, 22] : List TypeId), Tryd.prog.wantsStandIn t = false := List.forall_mem_cons.2 ⟨by kernel_rfl, List.forall_mem_cons.2 ⟨by kernel_rfl, fun _ h => by cases h⟩⟩
  exact key t (by simpa using Array.mem_of_getElem? ht)

/-- THE CARD. -/
theorem proved : Rows.FnNumsCardSaid :=
  Claim7.holds_tied_plain_at .later [] _ _ _ _ said (fun _ h => by cases h) (by kernel_rfl) (fun _ h => by cases h) fnNums_row_tie rfl ⟨rfl, rfl⟩ (by kernel_rfl) rfl plain (by kernel_rfl)
#print axioms proved
end Go.Proofs.YtcegabpckndonaaDoor.lawFnNums
