/- FnSeal: promise 2 as a law: a drawn text is got back from its seal; with any one byte turned it is refused; a CRC goes on from text to text. errors.errorType is laid (the card ties it). -/
import Derived.Test.YtcegabpckndonaaDoorSealBack
import Derived.Test.YtcegabpckndonaaDoorBytesOf
import Derived.Test.YtcegabpckndonaaDoorDrawB
import Derived.Test.YtcegabpckndonaaDoorLwAt
import Derived.ProofKit
import Derived.OpenShut
import Derived.ShutString
import Derived.ChangeOld
import Derived.Below
import Derived.Test.YtcegabpckndonaaDoorCards
import Derived.Test.YtcegabpckndonaaDoorTie
import Derived.Test.YtcegabpckndonaaDoorAs
import Derived.Deep.DeepHandedRow
namespace Go.Proofs.YtcegabpckndonaaDoor.lawFnSeal
open Go.ChangeShapes Go.WideShapes Go.ChangeAt Go.RowKit
open Go.ChangeMaps (open_string shut_string)

theorem below_next {w w1 w2 : World} (h1 : Below w.heap.size w w1) (h2 : Below w1.heap.size w1 w2) : Below w.heap.size w w2 := h1.trans (h2.mono h1.size)
theorem text_code (s : ByteArray) (a c : Int) (W : World) : (Instr.field 31 (.agg #[.string s, .int .i64 a, .int .i64 c]) 2).run Tryd.prog W = .ok (.int .i64 c) W := by kernel_rfl

theorem uns_back {t : List UInt8} (h : ¬ 7996 < t.length) (w : World) (hg : EtCell w) :
    Calls Tryd.prog 20 #[gs (sealN t)] w fun e w' => e = .returned (.agg #[gs t, .int .i64 0, .int .i64 0]) ∧ Below w.heap.size w w' := by
  have hc := unsI_calls (sealN t) w hg (by rw [seal_len h]; omega)
  rw [unsN_back h] at hc
  exact hc
theorem uns_turned {t : List UInt8} (h : ¬ 7996 < t.length) (k : Nat) (hk : k < (sealN t).length) (x : UInt8) (hx : x ≠ 0) (w : World) (hg : EtCell w) :
    Calls Tryd.prog 20 #[gs (turned (sealN t) k x)] w fun e w' => e = .returned (.agg #[.string ⟨#[]⟩, .int .i64 0, .int .i64 5]) ∧ Below w.heap.size w w' := by
  have hc := unsI_calls (turned (sealN t) k x) w hg (by unfold turned; rw [List.length_set, seal_len h]; omega)
  rw [unsN_turned h hk hx] at hc
  exact hc

theorem crcN_lt (t : List UInt8) : (crcN t : Int) < 4294967296 := by
  unfold crcN
  split
  · omega
  · have := crcOn_lt 0 t; omega
/-- The law's last part, from the drawn text on: a CRC goes on from text to text. -/
theorem crc_goes {t u : List UInt8} (h : ¬ 8000 < t.length + u.length) : crcMoreN (crcN t : Int) u = crcN (t ++ u) := by
  have h1 := crcOn_lt 0 t
  rw [crcN_small (by omega), crcMoreN_yes (by omega) h1, crcOn_append, crcN_small (by simp; omega)]

set_option maxHeartbeats 2000000 in
set_option maxRecDepth 100000 in
theorem walk (a0 : Option Addr) (len0 cap0 : Nat) (z0 : List Int) (a1 : Option Addr) (len1 cap1 : Nat) (z1 : List Int) (w : World) (w0 : IsRow .u8 w a0 len0 cap0 z0) (w1 : IsRow .u8 w a1 len1 cap1 z1) (hg : EtCell w) :
    Calls Tryd.prog 4 #[.slice a0 len0 cap0, .slice a1 len1 cap1] w fun e w' => e = .returned (.bool true) ∧ Below w.heap.size w w' := by
  by_cases hl0 : 1048576 < len0
  · go_enter Tryd.func4, Tryd.ntmps4
    go_wp2_with fail
    go_ret
    exact ⟨rfl, Below.refl _ _⟩
  · by_cases hl1 : 1048576 < len1
    · go_enter Tryd.func4, Tryd.ntmps4
      go_wp2_with fail
      go_ret
      exact ⟨rfl, Below.refl _ _⟩
    · have HR0 := Lib.hid (inRow_of w0 (by omega))
      have HR1 := Lib.hid (inRow_of w1 (by omega))
      have HG := Lib.hid hg
      clear w0 w1 hg
      have ft := text_code
      go_enter Tryd.func4, Tryd.ntmps4
      go_wp2_with fail
      refine (drawSeal_calls HR0.out).mono ?_
      rintro e w1 ⟨t, rfl, ht, hb1⟩
      have HB1 := Lib.hid hb1
      clear hb1
      go_wp2_with fail
      refine (sealI_calls t _ (by omega)).mono ?_
      rintro e w2 ⟨rfl, hb2⟩
      have HB2 := Lib.hid (below_next HB1.out hb2)
      clear hb2 HB1
      go_wp2_with fail
      refine (sealS_calls t _ (by omega)).mono ?_
      rintro e w3 ⟨rfl, hb3⟩
      have HB3 := Lib.hid (below_next HB2.out hb3)
      clear hb3 HB2
      by_cases h7 : 7996 < t.length
      · have hS := sealN_big h7
        rw [hS]
        go_wp2_with fail
        refine (drawCrcMore_calls (inRow_below HR1.out HB3.out)).mono ?_
        rintro e w20 ⟨c, u, rfl, hc, hu, hb20⟩
        have HB20 := Lib.hid (below_next HB3.out hb20)
        have HC := Lib.hid hc
        clear hb20 hc
        by_cases h80 : 8000 < t.length + u.length
        · go_wp2_with fail
          go_ret
          exact ⟨rfl, HB20.out⟩
        · have hle : t.length + u.length ≤ 8000 := by omega
          have HLE := Lib.hid h80
          clear h80
          go_wp2_with fail
          have HCG := Lib.hid (crc_goes HLE.out)
          have HCT := Lib.hid (crcN_lt t)
          refine (crcMoreI_calls c u _ (by omega) HC.out.1 HC.out.2).mono ?_
          rintro e w21 ⟨rfl, rfl⟩
          go_wp2_with fail
          refine (crcMoreS_calls c u _ (by omega) HC.out.1 HC.out.2).mono ?_
          rintro e w21 ⟨rfl, rfl⟩
          go_wp2_with fail
          refine (crcTextI_calls t _ (by omega)).mono ?_
          rintro e w21 ⟨rfl, rfl⟩
          go_wp2_with fail
          refine (crcMoreI_calls (crcN t) u _ (by omega) (by omega) (by have := HCT.out; omega)).mono ?_
          rintro e w21 ⟨rfl, rfl⟩
          rw [HCG.out]
          go_wp2_with fail
          rw [cat_ba]
          refine (crcTextI_calls (t ++ u) _ (by simp; omega)).mono ?_
          rintro e w21 ⟨rfl, rfl⟩
          go_wp2_with fail
          go_ret
          exact ⟨rfl, HB20.out⟩
      · have hlS := seal_len h7
        have HU1 := Lib.hid (uns_back h7)
        have HU2 := Lib.hid (uns_turned h7)
        have hne : ¬ sealN t = [] := by intro e; rw [e] at hlS; simp at hlS
        generalize sealN t = S at *
        have hSe : S.isEmpty = false := by simpa using hne
        have hS1 : 4 ≤ S.length := by omega
        have hS2 : S.length ≤ 8000 := by omega
        obtain ⟨cap, o, hcv, hby⟩ := to_bytes (P := Tryd.prog) (src := 9) (dst := 22) Tryd.underlying9 Tryd.underlying22 Tryd.underlying5 w3 S
        have HBY := Lib.hid hby
        have HLS := Lib.hid hlS
        clear hby hne hlS
        go_wp2_with fail
        have HB4 := Lib.hid (HB3.out.alloc HB3.out.size o).drew
        refine (lwAt_calls (inRow_below HR1.out HB4.out) 0 (by omega) (S.length : Int) (by omega) (by omega)).mono ?_
        rintro e w4 ⟨r, rfl, hr0, hr1, rfl⟩
        obtain ⟨r, rfl⟩ := Int.eq_ofNat_of_zero_le hr0
        have hrS : r < S.length := by omega
        have cr := HBY.out.cell r hrS
        have fr := HBY.out.free r hrS
        clear hcv
        go_wp2_with fail
        go_region_with (go_at_call 19; refine (lwAt_calls (inRow_below HR1.out (by first | exact HB4.out | exact HB4.out.drew)) 1 (by omega) 255 (by omega) (by omega)).mono ?_; rintro e w5 ⟨q, rfl, hq0, hq1, rfl⟩)
        all_goals
          obtain ⟨q, rfl⟩ := Int.eq_ofNat_of_zero_le hq0
          have hq2 : q < 255 := by omega
          have hy : Value.int .u8 (bits .xor .u8 (S[r].toNat : Int) (1 + (q : Int))) = .int .u8 ((S[r] ^^^ UInt8.ofNat (1 + q)).toNat : Int) := by
            have := xor_byte S[r] (1 + q) (by omega)
            rw [← this]; congr 1
          have hT : S.set r (S[r] ^^^ UInt8.ofNat (1 + q)) = turned S r (UInt8.ofNat (1 + q)) := by unfold turned; rw [getD_at hrS]
          have hx0 : UInt8.ofNat (1 + q) ≠ 0 := by
            intro e
            have := congrArg UInt8.toNat e
            rw [UInt8.toNat_ofNat'] at this
            have h0 : (0 : UInt8).toNat = 0 := rfl
            omega
          have hby5 := HBY.out.set hrS _ _ hy
          rw [hT] at hby5
          have HBY5 := Lib.hid hby5
          have HU3 := Lib.hid (HU2.out r hrS _ hx0)
          have htl : (turned S r (UInt8.ofNat (1 + q))).length = S.length := by unfold turned; simp
          have HTL := Lib.hid htl
          generalize turned S r (UInt8.ofNat (1 + q)) = T at *
          clear hy hT hx0 hby5 htl hq1 hr1
          go_wp2_with fail
          have HB5 := Lib.hid (((HB3.out.alloc HB3.out.size o).setCell (p := ⟨w3.heap.size, r, none⟩) HB3.out.size (.int .u8 (bits .xor .u8 (S[r].toNat : Int) (1 + (q : Int))))).drew.drew)
          refine (HU1.out _ (HG.out.below HB5.out)).mono ?_
          rintro e w6 ⟨rfl, hb6⟩
          have HB6 := Lib.hid (below_next HB5.out hb6)
          have hby6 : HasBytes w6 w3.heap.size T := HasBytes.below (w := (((w3.alloc o).setCell ⟨w3.heap.size, r, none⟩ (.int .u8 (bits .xor .u8 (S[r].toNat : Int) (1 + (q : Int))))).drew.drew)) ⟨HBY5.out.cell, HBY5.out.free⟩ (by simp) hb6
          have hcv2 := of_bytes (P := Tryd.prog) (src := 22) (dst := 9) Tryd.underlying22 Tryd.underlying5 Tryd.underlying9 hby6 S.length cap HTL.out.symm
          clear hb6 hby6
          go_wp2_with fail
          refine (HU3.out _ (HG.out.below HB6.out)).mono ?_
          rintro e w7 ⟨rfl, hb7⟩
          have HB7 := Lib.hid (below_next HB6.out hb7)
          clear hb7 hcv2
          go_wp2_with fail
          refine (drawCrcMore_calls (inRow_below HR1.out HB7.out)).mono ?_
          rintro e w20 ⟨c, u, rfl, hc, hu, hb20⟩
          have HB20 := Lib.hid (below_next HB7.out hb20)
          have HC := Lib.hid hc
          clear hb20 hc
          by_cases h80 : 8000 < t.length + u.length
          · go_wp2_with fail
            go_ret
            exact ⟨rfl, HB20.out⟩
          · have hle : t.length + u.length ≤ 8000 := by omega
            have HLE := Lib.hid h80
            clear h80
            go_wp2_with fail
            have HCG := Lib.hid (crc_goes HLE.out)
            have HCT := Lib.hid (crcN_lt t)
            refine (crcMoreI_calls c u _ (by omega) HC.out.1 HC.out.2).mono ?_
            rintro e w21 ⟨rfl, rfl⟩
            go_wp2_with fail
            refine (crcMoreS_calls c u _ (by omega) HC.out.1 HC.out.2).mono ?_
            rintro e w21 ⟨rfl, rfl⟩
            go_wp2_with fail
            refine (crcTextI_calls t _ (by omega)).mono ?_
            rintro e w21 ⟨rfl, rfl⟩
            go_wp2_with fail
            refine (crcMoreI_calls (crcN t) u _ (by omega) (by omega) (by have := HCT.out; omega)).mono ?_
            rintro e w21 ⟨rfl, rfl⟩
            rw [HCG.out]
            go_wp2_with fail
            rw [cat_ba]
            refine (crcTextI_calls (t ++ u) _ (by simp; omega)).mono ?_
            rintro e w21 ⟨rfl, rfl⟩
            go_wp2_with fail
            go_ret
            exact ⟨rfl, HB20.out⟩
theorem own : ownKnob Tryd.prog.godebug = none := by kernel_rfl
theorem laidOut : laidOutB Tryd.prog = true := by kernel_rfl
set_option maxRecDepth 100000 in
theorem contract (H : Type) (enc : TypeId × Value → H) (W : World) (base : Nat) (args : Array Value) (ds gs : List (DataW H)) (before : List MemPlace)
    (hval : ∀ (j : Nat) t v, Tryd.f4.params[j]? = some t → args[j]? = some v → Value.okWide Tryd.prog W .any base t v)
    (hW : DataW.Whole enc Tryd.prog Tryd.f4.params.toList Rows.fnSealSpec.vars false W args.toList ds gs before) (hL : laidMetH Tryd.prog Rows.fnSealRow.laid W) :
    Calls Tryd.prog 4 args W fun e W' => ∃ v, e = .returned v ∧ Rows.fnSealSpec.post enc Tryd.prog Tryd.f4 false true false false W args v W' := by
  have hW' := hW
  obtain ⟨p, q, hA0, hV, rfl, hfz, hnd⟩ := hW
  have hA : DataW.TrodAll enc Tryd.prog W 0 (fun _ => true) true Tryd.f4.params.toList args.toList ds p := hA0
  rw [Tryd.params4] at hA hval
  obtain ⟨v0, vs0, d0, ds0, p0, q0, hargs, rfl, rfl, h0, r0⟩ := trodAll_cons hA
  obtain ⟨v1, vs1, d1, ds1, p1, q1, rfl, rfl, rfl, h1, r1⟩ := trodAll_cons r0
  obtain ⟨rfl, rfl, rfl⟩ := trodAll_nil r1
  obtain rfl : args = #[v0, v1] := by cases args; simp_all
  obtain ⟨rfl, rfl⟩ := trodVars_none hV
  obtain ⟨a0, len0, cap0, rfl⟩ := okWide_slice Tryd.underlying22 (hval 0 22 v0 rfl rfl)
  have k0 := h0
  have lt0 : ∀ x ∈ p0, x.block < W.heap.size := by obtain ⟨m, hm⟩ := k0; exact DataW.trod_lt m _ _ _ hm
  obtain ⟨z0, w0⟩ : ∃ zs, IsRow .u8 W a0 len0 cap0 zs := by
    obtain ⟨fuel, hf⟩ := h0
    rcases open_ints Tryd.underlying22 Tryd.underlying5 (by kernel_rfl) hf with ⟨hcs, _⟩ | ⟨x, l, c, zs, hcs, _, hl, hm, hz, _, hcell, hwz⟩
    · simp [Value.cells] at hcs
      obtain ⟨rfl, rfl, rfl⟩ := hcs
      exact ⟨[], .inl ⟨rfl, rfl, rfl, rfl⟩⟩
    · simp [Value.cells] at hcs
      obtain ⟨rfl, rfl, rfl⟩ := hcs
      exact ⟨zs, .inr ⟨_, rfl, hl, hm, by simpa using hz, hcell, hwz⟩⟩
  obtain ⟨a1, len1, cap1, rfl⟩ := okWide_slice Tryd.underlying22 (hval 1 22 v1 rfl rfl)
  have k1 := h1
  have lt1 : ∀ x ∈ p1, x.block < W.heap.size := by obtain ⟨m, hm⟩ := k1; exact DataW.trod_lt m _ _ _ hm
  obtain ⟨z1, w1⟩ : ∃ zs, IsRow .u8 W a1 len1 cap1 zs := by
    obtain ⟨fuel, hf⟩ := h1
    rcases open_ints Tryd.underlying22 Tryd.underlying5 (by kernel_rfl) hf with ⟨hcs, _⟩ | ⟨x, l, c, zs, hcs, _, hl, hm, hz, _, hcell, hwz⟩
    · simp [Value.cells] at hcs
      obtain ⟨rfl, rfl, rfl⟩ := hcs
      exact ⟨[], .inl ⟨rfl, rfl, rfl, rfl⟩⟩
    · simp [Value.cells] at hcs
      obtain ⟨rfl, rfl, rfl⟩ := hcs
      exact ⟨zs, .inr ⟨_, rfl, hl, hm, by simpa using hz, hcell, hwz⟩⟩
  clear hA0
  refine (walk a0 len0 cap0 z0 a1 len1 cap1 z1 W w0 w1 (etCell_of_laid hL)).mono fun e W' ⟨he, bel⟩ => ?_
  subst he
  exact ⟨_, rfl, _, _, _, [], _, [], hW', trodAll_mk1 (shut_bool Tryd.underlying4 _), (trodAll_cons_mk (Below.trod laidOut (by kernel_rfl) (of_decide_eq_true (by kernel_rfl)) k0 bel lt0) (trodAll_cons_mk (Below.trod laidOut (by kernel_rfl) (of_decide_eq_true (by kernel_rfl)) k1 bel lt1) trodAll_mk0)), rfl, bel.frame _, fun h => by cases h⟩

theorem reads (os : Os) {H : Type} (enc : TypeId × Value → H) : ∃ places, DataW.whole enc Tryd.prog ((laidWorld os).forCall (fun _ _ => 0) ⟨#[], #[.slice none 0 0, .slice none 0 0], []⟩).memory Tryd.f4.params.toList Rows.fnSealSpec.vars false (#[.slice none 0 0, .slice none 0 0] : Array Value).toList 8 = some ([.nil, .nil], [], places) :=
  ⟨[], by kernel_rfl⟩

set_option maxRecDepth 100000 in
theorem lifted (os : Os) (started : os.Started) (H : Type) (enc : TypeId × Value → H) (F : Stop.Interp) :
    ReturnsInHanded {} Tryd.checked os 4 .any ((OpenSpec.ofChange Rows.fnSealSpec).preRow enc Tryd.prog Tryd.f4 Rows.fnSealRow.domain false Rows.fnSealRow.laid) (((OpenSpec.ofChange Rows.fnSealSpec).at F).post enc Tryd.prog Tryd.f4 false true false false) := by
  obtain ⟨places, hx⟩ := reads os enc
  refine returnsInHanded_of_row (C := Tryd.checked) (s := OpenSpec.ofChange Rows.fnSealSpec) own started (by kernel_rfl) Tryd.func4
    (witness_row_at (enc := enc) (C := Tryd.checked) false (laidWorld os) #[.slice none 0 0, .slice none 0 0] rfl (by kernel_rfl) (by kernel_rfl) (by kernel_rfl)
      (OpenSpec.preRow_of_cond 8 hx (by kernel_rfl) (fun k hk => by cases hk) (by kernel_rfl) (laidWorld_met os _))) ?_
  intro W base args ds gs before hval hW _ _ _ hL _ _
  exact contract H enc W base args ds gs before hval hW hL

theorem said : Rows.FnSealSaid :=
  OpenClaim.holds_of_cond 4 Tryd.f4 rfl rfl rfl rfl rfl rfl rfl ⟨rfl, rfl, rfl, rfl, rfl⟩ rfl rfl rfl rfl rfl (by kernel_rfl) Tryd.func4 (by kernel_rfl)
    (of_decide_eq_true (by kernel_rfl)) (by unfold Func.isWrapper; first | (rw [if_pos (by decide +kernel)]; kernel_rfl) | (rw [if_neg (by decide +kernel)]; exact ⟨rfl, rfl⟩))
    (fun os started H enc _ F => by rw [OpenClaim.pre_eq_preRow]; exact lifted os started H enc F)

theorem plain (f : FuncId) (fn : Func) (hf : Tryd.pinned.checked.prog.funcNamed "loop.example/g00847/laws.FnSeal" = some f) (hfn : Tryd.pinned.checked.prog.funcs[f]? = some fn) :
    true = Tryd.pinned.checked.prog.looks [] ∧ ∀ (j : Nat) t, fn.params[j]? = some t → Tryd.pinned.checked.prog.wantsStandIn t = false := by
  obtain rfl : f = 4 := Option.some.inj ((show Tryd.prog.funcNamed "loop.example/g00847/laws.FnSeal" = some 4 by kernel_rfl).symm.trans hf) |>.symm
  obtain rfl : fn = Tryd.f4 := (Option.some.inj (Tryd.func4.symm.trans hfn)).symm
  refine ⟨by kernel_rfl, fun j t ht => ?_⟩
  rw [Tryd.params4] at ht
  have key : ∀ t ∈ ([22, 22] : List TypeId), Tryd.prog.wantsStandIn t = false := List.forall_mem_cons.2 ⟨by kernel_rfl, List.forall_mem_cons.2 ⟨by kernel_rfl, fun _ h => by cases h⟩⟩
  exact key t (by simpa using Array.mem_of_getElem? ht)

/-- THE CARD. -/
theorem proved : Rows.FnSealCardSaid :=
  Claim7.holds_tied_plain_at .later [] _ _ _ _ said (fun _ h => by cases h) (by kernel_rfl) (fun _ h => by cases h) fnSeal_row_tie rfl ⟨rfl, rfl⟩ (by kernel_rfl) rfl plain (by kernel_rfl)
#print axioms proved
end Go.Proofs.YtcegabpckndonaaDoor.lawFnSeal
