/- FnPiece: promise 3's law: the walk. -/
import Derived.Test.YtjcdcaannajnpaaFnIdx
import Derived.Test.YtjcdcaannajnpaaFnR24
import Derived.Test.YtjcdcaannajnpaaFnR25
import Derived.Deep.DeepCutAuto
import Derived.Deep.DrawnRows
import Derived.Deep.RegionWith
import Derived.Deep.RegionHeld3
import Derived.IntWalk
namespace Go.Proofs.Ytjcdcaannajnpaa
open Go.RowKit
attribute [local go_sem ↓] Go.wp_at_zero Go.wp_at_succ

set_option maxHeartbeats 8000000 in
set_option maxRecDepth 200000 in
theorem fnPiece_walk {a b : Option Addr} {la ca lb cb : Nat} {z z' : List Int} {w : World} (w0 : IsRow .u8 w a la ca z) (w1 : IsRow .u8 w b lb cb z') (hda : la ≤ 1048576) (hdb : lb ≤ 1048576) :
    Calls Try.prog 3 #[.slice a la ca, .slice b lb cb] w fun e w' => e = .returned (.bool true) ∧ Below w.heap.size w w' := by
  · have hia := inRow_of w0 (by omega)
    have hib := inRow_of w1 (by omega)
    replace HIA := Lib.hid (fun (w' : World) (hb : Below w.heap.size w w') => inRow_below hia hb)
    replace HIB := Lib.hid (fun (w' : World) (hb : Below w.heap.size w w') => inRow_below hib hb)
    replace H1 := Lib.hid (drawPut_calls (cap := ca) hia)
    clear w0 w1 hia hib
    go_enter Try.func3, Try.ntmps3
    go_wp2_with fail
    refine H1.out.mono ?_
    rintro e w1 ⟨v, L, n, t, rfl, hown, hL, ⟨hn1, hn2⟩, htl, hb1⟩
    obtain ⟨a1, c1, rfl, hi1⟩ := anyL_in hown hL
    have hbs : bytesN L ≤ 1900000 := by have := hL.1.1; omega
    have hrl := (putR_len n t hbs).1
    have hrf := (putR_len n t hbs).2
    have himpl := (putRI_calls (cap := c1) hi1 n t (by omega) hbs).mono (fun e w' ho => outRow_pcs ho hrl hrf)
    have hspec := fun (w' : World) (h : InPcs w' a1 L.length L) => (putRS_calls (cap := c1) h n t (by omega) hbs).mono (fun e w' ho => outRow_pcs ho hrl hrf)
    generalize hR : putR L n t = R at *
    obtain ⟨X, cx⟩ := R
    dsimp only at himpl hspec hrl hrf
    replace HR := Lib.hid hR
    replace HIM := Lib.hid himpl
    replace HSP := Lib.hid hspec
    replace HL := Lib.hid hL
    replace HI1 := Lib.hid hi1
    replace HB := Lib.hid hb1
    replace HRF := Lib.hid hrf
    have hLl : L.length ≤ 60 := hL.2
    generalize hll : L.length = nl at *
    generalize hxl : X.length = nx at *
    have hnx := hrl
    clear hown hL hi1 hbs hrf hR himpl hspec hb1 H1 hll hxl
    go_wp2_with fail
    refine HIM.out.mono ?_
    rintro e w2 ⟨a2, c2, rfl, hi2, hb2⟩
    replace HI1 := Lib.hid (HI1.out.below hb2)
    replace HB := Lib.hid (HB.out.trans (hb2.mono HB.out.size))
    replace HSP2 := Lib.hid (HSP.out _ HI1.out)
    replace HI2 := Lib.hid hi2
    clear hi2 hb2 HIM HSP
    go_wp2_with fail
    refine HSP2.out.mono ?_
    rintro e w3 ⟨a3, c3, rfl, hi3, hb3⟩
    obtain ⟨bx, by', hbb⟩ := pb_two w3 (.slice a2 nx c2) (.slice a3 nx c3) cx cx
    have hB3 := HB.out.trans (hb3.mono HB.out.size)
    replace HI1 := Lib.hid ((HI1.out.below hb3).below hbb)
    replace HI2 := Lib.hid ((HI2.out.below hb3).below hbb)
    replace HI3 := Lib.hid (hi3.below hbb)
    replace HB := Lib.hid (hB3.trans (hbb.mono hB3.size))
    replace HBX := Lib.hid bx
    replace HBY := Lib.hid by'
    replace H1 := Lib.hid (drawFrom_calls (cap := cb) (HIB.out _ HB.out))
    clear hi3 hb3 hbb bx by' hB3 HSP2
    go_wp2_with fail
    generalize (w3.alloc (.cells #[.slice a2 nx c2, .int .i64 cx] 27)).alloc (.cells #[.slice a3 nx c3, .int .i64 cx] 27) = w4 at *
    generalize w3.heap.size = bx at *
    refine H1.out.mono ?_
    rintro e w5 ⟨v, A, p, rfl, hown, hA, ⟨hp1, hp2⟩, hb5⟩
    obtain ⟨a5, c5, rfl, hi5⟩ := anyL_in hown hA
    replace HI1 := Lib.hid (HI1.out.below hb5)
    replace HI2 := Lib.hid (HI2.out.below hb5)
    replace HI3 := Lib.hid (HI3.out.below hb5)
    replace HBX := Lib.hid (HBX.out.below hb5)
    replace HBY := Lib.hid (HBY.out.below hb5)
    replace HB := Lib.hid (HB.out.trans (hb5.mono HB.out.size))
    replace HI5 := Lib.hid hi5
    have hAl : A.length ≤ 60 := hA.2
    generalize hll : A.length = na at *
    replace H1 := Lib.hid (drawCut_calls (cap := cb) (HIB.out _ HB.out))
    clear hown hA hb5 hi5 hll
    go_wp2_with fail
    refine H1.out.mono ?_
    rintro e w6 ⟨v, C, q, rfl, hown, hC, ⟨hq1, hq2⟩, hb6⟩
    obtain ⟨a6, c6, rfl, hi6⟩ := anyL_in hown hC
    replace HI1 := Lib.hid (HI1.out.below hb6)
    replace HI2 := Lib.hid (HI2.out.below hb6)
    replace HI3 := Lib.hid (HI3.out.below hb6)
    replace HI5 := Lib.hid (HI5.out.below hb6)
    replace HBX := Lib.hid (HBX.out.below hb6)
    replace HBY := Lib.hid (HBY.out.below hb6)
    replace HB := Lib.hid (HB.out.trans (hb6.mono HB.out.size))
    have hCl : C.length ≤ 60 := hC.2
    have hrl := cutR_len (l := C) rfl (by omega) q
    have hrf := cutR_fits (tiny_fits hC.1 (by omega)) q hq1 hq2
    have himpl := (cutRI_calls (cap := c6) hi6 q).mono (fun e w' ho => outRow_pcs ho hrl hrf)
    have hspec := fun (w' : World) (h : InPcs w' a6 C.length C) => (cutRS_calls (cap := c6) h q hq1 hq2).mono (fun e w' ho => outRow_pcs ho hrl hrf)
    generalize cutR C q = R at *
    obtain ⟨U, cu⟩ := R
    dsimp only at himpl hspec hrl hrf
    replace HIM := Lib.hid himpl
    replace HSP := Lib.hid hspec
    replace HI6 := Lib.hid hi6
    generalize hll : C.length = nc at *
    generalize hul : U.length = nu at *
    clear hown hC hb6 hi6 hrf himpl hspec hll hul H1
    go_wp2_with fail
    refine HIM.out.mono ?_
    rintro e w7 ⟨a7, c7, rfl, hi7, hb7⟩
    replace HI1 := Lib.hid (HI1.out.below hb7)
    replace HI2 := Lib.hid (HI2.out.below hb7)
    replace HI3 := Lib.hid (HI3.out.below hb7)
    replace HI5 := Lib.hid (HI5.out.below hb7)
    replace HBX := Lib.hid (HBX.out.below hb7)
    replace HBY := Lib.hid (HBY.out.below hb7)
    replace HB := Lib.hid (HB.out.trans (hb7.mono HB.out.size))
    replace HSP2 := Lib.hid (HSP.out _ (HI6.out.below hb7))
    replace HI7 := Lib.hid hi7
    clear hi7 hb7 HIM HSP HI6
    go_wp2_with fail
    refine HSP2.out.mono ?_
    rintro e w8 ⟨a8, c8, rfl, hi8, hb8⟩
    obtain ⟨bu, bv, hbb⟩ := pb_two w8 (.slice a7 nu c7) (.slice a8 nu c8) cu cu
    have hB8 := HB.out.trans (hb8.mono HB.out.size)
    replace HI1 := Lib.hid ((HI1.out.below hb8).below hbb)
    replace HI2 := Lib.hid ((HI2.out.below hb8).below hbb)
    replace HI3 := Lib.hid ((HI3.out.below hb8).below hbb)
    replace HI5 := Lib.hid ((HI5.out.below hb8).below hbb)
    replace HI7 := Lib.hid ((HI7.out.below hb8).below hbb)
    replace HI8 := Lib.hid (hi8.below hbb)
    replace HBX := Lib.hid ((HBX.out.below hb8).below hbb)
    replace HBY := Lib.hid ((HBY.out.below hb8).below hbb)
    replace HB := Lib.hid (hB8.trans (hbb.mono hB8.size))
    replace HBU := Lib.hid bu
    replace HBV := Lib.hid bv
    obtain ⟨x0, x1⟩ := HBX.out
    obtain ⟨y0, y1⟩ := HBY.out
    clear hi8 hb8 hbb bu bv hB8 HSP2
    go_wp2_with fail
    generalize (w8.alloc (.cells #[.slice a7 nu c7, .int .i64 cu] 27)).alloc (.cells #[.slice a8 nu c8, .int .i64 cu] 27) = w9 at *
    generalize w8.heap.size = bu at *
    clear x0 x1 y0 y1
    refine (lwPieces_calls HI2.out HI3.out).mono ?_
    rintro e w10 ⟨rfl, hb10⟩
    replace HI1 := Lib.hid (HI1.out.below hb10)
    replace HI2 := Lib.hid (HI2.out.below hb10)
    replace HI3 := Lib.hid (HI3.out.below hb10)
    replace HI5 := Lib.hid (HI5.out.below hb10)
    replace HI7 := Lib.hid (HI7.out.below hb10)
    replace HI8 := Lib.hid (HI8.out.below hb10)
    replace HBX := Lib.hid (HBX.out.below hb10)
    replace HBY := Lib.hid (HBY.out.below hb10)
    replace HBU := Lib.hid (HBU.out.below hb10)
    replace HBV := Lib.hid (HBV.out.below hb10)
    replace HB := Lib.hid (HB.out.trans (hb10.mono HB.out.size))
    clear hb10
    go_wp2_with fail
    refine (fromI_calls HI5.out p).mono ?_
    rintro e w11 ⟨rfl, hb11⟩
    replace HI1 := Lib.hid (HI1.out.below hb11)
    replace HI2 := Lib.hid (HI2.out.below hb11)
    replace HI3 := Lib.hid (HI3.out.below hb11)
    replace HI5 := Lib.hid (HI5.out.below hb11)
    replace HI7 := Lib.hid (HI7.out.below hb11)
    replace HI8 := Lib.hid (HI8.out.below hb11)
    replace HBX := Lib.hid (HBX.out.below hb11)
    replace HBY := Lib.hid (HBY.out.below hb11)
    replace HBU := Lib.hid (HBU.out.below hb11)
    replace HBV := Lib.hid (HBV.out.below hb11)
    replace HB := Lib.hid (HB.out.trans (hb11.mono HB.out.size))
    clear hb11
    go_wp2_with fail
    refine (fromSR_calls HI5.out p hp1 hp2).mono ?_
    rintro e w12 ⟨rfl, hb12⟩
    replace HI1 := Lib.hid (HI1.out.below hb12)
    replace HI2 := Lib.hid (HI2.out.below hb12)
    replace HI3 := Lib.hid (HI3.out.below hb12)
    replace HI5 := Lib.hid (HI5.out.below hb12)
    replace HI7 := Lib.hid (HI7.out.below hb12)
    replace HI8 := Lib.hid (HI8.out.below hb12)
    replace HBX := Lib.hid (HBX.out.below hb12)
    replace HBY := Lib.hid (HBY.out.below hb12)
    replace HBU := Lib.hid (HBU.out.below hb12)
    replace HBV := Lib.hid (HBV.out.below hb12)
    replace HB := Lib.hid (HB.out.trans (hb12.mono HB.out.size))
    clear hb12
    obtain ⟨u0, u1⟩ := HBU.out
    obtain ⟨v0, v1⟩ := HBV.out
    go_wp2_with fail
    refine (lwPieces_calls HI7.out HI8.out).mono ?_
    rintro e w13 ⟨rfl, hb13⟩
    replace HI1 := Lib.hid (HI1.out.below hb13)
    replace HI2 := Lib.hid (HI2.out.below hb13)
    replace HI3 := Lib.hid (HI3.out.below hb13)
    replace HI5 := Lib.hid (HI5.out.below hb13)
    replace HBX := Lib.hid (HBX.out.below hb13)
    replace HBY := Lib.hid (HBY.out.below hb13)
    replace HB := Lib.hid (HB.out.trans (hb13.mono HB.out.size))
    clear hb13 u0 u1 v0 v1 HBU HBV HI7 HI8
    go_wp2_with fail
    refine (countI_calls HI5.out).mono ?_
    rintro e w14 ⟨rfl, hb14⟩
    replace HI1 := Lib.hid (HI1.out.below hb14)
    replace HI2 := Lib.hid (HI2.out.below hb14)
    replace HI3 := Lib.hid (HI3.out.below hb14)
    replace HI5 := Lib.hid (HI5.out.below hb14)
    replace HBX := Lib.hid (HBX.out.below hb14)
    replace HBY := Lib.hid (HBY.out.below hb14)
    replace HB := Lib.hid (HB.out.trans (hb14.mono HB.out.size))
    clear hb14
    go_wp2_with fail
    refine (countS_calls HI5.out).mono ?_
    rintro e w15 ⟨rfl, hb15⟩
    replace HI1 := Lib.hid (HI1.out.below hb15)
    replace HI2 := Lib.hid (HI2.out.below hb15)
    replace HI3 := Lib.hid (HI3.out.below hb15)
    replace HI5 := Lib.hid (HI5.out.below hb15)
    replace HBX := Lib.hid (HBX.out.below hb15)
    replace HBY := Lib.hid (HBY.out.below hb15)
    replace HB := Lib.hid (HB.out.trans (hb15.mono HB.out.size))
    clear hb15
    go_wp2_with fail
    refine (hasI_calls HI5.out p).mono ?_
    rintro e w16 ⟨rfl, hb16⟩
    replace HI1 := Lib.hid (HI1.out.below hb16)
    replace HI2 := Lib.hid (HI2.out.below hb16)
    replace HI3 := Lib.hid (HI3.out.below hb16)
    replace HI5 := Lib.hid (HI5.out.below hb16)
    replace HBX := Lib.hid (HBX.out.below hb16)
    replace HBY := Lib.hid (HBY.out.below hb16)
    replace HB := Lib.hid (HB.out.trans (hb16.mono HB.out.size))
    clear hb16
    go_wp2_with fail
    refine (hasS_calls HI5.out p hp1 hp2).mono ?_
    rintro e w17 ⟨rfl, hb17⟩
    replace HI1 := Lib.hid (HI1.out.below hb17)
    replace HI2 := Lib.hid (HI2.out.below hb17)
    replace HI3 := Lib.hid (HI3.out.below hb17)
    replace HI5 := Lib.hid (HI5.out.below hb17)
    replace HBX := Lib.hid (HBX.out.below hb17)
    replace HBY := Lib.hid (HBY.out.below hb17)
    replace HB := Lib.hid (HB.out.trans (hb17.mono HB.out.size))
    clear hb17 HI5
    go_wp2_with fail
    refine (rightI_calls HI1.out).mono ?_
    rintro e w18 ⟨rfl, hb18⟩
    replace HI1 := Lib.hid (HI1.out.below hb18)
    replace HI2 := Lib.hid (HI2.out.below hb18)
    replace HI3 := Lib.hid (HI3.out.below hb18)
    replace HBX := Lib.hid (HBX.out.below hb18)
    replace HBY := Lib.hid (HBY.out.below hb18)
    replace HB := Lib.hid (HB.out.trans (hb18.mono HB.out.size))
    clear hb18
    go_wp2_with fail
    refine (rightS_calls HI1.out).mono ?_
    rintro e w19 ⟨rfl, hb19⟩
    replace HI1 := Lib.hid (HI1.out.below hb19)
    replace HI2 := Lib.hid (HI2.out.below hb19)
    replace HI3 := Lib.hid (HI3.out.below hb19)
    replace HBX := Lib.hid (HBX.out.below hb19)
    replace HBY := Lib.hid (HBY.out.below hb19)
    replace HB := Lib.hid (HB.out.trans (hb19.mono HB.out.size))
    clear hb19
    obtain ⟨x0, x1⟩ := HBX.out
    go_upto_if 129 with (fail)
    go_cut [4, 16, 17, 18, 19, 20] (fun _ _ _ _ _ _ wx => Below w.heap.size w wx)
    case first =>
      by_cases hcx : cx = 0
      · subst hcx
        have hz := putR_zero (L := L) (n := n) (t := t) (by rw [HR.out])
        obtain ⟨hrl0, ⟨hn0, hn3⟩, htl2, hrx, hX, hidem⟩ := hz
        rw [HR.out] at hX
        have hX' : X = putN L n t := hX
        have hbX : bytesN X ≤ 1900000 := by
          have h1 := tiny_bytes (t := t) (n := n) HL.out htl
          rw [hX']; exact h1
        rw [← hX'] at hrx hidem
        have himpl := (putRI_calls (cap := c2) HI2.out n t (by omega) hbX).mono (fun e w' ho => outRow_pcs ho (by rw [hidem]; show X.length ≤ 2000000; rw [HI2.out.long]; exact hnx) (by rw [hidem]; exact HRF.out))
        rw [hidem] at himpl
        dsimp only at himpl
        rw [HI2.out.long] at himpl
        have hrs := fun (w' : World) (h : InPcs w' a2 nx X) => rightS_calls (cap := c2) h
        rw [decide_eq_true hrx] at hrs
        have hfr : ∀ i : Int, fromR L i = fromN L i ∧ fromR X i = fromN X i ∧ (fromN X i).head? = ((fromN L i).head?).or (byteAt [(n, t)] i) := fun i => ⟨by unfold fromR; rw [if_pos hrl0], by unfold fromR; rw [if_pos hrx], by rw [hX']; exact put_head hrl0 hn0⟩
        replace HIM := Lib.hid himpl
        replace HRS := Lib.hid hrs
        replace HFR := Lib.hid hfr
        clear himpl hrs hfr hrl0 hrx hX hX' hidem hbX
        go_wp2_with fail
        refine HIM.out.mono ?_
        rintro e w20 ⟨a9, c9, rfl, hi9, hb20⟩
        replace HI1 := Lib.hid (HI1.out.below hb20)
        replace HI2 := Lib.hid (HI2.out.below hb20)
        replace HBX := Lib.hid (HBX.out.below hb20)
        replace HB := Lib.hid (HB.out.trans (hb20.mono HB.out.size))
        have hbb : Below w20.heap.size w20 (w20.alloc (.cells #[.slice a9 nx c9, .int .i64 0] 27)) := (Below.refl _ _).alloc (Nat.le_refl _) _
        replace HI1 := Lib.hid (HI1.out.below hbb)
        replace HI2 := Lib.hid (HI2.out.below hbb)
        replace HI9 := Lib.hid (hi9.below hbb)
        have hbx20 : bx < w20.heap.size := World.block_lt_of_cell? _ _ HBX.out.c0
        obtain ⟨x0, x1⟩ := HBX.out
        replace HBX := Lib.hid (HBX.out.below hbb)
        replace HB := Lib.hid (HB.out.trans (hbb.mono HB.out.size))
        clear hi9 hb20 hbb HIM
        go_wp2_with fail
        generalize w20.alloc (.cells #[.slice a9 nx c9, .int .i64 0] 27) = w21 at *
        refine (lwPieces_calls HI9.out HI2.out).mono ?_
        rintro e w22 ⟨rfl, hb22⟩
        replace HI1 := Lib.hid (HI1.out.below hb22)
        replace HI2 := Lib.hid (HI2.out.below hb22)
        replace HBX := Lib.hid (HBX.out.below hb22)
        replace HB := Lib.hid (HB.out.trans (hb22.mono HB.out.size))
        clear hb22 HI9 x0 x1
        obtain ⟨x0, x1⟩ := HBX.out
        go_wp2_with fail
        refine (HRS.out _ HI2.out).mono ?_
        rintro e w23 ⟨rfl, hb23⟩
        replace HI1 := Lib.hid (HI1.out.below hb23)
        replace HI2 := Lib.hid (HI2.out.below hb23)
        replace HBX := Lib.hid (HBX.out.below hb23)
        replace HB := Lib.hid (HB.out.trans (hb23.mono HB.out.size))
        clear hb23 x0 x1 HRS
        go_wp2_with fail
        go_loopw [17] (fun i wr => ∃ k : Nat, i = .int .i64 (k : Int) ∧ k ≤ 60 ∧ InPcs wr a1 nl L ∧ InPcs wr a2 nx X ∧ PB wr bx (.slice a2 nx c2) 0 ∧ Below w.heap.size w wr) (fun i _ => 60 - (intOf i).toNat)
        case atStart => exact ⟨0, rfl, by omega, HI1.out, HI2.out, HBX.out, HB.out⟩
        case round =>
          clear HI1 HI2 HBX HB
          obtain ⟨k, rfl, hk, hi1, hi2, hbx, hbl⟩ := hrel
          by_cases hk60 : k < 60
          · obtain ⟨x0, x1⟩ := hbx
            obtain ⟨hf1, hf2, hf3⟩ := HFR.out k
            have hws := hbl.size
            replace HF1 := Lib.hid (fun (w' : World) (h : InPcs w' a1 nl L) => fromSR_calls (cap := c1) h k (by omega) (by omega))
            replace HF2 := Lib.hid (fun (w' : World) (h : InPcs w' a2 nx X) => fromI_calls (cap := c2) h k)
            replace HI1 := Lib.hid hi1
            replace HI2 := Lib.hid hi2
            replace HB := Lib.hid hbl
            replace HH := Lib.hid hf3
            have E1 := Lib.hid hf1
            have E2 := Lib.hid hf2
            clear hi1 hi2 hbl hf1 hf2 hf3
            go_upto_region 17 with fail
            go_cut [18, 19] (fun v18 v19 wx => v18 = gs (fromN L k) ∧ v19 = gs (fromN X k) ∧ InPcs wx a1 nl L ∧ InPcs wx a2 nx X ∧ PB wx bx (.slice a2 nx c2) 0 ∧ Below w.heap.size w wx)
            case first =>
              go_region_with (first | (go_at_call 17; refine (HF1.out _ (HI1.out.below ((Below.refl _ _).drew))).mono ?_; rintro e w30 ⟨rfl, hb30⟩; have x0' := (hb30.cell (World.block_lt_of_cell? _ _ x0)).trans x0) | (go_at_call 16; refine (HF2.out _ ((HI2.out.below ((Below.refl _ _).drew)).below hb30)).mono ?_; rintro e w31 ⟨rfl, hb31⟩))
              all_goals
                have hA : Below wr.heap.size wr w30 := (Below.refl _ _).drew.trans hb30
                have hB := hA.trans (hb31.mono hA.size)
                replace HE := Lib.hid (And.intro (HI1.out.below hB) (And.intro (HI2.out.below hB) (And.intro (PB.below ⟨x0, x1⟩ hB : PB w31 bx (.slice a2 nx c2) 0) (HB.out.trans (hB.mono hws)))))
                clear hA hB hb30 hb31 x0'
                go_wp2_with fail
                go_meet
                exact ⟨by rw [E1.out], by rw [E2.out], HE.out.1, HE.out.2.1, HE.out.2.2.1, HE.out.2.2.2⟩
            case rest =>
              obtain ⟨rfl, rfl, hi1, hi2, hbx, hbl⟩ := hcut
              replace HE := Lib.hid (And.intro hi1 (And.intro hi2 (And.intro hbx hbl)))
              have hh := HH.out
              generalize fromN L k = P at *
              generalize fromN X k = Q at *
              clear hi1 hi2 hbx hbl x0 x1 HF1 HF2 HI1 HI2 HB E1 E2 HH hws
              replace HDN := Lib.hid (byte_t n t k)
              cases P with
              | cons c P =>
                have hq : ∃ Q', Q = c :: Q' := by
                  cases Q with
                  | nil => simp at hh
                  | cons d Q => simp at hh; exact ⟨Q, by rw [hh]⟩
                obtain ⟨Q, rfl⟩ := hq
                clear hh HDN
                have X0 := fun W => index_gs (P := Try.prog) (T := 9) Try.underlying9 (c :: Q) 0 0 rfl c rfl W
                have X1 := fun W => index_gs (P := Try.prog) (T := 9) Try.underlying9 (c :: P) 0 0 rfl c rfl W
                by_cases hg : n ≤ k
                · by_cases hlt : (k : Int) < n + t.length
                  · go_wp2_with fail
                    go_quiet (fail)
                    replace HE := Lib.hid (And.intro (HE.out.1.below (below_drewN (Below.refl _ _) nq)) (And.intro (HE.out.2.1.below (below_drewN (Below.refl _ _) nq)) (And.intro (HE.out.2.2.1.below (below_drewN (Below.refl _ _) nq)) (below_drewN HE.out.2.2.2 nq))))
                    go_wp2_with fail
                    exact ⟨⟨k + 1, by go_num, by omega, HE.out.1, HE.out.2.1, HE.out.2.2.1, HE.out.2.2.2⟩, by simp [intOf]; omega⟩
                  · go_wp2_with fail
                    go_quiet (fail)
                    replace HE := Lib.hid (And.intro (HE.out.1.below (below_drewN (Below.refl _ _) nq)) (And.intro (HE.out.2.1.below (below_drewN (Below.refl _ _) nq)) (And.intro (HE.out.2.2.1.below (below_drewN (Below.refl _ _) nq)) (below_drewN HE.out.2.2.2 nq))))
                    go_wp2_with fail
                    exact ⟨⟨k + 1, by go_num, by omega, HE.out.1, HE.out.2.1, HE.out.2.2.1, HE.out.2.2.2⟩, by simp [intOf]; omega⟩
                · go_wp2_with fail
                  go_quiet (fail)
                  replace HE := Lib.hid (And.intro (HE.out.1.below (below_drewN (Below.refl _ _) nq)) (And.intro (HE.out.2.1.below (below_drewN (Below.refl _ _) nq)) (And.intro (HE.out.2.2.1.below (below_drewN (Below.refl _ _) nq)) (below_drewN HE.out.2.2.2 nq))))
                  go_wp2_with fail
                  exact ⟨⟨k + 1, by go_num, by omega, HE.out.1, HE.out.2.1, HE.out.2.2.1, HE.out.2.2.2⟩, by simp [intOf]; omega⟩
              | nil =>
                have hh2 := HDN.out
                have hh3 : Q.head? = byteAt [(n, t)] k := by rw [hh]; rfl
                rw [hh2] at hh3
                clear hh hh2 HDN
                by_cases hg : n ≤ k
                · by_cases hlt : (k : Int) < n + t.length
                  · rw [if_pos ⟨hg, hlt⟩] at hh3
                    have hq : ∃ d Q', Q = d :: Q' ∧ t[((k : Int) - n).toNat]? = some d := by
                      cases Q with
                      | nil =>
                        have hm : ((k : Int) - n).toNat < t.length := by omega
                        rw [List.getElem?_eq_getElem hm] at hh3; cases hh3
                      | cons d Q => exact ⟨d, Q, rfl, hh3.symm⟩
                    obtain ⟨d, Q, rfl, hd⟩ := hq
                    clear hh3
                    have X0 := fun W => index_gs (P := Try.prog) (T := 9) Try.underlying9 (d :: Q) 0 0 rfl d rfl W
                    have X1 := fun W => index_gs (P := Try.prog) (T := 9) Try.underlying9 t ((k : Int) - n) ((k : Int) - n).toNat (by omega) d hd W
                    clear hd
                    go_wp2_with fail
                    go_quiet (fail)
                    replace HE := Lib.hid (And.intro (HE.out.1.below (below_drewN (Below.refl _ _) nq)) (And.intro (HE.out.2.1.below (below_drewN (Below.refl _ _) nq)) (And.intro (HE.out.2.2.1.below (below_drewN (Below.refl _ _) nq)) (below_drewN HE.out.2.2.2 nq))))
                    go_wp2_with fail
                    exact ⟨⟨k + 1, by go_num, by omega, HE.out.1, HE.out.2.1, HE.out.2.2.1, HE.out.2.2.2⟩, by simp [intOf]; omega⟩
                  · rw [if_neg (fun h => hlt h.2)] at hh3
                    have hq : Q = [] := by cases Q with
                      | nil => rfl
                      | cons d Q => cases hh3
                    subst hq
                    clear hh3
                    go_wp2_with fail
                    go_quiet (fail)
                    replace HE := Lib.hid (And.intro (HE.out.1.below (below_drewN (Below.refl _ _) nq)) (And.intro (HE.out.2.1.below (below_drewN (Below.refl _ _) nq)) (And.intro (HE.out.2.2.1.below (below_drewN (Below.refl _ _) nq)) (below_drewN HE.out.2.2.2 nq))))
                    go_wp2_with fail
                    exact ⟨⟨k + 1, by go_num, by omega, HE.out.1, HE.out.2.1, HE.out.2.2.1, HE.out.2.2.2⟩, by simp [intOf]; omega⟩
                · rw [if_neg (fun h => hg h.1)] at hh3
                  have hq : Q = [] := by cases Q with
                    | nil => rfl
                    | cons d Q => cases hh3
                  subst hq
                  clear hh3
                  go_wp2_with fail
                  go_quiet (fail)
                  replace HE := Lib.hid (And.intro (HE.out.1.below (below_drewN (Below.refl _ _) nq)) (And.intro (HE.out.2.1.below (below_drewN (Below.refl _ _) nq)) (And.intro (HE.out.2.2.1.below (below_drewN (Below.refl _ _) nq)) (below_drewN HE.out.2.2.2 nq))))
                  go_wp2_with fail
                  exact ⟨⟨k + 1, by go_num, by omega, HE.out.1, HE.out.2.1, HE.out.2.2.1, HE.out.2.2.2⟩, by simp [intOf]; omega⟩
          · replace HB := Lib.hid hbl
            clear hi1 hi2 hbx hbl
            go_wp2_with fail
            go_meet
            exact HB.out
      · have hd : (cx == 0) = false := by simpa using hcx
        go_wp2_with fail
        go_meet
        exact HB.out
    case rest =>
      go_ways
      replace HC := Lib.hid hcut
      clear hcut HI1 HI2 HI3 HBX HBY HL HR HRF
      obtain ⟨TL, hTL, hTn⟩ : ∃ TL : List UInt8, Value.string ⟨#[97, 98, 99, 100, 101, 102, 103, 104, 105, 106, 107, 108, 109, 110, 111, 112, 113, 114, 115, 116, 117, 118, 119, 120, 121, 122]⟩ = gs TL ∧ TL.length = 26 := ⟨_, rfl, rfl⟩
      go_wp2_with fail
      rw [hTL]
      clear hTL
      refine (lwAt_calls (cap := ca) (HIA.out _ HC.out) 0 (by omega) 20 (by omega) (by omega)).mono ?_
      rintro e w20 ⟨r1, rfl, r1a, r1b, rfl⟩
      go_wp2_with fail
      refine (lwAt_calls (cap := cb) (HIB.out _ HC.out) 0 (by omega) 20 (by omega) (by omega)).mono ?_
      rintro e w21 ⟨r2, rfl, r2a, r2b, rfl⟩
      go_wp2_with fail
      refine (lwAt_calls (cap := ca) (HIA.out _ HC.out) 1 (by omega) 6 (by omega) (by omega)).mono ?_
      rintro e w22 ⟨r3, rfl, r3a, r3b, rfl⟩
      go_wp2_with fail
      refine (lwAt_calls (cap := cb) (HIB.out _ HC.out) 1 (by omega) 6 (by omega) (by omega)).mono ?_
      rintro e w23 ⟨r4, rfl, r4a, r4b, rfl⟩
      go_wp2_with fail
      obtain ⟨i, rfl⟩ : ∃ i : Nat, r1 = (i : Int) := ⟨r1.toNat, by omega⟩
      obtain ⟨k, rfl⟩ : ∃ i : Nat, r2 = (i : Int) := ⟨r2.toNat, by omega⟩
      obtain ⟨x, hx⟩ : ∃ i : Nat, 1 + r3 = (i : Int) := ⟨(1 + r3).toNat, by omega⟩
      obtain ⟨y, hy⟩ : ∃ i : Nat, 1 + r4 = (i : Int) := ⟨(1 + r4).toNat, by omega⟩
      have hx1 : 1 ≤ x := by omega
      have hy1 : 1 ≤ y := by omega
      have hx6 : x ≤ 6 := by omega
      have hy6 : y ≤ 6 := by omega
      have hi19 : i ≤ 19 := by omega
      have hk19 : k ≤ 19 := by omega
      rw [hx, hy]
      clear hx hy r1a r1b r2a r2b r3a r3b r4a r4b
      have hi26 : i + x ≤ TL.length := by omega
      have hk26 : k + y ≤ TL.length := by omega
      obtain ⟨⟨fa, fb, fc⟩, f2, f3, f4⟩ := two_facts hi26 hk26 hTn hx6 hy6 hx1
      obtain ⟨⟨ga, gb, gc⟩, -, -, -⟩ := two_facts hk26 hi26 hTn hy6 hx6 hy1
      have li := part_len hi26
      have lk := part_len hk26
      have S1 := fun W => slice_text2 (P := Try.prog) (U := 9) Try.underlying9 TL _ rfl i x ((i : Int) + (x : Int)) rfl hi26 W
      have S2 := fun W => slice_text2 (P := Try.prog) (U := 9) Try.underlying9 TL _ rfl k y ((k : Int) + (y : Int)) rfl hk26 W
      generalize hs : (TL.drop i).take x = s1 at *
      generalize hu : (TL.drop k).take y = s2 at *
      clear hs hu
      have F2 := Lib.hid f2
      have F3 := Lib.hid f3
      have F4 := Lib.hid f4
      clear f2 f3 f4
      have W1 : IntKind.i64.wrap ((i : Int) + (x : Int)) = (i : Int) + (x : Int) := IntWalk.i64_in _ (by omega)
      have W2 : IntKind.i64.wrap ((k : Int) + (y : Int)) = (k : Int) + (y : Int) := IntWalk.i64_in _ (by omega)
      clear x0 x1 HB
      refine reg24 S1 S2 W1 W2 fa fb fc (by omega) (by omega) (by omega) (by omega) ?_
      intro _ _ _ _ _ _ _ _ _ _ _ _ _ _ _ _ _ v wx hbox
      obtain ⟨b1, a1, l1, c1, rfl, hp1, hm1, hq1⟩ := hbox
      replace HC := Lib.hid (HC.out.trans (hq1.mono HC.out.size))
      have HPB := Lib.hid hp1
      have HM1 := Lib.hid hm1
      clear hp1 hm1 hq1 fa fb fc
      go_wp2_with fail
      refine reg25 S1 S2 W1 W2 ga gb gc (by omega) (by omega) (by omega) (by omega) ?_
      intro _ _ _ _ _ _ _ _ _ _ _ _ _ _ _ _ _ v wy hbox
      obtain ⟨b2, a2, l2, c2, rfl, hp2, hm2, hq2⟩ := hbox
      replace HC := Lib.hid (HC.out.trans (hq2.mono HC.out.size))
      replace HPB := Lib.hid (HPB.out.below hq2)
      replace HM1 := Lib.hid (HM1.out.below hq2)
      rw [← F2.out] at hm2
      have HQB := Lib.hid hp2
      have HM2 := Lib.hid hm2
      clear hp2 hm2 hq2 ga gb gc F2 W2 S2
      obtain ⟨b10, b11⟩ := HPB.out
      go_wp2_with fail
      refine (fromI_calls HM1.out i).mono ?_
      rintro e wd ⟨rfl, hb26⟩
      replace HC := Lib.hid (HC.out.trans (hb26.mono HC.out.size))
      replace HPB := Lib.hid (HPB.out.below hb26)
      replace HQB := Lib.hid (HQB.out.below hb26)
      replace HM1 := Lib.hid (HM1.out.below hb26)
      replace HM2 := Lib.hid (HM2.out.below hb26)
      have f3 := F3.out
      have f4 := F4.out
      clear hb26 b10 b11 F3 F4
      generalize fromR (putN (putN [] i s1) k s2) i = fr at *
      have S3 := slice_head (P := Try.prog) (T := 9) Try.underlying9 fr x (x : Int) rfl f3
      rw [f4] at S3
      clear f4
      obtain ⟨b10, b11⟩ := HPB.out
      obtain ⟨b20, b21⟩ := HQB.out
      clear HIA HIB
      go_wp2_with fail
      go_region_held3 (fun W => Below wd.heap.size wd W ∧ W.cell? ⟨b1, 0, none⟩ = some (.slice a1 l1 c1) ∧ W.cell? ⟨b1, 1, none⟩ = some (.int .i64 0) ∧ W.cell? ⟨b2, 0, none⟩ = some (.slice a2 l2 c2) ∧ W.cell? ⟨b2, 1, none⟩ = some (.int .i64 0)) (first | exact ⟨(Below.refl _ _).drew, b10, b11, b20, b21⟩ | assumption | (refine keep4 (by assumption) (by assumption))) (first | (go_at_call 15; (with_reducible refine (lwPieces_calls (l := putN (putN [] i s1) k s2) ?_ ?_).mono ?_); (· exact HM1.out.below (by assumption : Below wd.heap.size wd _ ∧ _).1); (· exact HM2.out.below (by assumption : Below wd.heap.size wd _ ∧ _).1); rintro e wz ⟨rfl, hbz⟩))
      all_goals
        go_wp2_with fail
        go_ret
        exact ⟨rfl, HC.out.trans ((by assumption : Below wd.heap.size wd _ ∧ _).1.mono HC.out.size)⟩
end Go.Proofs.Ytjcdcaannajnpaa
