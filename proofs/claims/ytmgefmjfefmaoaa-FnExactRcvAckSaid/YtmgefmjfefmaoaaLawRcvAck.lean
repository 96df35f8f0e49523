/- FnExactRcvAck: for every Rcv and path the program's RcvAck answers as the model's, and the Rcv is as it was. No condition. -/
import Derived.Test.YtmgefmjfefmaoaaRows
import Derived.Test.YtmgefmjfefmaoaaRcvI
import Derived.Test.YtmgefmjfefmaoaaOpenRcv
import Derived.Deep.RegionHeld3
import Derived.ProofKit
import Derived.OpenShut
import Derived.ShutString
import Derived.ChangeOld
import Derived.Below
namespace Go.Proofs.Ytmgefmjfefmaoaa.lawRcvAck
open Go.ChangeShapes Go.WideShapes Go.ChangeAt Go.RowKit
open Go.ChangeMaps (open_string shut_string)

set_option maxHeartbeats 4000000 in
set_option maxRecDepth 100000 in
theorem walk (rd : Int) (pa : Option Addr) (pl pc : Nat) (ps : List Pc) (ed sz cp en : Int) (fa : Option Addr) (fl fc : Nat) (n : Frs) (k : Int) (w : World) (w0 : I64 rd ∧ I64 ed ∧ I64 sz ∧ I64 cp ∧ I64 en) (wp : RawPcs w pa pl ps) (wf : RawFrs w fa fl n) (wk : (Lit.int .i64 k).wf = true) :
    Calls Try.prog 5 #[rcvV rd pa pl pc ed sz cp en fa fl fc, .int .i64 k] w fun e w' => e = .returned (.bool true) ∧ Below w.heap.size w w' := by
  have hszr := szRc_range ps n 1048576 (by omega)
  have HSZ := Lib.hid (fun (W : World) (hb : Below w.heap.size w W) => szRcv_calls (rd := rd) (ed := ed) (sz := sz) (cp := cp) (en := en) (pc := pc) (fc := fc) (wp.below hb) (wf.below hb) 1048576 (by omega) (by omega))
  by_cases hneg : szRc ps n 1048576 < 0
  · generalize szRc ps n 1048576 = q at *
    unfold rcvV at *
    clear wp wf
    go_enter Try.func5, Try.ntmps5
    go_wp2_with (go_at_call 7; (with_reducible refine (HSZ.out _ ((Below.refl _ _).alloc (Nat.le_refl _) _)).mono ?_); rintro e w1 ⟨rfl, hb1⟩; replace hb1 := below_box hb1)
    all_goals first
      | (go_ret; exact ⟨rfl, hb1⟩)
      | (exfalso; omega)
  · have hsa : 0 ≤ szAll ps 1048576 := by unfold szRc at hneg; split at hneg <;> omega
    have hsf : 0 ≤ szFrs n (szAll ps 1048576) := by unfold szRc at hneg; rw [if_neg (by omega)] at hneg; omega
    have hrg := szAll_range ps 1048576 (by omega)
    have hp := inPcs_ofN wp (by omega) hsa
    have hf := inFrs_of wf hsa (by omega) hsf
    obtain rfl := hp.long
    obtain rfl := hf.long
    have HTO := Lib.hid (fun (W : World) (hb : Below w.heap.size w W) => toRcv_calls (rd := rd) (ed := ed) (sz := sz) (cp := cp) (en := en) (pc := pc) (fc := fc) (hp.below hb) (hf.below hb))
    unfold RcvCopied at HTO
    generalize szRc ps n 1048576 = q at *
    have hq : ¬ q < 0 := hneg
    clear wp wf hp hf hsa hsf hrg hneg
    unfold rcvV at HSZ HTO ⊢
    go_enter Try.func5, Try.ntmps5
    go_wp2_with fail
    have n1 := box_new w [.int .i64 rd, .slice pa ps.length pc, .int .i64 ed, .int .i64 sz, .int .i64 cp, .int .i64 en, .slice fa n.length fc] 25 (by simp)
    have hb0 : Below w.heap.size w (w.alloc (.cells #[.int .i64 rd, .slice pa ps.length pc, .int .i64 ed, .int .i64 sz, .int .i64 cp, .int .i64 en, .slice fa n.length fc] 25)) := (Below.refl _ _).alloc (Nat.le_refl _) _
    generalize w.alloc (.cells #[.int .i64 rd, .slice pa ps.length pc, .int .i64 ed, .int .i64 sz, .int .i64 cp, .int .i64 en, .slice fa n.length fc] 25) = W at *
    (with_reducible refine (HSZ.out _ hb0).mono ?_); rintro e w1 ⟨rfl, hb1⟩
    have N1 := Lib.hid (n1.below hb1)
    obtain ⟨c0, c1, c2, c3, c4, c5, c6⟩ := N1.out.seven
    have HB1 := Lib.hid (hb0.trans (hb1.mono hb0.size))
    clear n1 hb0 hb1 HSZ
    go_wp2_with fail
    (with_reducible refine (HTO.out _ HB1.out).mono ?_); rintro e w2 ⟨gp, gf, A, C, rfl, hg1, hg2, hpo, hfo, hgp, hb2⟩
    have HB2 := Lib.hid (HB1.out.trans (hb2.mono HB1.out.size))
    have N2 := Lib.hid (N1.out.below hb2)
    have hS := rcvAckS_calls (rd := rd) (ed := ed) (sz := sz) (cp := cp) (en := en) (pc := ps.length) (fc := n.length) hpo.in' hfo.in' k
    unfold rcvV at hS
    have HS := Lib.hid hS
    clear hS hpo hfo hb2 N1 HB1 c0 c1 c2 c3 c4 c5 c6
    go_wp2_with fail
    (with_reducible refine HS.out.mono ?_); rintro e w3 ⟨rfl, hb3⟩
    have HB3 := Lib.hid (HB2.out.trans (hb3.mono HB2.out.size))
    have N3 := Lib.hid (N2.out.below hb3)
    clear HS hb3 N2 HB2
    obtain ⟨a0, a1, a2, a3, hres⟩ : ∃ a0 a1 a2 a3, (if rcvOk rd ps ed sz cp en n ∧ 0 ≤ k ∧ k < (n.length : Int) then ackN rd ps ed n k.toNat else ackV 0 0 0 0) = ackV a0 a1 a2 a3 := by split <;> exact ⟨_, _, _, _, rfl⟩
    rw [hres]
    have HRES := Lib.hid hres
    clear hres
    have nk : Box _ w3.heap.size [.int .i64 a0, .int .i64 a1, .int .i64 a2, .int .i64 a3] := box_new w3 [.int .i64 a0, .int .i64 a1, .int .i64 a2, .int .i64 a3] 36 (by simp)
    have bk : Below w3.heap.size w3 (w3.alloc (.cells #[.int .i64 a0, .int .i64 a1, .int .i64 a2, .int .i64 a3] 36)) := (Below.refl _ _).alloc (Nat.le_refl _) _
    have N3k := Lib.hid (N3.out.below bk)
    have HB3k := Lib.hid (HB3.out.trans (bk.mono HB3.out.size))
    have NK3 := Lib.hid nk
    obtain ⟨c0, c1, c2, c3, c4, c5, c6⟩ := N3k.out.seven
    clear nk bk N3 HB3
    go_wp2_with fail
    generalize w3.alloc (.cells #[.int .i64 a0, .int .i64 a1, .int .i64 a2, .int .i64 a3] 36) = V3 at *
    have N3 := N3k
    have HB3 := HB3k
    clear N3k HB3k
    (with_reducible refine (HTO.out _ HB3.out).mono ?_); rintro e w4 ⟨gq, gg, A2, C2, rfl, hq1, hq2, hpo, hfo, hgq, hb4⟩
    have HB4 := Lib.hid (HB3.out.trans (hb4.mono HB3.out.size))
    have N4 := Lib.hid (N3.out.below hb4)
    have NK4 := Lib.hid (NK3.out.below hb4)
    clear NK3
    have n5 := box_new w4 [.int .i64 rd, .slice (some ⟨gq, 0, none⟩) ps.length ps.length, .int .i64 ed, .int .i64 sz, .int .i64 cp, .int .i64 en, .slice (some ⟨gg, 0, none⟩) n.length n.length] 31 (by simp)
    have b5 : Below w4.heap.size w4 (w4.alloc (.cells #[.int .i64 rd, .slice (some ⟨gq, 0, none⟩) ps.length ps.length, .int .i64 ed, .int .i64 sz, .int .i64 cp, .int .i64 en, .slice (some ⟨gg, 0, none⟩) n.length n.length] 31)) := (Below.refl _ _).alloc (Nat.le_refl _) _
    have N5 := Lib.hid (N4.out.below b5)
    have HB5 := Lib.hid (HB4.out.trans (b5.mono HB4.out.size))
    have HPO := Lib.hid (hpo.below b5)
    have HFO := Lib.hid (hfo.below b5)
    have hI := rcvAckI_calls (rd := rd) (ed := ed) (sz := sz) (cp := cp) (en := en) (pc := ps.length) (fc := n.length) w0 HPO.out.in' HFO.out.in' k wk
    unfold rcvV at hI
    have HI := Lib.hid hI
    have M5 := Lib.hid n5
    have NK5 := Lib.hid (NK4.out.below b5)
    clear NK4
    clear hI hpo hfo hb4 N3 N4 HB3 HB4 c0 c1 c2 c3 c4 c5 c6 n5 b5
    go_wp2_with fail
    generalize w4.alloc (.cells #[.int .i64 rd, .slice (some ⟨gq, 0, none⟩) ps.length ps.length, .int .i64 ed, .int .i64 sz, .int .i64 cp, .int .i64 en, .slice (some ⟨gg, 0, none⟩) n.length n.length] 31) = V5 at *
    (with_reducible refine HI.out.mono ?_); rintro e w6 ⟨rfl, hb6⟩
    rw [HRES.out]
    have nk : Box _ w6.heap.size [.int .i64 a0, .int .i64 a1, .int .i64 a2, .int .i64 a3] := box_new w6 [.int .i64 a0, .int .i64 a1, .int .i64 a2, .int .i64 a3] 36 (by simp)
    have bk : Below w6.heap.size w6 (w6.alloc (.cells #[.int .i64 a0, .int .i64 a1, .int .i64 a2, .int .i64 a3] 36)) := (Below.refl _ _).alloc (Nat.le_refl _) _
    have hb6' := hb6.trans (bk.mono hb6.size)
    have N6 := Lib.hid (N5.out.below hb6')
    have M6 := Lib.hid (M5.out.below hb6')
    have HB6 := Lib.hid (HB5.out.trans (hb6'.mono HB5.out.size))
    have HPO6 := Lib.hid (HPO.out.below hb6')
    have HFO6 := Lib.hid (HFO.out.below hb6')
    obtain ⟨x0, x1, x2, x3, -⟩ := nk.four
    obtain ⟨y0, y1, y2, y3, -⟩ := (NK5.out.below hb6').four
    have HEA := Lib.hid (fun W => eqAckR_calls a0 a1 a2 a3 W)
    clear HI hb6 hb6' bk nk NK5 N5 M5 HB5 HPO HFO HRES
    go_wp2_with fail
    generalize w6.alloc (.cells #[.int .i64 a0, .int .i64 a1, .int .i64 a2, .int .i64 a3] 36) = V6 at *
    (with_reducible refine (HEA.out _).mono ?_); rintro e w7 ⟨rfl, hb7⟩
    obtain ⟨c0, c1, c2, c3, c4, c5, c6⟩ := (N6.out.below hb7).seven
    obtain ⟨d0, d1, d2, d3, d4, d5, d6⟩ := (M6.out.below hb7).seven
    have HB7 := Lib.hid (HB6.out.trans (hb7.mono HB6.out.size))
    have HPO7 := Lib.hid (HPO6.out.below hb7)
    have HFO7 := Lib.hid (HFO6.out.below hb7)
    clear hb7 N6 M6 HB6 HPO6 HFO6 HEA x0 x1 x2 x3 y0 y1 y2 y3
    go_wp2_with fail
    refine wp_region_held_drew (S := (fun V => Below w7.heap.size w7 V ∧ V.cell? ⟨w.heap.size, 0, none⟩ = some (.int .i64 rd) ∧ V.cell? ⟨w.heap.size, 1, none⟩ = some (.slice pa ps.length pc) ∧ V.cell? ⟨w.heap.size, 2, none⟩ = some (.int .i64 ed) ∧ V.cell? ⟨w.heap.size, 3, none⟩ = some (.int .i64 sz) ∧ V.cell? ⟨w.heap.size, 4, none⟩ = some (.int .i64 cp) ∧ V.cell? ⟨w.heap.size, 5, none⟩ = some (.int .i64 en) ∧ V.cell? ⟨w.heap.size, 6, none⟩ = some (.slice fa n.length fc) ∧ V.cell? ⟨w4.heap.size, 0, none⟩ = some (.int .i64 rd) ∧ V.cell? ⟨w4.heap.size, 1, none⟩ = some (.slice (some ⟨gq, 0, none⟩) ps.length ps.length) ∧ V.cell? ⟨w4.heap.size, 2, none⟩ = some (.int .i64 ed) ∧ V.cell? ⟨w4.heap.size, 3, none⟩ = some (.int .i64 sz) ∧ V.cell? ⟨w4.heap.size, 4, none⟩ = some (.int .i64 cp) ∧ V.cell? ⟨w4.heap.size, 5, none⟩ = some (.int .i64 en) ∧ V.cell? ⟨w4.heap.size, 6, none⟩ = some (.slice (some ⟨gg, 0, none⟩) n.length n.length))) (by kernel_rfl) (⟨(Below.refl _ _).drew, c0, c1, c2, c3, c4, c5, c6, d0, d1, d2, d3, d4, d5, d6⟩) (fun hHeld => ?_)
    refine wpAnyH_take (i := 0) (oi := _) (v := ?v3x0) rfl (by kernel_rfl) (by kernel_rfl) (by kernel_rfl) (fun _ _ _ h => h) (Or.inl ⟨by kernel_rfl, ?hy3x0⟩) (by with_reducible assumption) ?rest3x0
    case hy3x0 => (intro w hSw; (try dsimp only at hSw); go_simp; (try with_reducible rfl))
    (try simp only [Act.put, List.getElem_toArray, List.getElem_cons_zero, List.setIfInBounds_toArray, List.set_cons_succ, List.set_cons_zero])
    refine wpAnyH_take (i := 1) (oi := _) (v := ?v3x1) rfl (by kernel_rfl) (by kernel_rfl) (by kernel_rfl) (fun _ _ _ h => h) (Or.inl ⟨by kernel_rfl, ?hy3x1⟩) (by with_reducible assumption) ?rest3x1
    case hy3x1 => (intro w hSw; (try dsimp only at hSw); go_simp; (try with_reducible rfl))
    (try simp only [Act.put, List.getElem_toArray, List.getElem_cons_succ, List.getElem_cons_zero, List.setIfInBounds_toArray, List.set_cons_succ, List.set_cons_zero])
    refine wpAnyH_ready (rs := [2]) (by kernel_rfl) (by simp) (AllReadyH.cons (o := _) rfl (fun K hK => ?c3x2) AllReadyH.nil)
    go_simp
    refine (HTO.out _ (HB7.out.trans (hHeld.1.mono HB7.out.size))).mono ?_
    rintro e w8 ⟨gr, gs', A3, C3, rfl, hr1, hr2, hpr, hfr, hgr, hb8⟩
    have hpx := (HPO7.out.below hHeld.1).below hb8
    have hfx := (HFO7.out.below hHeld.1).below hb8
    have hE := eqRcv_same (rd := rd) (ed := ed) (sz := sz) (cp := cp) (en := en) (pc := ps.length) (fc := n.length) (pc' := ps.length) (fc' := n.length) hpx.in' hfx.in' hpr.in' hfr.in'
    unfold rcvV at hE
    have HE := Lib.hid hE
    clear hE hpx hfx hpr hfr
    go_simp
    refine hK.out _ _ (keep14 hb8 hHeld) (fun hHeld2 => ?_)
    clear hHeld
    have hHeld := hHeld2
    clear hK K hHeld2
    (try simp only [Act.put, List.getElem_toArray, List.getElem_cons_succ, List.getElem_cons_zero, List.setIfInBounds_toArray, List.set_cons_succ, List.set_cons_zero])
    refine wpAnyH_ready (rs := [3]) (by kernel_rfl) (by simp) (AllReadyH.cons (o := _) rfl (fun K hK => ?c3x3) AllReadyH.nil)
    go_simp
    refine HE.out.mono ?_
    rintro e w9 ⟨rfl, hb9⟩
    go_simp
    refine hK.out _ _ (keep14 hb9 hHeld) (fun hHeld2 => ?_)
    clear hHeld
    have hHeld := hHeld2
    clear hK K hHeld2
    (try simp only [Act.put, List.getElem_toArray, List.getElem_cons_succ, List.getElem_cons_zero, List.setIfInBounds_toArray, List.set_cons_succ, List.set_cons_zero])
    refine wpAnyH_take (i := 4) (oi := _) (v := ?v3x4) rfl (by kernel_rfl) (by kernel_rfl) (by kernel_rfl) (fun _ _ _ h => h) (Or.inl ⟨by kernel_rfl, ?hy3x4⟩) (by with_reducible assumption) ?rest3x4
    case hy3x4 => (intro w hSw; (try dsimp only at hSw); go_simp; (try with_reducible rfl))
    (try simp only [Act.put, List.getElem_toArray, List.getElem_cons_succ, List.getElem_cons_zero, List.setIfInBounds_toArray, List.set_cons_succ, List.set_cons_zero])
    refine wpAnyH_done (by kernel_rfl) ?_ _
    have HB9 := Lib.hid (HB7.out.trans (hHeld.1.mono HB7.out.size))
    clear hHeld HE
    go_wp2_with fail
    go_ret
    exact ⟨rfl, HB9.out⟩
theorem own : ownKnob Try.prog.godebug = none := by kernel_rfl
theorem laidOut : laidOutB Try.prog = true := by kernel_rfl
set_option maxRecDepth 100000 in
theorem contract (H : Type) (enc : TypeId × Value → H) (W : World) (base : Nat) (args : Array Value) (ds gs : List (DataW H)) (before : List MemPlace)
    (hval : ∀ (j : Nat) t v, Try.f5.params[j]? = some t → args[j]? = some v → Value.okWide Try.prog W .any base t v)
    (hW : DataW.Whole enc Try.prog Try.f5.params.toList Rows.fnExactRcvAckSpec.vars false W args.toList ds gs before) :
    Calls Try.prog 5 args W fun e W' => ∃ v, e = .returned v ∧ Rows.fnExactRcvAckSpec.post enc Try.prog Try.f5 false true false false W args v W' := by
  have hW' := hW
  obtain ⟨p, q, hA0, hV, rfl, hfz, hnd⟩ := hW
  have hA : DataW.TrodAll enc Try.prog W 0 (fun _ => true) true Try.f5.params.toList args.toList ds p := hA0
  rw [Try.params5] at hA hval
  obtain ⟨v0, vs0, d0, ds0, p0, q0, hargs, rfl, rfl, h0, r0⟩ := trodAll_cons hA
  obtain ⟨v1, vs1, d1, ds1, p1, q1, rfl, rfl, rfl, h1, r1⟩ := trodAll_cons r0
  obtain ⟨rfl, rfl, rfl⟩ := trodAll_nil r1
  obtain rfl : args = #[v0, v1] := by cases args; simp_all
  obtain ⟨rfl, rfl⟩ := trodVars_none hV
  have k0 := h0
  have lt0 : ∀ x ∈ p0, x.block < W.heap.size := by obtain ⟨m, hm⟩ := k0; exact DataW.trod_lt m _ _ _ hm
  obtain ⟨rd0, pa0, pl0, pc0, ps0, ed0, sz0, cp0, en0, fa0, fl0, fc0, n0, rfl, w0, wp0, wf0⟩ := open_rcv (hval 0 25 v0 rfl rfl) h0
  obtain ⟨a1, rfl, rfl, rfl, w1⟩ := open_int Try.underlying2 (hval 1 2 v1 rfl rfl) h1
  clear hA0
  refine (walk rd0 pa0 pl0 pc0 ps0 ed0 sz0 cp0 en0 fa0 fl0 fc0 n0 a1 W w0 wp0 wf0 w1).mono fun e W' ⟨he, bel⟩ => ?_
  subst he
  exact ⟨_, rfl, _, _, _, [], _, [], hW', trodAll_mk1 (shut_bool Try.underlying4 _), (trodAll_cons_mk (Below.trod laidOut (by kernel_rfl) (of_decide_eq_true (by kernel_rfl)) k0 bel lt0) (trodAll_cons_mk (shut_int Try.underlying2 w1) trodAll_mk0)), rfl, bel.frame _, fun h => by cases h⟩

set_option maxRecDepth 100000 in
theorem lifted (os : Os) (started : os.Started) (H : Type) (enc : TypeId × Value → H) :
    ReturnsInHanded {} Try.checked os 5 .any (Rows.fnExactRcvAckSpec.pre6 enc Try.prog Try.f5 Rows.fnExactRcvAckRow.domain false) (Rows.fnExactRcvAckSpec.post enc Try.prog Try.f5 false true false false) := by
  refine returnsInHanded_of_change (C := Try.checked) own started (by kernel_rfl) Try.func5
    (ChangeSpec.witness6 (enc := enc) (C := Try.checked) false ⟨#[], #[.agg #[.int .i64 0, .slice none 0 0, .int .i64 0, .int .i64 0, .int .i64 0, .int .i64 0, .slice none 0 0], .int .i64 0], []⟩ 8 (by kernel_rfl) (by kernel_rfl) (by kernel_rfl) (by kernel_rfl)) ?_
  intro W base args ds gs before hval hW hcnd _
  exact contract H enc W base args ds gs before hval hW

/-- THE STATEMENT. -/
theorem proved : Rows.FnExactRcvAckSaid :=
  OpenClaim.holds_of_wide 5 Try.f5 rfl rfl rfl rfl rfl rfl rfl ⟨rfl, rfl, rfl, rfl, rfl⟩ rfl rfl rfl rfl rfl (by kernel_rfl) Try.func5 (by kernel_rfl)
    (of_decide_eq_true (by kernel_rfl)) (by unfold Func.isWrapper; first | (rw [if_pos (by decide +kernel)]; kernel_rfl) | (rw [if_neg (by decide +kernel)]; exact ⟨rfl, rfl⟩))
    (fun os started H enc _ => lifted os started H enc)
#print axioms proved
end Go.Proofs.Ytmgefmjfefmaoaa.lawRcvAck
