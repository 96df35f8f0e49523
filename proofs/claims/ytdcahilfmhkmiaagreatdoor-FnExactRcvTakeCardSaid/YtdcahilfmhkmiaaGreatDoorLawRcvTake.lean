/- FnExactRcvTake: for every Rcv and Seg the program's RcvTake answers as the model's, in memory of its own, and the Rcv is as it was. No condition. -/
import Derived.Test.YtdcahilfmhkmiaaGreatDoorRows
import Derived.Test.YtdcahilfmhkmiaaGreatDoorPackV
import Derived.Deep.RegionHeld3
import Derived.ProofKit
import Derived.OpenShut
import Derived.ShutString
import Derived.ChangeOld
import Derived.Below
import Derived.Test.YtdcahilfmhkmiaaGreatDoorCards
import Derived.Test.YtdcahilfmhkmiaaGreatDoorTie
import Derived.Test.YtdcahilfmhkmiaaGreatDoorAs
import Derived.Deep.DeepHandedRow
namespace Go.Proofs.YtdcahilfmhkmiaaGreatDoor.lawRcvTake
open Go.ChangeShapes Go.WideShapes Go.ChangeAt Go.RowKit
open Go.ChangeMaps (open_string shut_string)

set_option maxHeartbeats 16000000 in
set_option maxRecDepth 100000 in
theorem walk (rd : Int) (pa : Option Addr) (pl pc : Nat) (ps : List Pc) (ed sz cp en : Int) (fa : Option Addr) (fl fc : Nat) (n : Frs) (p s d : Int) (t : List UInt8) (e : Int) (w : World) (_w0 : I64 rd ∧ I64 ed ∧ I64 sz ∧ I64 cp ∧ I64 en) (wp : RawPcs w pa pl ps) (wf : RawFrs w fa fl n) (_ : -9223372036854775808 ≤ p ∧ p ≤ 9223372036854775807) (_ : -9223372036854775808 ≤ s ∧ s ≤ 9223372036854775807) (_ : -9223372036854775808 ≤ d ∧ d ≤ 9223372036854775807) (wt : t.length ≤ 9223372036854775807) (_ : -9223372036854775808 ≤ e ∧ e ≤ 9223372036854775807) (hg : EtCell w) (htz : TzTab w) :
    Calls Tryz.prog 5 #[rcvV rd pa pl pc ed sz cp en fa fl fc, segV p s d t e] w fun x w' => x = .returned (.bool true) ∧ Below w.heap.size w w' := by
  have HG := Lib.hid hg
  have HTZ := Lib.hid htz
  clear hg htz
  have hszr := szRc_range ps n 1048576 (by omega)
  have HSZ := Lib.hid (fun (W : World) (hb : Below w.heap.size w W) => szRcv_calls (rd := rd) (ed := ed) (sz := sz) (cp := cp) (en := en) (pc := pc) (fc := fc) (wp.below hb) (wf.below hb) 1048576 (by omega) (by omega))
  by_cases hneg : szRc ps n 1048576 < 0
  · generalize szRc ps n 1048576 = q at *
    unfold rcvV segV at *
    clear wp wf
    go_enter Tryz.func5, Tryz.ntmps5
    go_wp2_with (go_at_call 49; (with_reducible refine (HSZ.out _ (((Below.refl _ _).alloc (Nat.le_refl _) _).alloc (by simp) _)).mono ?_); rintro e9 w1 ⟨rfl, hb1⟩; replace hb1 := below_boxes hb1)
    all_goals first
      | (go_ret; exact ⟨rfl, hb1⟩)
      | (exfalso; omega)
  have hsa : 0 ≤ szAll ps 1048576 := by unfold szRc at hneg; split at hneg <;> omega
  have hsf : 0 ≤ szFrs n (szAll ps 1048576) := by unfold szRc at hneg; rw [if_neg (by omega)] at hneg; omega
  have hrg := szAll_range ps 1048576 (by omega)
  have hp := inPcs_ofN wp (by omega) hsa
  have hf := inFrs_of wf hsa (by omega) hsf
  have hsum := szFrs_sum hsf
  obtain rfl := hp.long
  obtain rfl := hf.long
  have hpm := hp.most
  have HTO := Lib.hid (fun (W : World) (hb : Below w.heap.size w W) => toRcv_calls (rd := rd) (ed := ed) (sz := sz) (cp := cp) (en := en) (pc := pc) (fc := fc) (hp.below hb) (hf.below hb))
  unfold RcvCopied at HTO
  have HXS := Lib.hid (show 1 + 2 * ps.length + frsSum n ≤ 90000000 by omega)
  have HSM := Lib.hid (take_small rd ps ed sz cp en n p s d t e)
  obtain ⟨r, hr⟩ : ∃ r, rcvTakeN rd ps ed sz cp en n p s d t e = r := ⟨_, rfl⟩
  rw [hr] at HSM
  have HR := Lib.hid hr
  have HP0 := Lib.hid hp
  have HF0 := Lib.hid hf
  have hszq := szRc_range ps n 1048576 (by omega)
  generalize szRc ps n 1048576 = q at *
  have hq : ¬ q < 0 := hneg
  have HSG := Lib.hid (fun W => szSegM_calls p s d t e q W wt (by omega) (by omega))
  have hsg : szSgN t q < 0 ∨ ¬ szSgN t q < 0 := by omega
  generalize szSgN t q = q2 at *
  clear wp wf hp hf hsa hsf hrg hneg hsum hpm _w0 hszr hr
  unfold rcvV at HSZ HTO
  unfold segV at HSG
  unfold rcvV segV
  have n2 := box_two w [.int .i64 rd, .slice pa ps.length pc, .int .i64 ed, .int .i64 sz, .int .i64 cp, .int .i64 en, .slice fa n.length fc] [.int .i64 p, .int .i64 s, .int .i64 d, gs t, .int .i64 e] 81 82 (by simp) (by simp)
  dsimp only at n2
  rcases hsg with hsg | hsg
  · go_enter Tryz.func5, Tryz.ntmps5
    go_wp2_with fail
    generalize (w.alloc (.cells #[.int .i64 rd, .slice pa ps.length pc, .int .i64 ed, .int .i64 sz, .int .i64 cp, .int .i64 en, .slice fa n.length fc] 81)).alloc (.cells #[.int .i64 p, .int .i64 s, .int .i64 d, gs t, .int .i64 e] 82) = W at *
    obtain ⟨n1, m1, hs0, hb0⟩ := n2
    (with_reducible refine (HSZ.out _ hb0).mono ?_); rintro e9 w1 ⟨rfl, hb1⟩
    have M1 := Lib.hid (m1.below hb1)
    obtain ⟨e0, e1, e2, e3, e4⟩ := M1.out.five
    have HB1 := Lib.hid (hb0.trans (hb1.mono hb0.size))
    clear n1 m1 hb0 hb1 HSZ
    go_wp2_with fail
    (with_reducible refine (HSG.out _).mono ?_); rintro e9 w2 ⟨rfl, hb2⟩
    have HB2 := Lib.hid (HB1.out.trans (hb2.mono HB1.out.size))
    clear e0 e1 e2 e3 e4 hb2 HB1 HSG
    go_wp2_with fail
    go_ret
    exact ⟨rfl, HB2.out⟩
  · go_enter Tryz.func5, Tryz.ntmps5
    go_wp2_with fail
    generalize (w.alloc (.cells #[.int .i64 rd, .slice pa ps.length pc, .int .i64 ed, .int .i64 sz, .int .i64 cp, .int .i64 en, .slice fa n.length fc] 81)).alloc (.cells #[.int .i64 p, .int .i64 s, .int .i64 d, gs t, .int .i64 e] 82) = W at *
    obtain ⟨n1, m1, hs0, hb0⟩ := n2
    (with_reducible refine (HSZ.out _ hb0).mono ?_); rintro e9 w1 ⟨rfl, hb1⟩
    have M1 := Lib.hid (show ArgB w1 w.heap.size [.int .i64 rd, .slice pa ps.length pc, .int .i64 ed, .int .i64 sz, .int .i64 cp, .int .i64 en, .slice fa n.length fc] [.int .i64 p, .int .i64 s, .int .i64 d, gs t, .int .i64 e] from ⟨n1.below hb1, m1.below hb1⟩)
    obtain ⟨e0, e1, e2, e3, e4⟩ := M1.out.two.five
    have HB1 := Lib.hid (hb0.trans (hb1.mono hb0.size))
    have hs1 : w.heap.size + 2 ≤ w1.heap.size := by have := hb1.size; omega
    clear n1 m1 hb0 hb1 HSZ
    go_wp2_with fail
    (with_reducible refine (HSG.out _).mono ?_); rintro e9 w2 ⟨rfl, hb2⟩
    have HB2 := Lib.hid (HB1.out.trans (hb2.mono HB1.out.size))
    have N2 := Lib.hid (M1.out.below hb2)
    have hs2 : w.heap.size + 2 ≤ w2.heap.size := by have := hb2.size; omega
    clear e0 e1 e2 e3 e4 hb2 HB1 HSG M1
    go_wp2_with fail
    refine takeReg8 HP0.out HF0.out wt HR.out HB2.out N2.out ?_
    intro _ _ _ _ _ G6 V3 ⟨pa', pc', fa', fc', n6, hp3, hf3, hpb3, hG6, hb3⟩
    have HP := Lib.hid hp3
    have HF := Lib.hid hf3
    have HPB := Lib.hid hpb3
    have HB3 := Lib.hid (HB2.out.trans (hb3.mono HB2.out.size))
    have N3 := Lib.hid (N2.out.below hb3)
    have N6 := Lib.hid n6
    have hG6l := n6.lt
    have HB3S : w.heap.size + 2 ≤ V3.heap.size := by have := hb3.size; omega
    obtain ⟨e0, e1, e2, e3, e4, e5, e6⟩ := N3.out.one.seven
    clear hp3 hpb3 hf3 hb3 n6 N2 HB2
    go_wp2_with fail
    (with_reducible refine (HTO.out _ HB3.out).mono ?_); rintro e9 w4 ⟨xp, xf, XA, XC, rfl, hx1, hx2, hpo, hfo, hx3, hb4⟩
    clear e0 e1 e2 e3 e4 e5 e6
    have n7 := box_new w4 [.int .i64 rd, .slice (some ⟨xp, 0, none⟩) ps.length ps.length, .int .i64 ed, .int .i64 sz, .int .i64 cp, .int .i64 en, .slice (some ⟨xf, 0, none⟩) n.length n.length] 26 (by simp)
    have b7 : Below w4.heap.size w4 (w4.alloc (.cells #[.int .i64 rd, .slice (some ⟨xp, 0, none⟩) ps.length ps.length, .int .i64 ed, .int .i64 sz, .int .i64 cp, .int .i64 en, .slice (some ⟨xf, 0, none⟩) n.length n.length] 26)) := (Below.refl _ _).alloc (Nat.le_refl _) _
    have s7 : (w4.alloc (.cells #[.int .i64 rd, .slice (some ⟨xp, 0, none⟩) ps.length ps.length, .int .i64 ed, .int .i64 sz, .int .i64 cp, .int .i64 en, .slice (some ⟨xf, 0, none⟩) n.length n.length] 26)).heap.size = w4.heap.size + 1 := by simp
    have hb4' := hb4.trans (b7.mono hb4.size)
    have XP := Lib.hid (hpo.below b7)
    have XF := Lib.hid (hfo.below b7)
    have HP4 := Lib.hid (HP.out.below hb4')
    have HF4 := Lib.hid (HF.out.below hb4')
    have N4 := Lib.hid (N3.out.below hb4')
    have N64 := Lib.hid (N6.out.below hb4')
    have N7 := Lib.hid n7
    have HB4 := Lib.hid (HB3.out.trans (hb4'.mono HB3.out.size))
    have hw4 := hb4.size
    clear hpo hfo hb4 hb4' n7 b7 HP HF N3 N6 HB3
    go_wp2_with fail
    generalize w4.alloc (.cells #[.int .i64 rd, .slice (some ⟨xp, 0, none⟩) ps.length ps.length, .int .i64 ed, .int .i64 sz, .int .i64 cp, .int .i64 en, .slice (some ⟨xf, 0, none⟩) n.length n.length] 26) = V4 at *
    refine takeReg10 wt HR.out HB4.out N4.out N7.out XP.out XF.out HG.out HTZ.out ?_
    intro _ _ _ _ G8 V5 ⟨qa, qc, ga, gc, GA, GC, S, T, n8, po, fo, hST, hS, hT, hG8, hb5⟩
    have hw5 := hb5.size
    have PO := Lib.hid po
    have FO := Lib.hid fo
    have HST := Lib.hid hST
    have HSS := Lib.hid hS
    have HTT := Lib.hid hT
    have XP5 := Lib.hid (XP.out.below hb5)
    have XF5 := Lib.hid (XF.out.below hb5)
    have HP5 := Lib.hid (HP4.out.below hb5)
    have HF5 := Lib.hid (HF4.out.below hb5)
    have N5 := Lib.hid (N4.out.below hb5)
    have N65 := Lib.hid (N64.out.below hb5)
    have N75 := Lib.hid (N7.out.below hb5)
    have N8 := Lib.hid n8
    have HB5 := Lib.hid (HB4.out.trans (hb5.mono HB4.out.size))
    clear po fo hST hS hT hb5 n8 HP4 HF4 N4 N64 N7 HB4 XP XF
    obtain ⟨⟨a_0, a_1, a_2, a_3, a_4, a_5, a_6⟩, a_7, a_8, a_9, a_a, a_b, a_c, a_d⟩ := N65.out.fourteen
    obtain ⟨⟨b_0, b_1, b_2, b_3, b_4, b_5, b_6⟩, b_7, b_8, b_9, b_a, b_b, b_c, b_d⟩ := N8.out.fourteen
    have hE := eqRcvOut_same (rd := r.rd) (ed := r.ed) (sz := r.sz) (cp := r.cp) (en := r.en) (kp := r.kp) (ks := r.ks) (kd := r.kd) (ke := r.ke) (c := r.c) (pc := qc) (fc := gc) (pc' := pc') (fc' := fc') (t := r.t) (dn := r.dn) PO.out.in' FO.out.in' HP5.out HF5.out
    unfold rcvOutV at hE
    have HE := Lib.hid hE
    clear hE
    go_wp2_with fail
    (with_reducible refine HE.out.mono ?_); rintro e w6 ⟨rfl, hb6⟩
    clear a_0 a_1 a_2 a_3 a_4 a_5 a_6 a_7 a_8 a_9 a_a a_b a_c a_d b_0 b_1 b_2 b_3 b_4 b_5 b_6 b_7 b_8 b_9 b_a b_b b_c b_d
    have PO6 := Lib.hid (PO.out.below hb6)
    have FO6 := Lib.hid (FO.out.below hb6)
    have XP6 := Lib.hid (XP5.out.below hb6)
    have XF6 := Lib.hid (XF5.out.below hb6)
    have HP6 := Lib.hid (HP5.out.below hb6)
    have HF6 := Lib.hid (HF5.out.below hb6)
    have N_6 := Lib.hid (N5.out.below hb6)
    have N66 := Lib.hid (N65.out.below hb6)
    have N76 := Lib.hid (N75.out.below hb6)
    have N86 := Lib.hid (N8.out.below hb6)
    have HB6 := Lib.hid (HB5.out.trans (hb6.mono HB5.out.size))
    have hw6 := hb6.size
    obtain ⟨c0, c1, c2, c3, c4, c5, c6⟩ := N_6.out.one.seven
    obtain ⟨d0, d1, d2, d3, d4, d5, d6⟩ := N76.out.seven
    clear hb6 PO FO XP5 XF5 HP5 HF5 N5 N65 N75 N8 HB5 HE
    go_wp2_with fail
    refine wp_region_held_drew (S := (fun V => Below w6.heap.size w6 V ∧ V.cell? ⟨w.heap.size, 0, none⟩ = some (.int .i64 rd) ∧ V.cell? ⟨w.heap.size, 1, none⟩ = some (.slice pa ps.length pc) ∧ V.cell? ⟨w.heap.size, 2, none⟩ = some (.int .i64 ed) ∧ V.cell? ⟨w.heap.size, 3, none⟩ = some (.int .i64 sz) ∧ V.cell? ⟨w.heap.size, 4, none⟩ = some (.int .i64 cp) ∧ V.cell? ⟨w.heap.size, 5, none⟩ = some (.int .i64 en) ∧ V.cell? ⟨w.heap.size, 6, none⟩ = some (.slice fa n.length fc) ∧ V.cell? ⟨w4.heap.size, 0, none⟩ = some (.int .i64 rd) ∧ V.cell? ⟨w4.heap.size, 1, none⟩ = some (.slice (some ⟨xp, 0, none⟩) ps.length ps.length) ∧ V.cell? ⟨w4.heap.size, 2, none⟩ = some (.int .i64 ed) ∧ V.cell? ⟨w4.heap.size, 3, none⟩ = some (.int .i64 sz) ∧ V.cell? ⟨w4.heap.size, 4, none⟩ = some (.int .i64 cp) ∧ V.cell? ⟨w4.heap.size, 5, none⟩ = some (.int .i64 en) ∧ V.cell? ⟨w4.heap.size, 6, none⟩ = some (.slice (some ⟨xf, 0, none⟩) n.length n.length))) (by kernel_rfl) (⟨(Below.refl _ _).drew, c0, c1, c2, c3, c4, c5, c6, d0, d1, d2, d3, d4, d5, d6⟩) (fun hHeld => ?_)
    refine wpAnyH_take (i := 0) (oi := _) (v := ?v4x0) rfl (by kernel_rfl) (by kernel_rfl) (by kernel_rfl) (fun _ _ _ h => h) (Or.inl ⟨by kernel_rfl, ?hy4x0⟩) (by with_reducible assumption) ?rest4x0
    case hy4x0 => (intro w hSw; (try dsimp only at hSw); go_simp; (try with_reducible rfl))
    (try simp only [Act.put, List.getElem_toArray, List.getElem_cons_zero, List.setIfInBounds_toArray, List.set_cons_succ, List.set_cons_zero])
    refine wpAnyH_take (i := 1) (oi := _) (v := ?v4x1) rfl (by kernel_rfl) (by kernel_rfl) (by kernel_rfl) (fun _ _ _ h => h) (Or.inl ⟨by kernel_rfl, ?hy4x1⟩) (by with_reducible assumption) ?rest4x1
    case hy4x1 => (intro w hSw; (try dsimp only at hSw); go_simp; (try with_reducible rfl))
    (try simp only [Act.put, List.getElem_toArray, List.getElem_cons_succ, List.getElem_cons_zero, List.setIfInBounds_toArray, List.set_cons_succ, List.set_cons_zero])
    refine wpAnyH_ready (rs := [2]) (by kernel_rfl) (by simp) (AllReadyH.cons (o := _) rfl (fun K hK => ?c4x2) AllReadyH.nil)
    go_simp
    refine (HTO.out _ (HB6.out.trans (hHeld.1.mono HB6.out.size))).mono ?_
    rintro e w7 ⟨gr, gs', A3, C3, rfl, hr1, hr2, hpr, hfr, hgr, hb7⟩
    have hpx := (XP6.out.below hHeld.1).below hb7
    have hfx := (XF6.out.below hHeld.1).below hb7
    have hE := eqRcv_same (rd := rd) (ed := ed) (sz := sz) (cp := cp) (en := en) (pc := ps.length) (fc := n.length) (pc' := ps.length) (fc' := n.length) hpx.in' hfx.in' hpr.in' hfr.in'
    unfold rcvV at hE
    have HE := Lib.hid hE
    clear hE hpx hfx hpr hfr
    go_simp
    refine hK.out _ _ (keep14 hb7 hHeld) (fun hHeld2 => ?_)
    clear hHeld
    have hHeld := hHeld2
    clear hK K hHeld2
    (try simp only [Act.put, List.getElem_toArray, List.getElem_cons_succ, List.getElem_cons_zero, List.setIfInBounds_toArray, List.set_cons_succ, List.set_cons_zero])
    refine wpAnyH_ready (rs := [3]) (by kernel_rfl) (by simp) (AllReadyH.cons (o := _) rfl (fun K hK => ?c4x3) AllReadyH.nil)
    go_simp
    refine HE.out.mono ?_
    rintro e w8 ⟨rfl, hb8⟩
    go_simp
    refine hK.out _ _ (keep14 hb8 hHeld) (fun hHeld2 => ?_)
    clear hHeld
    have hHeld := hHeld2
    clear hK K hHeld2
    (try simp only [Act.put, List.getElem_toArray, List.getElem_cons_succ, List.getElem_cons_zero, List.setIfInBounds_toArray, List.set_cons_succ, List.set_cons_zero])
    refine wpAnyH_take (i := 4) (oi := _) (v := ?v4x4) rfl (by kernel_rfl) (by kernel_rfl) (by kernel_rfl) (fun _ _ _ h => h) (Or.inl ⟨by kernel_rfl, ?hy4x4⟩) (by with_reducible assumption) ?rest4x4
    case hy4x4 => (intro w hSw; (try dsimp only at hSw); go_simp; (try with_reducible rfl))
    (try simp only [Act.put, List.getElem_toArray, List.getElem_cons_succ, List.getElem_cons_zero, List.setIfInBounds_toArray, List.set_cons_succ, List.set_cons_zero])
    refine wpAnyH_done (by kernel_rfl) ?_ _
    have hb8' := hHeld.1
    clear hHeld HE c0 c1 c2 c3 c4 c5 c6 d0 d1 d2 d3 d4 d5 d6
    have PO8 := Lib.hid (PO6.out.below hb8')
    have FO8 := Lib.hid (FO6.out.below hb8')
    have XP8 := Lib.hid (XP6.out.below hb8')
    have XF8 := Lib.hid (XF6.out.below hb8')
    have HP8 := Lib.hid (HP6.out.below hb8')
    have HF8 := Lib.hid (HF6.out.below hb8')
    have N_8 := Lib.hid (N_6.out.below hb8')
    have N68 := Lib.hid (N66.out.below hb8')
    have N78 := Lib.hid (N76.out.below hb8')
    have N88 := Lib.hid (N86.out.below hb8')
    have HB8 := Lib.hid (HB6.out.trans (hb8'.mono HB6.out.size))
    have hw8 := hb8'.size
    have hM := markRcv_calls (rd := rd) (ed := ed) (sz := sz) (cp := cp) (en := en) (pc := ps.length) (fc := n.length) (k := 1) XP8.out XF8.out (fun b e h => h.2.2 e) (fun b e => by omega) HXS.out
    unfold rcvV at hM
    rw [show ((1 : Nat) : Int) = 1 from rfl] at hM
    obtain ⟨mx, hmx⟩ : ∃ m, m = 1 + 2 * ps.length + frsSum n := ⟨_, rfl⟩
    rw [← hmx] at hM
    have hmxp : ¬ ((mx : Int) < 0) := by omega
    have HM := Lib.hid hM
    obtain ⟨d0, d1, d2, d3, d4, d5, d6⟩ := N78.out.seven
    clear hM hmx hb8' PO6 FO6 XP6 XF6 HP6 HF6 N_6 N66 N76 N86 HB6
    go_wp2_with fail
    (with_reducible refine HM.out.mono ?_); rintro e w9 ⟨rfl, -, -, k9⟩
    clear d0 d1 d2 d3 d4 d5 d6
    have hx9 : ∀ b, (b = xp ∨ (V3.heap.size ≤ b ∧ b < w4.heap.size ∧ b ≠ xp)) → V3.heap.size ≤ b ∧ b < w4.heap.size := fun b h => by omega
    have hb9 : Below w.heap.size w w9 := HB8.out.trans (k9.toBelow HB8.out.size (fun b hb hs => by have := hx9 b hs; have := HB3S; omega))
    have PO9 := Lib.hid (PO8.out.kept k9 (fun b hb hs => by have := hx9 b hs; have := HSS.out b hb; omega))
    have FO9 := Lib.hid (FO8.out.kept k9 (fun b hb hs => by have := hx9 b hs; have := HTT.out b hb; omega))
    have HP9 := Lib.hid (HP8.out.blks (fun b hl hlt => k9.block b hlt (fun hs => by have := hx9 b hs; have := HPB.out b hl; omega)))
    have HF9 := Lib.hid (HF8.out.kept k9 (fun b hb hs => by have := hx9 b hs; omega))
    have N_9 := Lib.hid (N_8.out.kept k9 (fun hs => by have := hx9 _ hs; have := HB3S; omega) (fun hs => by have := hx9 _ hs; have := HB3S; omega))
    have N69 := Lib.hid (N68.out.kept (k9.block _ N68.out.lt (fun hs => by have := hx9 _ hs; omega)))
    have N89 := Lib.hid (N88.out.kept (k9.block _ N88.out.lt (fun hs => by have := hx9 _ hs; omega)))
    have HB9 := Lib.hid hb9
    have hw9 := k9.size
    obtain ⟨⟨a_0, a_1, a_2, a_3, a_4, a_5, a_6⟩, a_7, a_8, a_9, a_a, a_b, a_c, a_d⟩ := N69.out.fourteen
    obtain ⟨⟨b_0, b_1, b_2, b_3, b_4, b_5, b_6⟩, b_7, b_8, b_9, b_a, b_b, b_c, b_d⟩ := N89.out.fourteen
    have hE := eqRcvOut_same (rd := r.rd) (ed := r.ed) (sz := r.sz) (cp := r.cp) (en := r.en) (kp := r.kp) (ks := r.ks) (kd := r.kd) (ke := r.ke) (c := r.c) (pc := qc) (fc := gc) (pc' := pc') (fc' := fc') (t := r.t) (dn := r.dn) PO9.out.in' FO9.out.in' HP9.out HF9.out
    unfold rcvOutV at hE
    have HE := Lib.hid hE
    clear hE k9 hb9 PO8 FO8 XP8 XF8 HP8 HF8 N_8 N68 N78 N88 HB8 HM hx9
    go_wp2_with fail
    (with_reducible refine HE.out.mono ?_); rintro e w10 ⟨rfl, hb10⟩
    clear a_0 a_1 a_2 a_3 a_4 a_5 a_6 a_7 a_8 a_9 a_a a_b a_c a_d b_0 b_1 b_2 b_3 b_4 b_5 b_6 b_7 b_8 b_9 b_a b_b b_c b_d
    have POx := Lib.hid (PO9.out.below hb10)
    have FOx := Lib.hid (FO9.out.below hb10)
    have HPx := Lib.hid (HP9.out.below hb10)
    have HFx := Lib.hid (HF9.out.below hb10)
    have N_x := Lib.hid (N_9.out.below hb10)
    have N6x := Lib.hid (N69.out.below hb10)
    have N8x := Lib.hid (N89.out.below hb10)
    have HBx := Lib.hid (HB9.out.trans (hb10.mono HB9.out.size))
    have hw10 := hb10.size
    have hM := markRcvOut_calls (rd := r.rd) (ed := r.ed) (sz := r.sz) (cp := r.cp) (en := r.en) (kp := r.kp) (ks := r.ks) (kd := r.kd) (ke := r.ke) (c := r.c) (pc := qc) (fc := gc) (t := r.t) (dn := r.dn) (k := 1) POx.out FOx.out HST.out (fun b h => by have := HSS.out b h; omega) HSM.out
    unfold rcvOutV at hM
    rw [show ((1 : Nat) : Int) = 1 from rfl] at hM
    obtain ⟨m, hm⟩ : ∃ m, m = 1 + 2 * r.ps.length + frsSum r.n := ⟨_, rfl⟩
    rw [← hm] at hM
    have HMM := Lib.hid hm
    have HM := Lib.hid hM
    obtain ⟨⟨b_0, b_1, b_2, b_3, b_4, b_5, b_6⟩, b_7, b_8, b_9, b_a, b_b, b_c, b_d⟩ := N8x.out.fourteen
    have hmpos : ¬ ((m : Int) < 0) := by omega
    clear hM hm hb10 PO9 FO9 HP9 HF9 N_9 N69 N89 HB9 HE
    go_wp2_with fail
    (with_reducible refine HM.out.mono ?_); rintro e w11 ⟨rfl, po4, fo4, k4⟩
    clear b_0 b_1 b_2 b_3 b_4 b_5 b_6 b_7 b_8 b_9 b_a b_b b_c b_d
    have hnS : ∀ b, (S b ∨ T b) → V4.heap.size ≤ b ∧ b ≠ G8 := fun b h => by rcases h with h | h; (· have := HSS.out b h; omega); (· have := HTT.out b h; omega)
    have hb4 : Below w.heap.size w w11 := HBx.out.trans (k4.toBelow HBx.out.size (fun b hb hs => by have := hnS b hs; have := HB3S; omega))
    have HP4 := Lib.hid (HPx.out.blks (fun b hl hlt => k4.block b hlt (fun hs => by have := hnS b hs; have := HPB.out b hl; omega)))
    have HF4 := Lib.hid (HFx.out.kept k4 (fun b hb hs => by have := hnS b hs; omega))
    have N_4 := Lib.hid (N_x.out.kept k4 (fun hs => by have := hnS _ hs; have := HB3S; omega) (fun hs => by have := hnS _ hs; have := HB3S; omega))
    have N64 := Lib.hid (N6x.out.kept (k4.block _ N6x.out.lt (fun hs => by have := hnS _ hs; omega)))
    have N84 := Lib.hid (N8x.out.kept (k4.block _ N8x.out.lt (fun hs => by have := hnS _ hs; omega)))
    have PO4 := Lib.hid po4
    have FO4 := Lib.hid fo4
    have HB4 := Lib.hid hb4
    have hH := fun (W : World) (hb : Below w11.heap.size w11 W) => heldRcvOut_calls (rd := r.rd) (ed := r.ed) (sz := r.sz) (cp := r.cp) (en := r.en) (kp := r.kp) (ks := r.ks) (kd := r.kd) (ke := r.ke) (c := r.c) (pc := qc) (fc := gc) (t := r.t) (dn := r.dn) (k := 1) (n := r.n) (PO4.out.in'.below hb) (FO4.out.in'.below hb) HSM.out
    unfold rcvOutV at hH
    rw [show ((1 : Nat) : Int) = 1 from rfl, ← HMM.out] at hH
    have HH := Lib.hid hH
    obtain ⟨⟨b_0, b_1, b_2, b_3, b_4, b_5, b_6⟩, b_7, b_8, b_9, b_a, b_b, b_c, b_d⟩ := N84.out.fourteen
    clear hH k4 po4 fo4 hb4 HPx HFx N_x N6x N8x HBx HM POx FOx hnS
    go_wp2_with fail
    (with_reducible refine (HH.out _ (Below.refl _ _)).mono ?_); rintro e w12 ⟨rfl, hb12⟩
    clear b_0 b_1 b_2 b_3 b_4 b_5 b_6 b_7 b_8 b_9 b_a b_b b_c b_d
    have HB12 := Lib.hid (HB4.out.trans (hb12.mono HB4.out.size))
    have B12 := Lib.hid hb12
    have HP12 := Lib.hid (HP4.out.below hb12)
    have HF12 := Lib.hid (HF4.out.below hb12)
    have N_12 := Lib.hid (N_4.out.below hb12)
    have N612 := Lib.hid (N64.out.below hb12)
    have N812 := Lib.hid (N84.out.below hb12)
    clear hb12 HP4 HF4 N_4 N64 N84 HB4
    go_wp2_with fail
    refine takeReg27 HP0.out HF0.out wt HR.out HB12.out N_12.out HG.out HTZ.out ?_
    intro _ _ _ _ _ G12 V6 htk
    obtain ⟨ha, hc, ka, kc, A6, C6, S6, T6, n11, po6, fo6, -, -, -, hG12, hb6'⟩ := htk
    have HB6 := Lib.hid (HB12.out.trans (hb6'.mono HB12.out.size))
    have B46 := Lib.hid (B12.out.trans (hb6'.mono B12.out.size))
    have HP6 := Lib.hid (HP12.out.below hb6')
    have HF6 := Lib.hid (HF12.out.below hb6')
    have N66 := Lib.hid (N612.out.below hb6')
    have N86 := Lib.hid (N812.out.below hb6')
    have N11 := Lib.hid n11
    obtain ⟨⟨a_0, a_1, a_2, a_3, a_4, a_5, a_6⟩, a_7, a_8, a_9, a_a, a_b, a_c, a_d⟩ := N66.out.fourteen
    obtain ⟨⟨c_0, c_1, c_2, c_3, c_4, c_5, c_6⟩, c_7, c_8, c_9, c_a, c_b, c_c, c_d⟩ := N11.out.fourteen
    have hE := eqRcvOut_same (rd := r.rd) (ed := r.ed) (sz := r.sz) (cp := r.cp) (en := r.en) (kp := r.kp) (ks := r.ks) (kd := r.kd) (ke := r.ke) (c := r.c) (pc := hc) (fc := kc) (pc' := pc') (fc' := fc') (t := r.t) (dn := r.dn) po6.in' fo6.in' HP6.out HF6.out
    unfold rcvOutV at hE
    have HE := Lib.hid hE
    clear hE
    go_wp2_with fail
    (with_reducible refine HE.out.mono ?_); rintro e w7 ⟨rfl, hb7⟩
    clear a_0 a_1 a_2 a_3 a_4 a_5 a_6 a_7 a_8 a_9 a_a a_b a_c a_d c_0 c_1 c_2 c_3 c_4 c_5 c_6 c_7 c_8 c_9 c_a c_b c_c c_d
    have HB7 := Lib.hid (HB6.out.trans (hb7.mono HB6.out.size))
    have B47 := Lib.hid (B46.out.trans (hb7.mono B46.out.size))
    have N87 := Lib.hid (N86.out.below hb7)
    obtain ⟨⟨b_0, b_1, b_2, b_3, b_4, b_5, b_6⟩, b_7, b_8, b_9, b_a, b_b, b_c, b_d⟩ := N87.out.fourteen
    clear hb7 HB6 B46 N86 N66 N11 HE HP6 HF6
    go_wp2_with fail
    (with_reducible refine (HH.out _ B47.out).mono ?_); rintro e w8' ⟨rfl, hb8⟩
    have HB8 := Lib.hid (HB7.out.trans (hb8.mono HB7.out.size))
    clear hb8 HB7 HH b_0 b_1 b_2 b_3 b_4 b_5 b_6 b_7 b_8 b_9 b_a b_b b_c b_d
    go_wp2_with fail
    go_ret
    exact ⟨rfl, HB8.out⟩
theorem own : ownKnob Tryz.prog.godebug = none := by kernel_rfl
theorem laidOut : laidOutB Tryz.prog = true := by kernel_rfl
set_option maxRecDepth 100000 in
theorem contract (H : Type) (enc : TypeId × Value → H) (W : World) (base : Nat) (args : Array Value) (ds gs : List (DataW H)) (before : List MemPlace)
    (hval : ∀ (j : Nat) t v, Tryz.f5.params[j]? = some t → args[j]? = some v → Value.okWide Tryz.prog W .any base t v)
    (hW : DataW.Whole enc Tryz.prog Tryz.f5.params.toList Rows.fnExactRcvTakeSpec.vars false W args.toList ds gs before) (hL : laidMetH Tryz.prog Rows.fnExactRcvTakeRow.laid W) :
    Calls Tryz.prog 5 args W fun e W' => ∃ v, e = .returned v ∧ Rows.fnExactRcvTakeSpec.post enc Tryz.prog Tryz.f5 false true false false W args v W' := by
  have hW' := hW
  obtain ⟨p, q, hA0, hV, rfl, hfz, hnd⟩ := hW
  have hA : DataW.TrodAll enc Tryz.prog W 0 (fun _ => true) true Tryz.f5.params.toList args.toList ds p := hA0
  rw [Tryz.params5] at hA hval
  obtain ⟨v0, vs0, d0, ds0, p0, q0, hargs, rfl, rfl, h0, r0⟩ := trodAll_cons hA
  obtain ⟨v1, vs1, d1, ds1, p1, q1, rfl, rfl, rfl, h1, r1⟩ := trodAll_cons r0
  obtain ⟨rfl, rfl, rfl⟩ := trodAll_nil r1
  obtain rfl : args = #[v0, v1] := by cases args; simp_all
  obtain ⟨rfl, rfl⟩ := trodVars_none hV
  have k0 := h0
  have lt0 : ∀ x ∈ p0, x.block < W.heap.size := by obtain ⟨m, hm⟩ := k0; exact DataW.trod_lt m _ _ _ hm
  obtain ⟨rd0, pa0, pl0, pc0, ps0, ed0, sz0, cp0, en0, fa0, fl0, fc0, n0, rfl, w0, wp0, wf0⟩ := open_rcv (hval 0 81 v0 rfl rfl) h0
  have k1 := h1
  have lt1 : ∀ x ∈ p1, x.block < W.heap.size := by obtain ⟨m, hm⟩ := k1; exact DataW.trod_lt m _ _ _ hm
  obtain ⟨x1, s1, y1, t1, e1, rfl, w1p, w1s, w1q, w1t, w1e⟩ := open_seg (hval 1 82 v1 rfl rfl) h1
  clear hA0
  refine (walk rd0 pa0 pl0 pc0 ps0 ed0 sz0 cp0 en0 fa0 fl0 fc0 n0 x1 s1 y1 t1 e1 W w0 wp0 wf0 w1p w1s w1q w1t w1e (etCell_of_laid2 hL) (tzTab_of_laid2 hL)).mono fun e W' ⟨he, bel⟩ => ?_
  subst he
  exact ⟨_, rfl, _, _, _, [], _, [], hW', trodAll_mk1 (shut_bool Tryz.underlying4 _), (trodAll_cons_mk (Below.trod laidOut (by kernel_rfl) (of_decide_eq_true (by kernel_rfl)) k0 bel lt0) (trodAll_cons_mk (Below.trod laidOut (by kernel_rfl) (of_decide_eq_true (by kernel_rfl)) k1 bel lt1) trodAll_mk0)), rfl, bel.frame _, fun h => by cases h⟩

theorem reads (os : Os) {H : Type} (enc : TypeId × Value → H) : ∃ places, DataW.whole enc Tryz.prog ((laidWorld2 os).forCall (fun _ _ => 0) ⟨#[], #[.agg #[.int .i64 0, .slice none 0 0, .int .i64 0, .int .i64 0, .int .i64 0, .int .i64 0, .slice none 0 0], .agg #[.int .i64 0, .int .i64 0, .int .i64 0, .string ByteArray.empty, .int .i64 0]], []⟩).memory Tryz.f5.params.toList Rows.fnExactRcvTakeSpec.vars false (#[.agg #[.int .i64 0, .slice none 0 0, .int .i64 0, .int .i64 0, .int .i64 0, .int .i64 0, .slice none 0 0], .agg #[.int .i64 0, .int .i64 0, .int .i64 0, .string ByteArray.empty, .int .i64 0]] : Array Value).toList 8 = some ([.agg [.lit (.int .i64 0), .nil, .lit (.int .i64 0), .lit (.int .i64 0), .lit (.int .i64 0), .lit (.int .i64 0), .nil], .agg [.lit (.int .i64 0), .lit (.int .i64 0), .lit (.int .i64 0), .lit (.string []), .lit (.int .i64 0)]], [], places) :=
  ⟨[], by kernel_rfl⟩

set_option maxRecDepth 100000 in
theorem lifted (os : Os) (started : os.Started) (H : Type) (enc : TypeId × Value → H) (F : Stop.Interp) :
    ReturnsInHanded {} Tryz.checked os 5 .any ((OpenSpec.ofChange Rows.fnExactRcvTakeSpec).preRow enc Tryz.prog Tryz.f5 Rows.fnExactRcvTakeRow.domain false Rows.fnExactRcvTakeRow.laid) (((OpenSpec.ofChange Rows.fnExactRcvTakeSpec).at F).post enc Tryz.prog Tryz.f5 false true false false) := by
  obtain ⟨places, hx⟩ := reads os enc
  refine returnsInHanded_of_row (C := Tryz.checked) (s := OpenSpec.ofChange Rows.fnExactRcvTakeSpec) own started (by kernel_rfl) Tryz.func5
    (witness_row_at (enc := enc) (C := Tryz.checked) false (laidWorld2 os) #[.agg #[.int .i64 0, .slice none 0 0, .int .i64 0, .int .i64 0, .int .i64 0, .int .i64 0, .slice none 0 0], .agg #[.int .i64 0, .int .i64 0, .int .i64 0, .string ByteArray.empty, .int .i64 0]] rfl (by kernel_rfl) (by kernel_rfl) (by kernel_rfl)
      (OpenSpec.preRow_of_cond 8 hx (by kernel_rfl) (fun k hk => by cases hk) (by kernel_rfl) (laidWorld2_met os _))) ?_
  intro W base args ds gs before hval hW _ _ _ hL _ _
  exact contract H enc W base args ds gs before hval hW hL

theorem said : Rows.FnExactRcvTakeSaid :=
  OpenClaim.holds_of_cond 5 Tryz.f5 rfl rfl rfl rfl rfl rfl rfl ⟨rfl, rfl, rfl, rfl, rfl⟩ rfl rfl rfl rfl rfl (by kernel_rfl) Tryz.func5 (by kernel_rfl)
    (of_decide_eq_true (by kernel_rfl)) (by unfold Func.isWrapper; first | (rw [if_pos (by decide +kernel)]; kernel_rfl) | (rw [if_neg (by decide +kernel)]; exact ⟨rfl, rfl⟩))
    (fun os started H enc _ F => by rw [OpenClaim.pre_eq_preRow]; exact lifted os started H enc F)

theorem plain (f : FuncId) (fn : Func) (hf : Tryz.pinned.checked.prog.funcNamed "loop.example/g00847/laws.FnExactRcvTake" = some f) (hfn : Tryz.pinned.checked.prog.funcs[f]? = some fn) :
    true = Tryz.pinned.checked.prog.looks [] ∧ ∀ (j : Nat) t, fn.params[j]? = some t → Tryz.pinned.checked.prog.wantsStandIn t = false := by
  obtain rfl : f = 5 := Option.some.inj ((show Tryz.prog.funcNamed "loop.example/g00847/laws.FnExactRcvTake" = some 5 by kernel_rfl).symm.trans hf) |>.symm
  obtain rfl : fn = Tryz.f5 := (Option.some.inj (Tryz.func5.symm.trans hfn)).symm
  refine ⟨by kernel_rfl, fun j t ht => ?_⟩
  rw [Tryz.params5] at ht
  have key : ∀ t ∈ ([81, 82] : List TypeId), Tryz.prog.wantsStandIn t = false := List.forall_mem_cons.2 ⟨by kernel_rfl, List.forall_mem_cons.2 ⟨by kernel_rfl, fun _ h => by cases h⟩⟩
  exact key t (by simpa using Array.mem_of_getElem? ht)

/-- THE CARD. -/
theorem proved : Rows.FnExactRcvTakeCardSaid :=
  Claim7.holds_tied_plain_at .later [] _ _ _ _ said (fun _ h => by cases h) (by kernel_rfl) (fun _ h => by cases h) fnExactRcvTake_row_tie rfl ⟨rfl, rfl⟩ (by kernel_rfl) rfl plain (by kernel_rfl)
#print axioms proved
end Go.Proofs.YtdcahilfmhkmiaaGreatDoor.lawRcvTake
