/- The program's RcvRight, RcvHeld, RcvAck. -/
import Derived.Test.YtdcahilfmhkmiaaGreatDoorRcvC
import Derived.Test.YtdcahilfmhkmiaaGreatDoorRcvAck
import Derived.Test.YtdcahilfmhkmiaaGreatDoorFromI
import Derived.Test.YtdcahilfmhkmiaaGreatDoorPackC
namespace Go.Proofs.YtdcahilfmhkmiaaGreatDoor
open Go.RowKit

set_option maxHeartbeats 2000000 in
set_option maxRecDepth 100000 in
theorem readerRight_calls {S : Nat → Prop} {rd ed sz cp en : Int} {pa fa : Option Addr} {pl pc fl fc : Nat} {ps : List Pc} {n : Frs} {w : World} (hp : InPcs w pa pl ps) (hf : InFrs S w fa fl n) :
    Calls Tryz.prog 79 #[readerV rd ed sz cp pa pl pc en fa fl fc] w fun e w' => e = .returned (.bool (decide (rcvOk rd ps ed sz cp en n))) ∧ Below w.heap.size w w' := by
  have hiff : decide (rcvOk rd ps ed sz cp en n) = decide (roomOk rd ed sz cp ∧ (right ps ∧ covOk rd ed ps) ∧ (en = -1 ∨ (lastN rd ps ≤ en ∧ en ≤ 1000000)) ∧ fromsOk n) := decide_eq_decide.2 rcvOk_iff.symm
  rw [hiff]
  obtain ⟨R, hR⟩ : ∃ R, R = decide (roomOk rd ed sz cp ∧ (right ps ∧ covOk rd ed ps) ∧ (en = -1 ∨ (lastN rd ps ≤ en ∧ en ≤ 1000000)) ∧ fromsOk n) := ⟨_, rfl⟩
  rw [← hR]
  have HR := Lib.hid hR
  clear hR hiff
  have H1 := Lib.hid (fun W => roomRight_calls rd ed sz cp W)
  have H2 := Lib.hid (fun (W : World) (hb : Below w.heap.size w W) => piecesRight_calls (rd := rd) (ed := ed) (sz := sz) (cp := cp) (en := en) (pc := pc) (fa := fa) (fl := fl) (fc := fc) (hp.below hb))
  have H3 := Lib.hid (fun (hr : right ps) (W : World) (hb : Below w.heap.size w W) => endRight_calls (rd := rd) (ed := ed) (sz := sz) (cp := cp) (en := en) (pc := pc) (fa := fa) (fl := fl) (fc := fc) (hp.below hb) hr)
  have H4 := Lib.hid (fun (W : World) (hb : Below w.heap.size w W) => fromsRight_calls (cap := fc) (hf.below hb))
  unfold roomV at H1
  unfold readerV at *
  clear hp hf
  by_cases h1 : roomOk rd ed sz cp
  case neg =>
    have HF := Lib.hid (HR.out.trans (decide_eq_false (fun h => h1 h.1)))
    rw [decide_eq_false h1] at H1
    clear h1 H2 H3 H4
    go_enter Tryz.func79, Tryz.ntmps79
    go_wp2_with fail
    have n1 := box_new w [.int .i64 rd, .int .i64 ed, .int .i64 sz, .int .i64 cp, .slice pa pl pc, .int .i64 en, .slice fa fl fc] 101 (by simp)
    have hb0 : Below w.heap.size w (w.alloc (.cells #[.int .i64 rd, .int .i64 ed, .int .i64 sz, .int .i64 cp, .slice pa pl pc, .int .i64 en, .slice fa fl fc] 101)) := (Below.refl _ _).alloc (Nat.le_refl _) _
    generalize w.alloc (.cells #[.int .i64 rd, .int .i64 ed, .int .i64 sz, .int .i64 cp, .slice pa pl pc, .int .i64 en, .slice fa fl fc] 101) = W at *
    obtain ⟨c0, c1, c2, c3, c4, c5, c6⟩ := n1.seven
    have HB0 := Lib.hid hb0
    have N0 := Lib.hid n1
    clear hb0 n1
    (with_reducible refine (H1.out _).mono ?_); rintro e w1 ⟨rfl, hb1⟩
    have HB1 := Lib.hid (HB0.out.trans (hb1.mono HB0.out.size))
    have N1 := Lib.hid (N0.out.below hb1)
    clear hb1 c0 c1 c2 c3 c4 c5 c6 N0
    go_wp2_with fail
    go_ret
    exact ⟨ret_bool (by rw [HF.out]), HB1.out⟩
  rw [decide_eq_true h1] at H1
  by_cases h2 : right ps ∧ covOk rd ed ps
  case neg =>
    have HF := Lib.hid (HR.out.trans (decide_eq_false (fun h => h2 h.2.1)))
    rw [decide_eq_false h2] at H2
    clear h1 h2 H3 H4
    go_enter Tryz.func79, Tryz.ntmps79
    go_wp2_with fail
    have n1 := box_new w [.int .i64 rd, .int .i64 ed, .int .i64 sz, .int .i64 cp, .slice pa pl pc, .int .i64 en, .slice fa fl fc] 101 (by simp)
    have hb0 : Below w.heap.size w (w.alloc (.cells #[.int .i64 rd, .int .i64 ed, .int .i64 sz, .int .i64 cp, .slice pa pl pc, .int .i64 en, .slice fa fl fc] 101)) := (Below.refl _ _).alloc (Nat.le_refl _) _
    generalize w.alloc (.cells #[.int .i64 rd, .int .i64 ed, .int .i64 sz, .int .i64 cp, .slice pa pl pc, .int .i64 en, .slice fa fl fc] 101) = W at *
    obtain ⟨c0, c1, c2, c3, c4, c5, c6⟩ := n1.seven
    have HB0 := Lib.hid hb0
    have N0 := Lib.hid n1
    clear hb0 n1
    (with_reducible refine (H1.out _).mono ?_); rintro e w1 ⟨rfl, hb1⟩
    have HB1 := Lib.hid (HB0.out.trans (hb1.mono HB0.out.size))
    have N1 := Lib.hid (N0.out.below hb1)
    clear hb1 c0 c1 c2 c3 c4 c5 c6 N0
    obtain ⟨c0, c1, c2, c3, c4, c5, c6⟩ := N1.out.seven
    go_wp2_with fail
    (with_reducible refine (H2.out _ HB1.out).mono ?_); rintro e w2 ⟨rfl, hb2⟩
    have HB2 := Lib.hid (HB1.out.trans (hb2.mono HB1.out.size))
    have N2 := Lib.hid (N1.out.below hb2)
    clear hb2 c0 c1 c2 c3 c4 c5 c6 N1
    go_wp2_with fail
    go_ret
    exact ⟨ret_bool (by rw [HF.out]), HB2.out⟩
  rw [decide_eq_true h2] at H2
  replace H3 := Lib.hid (H3.out h2.1)
  by_cases h3 : en = -1 ∨ (lastN rd ps ≤ en ∧ en ≤ 1000000)
  case neg =>
    have HF := Lib.hid (HR.out.trans (decide_eq_false (fun h => h3 h.2.2.1)))
    rw [decide_eq_false h3] at H3
    clear h1 h2 h3 H4
    go_enter Tryz.func79, Tryz.ntmps79
    go_wp2_with fail
    have n1 := box_new w [.int .i64 rd, .int .i64 ed, .int .i64 sz, .int .i64 cp, .slice pa pl pc, .int .i64 en, .slice fa fl fc] 101 (by simp)
    have hb0 : Below w.heap.size w (w.alloc (.cells #[.int .i64 rd, .int .i64 ed, .int .i64 sz, .int .i64 cp, .slice pa pl pc, .int .i64 en, .slice fa fl fc] 101)) := (Below.refl _ _).alloc (Nat.le_refl _) _
    generalize w.alloc (.cells #[.int .i64 rd, .int .i64 ed, .int .i64 sz, .int .i64 cp, .slice pa pl pc, .int .i64 en, .slice fa fl fc] 101) = W at *
    obtain ⟨c0, c1, c2, c3, c4, c5, c6⟩ := n1.seven
    have HB0 := Lib.hid hb0
    have N0 := Lib.hid n1
    clear hb0 n1
    (with_reducible refine (H1.out _).mono ?_); rintro e w1 ⟨rfl, hb1⟩
    have HB1 := Lib.hid (HB0.out.trans (hb1.mono HB0.out.size))
    have N1 := Lib.hid (N0.out.below hb1)
    clear hb1 c0 c1 c2 c3 c4 c5 c6 N0
    obtain ⟨c0, c1, c2, c3, c4, c5, c6⟩ := N1.out.seven
    go_wp2_with fail
    (with_reducible refine (H2.out _ HB1.out).mono ?_); rintro e w2 ⟨rfl, hb2⟩
    have HB2 := Lib.hid (HB1.out.trans (hb2.mono HB1.out.size))
    have N2 := Lib.hid (N1.out.below hb2)
    clear hb2 c0 c1 c2 c3 c4 c5 c6 N1
    obtain ⟨c0, c1, c2, c3, c4, c5, c6⟩ := N2.out.seven
    go_wp2_with fail
    (with_reducible refine (H3.out _ HB2.out).mono ?_); rintro e w3 ⟨rfl, hb3⟩
    have HB3 := Lib.hid (HB2.out.trans (hb3.mono HB2.out.size))
    have N3 := Lib.hid (N2.out.below hb3)
    clear hb3 c0 c1 c2 c3 c4 c5 c6 N2
    go_wp2_with fail
    go_ret
    exact ⟨ret_bool (by rw [HF.out]), HB3.out⟩
  rw [decide_eq_true h3] at H3
  have hF : R = decide (fromsOk n) := HR.out.trans (decide_eq_decide.2 ⟨fun h => h.2.2.2, fun h => ⟨h1, h2, h3, h⟩⟩)
  rw [← hF] at H4
  clear h1 h2 h3 HR hF
  cases R
  · go_enter Tryz.func79, Tryz.ntmps79
    go_wp2_with fail
    have n1 := box_new w [.int .i64 rd, .int .i64 ed, .int .i64 sz, .int .i64 cp, .slice pa pl pc, .int .i64 en, .slice fa fl fc] 101 (by simp)
    have hb0 : Below w.heap.size w (w.alloc (.cells #[.int .i64 rd, .int .i64 ed, .int .i64 sz, .int .i64 cp, .slice pa pl pc, .int .i64 en, .slice fa fl fc] 101)) := (Below.refl _ _).alloc (Nat.le_refl _) _
    generalize w.alloc (.cells #[.int .i64 rd, .int .i64 ed, .int .i64 sz, .int .i64 cp, .slice pa pl pc, .int .i64 en, .slice fa fl fc] 101) = W at *
    obtain ⟨c0, c1, c2, c3, c4, c5, c6⟩ := n1.seven
    have HB0 := Lib.hid hb0
    have N0 := Lib.hid n1
    clear hb0 n1
    (with_reducible refine (H1.out _).mono ?_); rintro e w1 ⟨rfl, hb1⟩
    have HB1 := Lib.hid (HB0.out.trans (hb1.mono HB0.out.size))
    have N1 := Lib.hid (N0.out.below hb1)
    clear hb1 c0 c1 c2 c3 c4 c5 c6 N0
    obtain ⟨c0, c1, c2, c3, c4, c5, c6⟩ := N1.out.seven
    go_wp2_with fail
    (with_reducible refine (H2.out _ HB1.out).mono ?_); rintro e w2 ⟨rfl, hb2⟩
    have HB2 := Lib.hid (HB1.out.trans (hb2.mono HB1.out.size))
    have N2 := Lib.hid (N1.out.below hb2)
    clear hb2 c0 c1 c2 c3 c4 c5 c6 N1
    obtain ⟨c0, c1, c2, c3, c4, c5, c6⟩ := N2.out.seven
    go_wp2_with fail
    (with_reducible refine (H3.out _ HB2.out).mono ?_); rintro e w3 ⟨rfl, hb3⟩
    have HB3 := Lib.hid (HB2.out.trans (hb3.mono HB2.out.size))
    have N3 := Lib.hid (N2.out.below hb3)
    clear hb3 c0 c1 c2 c3 c4 c5 c6 N2
    obtain ⟨c0, c1, c2, c3, c4, c5, c6⟩ := N3.out.seven
    go_wp2_with fail
    (with_reducible refine (H4.out _ HB3.out).mono ?_); rintro e w4 ⟨rfl, hb4⟩
    have HB4 := Lib.hid (HB3.out.trans (hb4.mono HB3.out.size))
    have N4 := Lib.hid (N3.out.below hb4)
    clear hb4 c0 c1 c2 c3 c4 c5 c6 N3
    go_wp2_with fail
    go_ret
    exact ⟨rfl, HB4.out⟩
  · go_enter Tryz.func79, Tryz.ntmps79
    go_wp2_with fail
    have n1 := box_new w [.int .i64 rd, .int .i64 ed, .int .i64 sz, .int .i64 cp, .slice pa pl pc, .int .i64 en, .slice fa fl fc] 101 (by simp)
    have hb0 : Below w.heap.size w (w.alloc (.cells #[.int .i64 rd, .int .i64 ed, .int .i64 sz, .int .i64 cp, .slice pa pl pc, .int .i64 en, .slice fa fl fc] 101)) := (Below.refl _ _).alloc (Nat.le_refl _) _
    generalize w.alloc (.cells #[.int .i64 rd, .int .i64 ed, .int .i64 sz, .int .i64 cp, .slice pa pl pc, .int .i64 en, .slice fa fl fc] 101) = W at *
    obtain ⟨c0, c1, c2, c3, c4, c5, c6⟩ := n1.seven
    have HB0 := Lib.hid hb0
    have N0 := Lib.hid n1
    clear hb0 n1
    (with_reducible refine (H1.out _).mono ?_); rintro e w1 ⟨rfl, hb1⟩
    have HB1 := Lib.hid (HB0.out.trans (hb1.mono HB0.out.size))
    have N1 := Lib.hid (N0.out.below hb1)
    clear hb1 c0 c1 c2 c3 c4 c5 c6 N0
    obtain ⟨c0, c1, c2, c3, c4, c5, c6⟩ := N1.out.seven
    go_wp2_with fail
    (with_reducible refine (H2.out _ HB1.out).mono ?_); rintro e w2 ⟨rfl, hb2⟩
    have HB2 := Lib.hid (HB1.out.trans (hb2.mono HB1.out.size))
    have N2 := Lib.hid (N1.out.below hb2)
    clear hb2 c0 c1 c2 c3 c4 c5 c6 N1
    obtain ⟨c0, c1, c2, c3, c4, c5, c6⟩ := N2.out.seven
    go_wp2_with fail
    (with_reducible refine (H3.out _ HB2.out).mono ?_); rintro e w3 ⟨rfl, hb3⟩
    have HB3 := Lib.hid (HB2.out.trans (hb3.mono HB2.out.size))
    have N3 := Lib.hid (N2.out.below hb3)
    clear hb3 c0 c1 c2 c3 c4 c5 c6 N2
    obtain ⟨c0, c1, c2, c3, c4, c5, c6⟩ := N3.out.seven
    go_wp2_with fail
    (with_reducible refine (H4.out _ HB3.out).mono ?_); rintro e w4 ⟨rfl, hb4⟩
    have HB4 := Lib.hid (HB3.out.trans (hb4.mono HB3.out.size))
    have N4 := Lib.hid (N3.out.below hb4)
    clear hb4 c0 c1 c2 c3 c4 c5 c6 N3
    go_wp2_with fail
    go_ret
    exact ⟨rfl, HB4.out⟩

theorem readerOf_calls (rd : Int) (pa : Option Addr) (pl pc : Nat) (ed sz cp en : Int) (fa : Option Addr) (fl fc : Nat) (w : World) :
    Calls Tryz.prog 78 #[rcvV rd pa pl pc ed sz cp en fa fl fc] w fun e w' => e = .returned (readerV rd ed sz cp pa pl pc en fa fl fc) ∧ Below w.heap.size w w' := by
  unfold rcvV readerV
  go_enter Tryz.func78, Tryz.ntmps78
  go_wp2_with fail
  refine bodyPost_ret (v := .agg #[.int .i64 rd, .int .i64 ed, .int .i64 sz, .int .i64 cp, .slice pa pl pc, .int .i64 en, .slice fa fl fc]) (by simp [results, Tryz.results78, go_sem]) rfl ⟨rfl, ?_⟩
  exact ((Below.refl _ _).alloc (Nat.le_refl _) _).alloc (by simp) _
set_option maxHeartbeats 2000000 in
set_option maxRecDepth 100000 in
theorem rcvRightN_calls {S : Nat → Prop} {rd ed sz cp en : Int} {pa fa : Option Addr} {pl pc fl fc : Nat} {ps : List Pc} {n : Frs} {w : World} (hp : InPcs w pa pl ps) (hf : InFrs S w fa fl n) :
    Calls Tryz.prog 22 #[rcvV rd pa pl pc ed sz cp en fa fl fc] w fun e w' => e = .returned (.bool (decide (rcvOk rd ps ed sz cp en n))) ∧ Below w.heap.size w w' := by
  have H1 := Lib.hid (fun W => readerOf_calls rd pa pl pc ed sz cp en fa fl fc W)
  have H2 := Lib.hid (fun (W : World) (hb : Below w.heap.size w W) => readerRight_calls (rd := rd) (ed := ed) (sz := sz) (cp := cp) (en := en) (pc := pc) (fc := fc) (hp.below hb) (hf.below hb))
  unfold rcvV readerV at *
  clear hp hf
  go_enter Tryz.func22, Tryz.ntmps22
  go_wp2_with fail
  (with_reducible refine (H1.out _).mono ?_); rintro e w1 ⟨rfl, hb1⟩
  have HB1 := Lib.hid (((Below.refl w.heap.size w).alloc (Nat.le_refl _) _).trans (hb1.mono (by simp)))
  clear hb1
  go_wp2_with fail
  (with_reducible refine (H2.out _ HB1.out).mono ?_); rintro e w2 ⟨rfl, hb2⟩
  have HB2 := Lib.hid (HB1.out.trans (hb2.mono HB1.out.size))
  clear hb2
  go_wp2_with fail
  go_ret
  exact ⟨rfl, HB2.out⟩
theorem rcvRightI_calls {S : Nat → Prop} {rd ed sz cp en : Int} {pa fa : Option Addr} {pl pc fl fc : Nat} {ps : List Pc} {n : Frs} {w : World} (_ : I64 rd ∧ I64 ed ∧ I64 sz ∧ I64 cp ∧ I64 en) (hp : InPcs w pa pl ps) (hf : InFrs S w fa fl n) :
    Calls Tryz.prog 22 #[rcvV rd pa pl pc ed sz cp en fa fl fc] w fun e w' => e = .returned (.bool (decide (rcvOk rd ps ed sz cp en n))) ∧ Below w.heap.size w w' := rcvRightN_calls hp hf
theorem hasPath_calls {rd ed sz cp en : Int} {pa fa : Option Addr} {pl pc fl fc : Nat} (k : Int) (w : World) :
    Calls Tryz.prog 80 #[readerV rd ed sz cp pa pl pc en fa fl fc, .int .i64 k] w fun e w' => e = .returned (.bool (decide (0 ≤ k ∧ k < (fl : Int)))) ∧ Below w.heap.size w w' := by
  unfold readerV
  by_cases h1 : 0 ≤ k
  · go_enter Tryz.func80, Tryz.ntmps80
    go_wp2
    go_ret
    exact ⟨ret_bool (by simp; omega), (Below.refl _ _).alloc (Nat.le_refl _) _⟩
  · go_enter Tryz.func80, Tryz.ntmps80
    go_wp2
    go_ret
    exact ⟨ret_bool (by simp; omega), (Below.refl _ _).alloc (Nat.le_refl _) _⟩
theorem ready_calls {rd ed sz cp en : Int} {pa fa : Option Addr} {pl pc fl fc : Nat} {ps : List Pc} {w : World} (hp : InPcs w pa pl ps) (hr : right ps) :
    Calls Tryz.prog 136 #[readerV rd ed sz cp pa pl pc en fa fl fc] w fun e w' => e = .returned (gs (fromN ps rd)) ∧ Below w.heap.size w w' := by
  have h1 := fun (W : World) (hb : Below w.heap.size w W) => fromI_calls (cap := pc) (hp.below hb) rd
  rw [show fromR ps rd = fromN ps rd by unfold fromR; rw [if_pos hr]] at h1
  have H1 := Lib.hid h1
  clear h1 hp hr
  unfold readerV
  go_enter Tryz.func136, Tryz.ntmps136
  go_wp2_with fail
  (with_reducible refine (H1.out _ ((Below.refl w.heap.size w).alloc (Nat.le_refl _) _)).mono ?_); rintro e w1 ⟨rfl, hb1⟩
  have HB1 := Lib.hid (((Below.refl w.heap.size w).alloc (Nat.le_refl _) _).trans (hb1.mono (by simp)))
  clear hb1
  go_wp2_with fail
  go_ret
  exact ⟨rfl, HB1.out⟩

set_option maxHeartbeats 4000000 in
set_option maxRecDepth 100000 in
theorem readerAck_calls {S : Nat → Prop} {rd ed sz cp en : Int} {pa fa : Option Addr} {pl pc fl fc : Nat} {ps : List Pc} {n : Frs} {w : World} (hp : InPcs w pa pl ps) (hf : InFrs S w fa fl n) (hr : right ps) (hrd : 0 ≤ rd ∧ rd ≤ 1000000) (k : Nat) (hk : k < fl) :
    Calls Tryz.prog 67 #[readerV rd ed sz cp pa pl pc en fa fl fc, .int .i64 (k : Int)] w fun e w' => e = .returned (ackN rd ps ed n k) ∧ Below w.heap.size w w' := by
  unfold ackN
  have hl := fromN_len ps rd (inPcs_small hp)
  have hm := hf.most
  obtain ⟨b, o, rfl⟩ := hf.there (by omega)
  obtain ⟨-, x, cx, q0, -⟩ := hf.cell b o rfl k hk
  have hbw : b < w.heap.size := World.block_lt_of_cell? w _ q0
  have HF := Lib.hid (fun (W : World) (hb : Below w.heap.size w W) => ready_calls (rd := rd) (ed := ed) (sz := sz) (cp := cp) (en := en) (pc := pc) (fa := some ⟨b, o, none⟩) (fl := fl) (fc := fc) (hp.below hb) hr)
  unfold readerV at *
  generalize (frAt n k).1 = want at *
  generalize fromN ps rd = t at *
  have h1 : (0 : Int) ≤ (k : Int) := by omega
  have h2 : (k : Int) < (fl : Int) := by omega
  clear hp hf hr
  go_enter Tryz.func67, Tryz.ntmps67
  go_wp2_with fail
  have n3 := box_two w [.int .i64 rd, .int .i64 ed, .int .i64 sz, .int .i64 cp, .slice pa pl pc, .int .i64 en, .slice (some ⟨b, o, none⟩) fl fc] [.int .i64 0, .int .i64 0, .int .i64 0, .int .i64 0] 101 32 (by simp) (by simp)
  dsimp only at n3
  generalize (w.alloc (.cells #[.int .i64 rd, .int .i64 ed, .int .i64 sz, .int .i64 cp, .slice pa pl pc, .int .i64 en, .slice (some ⟨b, o, none⟩) fl fc] 101)).alloc (.cells #[.int .i64 0, .int .i64 0, .int .i64 0, .int .i64 0] 32) = W at *
  obtain ⟨n1, n2, hs, hb0⟩ := n3
  obtain ⟨c0, c1, c2, c3, c4, c5, c6⟩ := n1.seven
  have hq : w.heap.size + 1 ≠ w.heap.size := by omega
  have hwr : IntKind.i64.wrap (rd + (t.length : Int)) = rd + (t.length : Int) := IntWalk.i64_in _ (by omega)
  have hqb : w.heap.size + 1 ≠ b := by omega
  have HB0 := Lib.hid hb0
  have N1 := Lib.hid n1
  have N2 := Lib.hid n2
  clear hb0 n1 n2
  refine wp_region_held_drew (S := (fun V => Below W.heap.size W V ∧ V.cell? ⟨w.heap.size, 0, none⟩ = some (.int .i64 rd) ∧ V.cell? ⟨w.heap.size, 1, none⟩ = some (.int .i64 ed) ∧ V.cell? ⟨w.heap.size, 2, none⟩ = some (.int .i64 sz) ∧ V.cell? ⟨w.heap.size, 3, none⟩ = some (.int .i64 cp) ∧ V.cell? ⟨w.heap.size, 4, none⟩ = some (.slice pa pl pc) ∧ V.cell? ⟨w.heap.size, 5, none⟩ = some (.int .i64 en) ∧ V.cell? ⟨w.heap.size, 6, none⟩ = some (.slice (some ⟨b, o, none⟩) fl fc))) (by kernel_rfl) (⟨(Below.refl _ _).drew, c0, c1, c2, c3, c4, c5, c6⟩) (fun hHeld => ?_)
  refine wpAnyH_take (i := 0) (oi := _) (v := ?v2x0) rfl (by kernel_rfl) (by kernel_rfl) (by kernel_rfl) (fun _ _ _ h => h) (Or.inl ⟨by kernel_rfl, ?hy2x0⟩) (by with_reducible assumption) ?rest2x0
  case hy2x0 => (intro w hSw; (try dsimp only at hSw); go_simp; (try with_reducible rfl))
  (try simp only [Act.put, List.getElem_toArray, List.getElem_cons_zero, List.setIfInBounds_toArray, List.set_cons_succ, List.set_cons_zero])
  refine wpAnyH_take (i := 1) (oi := _) (v := ?v2x1) rfl (by kernel_rfl) (by kernel_rfl) (by kernel_rfl) (fun _ _ _ h => h) (Or.inl ⟨by kernel_rfl, ?hy2x1⟩) (by with_reducible assumption) ?rest2x1
  case hy2x1 => (intro w hSw; (try dsimp only at hSw); go_simp; (try with_reducible rfl))
  (try simp only [Act.put, List.getElem_toArray, List.getElem_cons_succ, List.getElem_cons_zero, List.setIfInBounds_toArray, List.set_cons_succ, List.set_cons_zero])
  refine wpAnyH_take (i := 2) (oi := _) (v := ?v2x2) rfl (by kernel_rfl) (by kernel_rfl) (by kernel_rfl) (fun _ _ _ h => h) (Or.inl ⟨by kernel_rfl, ?hy2x2⟩) (by with_reducible assumption) ?rest2x2
  case hy2x2 => (intro w hSw; (try dsimp only at hSw); go_simp; (try with_reducible rfl))
  (try simp only [Act.put, List.getElem_toArray, List.getElem_cons_succ, List.getElem_cons_zero, List.setIfInBounds_toArray, List.set_cons_succ, List.set_cons_zero])
  refine wpAnyH_take (i := 3) (oi := _) (v := ?v2x3) rfl (by kernel_rfl) (by kernel_rfl) (by kernel_rfl) (fun _ _ _ h => h) (Or.inl ⟨by kernel_rfl, ?hy2x3⟩) (by with_reducible assumption) ?rest2x3
  case hy2x3 => (intro w hSw; (try dsimp only at hSw); go_simp; (try with_reducible rfl))
  (try simp only [Act.put, List.getElem_toArray, List.getElem_cons_succ, List.getElem_cons_zero, List.setIfInBounds_toArray, List.set_cons_succ, List.set_cons_zero])
  refine wpAnyH_ready (rs := [4]) (by kernel_rfl) (by simp) (AllReadyH.cons (o := _) rfl (fun K hK => ?c2x4) AllReadyH.nil)
  go_simp
  refine (HF.out _ (HB0.out.trans (hHeld.1.mono HB0.out.size))).mono ?_
  rintro e wq ⟨rfl, hbq⟩
  go_simp
  refine hK.out _ _ (keepR7 hbq hHeld) (fun hHeld2 => ?_)
  clear hHeld
  have hHeld := hHeld2
  clear hK K hHeld2
  (try simp only [Act.put, List.getElem_toArray, List.getElem_cons_succ, List.getElem_cons_zero, List.setIfInBounds_toArray, List.set_cons_succ, List.set_cons_zero])
  refine wpAnyH_take (i := 5) (oi := _) (v := ?v2x5) rfl (by kernel_rfl) (by kernel_rfl) (by kernel_rfl) (fun _ _ _ h => h) (Or.inl ⟨by kernel_rfl, ?hy2x5⟩) (by with_reducible assumption) ?rest2x5
  case hy2x5 => (intro w hSw; (try dsimp only at hSw); go_simp; (try with_reducible rfl))
  (try simp only [Act.put, List.getElem_toArray, List.getElem_cons_succ, List.getElem_cons_zero, List.setIfInBounds_toArray, List.set_cons_succ, List.set_cons_zero])
  refine wpAnyH_take (i := 6) (oi := _) (v := ?v2x6) rfl (by kernel_rfl) (by kernel_rfl) (by kernel_rfl) (fun _ _ _ h => h) (Or.inl ⟨by kernel_rfl, ?hy2x6⟩) (by with_reducible assumption) ?rest2x6
  case hy2x6 => (intro w hSw; (try dsimp only at hSw); go_simp; (try with_reducible rfl))
  (try simp only [Act.put, List.getElem_toArray, List.getElem_cons_succ, List.getElem_cons_zero, List.setIfInBounds_toArray, List.set_cons_succ, List.set_cons_zero])
  refine wpAnyH_take (i := 7) (oi := _) (v := ?v2x7) rfl (by kernel_rfl) (by kernel_rfl) (by kernel_rfl) (fun _ _ _ h => h) (Or.inl ⟨by kernel_rfl, ?hy2x7⟩) (by with_reducible assumption) ?rest2x7
  case hy2x7 => (intro w hSw; (try dsimp only at hSw); go_simp; (try with_reducible rfl))
  (try simp only [Act.put, List.getElem_toArray, List.getElem_cons_succ, List.getElem_cons_zero, List.setIfInBounds_toArray, List.set_cons_succ, List.set_cons_zero])
  refine wpAnyH_done (by kernel_rfl) ?_ _
  have hbw1 := hHeld.1
  clear hHeld
  go_wp2_with fail
  obtain ⟨c0, c1, c2, c3, c4, c5, c6⟩ := (N1.out.below hbw1).seven
  have HB1 := Lib.hid (HB0.out.trans (hbw1.mono HB0.out.size))
  have q2 := (HB1.out.cell hbw).trans q0
  have HO1 : OutBox _ (w.heap.size + 1) 4 := ⟨_, rfl, N2.out.below hbw1⟩
  clear hbw1 N1 N2 HB0 q0
  refine wp_region_held_drew (S := (fun V => Below w.heap.size w V ∧ OutBox V (w.heap.size + 1) 4 ∧ V.cell? ⟨w.heap.size, 0, none⟩ = some (.int .i64 rd) ∧ V.cell? ⟨w.heap.size, 1, none⟩ = some (.int .i64 ed) ∧ V.cell? ⟨w.heap.size, 4, none⟩ = some (.slice pa pl pc) ∧ V.cell? ⟨w.heap.size, 6, none⟩ = some (.slice (some ⟨b, o, none⟩) fl fc) ∧ V.cell? ⟨b, o + k * 2, none⟩ = some (.int .i64 want))) (by kernel_rfl) (⟨HB1.out.drew, HO1.drew, c0, c1, c4, c6, q2⟩) (fun hHeld => ?_)
  refine wpAnyH_take (i := 0) (oi := _) (v := ?v3x0) rfl (by kernel_rfl) (by kernel_rfl) (by kernel_rfl) (fun _ _ _ h => h) (Or.inl ⟨by kernel_rfl, ?hy3x0⟩) (by with_reducible assumption) ?rest3x0
  case hy3x0 => (intro w hSw; (try dsimp only at hSw); go_simp; (try with_reducible rfl))
  (try simp only [Act.put, List.getElem_toArray, List.getElem_cons_zero, List.setIfInBounds_toArray, List.set_cons_succ, List.set_cons_zero])
  refine wpAnyH_take (i := 1) (oi := _) (v := ?v3x1) rfl (by kernel_rfl) (by kernel_rfl) (by kernel_rfl) (fun _ _ _ h => h) (Or.inl ⟨by kernel_rfl, ?hy3x1⟩) (by with_reducible assumption) ?rest3x1
  case hy3x1 => (intro w hSw; (try dsimp only at hSw); go_simp; (try with_reducible rfl))
  (try simp only [Act.put, List.getElem_toArray, List.getElem_cons_succ, List.getElem_cons_zero, List.setIfInBounds_toArray, List.set_cons_succ, List.set_cons_zero])
  refine wpAnyH_take (i := 2) (oi := _) (v := ?v3x2) rfl (by kernel_rfl) (by kernel_rfl) (by kernel_rfl) (fun _ _ _ h => h) (Or.inl ⟨by kernel_rfl, ?hy3x2⟩) (by with_reducible assumption) ?rest3x2
  case hy3x2 => (intro w hSw; (try dsimp only at hSw); go_simp; (try with_reducible rfl))
  (try simp only [Act.put, List.getElem_toArray, List.getElem_cons_succ, List.getElem_cons_zero, List.setIfInBounds_toArray, List.set_cons_succ, List.set_cons_zero])
  refine wpAnyH_take (i := 3) (oi := _) (v := ?v3x3) rfl (by kernel_rfl) (by kernel_rfl) (by kernel_rfl) (fun _ _ _ h => h) (Or.inl ⟨by kernel_rfl, ?hy3x3⟩) (by with_reducible assumption) ?rest3x3
  case hy3x3 => (intro w hSw; (try dsimp only at hSw); go_simp; (try with_reducible rfl))
  (try simp only [Act.put, List.getElem_toArray, List.getElem_cons_succ, List.getElem_cons_zero, List.setIfInBounds_toArray, List.set_cons_succ, List.set_cons_zero])
  refine wpAnyH_take (i := 4) (oi := _) (v := ?v3x4) rfl (by kernel_rfl) (by kernel_rfl) (by kernel_rfl) (fun _ _ _ h => h) (Or.inl ⟨by kernel_rfl, ?hy3x4⟩) (by with_reducible assumption) ?rest3x4
  case hy3x4 => (intro w hSw; (try dsimp only at hSw); go_simp; (try with_reducible rfl))
  (try simp only [Act.put, List.getElem_toArray, List.getElem_cons_succ, List.getElem_cons_zero, List.setIfInBounds_toArray, List.set_cons_succ, List.set_cons_zero])
  refine wpAnyH_take (i := 5) (oi := _) (v := ?v3x5) rfl (by kernel_rfl) (by kernel_rfl) (by kernel_rfl) (fun _ _ _ h => h) (Or.inl ⟨by kernel_rfl, ?hy3x5⟩) (by with_reducible assumption) ?rest3x5
  case hy3x5 => (intro w hSw; (try dsimp only at hSw); go_simp; (try with_reducible rfl))
  (try simp only [Act.put, List.getElem_toArray, List.getElem_cons_succ, List.getElem_cons_zero, List.setIfInBounds_toArray, List.set_cons_succ, List.set_cons_zero])
  refine wpAnyH_take (i := 6) (oi := _) (v := ?v3x6) rfl (by kernel_rfl) (by kernel_rfl) (by kernel_rfl) (fun _ _ _ h => h) (Or.inl ⟨by kernel_rfl, ?hy3x6⟩) (by with_reducible assumption) ?rest3x6
  case hy3x6 => (intro w hSw; (try dsimp only at hSw); go_simp; (try with_reducible rfl))
  (try simp only [Act.put, List.getElem_toArray, List.getElem_cons_succ, List.getElem_cons_zero, List.setIfInBounds_toArray, List.set_cons_succ, List.set_cons_zero])
  refine wpAnyH_take (i := 7) (oi := _) (v := ?v3x7) rfl (by kernel_rfl) (by kernel_rfl) (by kernel_rfl) (fun _ _ _ h => h) (Or.inl ⟨by kernel_rfl, ?hy3x7⟩) (by with_reducible assumption) ?rest3x7
  case hy3x7 => (intro w hSw; (try dsimp only at hSw); go_simp; (try with_reducible rfl))
  (try simp only [Act.put, List.getElem_toArray, List.getElem_cons_succ, List.getElem_cons_zero, List.setIfInBounds_toArray, List.set_cons_succ, List.set_cons_zero])
  refine wpAnyH_take (i := 8) (oi := _) (v := ?v3x8) rfl (by kernel_rfl) (by kernel_rfl) (by kernel_rfl) (fun _ _ _ h => h) (Or.inl ⟨by kernel_rfl, ?hy3x8⟩) (by with_reducible assumption) ?rest3x8
  case hy3x8 => (intro w hSw; (try dsimp only at hSw); go_simp; (try with_reducible rfl))
  (try simp only [Act.put, List.getElem_toArray, List.getElem_cons_succ, List.getElem_cons_zero, List.setIfInBounds_toArray, List.set_cons_succ, List.set_cons_zero])
  refine wpAnyH_take (i := 9) (oi := _) (v := ?v3x9) rfl (by kernel_rfl) (by kernel_rfl) (by kernel_rfl) (fun _ _ _ h => h) (Or.inl ⟨by kernel_rfl, ?hy3x9⟩) (by with_reducible assumption) ?rest3x9
  case hy3x9 => (intro w hSw; (try dsimp only at hSw); go_simp; (try with_reducible rfl))
  (try simp only [Act.put, List.getElem_toArray, List.getElem_cons_succ, List.getElem_cons_zero, List.setIfInBounds_toArray, List.set_cons_succ, List.set_cons_zero])
  refine wpAnyH_take (i := 10) (oi := _) (v := ?v3x10) rfl (by kernel_rfl) (by kernel_rfl) (by kernel_rfl) (fun _ _ _ h => h) (Or.inl ⟨by kernel_rfl, ?hy3x10⟩) (by with_reducible assumption) ?rest3x10
  case hy3x10 => (intro w hSw; (try dsimp only at hSw); go_simp; (try with_reducible rfl))
  (try simp only [Act.put, List.getElem_toArray, List.getElem_cons_succ, List.getElem_cons_zero, List.setIfInBounds_toArray, List.set_cons_succ, List.set_cons_zero])
  refine wpAnyH_take (i := 11) (oi := _) (v := ?v3x11) rfl (by kernel_rfl) (by kernel_rfl) (by kernel_rfl) (fun _ _ _ h => h) (Or.inl ⟨by kernel_rfl, ?hy3x11⟩) (by with_reducible assumption) ?rest3x11
  case hy3x11 => (intro w hSw; (try dsimp only at hSw); go_simp; (try with_reducible rfl))
  (try simp only [Act.put, List.getElem_toArray, List.getElem_cons_succ, List.getElem_cons_zero, List.setIfInBounds_toArray, List.set_cons_succ, List.set_cons_zero])
  refine wpAnyH_ready (rs := [12]) (by kernel_rfl) (by simp) (AllReadyH.cons (o := _) rfl (fun K hK => ?c3x12) AllReadyH.nil)
  generalize wq.drew = WD at *
  rw [if_pos (by kernel_rfl)]
  obtain ⟨y0, y1, y2, y3, hbx⟩ := hHeld.2.1.four
  obtain ⟨e0, e1, e2, e3, z0, z1, z2, z3⟩ := hbx.four
  have hst := keepA_set (g := w.heap.size + 1) 3 (.int .i64 ed) (Nat.le_succ _) hq hq hq hq hqb (keepA_set (g := w.heap.size + 1) 2 (.int .i64 (rd + (t.length : Int))) (Nat.le_succ _) hq hq hq hq hqb (keepA_set (g := w.heap.size + 1) 1 (.int .i64 want) (Nat.le_succ _) hq hq hq hq hqb (keepA_set (g := w.heap.size + 1) 0 (.int .i64 (k : Int)) (Nat.le_succ _) hq hq hq hq hqb hHeld)))
  have hbx2 := (((hbx.set 0 (.int .i64 (k : Int))).set 1 (.int .i64 want)).set 2 (.int .i64 (rd + (t.length : Int)))).set 3 (.int .i64 ed)
  have HST := Lib.hid hst
  have HBX := Lib.hid hbx2
  clear hst hbx hbx2 hHeld
  go_simp
  refine hK.out _ _ HST.out (fun _ => ?_)
  clear hK K
  (try simp only [Act.put, List.getElem_toArray, List.getElem_cons_succ, List.getElem_cons_zero, List.setIfInBounds_toArray, List.set_cons_succ, List.set_cons_zero])
  refine wpAnyH_done (by kernel_rfl) ?_ _
  have HBF := Lib.hid HST.out.1
  obtain ⟨f0, f1, f2, f3, -⟩ := HBX.out.four
  clear HST HBX e0 e1 e2 e3 z0 z1 z2 z3
  go_wp2_with fail
  refine bodyPost_ret (v := ackV k want (rd + (t.length : Int)) ed) (by simp [results, Tryz.results67, go_sem, *]) rfl ⟨rfl, HBF.out⟩

end Go.Proofs.YtdcahilfmhkmiaaGreatDoor
