/- The program's RcvRight, RcvHeld, RcvAck. -/
import Derived.Test.YtmgefmjfefmaoaaDoorRcvC
import Derived.Test.YtmgefmjfefmaoaaDoorRcvAck
import Derived.Test.YtmgefmjfefmaoaaDoorFromI
import Derived.Test.YtmgefmjfefmaoaaDoorPackC
namespace Go.Proofs.YtmgefmjfefmaoaaDoor
open Go.RowKit

set_option maxHeartbeats 2000000 in
set_option maxRecDepth 100000 in
theorem readerRight_calls {S : Nat → Prop} {rd ed sz cp en : Int} {pa fa : Option Addr} {pl pc fl fc : Nat} {ps : List Pc} {n : Frs} {w : World} (hp : InPcs w pa pl ps) (hf : InFrs S w fa fl n) :
    Calls Tryd.prog 44 #[readerV rd ed sz cp pa pl pc en fa fl fc] w fun e w' => e = .returned (.bool (decide (rcvOk rd ps ed sz cp en n))) ∧ Below w.heap.size w w' := by
  have hiff : decide (rcvOk rd ps ed sz cp en n) = decide (roomOk rd ed sz cp ∧ (right ps ∧ covOk rd ed ps) ∧ (en = -1 ∨ (lastN rd ps ≤ en ∧ en ≤ 1000000)) ∧ fromsOk n) := decide_eq_decide.2 rcvOk_iff.symm
  rw [hiff]
  obtain ⟨R, hR⟩ : ∃ R, R = decide (roomOk rd ed sz cp ∧ (right ps ∧ covOk rd ed ps) ∧ (en = -1 ∨ (lastN rd ps ≤ en ∧ en ≤ 1000000)) ∧ fromsOk n) := ⟨_, rfl⟩
  rw [← hR]
  have HR := Lib.hid hR
  clear hR hiff
  have H1 := Lib.hid (fun W => roomRight_calls rd ed sz cp W)
  have H2 := Lib.hid (fun (W : World) (hb : Below w.heap.size w W) => piecesRight_calls (rd := rd) (ed := ed) (sz := sz) (cp := cp) (en := en) (pc := pc) (fa := fa) (fl := fl) (fc := fc) (hp.below hb))
  have H3 := Lib.hid (fun (hr : right ps) (W : World) (hb : Below w.heap.size w W) => endRight_calls (rd := rd) (ed := ed) (sz := sz) (cp := cp) (en := en) (pc := pc) (fa := fa) (fl := fl) (fc := fc) (hp.below hb) hr)
  have H4 := Lib.hid (fun (W : World) (hb : Below w.heap.size w W) => fromsRight_calls (cap := fc) (hf.below hb))
  unfold roomV at H1
  unfold readerV at *
  clear hp hf
  by_cases h1 : roomOk rd ed sz cp
  case neg =>
    have HF := Lib.hid (HR.out.trans (decide_eq_false (fun h => h1 h.1)))
    rw [decide_eq_false h1] at H1
    clear h1 H2 H3 H4
    go_enter Tryd.func44, Tryd.ntmps44
    go_wp2_with fail
    have n1 := box_new w [.int .i64 rd, .int .i64 ed, .int .i64 sz, .int .i64 cp, .slice pa pl pc, .int .i64 en, .slice fa fl fc] 54 (by simp)
    have hb0 : Below w.heap.size w (w.alloc (.cells #[.int .i64 rd, .int .i64 ed, .int .i64 sz, .int .i64 cp, .slice pa pl pc, .int .i64 en, .slice fa fl fc] 54)) := (Below.refl _ _).alloc (Nat.le_refl _) _
    generalize w.alloc (.cells #[.int .i64 rd, .int .i64 ed, .int .i64 sz, .int .i64 cp, .slice pa pl pc, .int .i64 en, .slice fa fl fc] 54) = W at *
    obtain ⟨c0, c1, c2, c3, c4, c5, c6⟩ := n1.seven
    have HB0 := Lib.hid hb0
    have N0 := Lib.hid n1
    clear hb0 n1
    (with_reducible refine (H1.out _).mono ?_); rintro e w1 ⟨rfl, hb1⟩
    have HB1 := Lib.hid (HB0.out.trans (hb1.mono HB0.out.size))
    have N1 := Lib.hid (N0.out.below hb1)
    clear hb1 c0 c1 c2 c3 c4 c5 c6 N0
    go_wp2_with fail
    go_ret
    exact ⟨ret_bool (by rw [HF.out]), HB1.out⟩
  rw [decide_eq_true h1] at H1
  by_cases h2 : right ps ∧ covOk rd ed ps
  case neg =>
    have HF := Lib.hid (HR.out.trans (decide_eq_false (fun h => h2 h.2.1)))
    rw [decide_eq_false h2] at H2
    clear h1 h2 H3 H4
    go_enter Tryd.func44, Tryd.ntmps44
    go_wp2_with fail
    have n1 := box_new w [.int .i64 rd, .int .i64 ed, .int .i64 sz, .int .i64 cp, .slice pa pl pc, .int .i64 en, .slice fa fl fc] 54 (by simp)
    have hb0 : Below w.heap.size w (w.alloc (.cells #[.int .i64 rd, .int .i64 ed, .int .i64 sz, .int .i64 cp, .slice pa pl pc, .int .i64 en, .slice fa fl fc] 54)) := (Below.refl _ _).alloc (Nat.le_refl _) _
    generalize w.alloc (.cells #[.int .i64 rd, .int .i64 ed, .int .i64 sz, .int .i64 cp, .slice pa pl pc, .int .i64 en, .slice fa fl fc] 54) = W at *
    obtain ⟨c0, c1, c2, c3, c4, c5, c6⟩ := n1.seven
    have HB0 := Lib.hid hb0
    have N0 := Lib.hid n1
    clear hb0 n1
    (with_reducible refine (H1.out _).mono ?_); rintro e w1 ⟨rfl, hb1⟩
    have HB1 := Lib.hid (HB0.out.trans (hb1.mono HB0.out.size))
    have N1 := Lib.hid (N0.out.below hb1)
    clear hb1 c0 c1 c2 c3 c4 c5 c6 N0
    obtain ⟨c0, c1, c2, c3, c4, c5, c6⟩ := N1.out.seven
    go_wp2_with fail
    (with_reducible refine (H2.out _ HB1.out).mono ?_); rintro e w2 ⟨rfl, hb2⟩
    have HB2 := Lib.hid (HB1.out.trans (hb2.mono HB1.out.size))
    have N2 := Lib.hid (N1.out.below hb2)
    clear hb2 c0 c1 c2 c3 c4 c5 c6 N1
    go_wp2_with fail
    go_ret
    exact ⟨ret_bool (by rw [HF.out]), HB2.out⟩
  rw [decide_eq_true h2] at H2
  replace H3 := Lib.hid (H3.out h2.1)
  by_cases h3 : en = -1 ∨ (lastN rd ps ≤ en ∧ en ≤ 1000000)
  case neg =>
    have HF := Lib.hid (HR.out.trans (decide_eq_false (fun h => h3 h.2.2.1)))
    rw [decide_eq_false h3] at H3
    clear h1 h2 h3 H4
    go_enter Tryd.func44, Tryd.ntmps44
    go_wp2_with fail
    have n1 := box_new w [.int .i64 rd, .int .i64 ed, .int .i64 sz, .int .i64 cp, .slice pa pl pc, .int .i64 en, .slice fa fl fc] 54 (by simp)
    have hb0 : Below w.heap.size w (w.alloc (.cells #[.int .i64 rd, .int .i64 ed, .int .i64 sz, .int .i64 cp, .slice pa pl pc, .int .i64 en, .slice fa fl fc] 54)) := (Below.refl _ _).alloc (Nat.le_refl _) _
    generalize w.alloc (.cells #[.int .i64 rd, .int .i64 ed, .int .i64 sz, .int .i64 cp, .slice pa pl pc, .int .i64 en, .slice fa fl fc] 54) = W at *
    obtain ⟨c0, c1, c2, c3, c4, c5, c6⟩ := n1.seven
    have HB0 := Lib.hid hb0
    have N0 := Lib.hid n1
    clear hb0 n1
    (with_reducible refine (H1.out _).mono ?_); rintro e w1 ⟨rfl, hb1⟩
    have HB1 := Lib.hid (HB0.out.trans (hb1.mono HB0.out.size))
    have N1 := Lib.hid (N0.out.below hb1)
    clear hb1 c0 c1 c2 c3 c4 c5 c6 N0
    obtain ⟨c0, c1, c2, c3, c4, c5, c6⟩ := N1.out.seven
    go_wp2_with fail
    (with_reducible refine (H2.out _ HB1.out).mono ?_); rintro e w2 ⟨rfl, hb2⟩
    have HB2 := Lib.hid (HB1.out.trans (hb2.mono HB1.out.size))
    have N2 := Lib.hid (N1.out.below hb2)
    clear hb2 c0 c1 c2 c3 c4 c5 c6 N1
    obtain ⟨c0, c1, c2, c3, c4, c5, c6⟩ := N2.out.seven
    go_wp2_with fail
    (with_reducible refine (H3.out _ HB2.out).mono ?_); rintro e w3 ⟨rfl, hb3⟩
    have HB3 := Lib.hid (HB2.out.trans (hb3.mono HB2.out.size))
    have N3 := Lib.hid (N2.out.below hb3)
    clear hb3 c0 c1 c2 c3 c4 c5 c6 N2
    go_wp2_with fail
    go_ret
    exact ⟨ret_bool (by rw [HF.out]), HB3.out⟩
  rw [decide_eq_true h3] at H3
  have hF : R = decide (fromsOk n) := HR.out.trans (decide_eq_decide.2 ⟨fun h => h.2.2.2, fun h => ⟨h1, h2, h3, h⟩⟩)
  rw [← hF] at H4
  clear h1 h2 h3 HR hF
  cases R
  · go_enter Tryd.func44, Tryd.ntmps44
    go_wp2_with fail
    have n1 := box_new w [.int .i64 rd, .int .i64 ed, .int .i64 sz, .int .i64 cp, .slice pa pl pc, .int .i64 en, .slice fa fl fc] 54 (by simp)
    have hb0 : Below w.heap.size w (w.alloc (.cells #[.int .i64 rd, .int .i64 ed, .int .i64 sz, .int .i64 cp, .slice pa pl pc, .int .i64 en, .slice fa fl fc] 54)) := (Below.refl _ _).alloc (Nat.le_refl _) _
    generalize w.alloc (.cells #[.int .i64 rd, .int .i64 ed, .int .i64 sz, .int .i64 cp, .slice pa pl pc, .int .i64 en, .slice fa fl fc] 54) = W at *
    obtain ⟨c0, c1, c2, c3, c4, c5, c6⟩ := n1.seven
    have HB0 := Lib.hid hb0
    have N0 := Lib.hid n1
    clear hb0 n1
    (with_reducible refine (H1.out _).mono ?_); rintro e w1 ⟨rfl, hb1⟩
    have HB1 := Lib.hid (HB0.out.trans (hb1.mono HB0.out.size))
    have N1 := Lib.hid (N0.out.below hb1)
    clear hb1 c0 c1 c2 c3 c4 c5 c6 N0
    obtain ⟨c0, c1, c2, c3, c4, c5, c6⟩ := N1.out.seven
    go_wp2_with fail
    (with_reducible refine (H2.out _ HB1.out).mono ?_); rintro e w2 ⟨rfl, hb2⟩
    have HB2 := Lib.hid (HB1.out.trans (hb2.mono HB1.out.size))
    have N2 := Lib.hid (N1.out.below hb2)
    clear hb2 c0 c1 c2 c3 c4 c5 c6 N1
    obtain ⟨c0, c1, c2, c3, c4, c5, c6⟩ := N2.out.seven
    go_wp2_with fail
    (with_reducible refine (H3.out _ HB2.out).mono ?_); rintro e w3 ⟨rfl, hb3⟩
    have HB3 := Lib.hid (HB2.out.trans (hb3.mono HB2.out.size))
    have N3 := Lib.hid (N2.out.below hb3)
    clear hb3 c0 c1 c2 c3 c4 c5 c6 N2
    obtain ⟨c0, c1, c2, c3, c4, c5, c6⟩ := N3.out.seven
    go_wp2_with fail
    (with_reducible refine (H4.out _ HB3.out).mono ?_); rintro e w4 ⟨rfl, hb4⟩
    have HB4 := Lib.hid (HB3.out.trans (hb4.mono HB3.out.size))
    have N4 := Lib.hid (N3.out.below hb4)
    clear hb4 c0 c1 c2 c3 c4 c5 c6 N3
    go_wp2_with fail
    go_ret
    exact ⟨rfl, HB4.out⟩
  · go_enter Tryd.func44, Tryd.ntmps44
    go_wp2_with fail
    have n1 := box_new w [.int .i64 rd, .int .i64 ed, .int .i64 sz, .int .i64 cp, .slice pa pl pc, .int .i64 en, .slice fa fl fc] 54 (by simp)
    have hb0 : Below w.heap.size w (w.alloc (.cells #[.int .i64 rd, .int .i64 ed, .int .i64 sz, .int .i64 cp, .slice pa pl pc, .int .i64 en, .slice fa fl fc] 54)) := (Below.refl _ _).alloc (Nat.le_refl _) _
    generalize w.alloc (.cells #[.int .i64 rd, .int .i64 ed, .int .i64 sz, .int .i64 cp, .slice pa pl pc, .int .i64 en, .slice fa fl fc] 54) = W at *
    obtain ⟨c0, c1, c2, c3, c4, c5, c6⟩ := n1.seven
    have HB0 := Lib.hid hb0
    have N0 := Lib.hid n1
    clear hb0 n1
    (with_reducible refine (H1.out _).mono ?_); rintro e w1 ⟨rfl, hb1⟩
    have HB1 := Lib.hid (HB0.out.trans (hb1.mono HB0.out.size))
    have N1 := Lib.hid (N0.out.below hb1)
    clear hb1 c0 c1 c2 c3 c4 c5 c6 N0
    obtain ⟨c0, c1, c2, c3, c4, c5, c6⟩ := N1.out.seven
    go_wp2_with fail
    (with_reducible refine (H2.out _ HB1.out).mono ?_); rintro e w2 ⟨rfl, hb2⟩
    have HB2 := Lib.hid (HB1.out.trans (hb2.mono HB1.out.size))
    have N2 := Lib.hid (N1.out.below hb2)
    clear hb2 c0 c1 c2 c3 c4 c5 c6 N1
    obtain ⟨c0, c1, c2, c3, c4, c5, c6⟩ := N2.out.seven
    go_wp2_with fail
    (with_reducible refine (H3.out _ HB2.out).mono ?_); rintro e w3 ⟨rfl, hb3⟩
    have HB3 := Lib.hid (HB2.out.trans (hb3.mono HB2.out.size))
    have N3 := Lib.hid (N2.out.below hb3)
    clear hb3 c0 c1 c2 c3 c4 c5 c6 N2
    obtain ⟨c0, c1, c2, c3, c4, c5, c6⟩ := N3.out.seven
    go_wp2_with fail
    (with_reducible refine (H4.out _ HB3.out).mono ?_); rintro e w4 ⟨rfl, hb4⟩
    have HB4 := Lib.hid (HB3.out.trans (hb4.mono HB3.out.size))
    have N4 := Lib.hid (N3.out.below hb4)
    clear hb4 c0 c1 c2 c3 c4 c5 c6 N3
    go_wp2_with fail
    go_ret
    exact ⟨rfl, HB4.out⟩

theorem readerOf_calls (rd : Int) (pa : Option Addr) (pl pc : Nat) (ed sz cp en : Int) (fa : Option Addr) (fl fc : Nat) (w : World) :
    Calls Tryd.prog 43 #[rcvV rd pa pl pc ed sz cp en fa fl fc] w fun e w' => e = .returned (readerV rd ed sz cp pa pl pc en fa fl fc) ∧ Below w.heap.size w w' := by
  unfold rcvV readerV
  go_enter Tryd.func43, Tryd.ntmps43
  go_wp2_with fail
  refine bodyPost_ret (v := .agg #[.int .i64 rd, .int .i64 ed, .int .i64 sz, .int .i64 cp, .slice pa pl pc, .int .i64 en, .slice fa fl fc]) (by simp [results, Tryd.results43, go_sem]) rfl ⟨rfl, ?_⟩
  exact ((Below.refl _ _).alloc (Nat.le_refl _) _).alloc (by simp) _
theorem ready_calls {rd ed sz cp en : Int} {pa fa : Option Addr} {pl pc fl fc : Nat} {ps : List Pc} {w : World} (hp : InPcs w pa pl ps) (hr : right ps) :
    Calls Tryd.prog 47 #[readerV rd ed sz cp pa pl pc en fa fl fc] w fun e w' => e = .returned (gs (fromN ps rd)) ∧ Below w.heap.size w w' := by
  have h1 := fun (W : World) (hb : Below w.heap.size w W) => fromI_calls (cap := pc) (hp.below hb) rd
  rw [show fromR ps rd = fromN ps rd by unfold fromR; rw [if_pos hr]] at h1
  have H1 := Lib.hid h1
  clear h1 hp hr
  unfold readerV
  go_enter Tryd.func47, Tryd.ntmps47
  go_wp2_with fail
  (with_reducible refine (H1.out _ ((Below.refl w.heap.size w).alloc (Nat.le_refl _) _)).mono ?_); rintro e w1 ⟨rfl, hb1⟩
  have HB1 := Lib.hid (((Below.refl w.heap.size w).alloc (Nat.le_refl _) _).trans (hb1.mono (by simp)))
  clear hb1
  go_wp2_with fail
  go_ret
  exact ⟨rfl, HB1.out⟩


end Go.Proofs.YtmgefmjfefmaoaaDoor
