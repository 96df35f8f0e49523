/- The model's RcvRight. -/
import Derived.Test.YtdcahilfmhkmiaaGreatDoorFromsOk
import Derived.Deep.RegionHeld3
namespace Go.Proofs.YtdcahilfmhkmiaaGreatDoor
open Go.RowKit

/-- Seven cells, behind a call that makes memory. -/
theorem keepR7 {a w w' : World} {p0 p1 p2 p3 p4 p5 p6 : Addr} {x0 x1 x2 x3 x4 x5 x6 : Value} (hb : Below w.heap.size w w')
    (h : Below a.heap.size a w ∧ w.cell? p0 = some x0 ∧ w.cell? p1 = some x1 ∧ w.cell? p2 = some x2 ∧ w.cell? p3 = some x3 ∧ w.cell? p4 = some x4 ∧ w.cell? p5 = some x5 ∧ w.cell? p6 = some x6) :
    Below a.heap.size a w' ∧ w'.cell? p0 = some x0 ∧ w'.cell? p1 = some x1 ∧ w'.cell? p2 = some x2 ∧ w'.cell? p3 = some x3 ∧ w'.cell? p4 = some x4 ∧ w'.cell? p5 = some x5 ∧ w'.cell? p6 = some x6 :=
  have c {p : Addr} {x : Value} (h : w.cell? p = some x) : w'.cell? p = some x := (hb.cell (World.block_lt_of_cell? w _ h)).trans h
  ⟨h.1.trans (hb.mono h.1.size), c h.2.1, c h.2.2.1, c h.2.2.2.1, c h.2.2.2.2.1, c h.2.2.2.2.2.1, c h.2.2.2.2.2.2.1, c h.2.2.2.2.2.2.2⟩
theorem keepR8 {a w w' : World} {p0 p1 p2 p3 p4 p5 p6 p7 : Addr} {x0 x1 x2 x3 x4 x5 x6 x7 : Value} (hb : Below w.heap.size w w')
    (h : Below a.heap.size a w ∧ w.cell? p0 = some x0 ∧ w.cell? p1 = some x1 ∧ w.cell? p2 = some x2 ∧ w.cell? p3 = some x3 ∧ w.cell? p4 = some x4 ∧ w.cell? p5 = some x5 ∧ w.cell? p6 = some x6 ∧ w.cell? p7 = some x7) :
    Below a.heap.size a w' ∧ w'.cell? p0 = some x0 ∧ w'.cell? p1 = some x1 ∧ w'.cell? p2 = some x2 ∧ w'.cell? p3 = some x3 ∧ w'.cell? p4 = some x4 ∧ w'.cell? p5 = some x5 ∧ w'.cell? p6 = some x6 ∧ w'.cell? p7 = some x7 :=
  have c {p : Addr} {x : Value} (h : w.cell? p = some x) : w'.cell? p = some x := (hb.cell (World.block_lt_of_cell? w _ h)).trans h
  ⟨h.1.trans (hb.mono h.1.size), c h.2.1, c h.2.2.1, c h.2.2.2.1, c h.2.2.2.2.1, c h.2.2.2.2.2.1, c h.2.2.2.2.2.2.1, c h.2.2.2.2.2.2.2.1, c h.2.2.2.2.2.2.2.2⟩
theorem lastN_range {w : World} {rd : Int} {pa : Option Addr} {pl : Nat} {ps : List Pc} (hp : InPcs w pa pl ps) (hr : right ps) (h : 0 ≤ rd ∧ rd ≤ 1000000) : 0 ≤ lastN rd ps ∧ lastN rd ps ≤ 4000000 := by
  unfold lastN
  split
  · omega
  · have h1 := hr.2 (ps.length - 1) (by omega)
    have h2 := hp.fit (ps.length - 1) (by have := hp.long; omega)
    unfold pcEnd
    have := h1.2.1
    have := h1.2.2.1
    omega

set_option maxHeartbeats 4000000 in
set_option maxRecDepth 100000 in
theorem rcvRightS_calls {S : Nat → Prop} {rd ed sz cp en : Int} {pa fa : Option Addr} {pl pc fl fc : Nat} {ps : List Pc} {n : Frs} {w : World} (hp : InPcs w pa pl ps) (hf : InFrs S w fa fl n) :
    Calls Tryz.prog 23 #[rcvV rd pa pl pc ed sz cp en fa fl fc] w fun e w' => e = .returned (.bool (decide (rcvOk rd ps ed sz cp en n))) ∧ Below w.heap.size w w' := by
  have hl := hp.long
  have hm := hp.most
  have hres : ∃ R, R = decide (rcvOk rd ps ed sz cp en n) := ⟨_, rfl⟩
  obtain ⟨R, hR⟩ := hres
  rw [← hR]
  have HC0 := Lib.hid (fun W => timeS_calls rd W)
  have HC1 := Lib.hid (fun W => timeS_calls ed W)
  have HC2 := Lib.hid (fun W => isC_calls cp 1 64 W)
  have HC3 := Lib.hid (fun W => isC_calls sz 1 cp W)
  have HC4 := Lib.hid (fun (W : World) (hb : Below w.heap.size w W) => rightS_calls (cap := pc) (hp.below hb))
  have HC5 := Lib.hid (fun W => isC_calls ed rd (rd + sz) W)
  by_cases g0 : 0 ≤ rd ∧ rd ≤ 1000000
  case neg =>
    have HR := Lib.hid (show R = false by rw [hR]; exact decide_eq_false (fun h => g0 h.1))
    have HF0 := Lib.hid (by have h := HC0.out; simp only [decide_eq_false g0] at h; exact h)
    clear HC0 HC1 HC2 HC3 HC4 HC5 hR hp hf g0
    unfold rcvV
    go_enter Tryz.func23, Tryz.ntmps23
    go_wp2_with fail
    have n1 := box_new w [.int .i64 rd, .slice pa pl pc, .int .i64 ed, .int .i64 sz, .int .i64 cp, .int .i64 en, .slice fa fl fc] 26 (by simp)
    have hb0 : Below w.heap.size w (w.alloc (.cells #[.int .i64 rd, .slice pa pl pc, .int .i64 ed, .int .i64 sz, .int .i64 cp, .int .i64 en, .slice fa fl fc] 26)) := (Below.refl _ _).alloc (Nat.le_refl _) _
    generalize w.alloc (.cells #[.int .i64 rd, .slice pa pl pc, .int .i64 ed, .int .i64 sz, .int .i64 cp, .int .i64 en, .slice fa fl fc] 26) = W at *
    obtain ⟨c0, c1, c2, c3, c4, c5, c6⟩ := n1.seven
    have HB0 := Lib.hid hb0
    clear hb0
    (with_reducible refine (HF0.out _).mono ?_); rintro e w10 ⟨rfl, rfl⟩
    go_wp2_with fail
    go_ret
    exact ⟨ret_bool (by rw [HR.out]), HB0.out⟩
  by_cases g1 : 0 ≤ ed ∧ ed ≤ 1000000
  case neg =>
    have HR := Lib.hid (show R = false by rw [hR]; exact decide_eq_false (fun h => g1 h.2.1))
    have HF1 := Lib.hid (by have h := HC1.out; simp only [decide_eq_false g1] at h; exact h)
    have HT0 := Lib.hid (by have h := HC0.out; simp only [decide_eq_true g0] at h; exact h)
    clear HC0 HC1 HC2 HC3 HC4 HC5 hR hp hf g1
    unfold rcvV
    go_enter Tryz.func23, Tryz.ntmps23
    go_wp2_with fail
    have n1 := box_new w [.int .i64 rd, .slice pa pl pc, .int .i64 ed, .int .i64 sz, .int .i64 cp, .int .i64 en, .slice fa fl fc] 26 (by simp)
    have hb0 : Below w.heap.size w (w.alloc (.cells #[.int .i64 rd, .slice pa pl pc, .int .i64 ed, .int .i64 sz, .int .i64 cp, .int .i64 en, .slice fa fl fc] 26)) := (Below.refl _ _).alloc (Nat.le_refl _) _
    generalize w.alloc (.cells #[.int .i64 rd, .slice pa pl pc, .int .i64 ed, .int .i64 sz, .int .i64 cp, .int .i64 en, .slice fa fl fc] 26) = W at *
    obtain ⟨c0, c1, c2, c3, c4, c5, c6⟩ := n1.seven
    have HB0 := Lib.hid hb0
    clear hb0
    (with_reducible refine (HT0.out _).mono ?_); rintro e w10 ⟨rfl, rfl⟩
    go_wp2_with fail
    (with_reducible refine (HF1.out _).mono ?_); rintro e w11 ⟨rfl, rfl⟩
    go_wp2_with fail
    go_ret
    exact ⟨ret_bool (by rw [HR.out]), HB0.out⟩
  by_cases g2 : 1 ≤ cp ∧ cp ≤ 64
  case neg =>
    have HR := Lib.hid (show R = false by rw [hR]; exact decide_eq_false (fun h => g2 h.2.2.1))
    have HF2 := Lib.hid (by have h := HC2.out; simp only [decide_eq_false g2] at h; exact h)
    have HT0 := Lib.hid (by have h := HC0.out; simp only [decide_eq_true g0] at h; exact h)
    have HT1 := Lib.hid (by have h := HC1.out; simp only [decide_eq_true g1] at h; exact h)
    clear HC0 HC1 HC2 HC3 HC4 HC5 hR hp hf g2
    unfold rcvV
    go_enter Tryz.func23, Tryz.ntmps23
    go_wp2_with fail
    have n1 := box_new w [.int .i64 rd, .slice pa pl pc, .int .i64 ed, .int .i64 sz, .int .i64 cp, .int .i64 en, .slice fa fl fc] 26 (by simp)
    have hb0 : Below w.heap.size w (w.alloc (.cells #[.int .i64 rd, .slice pa pl pc, .int .i64 ed, .int .i64 sz, .int .i64 cp, .int .i64 en, .slice fa fl fc] 26)) := (Below.refl _ _).alloc (Nat.le_refl _) _
    generalize w.alloc (.cells #[.int .i64 rd, .slice pa pl pc, .int .i64 ed, .int .i64 sz, .int .i64 cp, .int .i64 en, .slice fa fl fc] 26) = W at *
    obtain ⟨c0, c1, c2, c3, c4, c5, c6⟩ := n1.seven
    have HB0 := Lib.hid hb0
    clear hb0
    (with_reducible refine (HT0.out _).mono ?_); rintro e w10 ⟨rfl, rfl⟩
    go_wp2_with fail
    (with_reducible refine (HT1.out _).mono ?_); rintro e w11 ⟨rfl, rfl⟩
    go_wp2_with fail
    (with_reducible refine (HF2.out _).mono ?_); rintro e w12 ⟨rfl, rfl⟩
    go_wp2_with fail
    go_ret
    exact ⟨ret_bool (by rw [HR.out]), HB0.out⟩
  by_cases g3 : 1 ≤ sz ∧ sz ≤ cp
  case neg =>
    have HR := Lib.hid (show R = false by rw [hR]; exact decide_eq_false (fun h => g3 h.2.2.2.1))
    have HF3 := Lib.hid (by have h := HC3.out; simp only [decide_eq_false g3] at h; exact h)
    have HT0 := Lib.hid (by have h := HC0.out; simp only [decide_eq_true g0] at h; exact h)
    have HT1 := Lib.hid (by have h := HC1.out; simp only [decide_eq_true g1] at h; exact h)
    have HT2 := Lib.hid (by have h := HC2.out; simp only [decide_eq_true g2] at h; exact h)
    clear HC0 HC1 HC2 HC3 HC4 HC5 hR hp hf g3
    unfold rcvV
    go_enter Tryz.func23, Tryz.ntmps23
    go_wp2_with fail
    have n1 := box_new w [.int .i64 rd, .slice pa pl pc, .int .i64 ed, .int .i64 sz, .int .i64 cp, .int .i64 en, .slice fa fl fc] 26 (by simp)
    have hb0 : Below w.heap.size w (w.alloc (.cells #[.int .i64 rd, .slice pa pl pc, .int .i64 ed, .int .i64 sz, .int .i64 cp, .int .i64 en, .slice fa fl fc] 26)) := (Below.refl _ _).alloc (Nat.le_refl _) _
    generalize w.alloc (.cells #[.int .i64 rd, .slice pa pl pc, .int .i64 ed, .int .i64 sz, .int .i64 cp, .int .i64 en, .slice fa fl fc] 26) = W at *
    obtain ⟨c0, c1, c2, c3, c4, c5, c6⟩ := n1.seven
    have HB0 := Lib.hid hb0
    clear hb0
    (with_reducible refine (HT0.out _).mono ?_); rintro e w10 ⟨rfl, rfl⟩
    go_wp2_with fail
    (with_reducible refine (HT1.out _).mono ?_); rintro e w11 ⟨rfl, rfl⟩
    go_wp2_with fail
    (with_reducible refine (HT2.out _).mono ?_); rintro e w12 ⟨rfl, rfl⟩
    go_wp2_with fail
    (with_reducible refine (HF3.out _).mono ?_); rintro e w13 ⟨rfl, rfl⟩
    go_wp2_with fail
    go_ret
    exact ⟨ret_bool (by rw [HR.out]), HB0.out⟩
  by_cases g4 : right ps
  case neg =>
    have HR := Lib.hid (show R = false by rw [hR]; exact decide_eq_false (fun h => g4 h.2.2.2.2.1))
    have HF4 := Lib.hid (by have h := HC4.out; simp only [decide_eq_false g4] at h; exact h)
    have HT0 := Lib.hid (by have h := HC0.out; simp only [decide_eq_true g0] at h; exact h)
    have HT1 := Lib.hid (by have h := HC1.out; simp only [decide_eq_true g1] at h; exact h)
    have HT2 := Lib.hid (by have h := HC2.out; simp only [decide_eq_true g2] at h; exact h)
    have HT3 := Lib.hid (by have h := HC3.out; simp only [decide_eq_true g3] at h; exact h)
    clear HC0 HC1 HC2 HC3 HC4 HC5 hR hp hf g4
    unfold rcvV
    go_enter Tryz.func23, Tryz.ntmps23
    go_wp2_with fail
    have n1 := box_new w [.int .i64 rd, .slice pa pl pc, .int .i64 ed, .int .i64 sz, .int .i64 cp, .int .i64 en, .slice fa fl fc] 26 (by simp)
    have hb0 : Below w.heap.size w (w.alloc (.cells #[.int .i64 rd, .slice pa pl pc, .int .i64 ed, .int .i64 sz, .int .i64 cp, .int .i64 en, .slice fa fl fc] 26)) := (Below.refl _ _).alloc (Nat.le_refl _) _
    generalize w.alloc (.cells #[.int .i64 rd, .slice pa pl pc, .int .i64 ed, .int .i64 sz, .int .i64 cp, .int .i64 en, .slice fa fl fc] 26) = W at *
    obtain ⟨c0, c1, c2, c3, c4, c5, c6⟩ := n1.seven
    have HB0 := Lib.hid hb0
    clear hb0
    (with_reducible refine (HT0.out _).mono ?_); rintro e w10 ⟨rfl, rfl⟩
    go_wp2_with fail
    (with_reducible refine (HT1.out _).mono ?_); rintro e w11 ⟨rfl, rfl⟩
    go_wp2_with fail
    (with_reducible refine (HT2.out _).mono ?_); rintro e w12 ⟨rfl, rfl⟩
    go_wp2_with fail
    (with_reducible refine (HT3.out _).mono ?_); rintro e w13 ⟨rfl, rfl⟩
    go_wp2_with fail
    (with_reducible refine (HF4.out _ HB0.out).mono ?_); rintro e w1 ⟨rfl, hb1⟩
    clear c0 c1 c2 c3 c4 c5 c6
    obtain ⟨c0, c1, c2, c3, c4, c5, c6⟩ := (n1.below hb1).seven
    have HB1 := Lib.hid (HB0.out.trans (hb1.mono HB0.out.size))
    clear hb1 n1
    go_wp2_with fail
    go_ret
    exact ⟨ret_bool (by rw [HR.out]), HB1.out⟩
  by_cases g5 : rd ≤ ed ∧ ed ≤ rd + sz
  case neg =>
    have HR := Lib.hid (show R = false by rw [hR]; exact decide_eq_false (fun h => g5 h.2.2.2.2.2.1))
    have HF5 := Lib.hid (by have h := HC5.out; simp only [decide_eq_false g5] at h; exact h)
    have HT0 := Lib.hid (by have h := HC0.out; simp only [decide_eq_true g0] at h; exact h)
    have HT1 := Lib.hid (by have h := HC1.out; simp only [decide_eq_true g1] at h; exact h)
    have HT2 := Lib.hid (by have h := HC2.out; simp only [decide_eq_true g2] at h; exact h)
    have HT3 := Lib.hid (by have h := HC3.out; simp only [decide_eq_true g3] at h; exact h)
    have HT4 := Lib.hid (by have h := HC4.out; simp only [decide_eq_true g4] at h; exact h)
    clear HC0 HC1 HC2 HC3 HC4 HC5 hR hp hf g5 g4
    unfold rcvV
    go_enter Tryz.func23, Tryz.ntmps23
    go_wp2_with fail
    have n1 := box_new w [.int .i64 rd, .slice pa pl pc, .int .i64 ed, .int .i64 sz, .int .i64 cp, .int .i64 en, .slice fa fl fc] 26 (by simp)
    have hb0 : Below w.heap.size w (w.alloc (.cells #[.int .i64 rd, .slice pa pl pc, .int .i64 ed, .int .i64 sz, .int .i64 cp, .int .i64 en, .slice fa fl fc] 26)) := (Below.refl _ _).alloc (Nat.le_refl _) _
    generalize w.alloc (.cells #[.int .i64 rd, .slice pa pl pc, .int .i64 ed, .int .i64 sz, .int .i64 cp, .int .i64 en, .slice fa fl fc] 26) = W at *
    obtain ⟨c0, c1, c2, c3, c4, c5, c6⟩ := n1.seven
    have HB0 := Lib.hid hb0
    clear hb0
    (with_reducible refine (HT0.out _).mono ?_); rintro e w10 ⟨rfl, rfl⟩
    go_wp2_with fail
    (with_reducible refine (HT1.out _).mono ?_); rintro e w11 ⟨rfl, rfl⟩
    go_wp2_with fail
    (with_reducible refine (HT2.out _).mono ?_); rintro e w12 ⟨rfl, rfl⟩
    go_wp2_with fail
    (with_reducible refine (HT3.out _).mono ?_); rintro e w13 ⟨rfl, rfl⟩
    go_wp2_with fail
    (with_reducible refine (HT4.out _ HB0.out).mono ?_); rintro e w1 ⟨rfl, hb1⟩
    clear c0 c1 c2 c3 c4 c5 c6
    obtain ⟨c0, c1, c2, c3, c4, c5, c6⟩ := (n1.below hb1).seven
    have HB1 := Lib.hid (HB0.out.trans (hb1.mono HB0.out.size))
    clear hb1 n1
    go_wp2_with fail
    (with_reducible refine (HF5.out _).mono ?_); rintro e w15 ⟨rfl, rfl⟩
    go_wp2_with fail
    go_ret
    exact ⟨ret_bool (by rw [HR.out]), HB1.out⟩
  have HT0 := Lib.hid (by have h := HC0.out; simp only [decide_eq_true g0] at h; exact h)
  have HT1 := Lib.hid (by have h := HC1.out; simp only [decide_eq_true g1] at h; exact h)
  have HT2 := Lib.hid (by have h := HC2.out; simp only [decide_eq_true g2] at h; exact h)
  have HT3 := Lib.hid (by have h := HC3.out; simp only [decide_eq_true g3] at h; exact h)
  have HT4 := Lib.hid (by have h := HC4.out; simp only [decide_eq_true g4] at h; exact h)
  have HT5 := Lib.hid (by have h := HC5.out; simp only [decide_eq_true g5] at h; exact h)
  clear HC0 HC1 HC2 HC3 HC4 HC5
  have hlr := lastN_range hp g4 g0
  have HL := Lib.hid (fun (W : World) (hb : Below w.heap.size w W) => lastS_calls (rd := rd) (ed := ed) (sz := sz) (cp := cp) (en := en) (pc := pc) (fa := fa) (fl := fl) (fc := fc) (hp.below hb) g4)
  have HFR := Lib.hid (fun (W : World) (hb : Below w.heap.size w W) => fromsS_calls (cap := fc) (hf.below hb))
  have hR6 : R = decide ((0 < ps.length → rd ≤ (pcAt ps 0).1) ∧ lastN rd ps ≤ ed ∧ (en = -1 ∨ (lastN rd ps ≤ en ∧ en ≤ 1000000)) ∧ fromsOk n) := by
    rw [hR]
    apply decide_eq_decide.2
    exact ⟨fun h => h.2.2.2.2.2.2, fun h => ⟨g0, g1, g2, g3, g4, g5, h⟩⟩
  have HE := Lib.hid (fun W => isC_calls en (lastN rd ps) 1000000 W)
  clear hR hf g4
  generalize lastN rd ps = last at *
  have HR6 := Lib.hid hR6
  clear hR6
  unfold rcvV at HL
  by_cases h7 : 0 < pl ∧ (pcAt ps 0).1 < rd
  case pos =>
    obtain ⟨h70, h71⟩ := h7
    have HR := Lib.hid (show R = false by rw [HR6.out]; exact decide_eq_false (fun h => by have := h.1 (by omega); omega))
    obtain ⟨b, o, rfl⟩ := hp.there h70
    have q0 := (hp.cell b o rfl 0 h70).1
    rw [Nat.zero_mul, Nat.add_zero] at q0
    generalize (pcAt ps 0).1 = at0 at *
    have hd : decide (at0 < rd) = true := by simpa using h71
    have hz : decide (0 < pl) = true := by simpa using h70
    clear HR6 HL HFR HE hp
    unfold rcvV
    go_enter Tryz.func23, Tryz.ntmps23
    go_wp2_with fail
    have n1 := box_new w [.int .i64 rd, .slice (some ⟨b, o, none⟩) pl pc, .int .i64 ed, .int .i64 sz, .int .i64 cp, .int .i64 en, .slice fa fl fc] 26 (by simp)
    have hb0 : Below w.heap.size w (w.alloc (.cells #[.int .i64 rd, .slice (some ⟨b, o, none⟩) pl pc, .int .i64 ed, .int .i64 sz, .int .i64 cp, .int .i64 en, .slice fa fl fc] 26)) := (Below.refl _ _).alloc (Nat.le_refl _) _
    generalize w.alloc (.cells #[.int .i64 rd, .slice (some ⟨b, o, none⟩) pl pc, .int .i64 ed, .int .i64 sz, .int .i64 cp, .int .i64 en, .slice fa fl fc] 26) = W at *
    obtain ⟨c0, c1, c2, c3, c4, c5, c6⟩ := n1.seven
    have HB0 := Lib.hid hb0
    clear hb0
    have q1 := (HB0.out.cell (World.block_lt_of_cell? _ _ q0)).trans q0
    clear q0
    (with_reducible refine (HT0.out _).mono ?_); rintro e w10 ⟨rfl, rfl⟩
    go_wp2_with fail
    (with_reducible refine (HT1.out _).mono ?_); rintro e w11 ⟨rfl, rfl⟩
    go_wp2_with fail
    (with_reducible refine (HT2.out _).mono ?_); rintro e w12 ⟨rfl, rfl⟩
    go_wp2_with fail
    (with_reducible refine (HT3.out _).mono ?_); rintro e w13 ⟨rfl, rfl⟩
    go_wp2_with fail
    (with_reducible refine (HT4.out _ HB0.out).mono ?_); rintro e w1 ⟨rfl, hb1⟩
    clear c0 c1 c2 c3 c4 c5 c6
    obtain ⟨c0, c1, c2, c3, c4, c5, c6⟩ := (n1.below hb1).seven
    have q0 := (hb1.cell (World.block_lt_of_cell? _ _ q1)).trans q1
    have HB1 := Lib.hid (HB0.out.trans (hb1.mono HB0.out.size))
    clear hb1 n1 q1
    go_wp2_with fail
    (with_reducible refine (HT5.out _).mono ?_); rintro e w15 ⟨rfl, rfl⟩
    clear HT0 HT1 HT2 HT3 HT4 HT5
    go_wp2_with fail
    go_quiet (fail)
    go_wp2_with fail
    go_ret
    exact ⟨ret_bool (by rw [HR.out]), lg_drewN HB1.out _⟩

  have h7b : 0 < ps.length → rd ≤ (pcAt ps 0).1 := fun h => by
    have : ¬ (pcAt ps 0).1 < rd := fun h' => h7 ⟨by omega, h'⟩
    omega
  clear h7
  by_cases h0 : 0 < pl
  · obtain ⟨b, o, rfl⟩ := hp.there h0
    have q0 := (hp.cell b o rfl 0 h0).1
    rw [Nat.zero_mul, Nat.add_zero] at q0
    have h70 := h7b (by omega)
    generalize (pcAt ps 0).1 = at0 at *
    have hd : decide (at0 < rd) = false := by simp; omega
    have hz : decide (0 < pl) = true := by simpa using h0
    clear hp
    by_cases h8 : last ≤ ed
    · have hg : decide (ed < last) = false := by simp; omega
      unfold rcvV
      go_enter Tryz.func23, Tryz.ntmps23
      go_wp2_with fail
      have n1 := box_new w [.int .i64 rd, .slice (some ⟨b, o, none⟩) pl pc, .int .i64 ed, .int .i64 sz, .int .i64 cp, .int .i64 en, .slice fa fl fc] 26 (by simp)
      have hb0 : Below w.heap.size w (w.alloc (.cells #[.int .i64 rd, .slice (some ⟨b, o, none⟩) pl pc, .int .i64 ed, .int .i64 sz, .int .i64 cp, .int .i64 en, .slice fa fl fc] 26)) := (Below.refl _ _).alloc (Nat.le_refl _) _
      generalize w.alloc (.cells #[.int .i64 rd, .slice (some ⟨b, o, none⟩) pl pc, .int .i64 ed, .int .i64 sz, .int .i64 cp, .int .i64 en, .slice fa fl fc] 26) = W at *
      obtain ⟨c0, c1, c2, c3, c4, c5, c6⟩ := n1.seven
      have HB0 := Lib.hid hb0
      clear hb0
      have q1 := (HB0.out.cell (World.block_lt_of_cell? _ _ q0)).trans q0
      clear q0
      (with_reducible refine (HT0.out _).mono ?_); rintro e w10 ⟨rfl, rfl⟩
      go_wp2_with fail
      (with_reducible refine (HT1.out _).mono ?_); rintro e w11 ⟨rfl, rfl⟩
      go_wp2_with fail
      (with_reducible refine (HT2.out _).mono ?_); rintro e w12 ⟨rfl, rfl⟩
      go_wp2_with fail
      (with_reducible refine (HT3.out _).mono ?_); rintro e w13 ⟨rfl, rfl⟩
      go_wp2_with fail
      (with_reducible refine (HT4.out _ HB0.out).mono ?_); rintro e w1 ⟨rfl, hb1⟩
      clear c0 c1 c2 c3 c4 c5 c6
      obtain ⟨c0, c1, c2, c3, c4, c5, c6⟩ := (n1.below hb1).seven
      have q0 := (hb1.cell (World.block_lt_of_cell? _ _ q1)).trans q1
      have HB1 := Lib.hid (HB0.out.trans (hb1.mono HB0.out.size))
      clear hb1 n1 q1
      go_wp2_with fail
      (with_reducible refine (HT5.out _).mono ?_); rintro e wv ⟨rfl, rfl⟩
      clear HT0 HT1 HT2 HT3 HT4 HT5
      go_wp2_with fail
      refine wp_region_held_drew (S := (fun V => Below wv.heap.size wv V ∧ V.cell? ⟨w.heap.size, 0, none⟩ = some (.int .i64 rd) ∧ V.cell? ⟨w.heap.size, 1, none⟩ = some (.slice (some ⟨b, o, none⟩) pl pc) ∧ V.cell? ⟨w.heap.size, 2, none⟩ = some (.int .i64 ed) ∧ V.cell? ⟨w.heap.size, 3, none⟩ = some (.int .i64 sz) ∧ V.cell? ⟨w.heap.size, 4, none⟩ = some (.int .i64 cp) ∧ V.cell? ⟨w.heap.size, 5, none⟩ = some (.int .i64 en) ∧ V.cell? ⟨w.heap.size, 6, none⟩ = some (.slice fa fl fc) ∧ V.cell? ⟨b, o, none⟩ = some (.int .i64 at0))) (by kernel_rfl) (⟨(Below.refl _ _).drew, c0, c1, c2, c3, c4, c5, c6, q0⟩) (fun hHeld => ?_)
      refine wpAnyH_take (i := 0) (oi := _) (v := ?v1x0) rfl (by kernel_rfl) (by kernel_rfl) (by kernel_rfl) (fun _ _ _ h => h) (Or.inl ⟨by kernel_rfl, ?hy1x0⟩) (by with_reducible assumption) ?rest1x0
      case hy1x0 => (intro w hSw; (try dsimp only at hSw); go_simp; (try with_reducible rfl))
      (try simp only [Act.put, List.getElem_toArray, List.getElem_cons_zero, List.setIfInBounds_toArray, List.set_cons_succ, List.set_cons_zero])
      refine wpAnyH_take (i := 1) (oi := _) (v := ?v1x1) rfl (by kernel_rfl) (by kernel_rfl) (by kernel_rfl) (fun _ _ _ h => h) (Or.inl ⟨by kernel_rfl, ?hy1x1⟩) (by with_reducible assumption) ?rest1x1
      case hy1x1 => (intro w hSw; (try dsimp only at hSw); go_simp; (try with_reducible rfl))
      (try simp only [Act.put, List.getElem_toArray, List.getElem_cons_succ, List.getElem_cons_zero, List.setIfInBounds_toArray, List.set_cons_succ, List.set_cons_zero])
      refine wpAnyH_take (i := 2) (oi := _) (v := ?v1x2) rfl (by kernel_rfl) (by kernel_rfl) (by kernel_rfl) (fun _ _ _ h => h) (Or.inl ⟨by kernel_rfl, ?hy1x2⟩) (by with_reducible assumption) ?rest1x2
      case hy1x2 => (intro w hSw; (try dsimp only at hSw); go_simp; (try with_reducible rfl))
      (try simp only [Act.put, List.getElem_toArray, List.getElem_cons_succ, List.getElem_cons_zero, List.setIfInBounds_toArray, List.set_cons_succ, List.set_cons_zero])
      refine wpAnyH_take (i := 3) (oi := _) (v := ?v1x3) rfl (by kernel_rfl) (by kernel_rfl) (by kernel_rfl) (fun _ _ _ h => h) (Or.inl ⟨by kernel_rfl, ?hy1x3⟩) (by with_reducible assumption) ?rest1x3
      case hy1x3 => (intro w hSw; (try dsimp only at hSw); go_simp; (try with_reducible rfl))
      (try simp only [Act.put, List.getElem_toArray, List.getElem_cons_succ, List.getElem_cons_zero, List.setIfInBounds_toArray, List.set_cons_succ, List.set_cons_zero])
      refine wpAnyH_take (i := 4) (oi := _) (v := ?v1x4) rfl (by kernel_rfl) (by kernel_rfl) (by kernel_rfl) (fun _ _ _ h => h) (Or.inl ⟨by kernel_rfl, ?hy1x4⟩) (by with_reducible assumption) ?rest1x4
      case hy1x4 => (intro w hSw; (try dsimp only at hSw); go_simp; (try with_reducible rfl))
      (try simp only [Act.put, List.getElem_toArray, List.getElem_cons_succ, List.getElem_cons_zero, List.setIfInBounds_toArray, List.set_cons_succ, List.set_cons_zero])
      refine wpAnyH_take (i := 5) (oi := _) (v := ?v1x5) rfl (by kernel_rfl) (by kernel_rfl) (by kernel_rfl) (fun _ _ _ h => h) (Or.inl ⟨by kernel_rfl, ?hy1x5⟩) (by with_reducible assumption) ?rest1x5
      case hy1x5 => (intro w hSw; (try dsimp only at hSw); go_simp; (try with_reducible rfl))
      (try simp only [Act.put, List.getElem_toArray, List.getElem_cons_succ, List.getElem_cons_zero, List.setIfInBounds_toArray, List.set_cons_succ, List.set_cons_zero])
      refine wpAnyH_take (i := 6) (oi := _) (v := ?v1x6) rfl (by kernel_rfl) (by kernel_rfl) (by kernel_rfl) (fun _ _ _ h => h) (Or.inl ⟨by kernel_rfl, ?hy1x6⟩) (by with_reducible assumption) ?rest1x6
      case hy1x6 => (intro w hSw; (try dsimp only at hSw); go_simp; (try with_reducible rfl))
      (try simp only [Act.put, List.getElem_toArray, List.getElem_cons_succ, List.getElem_cons_zero, List.setIfInBounds_toArray, List.set_cons_succ, List.set_cons_zero])
      refine wpAnyH_take (i := 7) (oi := _) (v := ?v1x7) rfl (by kernel_rfl) (by kernel_rfl) (by kernel_rfl) (fun _ _ _ h => h) (Or.inl ⟨by kernel_rfl, ?hy1x7⟩) (by with_reducible assumption) ?rest1x7
      case hy1x7 => (intro w hSw; (try dsimp only at hSw); go_simp; (try with_reducible rfl))
      (try simp only [Act.put, List.getElem_toArray, List.getElem_cons_succ, List.getElem_cons_zero, List.setIfInBounds_toArray, List.set_cons_succ, List.set_cons_zero])
      refine wpAnyH_take (i := 8) (oi := _) (v := ?v1x8) rfl (by kernel_rfl) (by kernel_rfl) (by kernel_rfl) (fun _ _ _ h => h) (Or.inl ⟨by kernel_rfl, ?hy1x8⟩) (by with_reducible assumption) ?rest1x8
      case hy1x8 => (intro w hSw; (try dsimp only at hSw); go_simp; (try with_reducible rfl))
      (try simp only [Act.put, List.getElem_toArray, List.getElem_cons_succ, List.getElem_cons_zero, List.setIfInBounds_toArray, List.set_cons_succ, List.set_cons_zero])
      refine wpAnyH_take (i := 9) (oi := _) (v := ?v1x9) rfl (by kernel_rfl) (by kernel_rfl) (by kernel_rfl) (fun _ _ _ h => h) (Or.inl ⟨by kernel_rfl, ?hy1x9⟩) (by with_reducible assumption) ?rest1x9
      case hy1x9 => (intro w hSw; (try dsimp only at hSw); go_simp; (try with_reducible rfl))
      (try simp only [Act.put, List.getElem_toArray, List.getElem_cons_succ, List.getElem_cons_zero, List.setIfInBounds_toArray, List.set_cons_succ, List.set_cons_zero])
      refine wpAnyH_take (i := 10) (oi := _) (v := ?v1x10) rfl (by kernel_rfl) (by kernel_rfl) (by kernel_rfl) (fun _ _ _ h => h) (Or.inl ⟨by kernel_rfl, ?hy1x10⟩) (by with_reducible assumption) ?rest1x10
      case hy1x10 => (intro w hSw; (try dsimp only at hSw); go_simp; (try with_reducible rfl))
      (try simp only [Act.put, List.getElem_toArray, List.getElem_cons_succ, List.getElem_cons_zero, List.setIfInBounds_toArray, List.set_cons_succ, List.set_cons_zero])
      refine wpAnyH_take (i := 11) (oi := _) (v := ?v1x11) rfl (by kernel_rfl) (by kernel_rfl) (by kernel_rfl) (fun _ _ _ h => h) (Or.inl ⟨by kernel_rfl, ?hy1x11⟩) (by with_reducible assumption) ?rest1x11
      case hy1x11 => (intro w hSw; (try dsimp only at hSw); go_simp; (try with_reducible rfl))
      (try simp only [Act.put, List.getElem_toArray, List.getElem_cons_succ, List.getElem_cons_zero, List.setIfInBounds_toArray, List.set_cons_succ, List.set_cons_zero])
      refine wpAnyH_take (i := 12) (oi := _) (v := ?v1x12) rfl (by kernel_rfl) (by kernel_rfl) (by kernel_rfl) (fun _ _ _ h => h) (Or.inl ⟨by kernel_rfl, ?hy1x12⟩) (by with_reducible assumption) ?rest1x12
      case hy1x12 => (intro w hSw; (try dsimp only at hSw); go_simp; (try with_reducible rfl))
      (try simp only [Act.put, List.getElem_toArray, List.getElem_cons_succ, List.getElem_cons_zero, List.setIfInBounds_toArray, List.set_cons_succ, List.set_cons_zero])
      refine wpAnyH_take (i := 13) (oi := _) (v := ?v1x13) rfl (by kernel_rfl) (by kernel_rfl) (by kernel_rfl) (fun _ _ _ h => h) (Or.inl ⟨by kernel_rfl, ?hy1x13⟩) (by with_reducible assumption) ?rest1x13
      case hy1x13 => (intro w hSw; (try dsimp only at hSw); go_simp; (try with_reducible rfl))
      (try simp only [Act.put, List.getElem_toArray, List.getElem_cons_succ, List.getElem_cons_zero, List.setIfInBounds_toArray, List.set_cons_succ, List.set_cons_zero])
      refine wpAnyH_take (i := 14) (oi := _) (v := ?v1x14) rfl (by kernel_rfl) (by kernel_rfl) (by kernel_rfl) (fun _ _ _ h => h) (Or.inl ⟨by kernel_rfl, ?hy1x14⟩) (by with_reducible assumption) ?rest1x14
      case hy1x14 => (intro w hSw; (try dsimp only at hSw); go_simp; (try with_reducible rfl))
      (try simp only [Act.put, List.getElem_toArray, List.getElem_cons_succ, List.getElem_cons_zero, List.setIfInBounds_toArray, List.set_cons_succ, List.set_cons_zero])
      refine wpAnyH_take (i := 15) (oi := _) (v := ?v1x15) rfl (by kernel_rfl) (by kernel_rfl) (by kernel_rfl) (fun _ _ _ h => h) (Or.inl ⟨by kernel_rfl, ?hy1x15⟩) (by with_reducible assumption) ?rest1x15
      case hy1x15 => (intro w hSw; (try dsimp only at hSw); go_simp; (try with_reducible rfl))
      (try simp only [Act.put, List.getElem_toArray, List.getElem_cons_succ, List.getElem_cons_zero, List.setIfInBounds_toArray, List.set_cons_succ, List.set_cons_zero])
      refine wpAnyH_take (i := 17) (oi := _) (v := ?v1x17) rfl (by kernel_rfl) (by kernel_rfl) (by kernel_rfl) (fun _ _ _ h => h) (Or.inl ⟨by kernel_rfl, ?hy1x17⟩) (by with_reducible assumption) ?rest1x17
      case hy1x17 => (intro w hSw; (try dsimp only at hSw); go_simp; (try with_reducible rfl))
      (try simp only [Act.put, List.getElem_toArray, List.getElem_cons_succ, List.getElem_cons_zero, List.setIfInBounds_toArray, List.set_cons_succ, List.set_cons_zero])
      refine wpAnyH_take (i := 18) (oi := _) (v := ?v1x18) rfl (by kernel_rfl) (by kernel_rfl) (by kernel_rfl) (fun _ _ _ h => h) (Or.inl ⟨by kernel_rfl, ?hy1x18⟩) (by with_reducible assumption) ?rest1x18
      case hy1x18 => (intro w hSw; (try dsimp only at hSw); go_simp; (try with_reducible rfl))
      (try simp only [Act.put, List.getElem_toArray, List.getElem_cons_succ, List.getElem_cons_zero, List.setIfInBounds_toArray, List.set_cons_succ, List.set_cons_zero])
      refine wpAnyH_ready (rs := [16]) (by kernel_rfl) (by simp) (AllReadyH.cons (o := _) rfl (fun K hK => ?c1x16) AllReadyH.nil)
      go_simp
      refine (HL.out _ (HB1.out.trans (hHeld.1.mono HB1.out.size))).mono ?_
      rintro e wq ⟨rfl, hbq⟩
      go_simp
      refine hK.out _ _ (keepR8 hbq hHeld) (fun hHeld2 => ?_)
      clear hHeld
      have hHeld := hHeld2
      clear hK K hHeld2
      (try simp only [Act.put, List.getElem_toArray, List.getElem_cons_succ, List.getElem_cons_zero, List.setIfInBounds_toArray, List.set_cons_succ, List.set_cons_zero])
      refine wpAnyH_take (i := 19) (oi := _) (v := ?v1x19) rfl (by kernel_rfl) (by kernel_rfl) (by kernel_rfl) (fun _ _ _ h => h) (Or.inl ⟨by kernel_rfl, ?hy1x19⟩) (by with_reducible assumption) ?rest1x19
      case hy1x19 => (intro w hSw; (try dsimp only at hSw); go_simp; (try with_reducible rfl))
      (try simp only [Act.put, List.getElem_toArray, List.getElem_cons_succ, List.getElem_cons_zero, List.setIfInBounds_toArray, List.set_cons_succ, List.set_cons_zero])
      refine wpAnyH_take (i := 20) (oi := _) (v := ?v1x20) rfl (by kernel_rfl) (by kernel_rfl) (by kernel_rfl) (fun _ _ _ h => h) (Or.inl ⟨by kernel_rfl, ?hy1x20⟩) (by with_reducible assumption) ?rest1x20
      case hy1x20 => (intro w hSw; (try dsimp only at hSw); go_simp; (try with_reducible rfl))
      (try simp only [Act.put, List.getElem_toArray, List.getElem_cons_succ, List.getElem_cons_zero, List.setIfInBounds_toArray, List.set_cons_succ, List.set_cons_zero])
      refine wpAnyH_done (by kernel_rfl) ?_ _
      have hsv := hHeld
      clear hHeld
      clear c0 c1 c2 c3 c4 c5 c6 q0
      obtain ⟨hbv, c0, c1, c2, c3, c4, c5, c6, q0⟩ := hsv
      have HBV := Lib.hid (HB1.out.trans (hbv.mono HB1.out.size))
      clear hbv
      rcases (show en = -1 ∨ (¬ en = -1 ∧ (last ≤ en ∧ en ≤ 1000000)) ∨ (¬ en = -1 ∧ ¬ (last ≤ en ∧ en ≤ 1000000)) by omega) with h9 | h9 | h9
      · have he : (en == -1) = true := by simpa using h9
        have HR := Lib.hid (show R = decide (fromsOk n) by rw [HR6.out]; exact decide_eq_decide.2 ⟨fun h => h.2.2.2, fun h => ⟨h7b, by omega, .inl h9, h⟩⟩)
        generalize decide (fromsOk n) = fr at *
        clear HR6 HE h7b
        go_wp2_with fail
        refine wp_region_held_drew (S := (fun V => Below wq.heap.size wq V ∧ V.cell? ⟨w.heap.size, 0, none⟩ = some (.int .i64 rd) ∧ V.cell? ⟨w.heap.size, 1, none⟩ = some (.slice (some ⟨b, o, none⟩) pl pc) ∧ V.cell? ⟨w.heap.size, 2, none⟩ = some (.int .i64 ed) ∧ V.cell? ⟨w.heap.size, 3, none⟩ = some (.int .i64 sz) ∧ V.cell? ⟨w.heap.size, 4, none⟩ = some (.int .i64 cp) ∧ V.cell? ⟨w.heap.size, 5, none⟩ = some (.int .i64 en) ∧ V.cell? ⟨w.heap.size, 6, none⟩ = some (.slice fa fl fc))) (by kernel_rfl) (⟨(Below.refl _ _).drew, c0, c1, c2, c3, c4, c5, c6⟩) (fun hHeld => ?_)
        refine wpAnyH_take (i := 0) (oi := _) (v := ?v2x0) rfl (by kernel_rfl) (by kernel_rfl) (by kernel_rfl) (fun _ _ _ h => h) (Or.inl ⟨by kernel_rfl, ?hy2x0⟩) (by with_reducible assumption) ?rest2x0
        case hy2x0 => (intro w hSw; (try dsimp only at hSw); go_simp; (try with_reducible rfl))
        (try simp only [Act.put, List.getElem_toArray, List.getElem_cons_zero, List.setIfInBounds_toArray, List.set_cons_succ, List.set_cons_zero])
        refine wpAnyH_take (i := 1) (oi := _) (v := ?v2x1) rfl (by kernel_rfl) (by kernel_rfl) (by kernel_rfl) (fun _ _ _ h => h) (Or.inl ⟨by kernel_rfl, ?hy2x1⟩) (by with_reducible assumption) ?rest2x1
        case hy2x1 => (intro w hSw; (try dsimp only at hSw); go_simp; (try with_reducible rfl))
        (try simp only [Act.put, List.getElem_toArray, List.getElem_cons_succ, List.getElem_cons_zero, List.setIfInBounds_toArray, List.set_cons_succ, List.set_cons_zero])
        refine wpAnyH_take (i := 2) (oi := _) (v := ?v2x2) rfl (by kernel_rfl) (by kernel_rfl) (by kernel_rfl) (fun _ _ _ h => h) (Or.inl ⟨by kernel_rfl, ?hy2x2⟩) (by with_reducible assumption) ?rest2x2
        case hy2x2 => (intro w hSw; (try dsimp only at hSw); go_simp; (try with_reducible rfl))
        (try simp only [Act.put, List.getElem_toArray, List.getElem_cons_succ, List.getElem_cons_zero, List.setIfInBounds_toArray, List.set_cons_succ, List.set_cons_zero])
        refine wpAnyH_take (i := 3) (oi := _) (v := ?v2x3) rfl (by kernel_rfl) (by kernel_rfl) (by kernel_rfl) (fun _ _ _ h => h) (Or.inl ⟨by kernel_rfl, ?hy2x3⟩) (by with_reducible assumption) ?rest2x3
        case hy2x3 => (intro w hSw; (try dsimp only at hSw); go_simp; (try with_reducible rfl))
        (try simp only [Act.put, List.getElem_toArray, List.getElem_cons_succ, List.getElem_cons_zero, List.setIfInBounds_toArray, List.set_cons_succ, List.set_cons_zero])
        refine wpAnyH_take (i := 4) (oi := _) (v := undef) rfl (by kernel_rfl) (by kernel_rfl) (by kernel_rfl) (fun _ _ _ h => h) (Or.inr ⟨by kernel_rfl, rfl⟩) (by with_reducible assumption) ?rest2x4
        (try simp only [Act.put, List.getElem_toArray, List.getElem_cons_succ, List.getElem_cons_zero, List.setIfInBounds_toArray, List.set_cons_succ, List.set_cons_zero])
        refine wpAnyH_take (i := 5) (oi := _) (v := undef) rfl (by kernel_rfl) (by kernel_rfl) (by kernel_rfl) (fun _ _ _ h => h) (Or.inr ⟨by kernel_rfl, rfl⟩) (by with_reducible assumption) ?rest2x5
        (try simp only [Act.put, List.getElem_toArray, List.getElem_cons_succ, List.getElem_cons_zero, List.setIfInBounds_toArray, List.set_cons_succ, List.set_cons_zero])
        refine wpAnyH_take (i := 6) (oi := _) (v := undef) rfl (by kernel_rfl) (by kernel_rfl) (by kernel_rfl) (fun _ _ _ h => h) (Or.inr ⟨by kernel_rfl, rfl⟩) (by with_reducible assumption) ?rest2x6
        (try simp only [Act.put, List.getElem_toArray, List.getElem_cons_succ, List.getElem_cons_zero, List.setIfInBounds_toArray, List.set_cons_succ, List.set_cons_zero])
        refine wpAnyH_take (i := 7) (oi := _) (v := undef) rfl (by kernel_rfl) (by kernel_rfl) (by kernel_rfl) (fun _ _ _ h => h) (Or.inr ⟨by kernel_rfl, rfl⟩) (by with_reducible assumption) ?rest2x7
        (try simp only [Act.put, List.getElem_toArray, List.getElem_cons_succ, List.getElem_cons_zero, List.setIfInBounds_toArray, List.set_cons_succ, List.set_cons_zero])
        refine wpAnyH_take (i := 8) (oi := _) (v := undef) rfl (by kernel_rfl) (by kernel_rfl) (by kernel_rfl) (fun _ _ _ h => h) (Or.inr ⟨by kernel_rfl, rfl⟩) (by with_reducible assumption) ?rest2x8
        (try simp only [Act.put, List.getElem_toArray, List.getElem_cons_succ, List.getElem_cons_zero, List.setIfInBounds_toArray, List.set_cons_succ, List.set_cons_zero])
        refine wpAnyH_take (i := 9) (oi := _) (v := ?v2x9) rfl (by kernel_rfl) (by kernel_rfl) (by kernel_rfl) (fun _ _ _ h => h) (Or.inl ⟨by kernel_rfl, ?hy2x9⟩) (by with_reducible assumption) ?rest2x9
        case hy2x9 => (intro w hSw; (try dsimp only at hSw); go_simp; (try with_reducible rfl))
        (try simp only [Act.put, List.getElem_toArray, List.getElem_cons_succ, List.getElem_cons_zero, List.setIfInBounds_toArray, List.set_cons_succ, List.set_cons_zero])
        refine wpAnyH_take (i := 10) (oi := _) (v := ?v2x10) rfl (by kernel_rfl) (by kernel_rfl) (by kernel_rfl) (fun _ _ _ h => h) (Or.inl ⟨by kernel_rfl, ?hy2x10⟩) (by with_reducible assumption) ?rest2x10
        case hy2x10 => (intro w hSw; (try dsimp only at hSw); go_simp; (try with_reducible rfl))
        (try simp only [Act.put, List.getElem_toArray, List.getElem_cons_succ, List.getElem_cons_zero, List.setIfInBounds_toArray, List.set_cons_succ, List.set_cons_zero])
        refine wpAnyH_take (i := 11) (oi := _) (v := ?v2x11) rfl (by kernel_rfl) (by kernel_rfl) (by kernel_rfl) (fun _ _ _ h => h) (Or.inl ⟨by kernel_rfl, ?hy2x11⟩) (by with_reducible assumption) ?rest2x11
        case hy2x11 => (intro w hSw; (try dsimp only at hSw); go_simp; (try with_reducible rfl))
        (try simp only [Act.put, List.getElem_toArray, List.getElem_cons_succ, List.getElem_cons_zero, List.setIfInBounds_toArray, List.set_cons_succ, List.set_cons_zero])
        refine wpAnyH_take (i := 12) (oi := _) (v := ?v2x12) rfl (by kernel_rfl) (by kernel_rfl) (by kernel_rfl) (fun _ _ _ h => h) (Or.inl ⟨by kernel_rfl, ?hy2x12⟩) (by with_reducible assumption) ?rest2x12
        case hy2x12 => (intro w hSw; (try dsimp only at hSw); go_simp; (try with_reducible rfl))
        (try simp only [Act.put, List.getElem_toArray, List.getElem_cons_succ, List.getElem_cons_zero, List.setIfInBounds_toArray, List.set_cons_succ, List.set_cons_zero])
        refine wpAnyH_ready (rs := [13]) (by kernel_rfl) (by simp) (AllReadyH.cons (o := _) rfl (fun K hK => ?c2x13) AllReadyH.nil)
        go_simp
        refine (HFR.out _ (HBV.out.trans (hHeld.1.mono HBV.out.size))).mono ?_
        rintro e wf ⟨rfl, hbf⟩
        go_simp
        refine hK.out _ _ (keepR7 hbf hHeld) (fun hHeld2 => ?_)
        clear hHeld
        have hHeld := hHeld2
        clear hK K hHeld2
        (try simp only [Act.put, List.getElem_toArray, List.getElem_cons_succ, List.getElem_cons_zero, List.setIfInBounds_toArray, List.set_cons_succ, List.set_cons_zero])
        refine wpAnyH_take (i := 14) (oi := _) (v := ?v2x14) rfl (by kernel_rfl) (by kernel_rfl) (by kernel_rfl) (fun _ _ _ h => h) (Or.inl ⟨by kernel_rfl, ?hy2x14⟩) (by with_reducible assumption) ?rest2x14
        case hy2x14 => (intro w hSw; (try dsimp only at hSw); go_simp; (try with_reducible rfl))
        (try simp only [Act.put, List.getElem_toArray, List.getElem_cons_succ, List.getElem_cons_zero, List.setIfInBounds_toArray, List.set_cons_succ, List.set_cons_zero])
        refine wpAnyH_take (i := 15) (oi := _) (v := ?v2x15) rfl (by kernel_rfl) (by kernel_rfl) (by kernel_rfl) (fun _ _ _ h => h) (Or.inl ⟨by kernel_rfl, ?hy2x15⟩) (by with_reducible assumption) ?rest2x15
        case hy2x15 => (intro w hSw; (try dsimp only at hSw); go_simp; (try with_reducible rfl))
        (try simp only [Act.put, List.getElem_toArray, List.getElem_cons_succ, List.getElem_cons_zero, List.setIfInBounds_toArray, List.set_cons_succ, List.set_cons_zero])
        refine wpAnyH_done (by kernel_rfl) ?_ _
        have HBZ := Lib.hid (HBV.out.trans (hHeld.1.mono HBV.out.size))
        clear hHeld
        go_wp2_with fail
        go_ret
        exact ⟨ret_bool (by rw [HR.out]), HBZ.out⟩
      · have he : (en == -1) = false := by simpa using h9.1
        have HR := Lib.hid (show R = decide (fromsOk n) by rw [HR6.out]; exact decide_eq_decide.2 ⟨fun h => h.2.2.2, fun h => ⟨h7b, by omega, .inr h9.2, h⟩⟩)
        have HE2 := Lib.hid (by have h := HE.out; simp only [decide_eq_true h9.2] at h; exact h)
        generalize decide (fromsOk n) = fr at *
        clear HR6 HE h7b
        go_wp2_with fail
        refine wp_region_held_drew (S := (fun V => Below wq.heap.size wq V ∧ V.cell? ⟨w.heap.size, 0, none⟩ = some (.int .i64 rd) ∧ V.cell? ⟨w.heap.size, 1, none⟩ = some (.slice (some ⟨b, o, none⟩) pl pc) ∧ V.cell? ⟨w.heap.size, 2, none⟩ = some (.int .i64 ed) ∧ V.cell? ⟨w.heap.size, 3, none⟩ = some (.int .i64 sz) ∧ V.cell? ⟨w.heap.size, 4, none⟩ = some (.int .i64 cp) ∧ V.cell? ⟨w.heap.size, 5, none⟩ = some (.int .i64 en) ∧ V.cell? ⟨w.heap.size, 6, none⟩ = some (.slice fa fl fc))) (by kernel_rfl) (⟨(Below.refl _ _).drew, c0, c1, c2, c3, c4, c5, c6⟩) (fun hHeld => ?_)
        refine wpAnyH_take (i := 0) (oi := _) (v := ?v3x0) rfl (by kernel_rfl) (by kernel_rfl) (by kernel_rfl) (fun _ _ _ h => h) (Or.inl ⟨by kernel_rfl, ?hy3x0⟩) (by with_reducible assumption) ?rest3x0
        case hy3x0 => (intro w hSw; (try dsimp only at hSw); go_simp; (try with_reducible rfl))
        (try simp only [Act.put, List.getElem_toArray, List.getElem_cons_zero, List.setIfInBounds_toArray, List.set_cons_succ, List.set_cons_zero])
        refine wpAnyH_take (i := 1) (oi := _) (v := ?v3x1) rfl (by kernel_rfl) (by kernel_rfl) (by kernel_rfl) (fun _ _ _ h => h) (Or.inl ⟨by kernel_rfl, ?hy3x1⟩) (by with_reducible assumption) ?rest3x1
        case hy3x1 => (intro w hSw; (try dsimp only at hSw); go_simp; (try with_reducible rfl))
        (try simp only [Act.put, List.getElem_toArray, List.getElem_cons_succ, List.getElem_cons_zero, List.setIfInBounds_toArray, List.set_cons_succ, List.set_cons_zero])
        refine wpAnyH_take (i := 2) (oi := _) (v := ?v3x2) rfl (by kernel_rfl) (by kernel_rfl) (by kernel_rfl) (fun _ _ _ h => h) (Or.inl ⟨by kernel_rfl, ?hy3x2⟩) (by with_reducible assumption) ?rest3x2
        case hy3x2 => (intro w hSw; (try dsimp only at hSw); go_simp; (try with_reducible rfl))
        (try simp only [Act.put, List.getElem_toArray, List.getElem_cons_succ, List.getElem_cons_zero, List.setIfInBounds_toArray, List.set_cons_succ, List.set_cons_zero])
        refine wpAnyH_take (i := 3) (oi := _) (v := ?v3x3) rfl (by kernel_rfl) (by kernel_rfl) (by kernel_rfl) (fun _ _ _ h => h) (Or.inl ⟨by kernel_rfl, ?hy3x3⟩) (by with_reducible assumption) ?rest3x3
        case hy3x3 => (intro w hSw; (try dsimp only at hSw); go_simp; (try with_reducible rfl))
        (try simp only [Act.put, List.getElem_toArray, List.getElem_cons_succ, List.getElem_cons_zero, List.setIfInBounds_toArray, List.set_cons_succ, List.set_cons_zero])
        refine wpAnyH_take (i := 4) (oi := _) (v := ?v3x4) rfl (by kernel_rfl) (by kernel_rfl) (by kernel_rfl) (fun _ _ _ h => h) (Or.inl ⟨by kernel_rfl, ?hy3x4⟩) (by with_reducible assumption) ?rest3x4
        case hy3x4 => (intro w hSw; (try dsimp only at hSw); go_simp; (try with_reducible rfl))
        (try simp only [Act.put, List.getElem_toArray, List.getElem_cons_succ, List.getElem_cons_zero, List.setIfInBounds_toArray, List.set_cons_succ, List.set_cons_zero])
        refine wpAnyH_take (i := 5) (oi := _) (v := ?v3x5) rfl (by kernel_rfl) (by kernel_rfl) (by kernel_rfl) (fun _ _ _ h => h) (Or.inl ⟨by kernel_rfl, ?hy3x5⟩) (by with_reducible assumption) ?rest3x5
        case hy3x5 => (intro w hSw; (try dsimp only at hSw); go_simp; (try with_reducible rfl))
        (try simp only [Act.put, List.getElem_toArray, List.getElem_cons_succ, List.getElem_cons_zero, List.setIfInBounds_toArray, List.set_cons_succ, List.set_cons_zero])
        refine wpAnyH_take (i := 6) (oi := _) (v := ?v3x6) rfl (by kernel_rfl) (by kernel_rfl) (by kernel_rfl) (fun _ _ _ h => h) (Or.inl ⟨by kernel_rfl, ?hy3x6⟩) (by with_reducible assumption) ?rest3x6
        case hy3x6 => (intro w hSw; (try dsimp only at hSw); go_simp; (try with_reducible rfl))
        (try simp only [Act.put, List.getElem_toArray, List.getElem_cons_succ, List.getElem_cons_zero, List.setIfInBounds_toArray, List.set_cons_succ, List.set_cons_zero])
        refine wpAnyH_ready (rs := [7]) (by kernel_rfl) (by simp) (AllReadyH.cons (o := _) rfl (fun K hK => ?c3x7) AllReadyH.nil)
        go_simp
        refine (HL.out _ (HBV.out.trans (hHeld.1.mono HBV.out.size))).mono ?_
        rintro e wl ⟨rfl, hbl⟩
        go_simp
        refine hK.out _ _ (keepR7 hbl hHeld) (fun hHeld2 => ?_)
        clear hHeld
        have hHeld := hHeld2
        clear hK K hHeld2
        (try simp only [Act.put, List.getElem_toArray, List.getElem_cons_succ, List.getElem_cons_zero, List.setIfInBounds_toArray, List.set_cons_succ, List.set_cons_zero])
        refine wpAnyH_ready (rs := [8]) (by kernel_rfl) (by simp) (AllReadyH.cons (o := _) rfl (fun K hK => ?c3x8) AllReadyH.nil)
        go_simp
        refine (HE2.out _).mono ?_
        rintro e wi ⟨rfl, rfl⟩
        go_simp
        refine hK.out _ _ (hHeld) (fun hHeld2 => ?_)
        clear hHeld
        have hHeld := hHeld2
        clear hK K hHeld2
        (try simp only [Act.put, List.getElem_toArray, List.getElem_cons_succ, List.getElem_cons_zero, List.setIfInBounds_toArray, List.set_cons_succ, List.set_cons_zero])
        refine wpAnyH_take (i := 9) (oi := _) (v := ?v3x9) rfl (by kernel_rfl) (by kernel_rfl) (by kernel_rfl) (fun _ _ _ h => h) (Or.inl ⟨by kernel_rfl, ?hy3x9⟩) (by with_reducible assumption) ?rest3x9
        case hy3x9 => (intro w hSw; (try dsimp only at hSw); go_simp; (try with_reducible rfl))
        (try simp only [Act.put, List.getElem_toArray, List.getElem_cons_succ, List.getElem_cons_zero, List.setIfInBounds_toArray, List.set_cons_succ, List.set_cons_zero])
        refine wpAnyH_take (i := 10) (oi := _) (v := ?v3x10) rfl (by kernel_rfl) (by kernel_rfl) (by kernel_rfl) (fun _ _ _ h => h) (Or.inl ⟨by kernel_rfl, ?hy3x10⟩) (by with_reducible assumption) ?rest3x10
        case hy3x10 => (intro w hSw; (try dsimp only at hSw); go_simp; (try with_reducible rfl))
        (try simp only [Act.put, List.getElem_toArray, List.getElem_cons_succ, List.getElem_cons_zero, List.setIfInBounds_toArray, List.set_cons_succ, List.set_cons_zero])
        refine wpAnyH_take (i := 11) (oi := _) (v := ?v3x11) rfl (by kernel_rfl) (by kernel_rfl) (by kernel_rfl) (fun _ _ _ h => h) (Or.inl ⟨by kernel_rfl, ?hy3x11⟩) (by with_reducible assumption) ?rest3x11
        case hy3x11 => (intro w hSw; (try dsimp only at hSw); go_simp; (try with_reducible rfl))
        (try simp only [Act.put, List.getElem_toArray, List.getElem_cons_succ, List.getElem_cons_zero, List.setIfInBounds_toArray, List.set_cons_succ, List.set_cons_zero])
        refine wpAnyH_take (i := 12) (oi := _) (v := ?v3x12) rfl (by kernel_rfl) (by kernel_rfl) (by kernel_rfl) (fun _ _ _ h => h) (Or.inl ⟨by kernel_rfl, ?hy3x12⟩) (by with_reducible assumption) ?rest3x12
        case hy3x12 => (intro w hSw; (try dsimp only at hSw); go_simp; (try with_reducible rfl))
        (try simp only [Act.put, List.getElem_toArray, List.getElem_cons_succ, List.getElem_cons_zero, List.setIfInBounds_toArray, List.set_cons_succ, List.set_cons_zero])
        refine wpAnyH_ready (rs := [13]) (by kernel_rfl) (by simp) (AllReadyH.cons (o := _) rfl (fun K hK => ?c3x13) AllReadyH.nil)
        go_simp
        refine (HFR.out _ (HBV.out.trans (hHeld.1.mono HBV.out.size))).mono ?_
        rintro e wf ⟨rfl, hbf⟩
        go_simp
        refine hK.out _ _ (keepR7 hbf hHeld) (fun hHeld2 => ?_)
        clear hHeld
        have hHeld := hHeld2
        clear hK K hHeld2
        (try simp only [Act.put, List.getElem_toArray, List.getElem_cons_succ, List.getElem_cons_zero, List.setIfInBounds_toArray, List.set_cons_succ, List.set_cons_zero])
        refine wpAnyH_take (i := 14) (oi := _) (v := ?v3x14) rfl (by kernel_rfl) (by kernel_rfl) (by kernel_rfl) (fun _ _ _ h => h) (Or.inl ⟨by kernel_rfl, ?hy3x14⟩) (by with_reducible assumption) ?rest3x14
        case hy3x14 => (intro w hSw; (try dsimp only at hSw); go_simp; (try with_reducible rfl))
        (try simp only [Act.put, List.getElem_toArray, List.getElem_cons_succ, List.getElem_cons_zero, List.setIfInBounds_toArray, List.set_cons_succ, List.set_cons_zero])
        refine wpAnyH_take (i := 15) (oi := _) (v := ?v3x15) rfl (by kernel_rfl) (by kernel_rfl) (by kernel_rfl) (fun _ _ _ h => h) (Or.inl ⟨by kernel_rfl, ?hy3x15⟩) (by with_reducible assumption) ?rest3x15
        case hy3x15 => (intro w hSw; (try dsimp only at hSw); go_simp; (try with_reducible rfl))
        (try simp only [Act.put, List.getElem_toArray, List.getElem_cons_succ, List.getElem_cons_zero, List.setIfInBounds_toArray, List.set_cons_succ, List.set_cons_zero])
        refine wpAnyH_done (by kernel_rfl) ?_ _
        have HBZ := Lib.hid (HBV.out.trans (hHeld.1.mono HBV.out.size))
        clear hHeld
        go_wp2_with fail
        go_ret
        exact ⟨ret_bool (by rw [HR.out]), HBZ.out⟩
      · have he : (en == -1) = false := by simpa using h9.1
        have HR := Lib.hid (show R = false by rw [HR6.out]; exact decide_eq_false (fun h => h.2.2.1.elim h9.1 h9.2))
        have HE2 := Lib.hid (by have h := HE.out; simp only [decide_eq_false h9.2] at h; exact h)
        generalize decide (fromsOk n) = fr at *
        clear HR6 HE h7b
        go_wp2_with fail
        refine wp_region_held_drew (S := (fun V => Below wq.heap.size wq V ∧ V.cell? ⟨w.heap.size, 0, none⟩ = some (.int .i64 rd) ∧ V.cell? ⟨w.heap.size, 1, none⟩ = some (.slice (some ⟨b, o, none⟩) pl pc) ∧ V.cell? ⟨w.heap.size, 2, none⟩ = some (.int .i64 ed) ∧ V.cell? ⟨w.heap.size, 3, none⟩ = some (.int .i64 sz) ∧ V.cell? ⟨w.heap.size, 4, none⟩ = some (.int .i64 cp) ∧ V.cell? ⟨w.heap.size, 5, none⟩ = some (.int .i64 en) ∧ V.cell? ⟨w.heap.size, 6, none⟩ = some (.slice fa fl fc))) (by kernel_rfl) (⟨(Below.refl _ _).drew, c0, c1, c2, c3, c4, c5, c6⟩) (fun hHeld => ?_)
        refine wpAnyH_take (i := 0) (oi := _) (v := ?v4x0) rfl (by kernel_rfl) (by kernel_rfl) (by kernel_rfl) (fun _ _ _ h => h) (Or.inl ⟨by kernel_rfl, ?hy4x0⟩) (by with_reducible assumption) ?rest4x0
        case hy4x0 => (intro w hSw; (try dsimp only at hSw); go_simp; (try with_reducible rfl))
        (try simp only [Act.put, List.getElem_toArray, List.getElem_cons_zero, List.setIfInBounds_toArray, List.set_cons_succ, List.set_cons_zero])
        refine wpAnyH_take (i := 1) (oi := _) (v := ?v4x1) rfl (by kernel_rfl) (by kernel_rfl) (by kernel_rfl) (fun _ _ _ h => h) (Or.inl ⟨by kernel_rfl, ?hy4x1⟩) (by with_reducible assumption) ?rest4x1
        case hy4x1 => (intro w hSw; (try dsimp only at hSw); go_simp; (try with_reducible rfl))
        (try simp only [Act.put, List.getElem_toArray, List.getElem_cons_succ, List.getElem_cons_zero, List.setIfInBounds_toArray, List.set_cons_succ, List.set_cons_zero])
        refine wpAnyH_take (i := 2) (oi := _) (v := ?v4x2) rfl (by kernel_rfl) (by kernel_rfl) (by kernel_rfl) (fun _ _ _ h => h) (Or.inl ⟨by kernel_rfl, ?hy4x2⟩) (by with_reducible assumption) ?rest4x2
        case hy4x2 => (intro w hSw; (try dsimp only at hSw); go_simp; (try with_reducible rfl))
        (try simp only [Act.put, List.getElem_toArray, List.getElem_cons_succ, List.getElem_cons_zero, List.setIfInBounds_toArray, List.set_cons_succ, List.set_cons_zero])
        refine wpAnyH_take (i := 3) (oi := _) (v := ?v4x3) rfl (by kernel_rfl) (by kernel_rfl) (by kernel_rfl) (fun _ _ _ h => h) (Or.inl ⟨by kernel_rfl, ?hy4x3⟩) (by with_reducible assumption) ?rest4x3
        case hy4x3 => (intro w hSw; (try dsimp only at hSw); go_simp; (try with_reducible rfl))
        (try simp only [Act.put, List.getElem_toArray, List.getElem_cons_succ, List.getElem_cons_zero, List.setIfInBounds_toArray, List.set_cons_succ, List.set_cons_zero])
        refine wpAnyH_take (i := 4) (oi := _) (v := ?v4x4) rfl (by kernel_rfl) (by kernel_rfl) (by kernel_rfl) (fun _ _ _ h => h) (Or.inl ⟨by kernel_rfl, ?hy4x4⟩) (by with_reducible assumption) ?rest4x4
        case hy4x4 => (intro w hSw; (try dsimp only at hSw); go_simp; (try with_reducible rfl))
        (try simp only [Act.put, List.getElem_toArray, List.getElem_cons_succ, List.getElem_cons_zero, List.setIfInBounds_toArray, List.set_cons_succ, List.set_cons_zero])
        refine wpAnyH_take (i := 5) (oi := _) (v := ?v4x5) rfl (by kernel_rfl) (by kernel_rfl) (by kernel_rfl) (fun _ _ _ h => h) (Or.inl ⟨by kernel_rfl, ?hy4x5⟩) (by with_reducible assumption) ?rest4x5
        case hy4x5 => (intro w hSw; (try dsimp only at hSw); go_simp; (try with_reducible rfl))
        (try simp only [Act.put, List.getElem_toArray, List.getElem_cons_succ, List.getElem_cons_zero, List.setIfInBounds_toArray, List.set_cons_succ, List.set_cons_zero])
        refine wpAnyH_take (i := 6) (oi := _) (v := ?v4x6) rfl (by kernel_rfl) (by kernel_rfl) (by kernel_rfl) (fun _ _ _ h => h) (Or.inl ⟨by kernel_rfl, ?hy4x6⟩) (by with_reducible assumption) ?rest4x6
        case hy4x6 => (intro w hSw; (try dsimp only at hSw); go_simp; (try with_reducible rfl))
        (try simp only [Act.put, List.getElem_toArray, List.getElem_cons_succ, List.getElem_cons_zero, List.setIfInBounds_toArray, List.set_cons_succ, List.set_cons_zero])
        refine wpAnyH_ready (rs := [7]) (by kernel_rfl) (by simp) (AllReadyH.cons (o := _) rfl (fun K hK => ?c4x7) AllReadyH.nil)
        go_simp
        refine (HL.out _ (HBV.out.trans (hHeld.1.mono HBV.out.size))).mono ?_
        rintro e wl ⟨rfl, hbl⟩
        go_simp
        refine hK.out _ _ (keepR7 hbl hHeld) (fun hHeld2 => ?_)
        clear hHeld
        have hHeld := hHeld2
        clear hK K hHeld2
        (try simp only [Act.put, List.getElem_toArray, List.getElem_cons_succ, List.getElem_cons_zero, List.setIfInBounds_toArray, List.set_cons_succ, List.set_cons_zero])
        refine wpAnyH_ready (rs := [8]) (by kernel_rfl) (by simp) (AllReadyH.cons (o := _) rfl (fun K hK => ?c4x8) AllReadyH.nil)
        go_simp
        refine (HE2.out _).mono ?_
        rintro e wi ⟨rfl, rfl⟩
        go_simp
        refine hK.out _ _ (hHeld) (fun hHeld2 => ?_)
        clear hHeld
        have hHeld := hHeld2
        clear hK K hHeld2
        (try simp only [Act.put, List.getElem_toArray, List.getElem_cons_succ, List.getElem_cons_zero, List.setIfInBounds_toArray, List.set_cons_succ, List.set_cons_zero])
        refine wpAnyH_take (i := 9) (oi := _) (v := ?v4x9) rfl (by kernel_rfl) (by kernel_rfl) (by kernel_rfl) (fun _ _ _ h => h) (Or.inl ⟨by kernel_rfl, ?hy4x9⟩) (by with_reducible assumption) ?rest4x9
        case hy4x9 => (intro w hSw; (try dsimp only at hSw); go_simp; (try with_reducible rfl))
        (try simp only [Act.put, List.getElem_toArray, List.getElem_cons_succ, List.getElem_cons_zero, List.setIfInBounds_toArray, List.set_cons_succ, List.set_cons_zero])
        refine wpAnyH_take (i := 10) (oi := _) (v := ?v4x10) rfl (by kernel_rfl) (by kernel_rfl) (by kernel_rfl) (fun _ _ _ h => h) (Or.inl ⟨by kernel_rfl, ?hy4x10⟩) (by with_reducible assumption) ?rest4x10
        case hy4x10 => (intro w hSw; (try dsimp only at hSw); go_simp; (try with_reducible rfl))
        (try simp only [Act.put, List.getElem_toArray, List.getElem_cons_succ, List.getElem_cons_zero, List.setIfInBounds_toArray, List.set_cons_succ, List.set_cons_zero])
        refine wpAnyH_take (i := 11) (oi := _) (v := undef) rfl (by kernel_rfl) (by kernel_rfl) (by kernel_rfl) (fun _ _ _ h => h) (Or.inr ⟨by kernel_rfl, rfl⟩) (by with_reducible assumption) ?rest4x11
        (try simp only [Act.put, List.getElem_toArray, List.getElem_cons_succ, List.getElem_cons_zero, List.setIfInBounds_toArray, List.set_cons_succ, List.set_cons_zero])
        refine wpAnyH_take (i := 12) (oi := _) (v := undef) rfl (by kernel_rfl) (by kernel_rfl) (by kernel_rfl) (fun _ _ _ h => h) (Or.inr ⟨by kernel_rfl, rfl⟩) (by with_reducible assumption) ?rest4x12
        (try simp only [Act.put, List.getElem_toArray, List.getElem_cons_succ, List.getElem_cons_zero, List.setIfInBounds_toArray, List.set_cons_succ, List.set_cons_zero])
        refine wpAnyH_take (i := 13) (oi := _) (v := undef) rfl (by kernel_rfl) (by kernel_rfl) (by kernel_rfl) (fun _ _ _ h => h) (Or.inr ⟨by kernel_rfl, rfl⟩) (by with_reducible assumption) ?rest4x13
        (try simp only [Act.put, List.getElem_toArray, List.getElem_cons_succ, List.getElem_cons_zero, List.setIfInBounds_toArray, List.set_cons_succ, List.set_cons_zero])
        refine wpAnyH_take (i := 14) (oi := _) (v := ?v4x14) rfl (by kernel_rfl) (by kernel_rfl) (by kernel_rfl) (fun _ _ _ h => h) (Or.inl ⟨by kernel_rfl, ?hy4x14⟩) (by with_reducible assumption) ?rest4x14
        case hy4x14 => (intro w hSw; (try dsimp only at hSw); go_simp; (try with_reducible rfl))
        (try simp only [Act.put, List.getElem_toArray, List.getElem_cons_succ, List.getElem_cons_zero, List.setIfInBounds_toArray, List.set_cons_succ, List.set_cons_zero])
        refine wpAnyH_take (i := 15) (oi := _) (v := ?v4x15) rfl (by kernel_rfl) (by kernel_rfl) (by kernel_rfl) (fun _ _ _ h => h) (Or.inl ⟨by kernel_rfl, ?hy4x15⟩) (by with_reducible assumption) ?rest4x15
        case hy4x15 => (intro w hSw; (try dsimp only at hSw); go_simp; (try with_reducible rfl))
        (try simp only [Act.put, List.getElem_toArray, List.getElem_cons_succ, List.getElem_cons_zero, List.setIfInBounds_toArray, List.set_cons_succ, List.set_cons_zero])
        refine wpAnyH_done (by kernel_rfl) ?_ _
        have HBZ := Lib.hid (HBV.out.trans (hHeld.1.mono HBV.out.size))
        clear hHeld
        go_wp2_with fail
        go_ret
        exact ⟨ret_bool (by rw [HR.out]), HBZ.out⟩
    · have hg : decide (ed < last) = true := by simp; omega
      have HR := Lib.hid (show R = false by rw [HR6.out]; exact decide_eq_false (fun h => h8 h.2.1))
      unfold rcvV
      go_enter Tryz.func23, Tryz.ntmps23
      go_wp2_with fail
      have n1 := box_new w [.int .i64 rd, .slice (some ⟨b, o, none⟩) pl pc, .int .i64 ed, .int .i64 sz, .int .i64 cp, .int .i64 en, .slice fa fl fc] 26 (by simp)
      have hb0 : Below w.heap.size w (w.alloc (.cells #[.int .i64 rd, .slice (some ⟨b, o, none⟩) pl pc, .int .i64 ed, .int .i64 sz, .int .i64 cp, .int .i64 en, .slice fa fl fc] 26)) := (Below.refl _ _).alloc (Nat.le_refl _) _
      generalize w.alloc (.cells #[.int .i64 rd, .slice (some ⟨b, o, none⟩) pl pc, .int .i64 ed, .int .i64 sz, .int .i64 cp, .int .i64 en, .slice fa fl fc] 26) = W at *
      obtain ⟨c0, c1, c2, c3, c4, c5, c6⟩ := n1.seven
      have HB0 := Lib.hid hb0
      clear hb0
      have q1 := (HB0.out.cell (World.block_lt_of_cell? _ _ q0)).trans q0
      clear q0
      (with_reducible refine (HT0.out _).mono ?_); rintro e w10 ⟨rfl, rfl⟩
      go_wp2_with fail
      (with_reducible refine (HT1.out _).mono ?_); rintro e w11 ⟨rfl, rfl⟩
      go_wp2_with fail
      (with_reducible refine (HT2.out _).mono ?_); rintro e w12 ⟨rfl, rfl⟩
      go_wp2_with fail
      (with_reducible refine (HT3.out _).mono ?_); rintro e w13 ⟨rfl, rfl⟩
      go_wp2_with fail
      (with_reducible refine (HT4.out _ HB0.out).mono ?_); rintro e w1 ⟨rfl, hb1⟩
      clear c0 c1 c2 c3 c4 c5 c6
      obtain ⟨c0, c1, c2, c3, c4, c5, c6⟩ := (n1.below hb1).seven
      have q0 := (hb1.cell (World.block_lt_of_cell? _ _ q1)).trans q1
      have HB1 := Lib.hid (HB0.out.trans (hb1.mono HB0.out.size))
      clear hb1 n1 q1
      go_wp2_with fail
      (with_reducible refine (HT5.out _).mono ?_); rintro e wv ⟨rfl, rfl⟩
      clear HT0 HT1 HT2 HT3 HT4 HT5
      go_wp2_with fail
      refine wp_region_held_drew (S := (fun V => Below wv.heap.size wv V ∧ V.cell? ⟨w.heap.size, 0, none⟩ = some (.int .i64 rd) ∧ V.cell? ⟨w.heap.size, 1, none⟩ = some (.slice (some ⟨b, o, none⟩) pl pc) ∧ V.cell? ⟨w.heap.size, 2, none⟩ = some (.int .i64 ed) ∧ V.cell? ⟨w.heap.size, 3, none⟩ = some (.int .i64 sz) ∧ V.cell? ⟨w.heap.size, 4, none⟩ = some (.int .i64 cp) ∧ V.cell? ⟨w.heap.size, 5, none⟩ = some (.int .i64 en) ∧ V.cell? ⟨w.heap.size, 6, none⟩ = some (.slice fa fl fc) ∧ V.cell? ⟨b, o, none⟩ = some (.int .i64 at0))) (by kernel_rfl) (⟨(Below.refl _ _).drew, c0, c1, c2, c3, c4, c5, c6, q0⟩) (fun hHeld => ?_)
      refine wpAnyH_take (i := 0) (oi := _) (v := ?v5x0) rfl (by kernel_rfl) (by kernel_rfl) (by kernel_rfl) (fun _ _ _ h => h) (Or.inl ⟨by kernel_rfl, ?hy5x0⟩) (by with_reducible assumption) ?rest5x0
      case hy5x0 => (intro w hSw; (try dsimp only at hSw); go_simp; (try with_reducible rfl))
      (try simp only [Act.put, List.getElem_toArray, List.getElem_cons_zero, List.setIfInBounds_toArray, List.set_cons_succ, List.set_cons_zero])
      refine wpAnyH_take (i := 1) (oi := _) (v := ?v5x1) rfl (by kernel_rfl) (by kernel_rfl) (by kernel_rfl) (fun _ _ _ h => h) (Or.inl ⟨by kernel_rfl, ?hy5x1⟩) (by with_reducible assumption) ?rest5x1
      case hy5x1 => (intro w hSw; (try dsimp only at hSw); go_simp; (try with_reducible rfl))
      (try simp only [Act.put, List.getElem_toArray, List.getElem_cons_succ, List.getElem_cons_zero, List.setIfInBounds_toArray, List.set_cons_succ, List.set_cons_zero])
      refine wpAnyH_take (i := 2) (oi := _) (v := ?v5x2) rfl (by kernel_rfl) (by kernel_rfl) (by kernel_rfl) (fun _ _ _ h => h) (Or.inl ⟨by kernel_rfl, ?hy5x2⟩) (by with_reducible assumption) ?rest5x2
      case hy5x2 => (intro w hSw; (try dsimp only at hSw); go_simp; (try with_reducible rfl))
      (try simp only [Act.put, List.getElem_toArray, List.getElem_cons_succ, List.getElem_cons_zero, List.setIfInBounds_toArray, List.set_cons_succ, List.set_cons_zero])
      refine wpAnyH_take (i := 3) (oi := _) (v := ?v5x3) rfl (by kernel_rfl) (by kernel_rfl) (by kernel_rfl) (fun _ _ _ h => h) (Or.inl ⟨by kernel_rfl, ?hy5x3⟩) (by with_reducible assumption) ?rest5x3
      case hy5x3 => (intro w hSw; (try dsimp only at hSw); go_simp; (try with_reducible rfl))
      (try simp only [Act.put, List.getElem_toArray, List.getElem_cons_succ, List.getElem_cons_zero, List.setIfInBounds_toArray, List.set_cons_succ, List.set_cons_zero])
      refine wpAnyH_take (i := 4) (oi := _) (v := ?v5x4) rfl (by kernel_rfl) (by kernel_rfl) (by kernel_rfl) (fun _ _ _ h => h) (Or.inl ⟨by kernel_rfl, ?hy5x4⟩) (by with_reducible assumption) ?rest5x4
      case hy5x4 => (intro w hSw; (try dsimp only at hSw); go_simp; (try with_reducible rfl))
      (try simp only [Act.put, List.getElem_toArray, List.getElem_cons_succ, List.getElem_cons_zero, List.setIfInBounds_toArray, List.set_cons_succ, List.set_cons_zero])
      refine wpAnyH_take (i := 5) (oi := _) (v := ?v5x5) rfl (by kernel_rfl) (by kernel_rfl) (by kernel_rfl) (fun _ _ _ h => h) (Or.inl ⟨by kernel_rfl, ?hy5x5⟩) (by with_reducible assumption) ?rest5x5
      case hy5x5 => (intro w hSw; (try dsimp only at hSw); go_simp; (try with_reducible rfl))
      (try simp only [Act.put, List.getElem_toArray, List.getElem_cons_succ, List.getElem_cons_zero, List.setIfInBounds_toArray, List.set_cons_succ, List.set_cons_zero])
      refine wpAnyH_take (i := 6) (oi := _) (v := ?v5x6) rfl (by kernel_rfl) (by kernel_rfl) (by kernel_rfl) (fun _ _ _ h => h) (Or.inl ⟨by kernel_rfl, ?hy5x6⟩) (by with_reducible assumption) ?rest5x6
      case hy5x6 => (intro w hSw; (try dsimp only at hSw); go_simp; (try with_reducible rfl))
      (try simp only [Act.put, List.getElem_toArray, List.getElem_cons_succ, List.getElem_cons_zero, List.setIfInBounds_toArray, List.set_cons_succ, List.set_cons_zero])
      refine wpAnyH_take (i := 7) (oi := _) (v := ?v5x7) rfl (by kernel_rfl) (by kernel_rfl) (by kernel_rfl) (fun _ _ _ h => h) (Or.inl ⟨by kernel_rfl, ?hy5x7⟩) (by with_reducible assumption) ?rest5x7
      case hy5x7 => (intro w hSw; (try dsimp only at hSw); go_simp; (try with_reducible rfl))
      (try simp only [Act.put, List.getElem_toArray, List.getElem_cons_succ, List.getElem_cons_zero, List.setIfInBounds_toArray, List.set_cons_succ, List.set_cons_zero])
      refine wpAnyH_take (i := 8) (oi := _) (v := ?v5x8) rfl (by kernel_rfl) (by kernel_rfl) (by kernel_rfl) (fun _ _ _ h => h) (Or.inl ⟨by kernel_rfl, ?hy5x8⟩) (by with_reducible assumption) ?rest5x8
      case hy5x8 => (intro w hSw; (try dsimp only at hSw); go_simp; (try with_reducible rfl))
      (try simp only [Act.put, List.getElem_toArray, List.getElem_cons_succ, List.getElem_cons_zero, List.setIfInBounds_toArray, List.set_cons_succ, List.set_cons_zero])
      refine wpAnyH_take (i := 9) (oi := _) (v := ?v5x9) rfl (by kernel_rfl) (by kernel_rfl) (by kernel_rfl) (fun _ _ _ h => h) (Or.inl ⟨by kernel_rfl, ?hy5x9⟩) (by with_reducible assumption) ?rest5x9
      case hy5x9 => (intro w hSw; (try dsimp only at hSw); go_simp; (try with_reducible rfl))
      (try simp only [Act.put, List.getElem_toArray, List.getElem_cons_succ, List.getElem_cons_zero, List.setIfInBounds_toArray, List.set_cons_succ, List.set_cons_zero])
      refine wpAnyH_take (i := 10) (oi := _) (v := ?v5x10) rfl (by kernel_rfl) (by kernel_rfl) (by kernel_rfl) (fun _ _ _ h => h) (Or.inl ⟨by kernel_rfl, ?hy5x10⟩) (by with_reducible assumption) ?rest5x10
      case hy5x10 => (intro w hSw; (try dsimp only at hSw); go_simp; (try with_reducible rfl))
      (try simp only [Act.put, List.getElem_toArray, List.getElem_cons_succ, List.getElem_cons_zero, List.setIfInBounds_toArray, List.set_cons_succ, List.set_cons_zero])
      refine wpAnyH_take (i := 11) (oi := _) (v := ?v5x11) rfl (by kernel_rfl) (by kernel_rfl) (by kernel_rfl) (fun _ _ _ h => h) (Or.inl ⟨by kernel_rfl, ?hy5x11⟩) (by with_reducible assumption) ?rest5x11
      case hy5x11 => (intro w hSw; (try dsimp only at hSw); go_simp; (try with_reducible rfl))
      (try simp only [Act.put, List.getElem_toArray, List.getElem_cons_succ, List.getElem_cons_zero, List.setIfInBounds_toArray, List.set_cons_succ, List.set_cons_zero])
      refine wpAnyH_take (i := 12) (oi := _) (v := ?v5x12) rfl (by kernel_rfl) (by kernel_rfl) (by kernel_rfl) (fun _ _ _ h => h) (Or.inl ⟨by kernel_rfl, ?hy5x12⟩) (by with_reducible assumption) ?rest5x12
      case hy5x12 => (intro w hSw; (try dsimp only at hSw); go_simp; (try with_reducible rfl))
      (try simp only [Act.put, List.getElem_toArray, List.getElem_cons_succ, List.getElem_cons_zero, List.setIfInBounds_toArray, List.set_cons_succ, List.set_cons_zero])
      refine wpAnyH_take (i := 13) (oi := _) (v := ?v5x13) rfl (by kernel_rfl) (by kernel_rfl) (by kernel_rfl) (fun _ _ _ h => h) (Or.inl ⟨by kernel_rfl, ?hy5x13⟩) (by with_reducible assumption) ?rest5x13
      case hy5x13 => (intro w hSw; (try dsimp only at hSw); go_simp; (try with_reducible rfl))
      (try simp only [Act.put, List.getElem_toArray, List.getElem_cons_succ, List.getElem_cons_zero, List.setIfInBounds_toArray, List.set_cons_succ, List.set_cons_zero])
      refine wpAnyH_take (i := 14) (oi := _) (v := ?v5x14) rfl (by kernel_rfl) (by kernel_rfl) (by kernel_rfl) (fun _ _ _ h => h) (Or.inl ⟨by kernel_rfl, ?hy5x14⟩) (by with_reducible assumption) ?rest5x14
      case hy5x14 => (intro w hSw; (try dsimp only at hSw); go_simp; (try with_reducible rfl))
      (try simp only [Act.put, List.getElem_toArray, List.getElem_cons_succ, List.getElem_cons_zero, List.setIfInBounds_toArray, List.set_cons_succ, List.set_cons_zero])
      refine wpAnyH_take (i := 15) (oi := _) (v := ?v5x15) rfl (by kernel_rfl) (by kernel_rfl) (by kernel_rfl) (fun _ _ _ h => h) (Or.inl ⟨by kernel_rfl, ?hy5x15⟩) (by with_reducible assumption) ?rest5x15
      case hy5x15 => (intro w hSw; (try dsimp only at hSw); go_simp; (try with_reducible rfl))
      (try simp only [Act.put, List.getElem_toArray, List.getElem_cons_succ, List.getElem_cons_zero, List.setIfInBounds_toArray, List.set_cons_succ, List.set_cons_zero])
      refine wpAnyH_take (i := 17) (oi := _) (v := ?v5x17) rfl (by kernel_rfl) (by kernel_rfl) (by kernel_rfl) (fun _ _ _ h => h) (Or.inl ⟨by kernel_rfl, ?hy5x17⟩) (by with_reducible assumption) ?rest5x17
      case hy5x17 => (intro w hSw; (try dsimp only at hSw); go_simp; (try with_reducible rfl))
      (try simp only [Act.put, List.getElem_toArray, List.getElem_cons_succ, List.getElem_cons_zero, List.setIfInBounds_toArray, List.set_cons_succ, List.set_cons_zero])
      refine wpAnyH_take (i := 18) (oi := _) (v := ?v5x18) rfl (by kernel_rfl) (by kernel_rfl) (by kernel_rfl) (fun _ _ _ h => h) (Or.inl ⟨by kernel_rfl, ?hy5x18⟩) (by with_reducible assumption) ?rest5x18
      case hy5x18 => (intro w hSw; (try dsimp only at hSw); go_simp; (try with_reducible rfl))
      (try simp only [Act.put, List.getElem_toArray, List.getElem_cons_succ, List.getElem_cons_zero, List.setIfInBounds_toArray, List.set_cons_succ, List.set_cons_zero])
      refine wpAnyH_ready (rs := [16]) (by kernel_rfl) (by simp) (AllReadyH.cons (o := _) rfl (fun K hK => ?c5x16) AllReadyH.nil)
      go_simp
      refine (HL.out _ (HB1.out.trans (hHeld.1.mono HB1.out.size))).mono ?_
      rintro e wq ⟨rfl, hbq⟩
      go_simp
      refine hK.out _ _ (keepR8 hbq hHeld) (fun hHeld2 => ?_)
      clear hHeld
      have hHeld := hHeld2
      clear hK K hHeld2
      (try simp only [Act.put, List.getElem_toArray, List.getElem_cons_succ, List.getElem_cons_zero, List.setIfInBounds_toArray, List.set_cons_succ, List.set_cons_zero])
      refine wpAnyH_take (i := 19) (oi := _) (v := ?v5x19) rfl (by kernel_rfl) (by kernel_rfl) (by kernel_rfl) (fun _ _ _ h => h) (Or.inl ⟨by kernel_rfl, ?hy5x19⟩) (by with_reducible assumption) ?rest5x19
      case hy5x19 => (intro w hSw; (try dsimp only at hSw); go_simp; (try with_reducible rfl))
      (try simp only [Act.put, List.getElem_toArray, List.getElem_cons_succ, List.getElem_cons_zero, List.setIfInBounds_toArray, List.set_cons_succ, List.set_cons_zero])
      refine wpAnyH_take (i := 20) (oi := _) (v := ?v5x20) rfl (by kernel_rfl) (by kernel_rfl) (by kernel_rfl) (fun _ _ _ h => h) (Or.inl ⟨by kernel_rfl, ?hy5x20⟩) (by with_reducible assumption) ?rest5x20
      case hy5x20 => (intro w hSw; (try dsimp only at hSw); go_simp; (try with_reducible rfl))
      (try simp only [Act.put, List.getElem_toArray, List.getElem_cons_succ, List.getElem_cons_zero, List.setIfInBounds_toArray, List.set_cons_succ, List.set_cons_zero])
      refine wpAnyH_done (by kernel_rfl) ?_ _
      have HBZ := Lib.hid (HB1.out.trans (hHeld.1.mono HB1.out.size))
      go_wp2_with fail
      go_ret
      exact ⟨ret_bool (by rw [HR.out]), HBZ.out⟩
  · obtain rfl : pl = 0 := by omega
    clear hp
    by_cases h8 : last ≤ ed
    · have hg : decide (ed < last) = false := by simp; omega
      unfold rcvV
      go_enter Tryz.func23, Tryz.ntmps23
      go_wp2_with fail
      have n1 := box_new w [.int .i64 rd, .slice pa 0 pc, .int .i64 ed, .int .i64 sz, .int .i64 cp, .int .i64 en, .slice fa fl fc] 26 (by simp)
      have hb0 : Below w.heap.size w (w.alloc (.cells #[.int .i64 rd, .slice pa 0 pc, .int .i64 ed, .int .i64 sz, .int .i64 cp, .int .i64 en, .slice fa fl fc] 26)) := (Below.refl _ _).alloc (Nat.le_refl _) _
      generalize w.alloc (.cells #[.int .i64 rd, .slice pa 0 pc, .int .i64 ed, .int .i64 sz, .int .i64 cp, .int .i64 en, .slice fa fl fc] 26) = W at *
      obtain ⟨c0, c1, c2, c3, c4, c5, c6⟩ := n1.seven
      have HB0 := Lib.hid hb0
      clear hb0
      (with_reducible refine (HT0.out _).mono ?_); rintro e w10 ⟨rfl, rfl⟩
      go_wp2_with fail
      (with_reducible refine (HT1.out _).mono ?_); rintro e w11 ⟨rfl, rfl⟩
      go_wp2_with fail
      (with_reducible refine (HT2.out _).mono ?_); rintro e w12 ⟨rfl, rfl⟩
      go_wp2_with fail
      (with_reducible refine (HT3.out _).mono ?_); rintro e w13 ⟨rfl, rfl⟩
      go_wp2_with fail
      (with_reducible refine (HT4.out _ HB0.out).mono ?_); rintro e w1 ⟨rfl, hb1⟩
      clear c0 c1 c2 c3 c4 c5 c6
      obtain ⟨c0, c1, c2, c3, c4, c5, c6⟩ := (n1.below hb1).seven
      have HB1 := Lib.hid (HB0.out.trans (hb1.mono HB0.out.size))
      clear hb1 n1
      go_wp2_with fail
      (with_reducible refine (HT5.out _).mono ?_); rintro e wv ⟨rfl, rfl⟩
      clear HT0 HT1 HT2 HT3 HT4 HT5
      go_wp2_with fail
      refine wp_region_held_drew (S := (fun V => Below wv.heap.size wv V ∧ V.cell? ⟨w.heap.size, 0, none⟩ = some (.int .i64 rd) ∧ V.cell? ⟨w.heap.size, 1, none⟩ = some (.slice pa 0 pc) ∧ V.cell? ⟨w.heap.size, 2, none⟩ = some (.int .i64 ed) ∧ V.cell? ⟨w.heap.size, 3, none⟩ = some (.int .i64 sz) ∧ V.cell? ⟨w.heap.size, 4, none⟩ = some (.int .i64 cp) ∧ V.cell? ⟨w.heap.size, 5, none⟩ = some (.int .i64 en) ∧ V.cell? ⟨w.heap.size, 6, none⟩ = some (.slice fa fl fc))) (by kernel_rfl) (⟨(Below.refl _ _).drew, c0, c1, c2, c3, c4, c5, c6⟩) (fun hHeld => ?_)
      refine wpAnyH_take (i := 0) (oi := _) (v := ?v6x0) rfl (by kernel_rfl) (by kernel_rfl) (by kernel_rfl) (fun _ _ _ h => h) (Or.inl ⟨by kernel_rfl, ?hy6x0⟩) (by with_reducible assumption) ?rest6x0
      case hy6x0 => (intro w hSw; (try dsimp only at hSw); go_simp; (try with_reducible rfl))
      (try simp only [Act.put, List.getElem_toArray, List.getElem_cons_zero, List.setIfInBounds_toArray, List.set_cons_succ, List.set_cons_zero])
      refine wpAnyH_take (i := 1) (oi := _) (v := ?v6x1) rfl (by kernel_rfl) (by kernel_rfl) (by kernel_rfl) (fun _ _ _ h => h) (Or.inl ⟨by kernel_rfl, ?hy6x1⟩) (by with_reducible assumption) ?rest6x1
      case hy6x1 => (intro w hSw; (try dsimp only at hSw); go_simp; (try with_reducible rfl))
      (try simp only [Act.put, List.getElem_toArray, List.getElem_cons_succ, List.getElem_cons_zero, List.setIfInBounds_toArray, List.set_cons_succ, List.set_cons_zero])
      refine wpAnyH_take (i := 2) (oi := _) (v := ?v6x2) rfl (by kernel_rfl) (by kernel_rfl) (by kernel_rfl) (fun _ _ _ h => h) (Or.inl ⟨by kernel_rfl, ?hy6x2⟩) (by with_reducible assumption) ?rest6x2
      case hy6x2 => (intro w hSw; (try dsimp only at hSw); go_simp; (try with_reducible rfl))
      (try simp only [Act.put, List.getElem_toArray, List.getElem_cons_succ, List.getElem_cons_zero, List.setIfInBounds_toArray, List.set_cons_succ, List.set_cons_zero])
      refine wpAnyH_take (i := 3) (oi := _) (v := ?v6x3) rfl (by kernel_rfl) (by kernel_rfl) (by kernel_rfl) (fun _ _ _ h => h) (Or.inl ⟨by kernel_rfl, ?hy6x3⟩) (by with_reducible assumption) ?rest6x3
      case hy6x3 => (intro w hSw; (try dsimp only at hSw); go_simp; (try with_reducible rfl))
      (try simp only [Act.put, List.getElem_toArray, List.getElem_cons_succ, List.getElem_cons_zero, List.setIfInBounds_toArray, List.set_cons_succ, List.set_cons_zero])
      refine wpAnyH_take (i := 4) (oi := _) (v := ?v6x4) rfl (by kernel_rfl) (by kernel_rfl) (by kernel_rfl) (fun _ _ _ h => h) (Or.inl ⟨by kernel_rfl, ?hy6x4⟩) (by with_reducible assumption) ?rest6x4
      case hy6x4 => (intro w hSw; (try dsimp only at hSw); go_simp; (try with_reducible rfl))
      (try simp only [Act.put, List.getElem_toArray, List.getElem_cons_succ, List.getElem_cons_zero, List.setIfInBounds_toArray, List.set_cons_succ, List.set_cons_zero])
      refine wpAnyH_take (i := 5) (oi := _) (v := undef) rfl (by kernel_rfl) (by kernel_rfl) (by kernel_rfl) (fun _ _ _ h => h) (Or.inr ⟨by kernel_rfl, rfl⟩) (by with_reducible assumption) ?rest6x5
      (try simp only [Act.put, List.getElem_toArray, List.getElem_cons_succ, List.getElem_cons_zero, List.setIfInBounds_toArray, List.set_cons_succ, List.set_cons_zero])
      refine wpAnyH_take (i := 6) (oi := _) (v := undef) rfl (by kernel_rfl) (by kernel_rfl) (by kernel_rfl) (fun _ _ _ h => h) (Or.inr ⟨by kernel_rfl, rfl⟩) (by with_reducible assumption) ?rest6x6
      (try simp only [Act.put, List.getElem_toArray, List.getElem_cons_succ, List.getElem_cons_zero, List.setIfInBounds_toArray, List.set_cons_succ, List.set_cons_zero])
      refine wpAnyH_take (i := 7) (oi := _) (v := undef) rfl (by kernel_rfl) (by kernel_rfl) (by kernel_rfl) (fun _ _ _ h => h) (Or.inr ⟨by kernel_rfl, rfl⟩) (by with_reducible assumption) ?rest6x7
      (try simp only [Act.put, List.getElem_toArray, List.getElem_cons_succ, List.getElem_cons_zero, List.setIfInBounds_toArray, List.set_cons_succ, List.set_cons_zero])
      refine wpAnyH_take (i := 8) (oi := _) (v := undef) rfl (by kernel_rfl) (by kernel_rfl) (by kernel_rfl) (fun _ _ _ h => h) (Or.inr ⟨by kernel_rfl, rfl⟩) (by with_reducible assumption) ?rest6x8
      (try simp only [Act.put, List.getElem_toArray, List.getElem_cons_succ, List.getElem_cons_zero, List.setIfInBounds_toArray, List.set_cons_succ, List.set_cons_zero])
      refine wpAnyH_take (i := 9) (oi := _) (v := undef) rfl (by kernel_rfl) (by kernel_rfl) (by kernel_rfl) (fun _ _ _ h => h) (Or.inr ⟨by kernel_rfl, rfl⟩) (by with_reducible assumption) ?rest6x9
      (try simp only [Act.put, List.getElem_toArray, List.getElem_cons_succ, List.getElem_cons_zero, List.setIfInBounds_toArray, List.set_cons_succ, List.set_cons_zero])
      refine wpAnyH_take (i := 10) (oi := _) (v := undef) rfl (by kernel_rfl) (by kernel_rfl) (by kernel_rfl) (fun _ _ _ h => h) (Or.inr ⟨by kernel_rfl, rfl⟩) (by with_reducible assumption) ?rest6x10
      (try simp only [Act.put, List.getElem_toArray, List.getElem_cons_succ, List.getElem_cons_zero, List.setIfInBounds_toArray, List.set_cons_succ, List.set_cons_zero])
      refine wpAnyH_take (i := 11) (oi := _) (v := undef) rfl (by kernel_rfl) (by kernel_rfl) (by kernel_rfl) (fun _ _ _ h => h) (Or.inr ⟨by kernel_rfl, rfl⟩) (by with_reducible assumption) ?rest6x11
      (try simp only [Act.put, List.getElem_toArray, List.getElem_cons_succ, List.getElem_cons_zero, List.setIfInBounds_toArray, List.set_cons_succ, List.set_cons_zero])
      refine wpAnyH_take (i := 12) (oi := _) (v := undef) rfl (by kernel_rfl) (by kernel_rfl) (by kernel_rfl) (fun _ _ _ h => h) (Or.inr ⟨by kernel_rfl, rfl⟩) (by with_reducible assumption) ?rest6x12
      (try simp only [Act.put, List.getElem_toArray, List.getElem_cons_succ, List.getElem_cons_zero, List.setIfInBounds_toArray, List.set_cons_succ, List.set_cons_zero])
      refine wpAnyH_take (i := 13) (oi := _) (v := ?v6x13) rfl (by kernel_rfl) (by kernel_rfl) (by kernel_rfl) (fun _ _ _ h => h) (Or.inl ⟨by kernel_rfl, ?hy6x13⟩) (by with_reducible assumption) ?rest6x13
      case hy6x13 => (intro w hSw; (try dsimp only at hSw); go_simp; (try with_reducible rfl))
      (try simp only [Act.put, List.getElem_toArray, List.getElem_cons_succ, List.getElem_cons_zero, List.setIfInBounds_toArray, List.set_cons_succ, List.set_cons_zero])
      refine wpAnyH_take (i := 14) (oi := _) (v := ?v6x14) rfl (by kernel_rfl) (by kernel_rfl) (by kernel_rfl) (fun _ _ _ h => h) (Or.inl ⟨by kernel_rfl, ?hy6x14⟩) (by with_reducible assumption) ?rest6x14
      case hy6x14 => (intro w hSw; (try dsimp only at hSw); go_simp; (try with_reducible rfl))
      (try simp only [Act.put, List.getElem_toArray, List.getElem_cons_succ, List.getElem_cons_zero, List.setIfInBounds_toArray, List.set_cons_succ, List.set_cons_zero])
      refine wpAnyH_take (i := 15) (oi := _) (v := ?v6x15) rfl (by kernel_rfl) (by kernel_rfl) (by kernel_rfl) (fun _ _ _ h => h) (Or.inl ⟨by kernel_rfl, ?hy6x15⟩) (by with_reducible assumption) ?rest6x15
      case hy6x15 => (intro w hSw; (try dsimp only at hSw); go_simp; (try with_reducible rfl))
      (try simp only [Act.put, List.getElem_toArray, List.getElem_cons_succ, List.getElem_cons_zero, List.setIfInBounds_toArray, List.set_cons_succ, List.set_cons_zero])
      refine wpAnyH_take (i := 17) (oi := _) (v := ?v6x17) rfl (by kernel_rfl) (by kernel_rfl) (by kernel_rfl) (fun _ _ _ h => h) (Or.inl ⟨by kernel_rfl, ?hy6x17⟩) (by with_reducible assumption) ?rest6x17
      case hy6x17 => (intro w hSw; (try dsimp only at hSw); go_simp; (try with_reducible rfl))
      (try simp only [Act.put, List.getElem_toArray, List.getElem_cons_succ, List.getElem_cons_zero, List.setIfInBounds_toArray, List.set_cons_succ, List.set_cons_zero])
      refine wpAnyH_take (i := 18) (oi := _) (v := ?v6x18) rfl (by kernel_rfl) (by kernel_rfl) (by kernel_rfl) (fun _ _ _ h => h) (Or.inl ⟨by kernel_rfl, ?hy6x18⟩) (by with_reducible assumption) ?rest6x18
      case hy6x18 => (intro w hSw; (try dsimp only at hSw); go_simp; (try with_reducible rfl))
      (try simp only [Act.put, List.getElem_toArray, List.getElem_cons_succ, List.getElem_cons_zero, List.setIfInBounds_toArray, List.set_cons_succ, List.set_cons_zero])
      refine wpAnyH_ready (rs := [16]) (by kernel_rfl) (by simp) (AllReadyH.cons (o := _) rfl (fun K hK => ?c6x16) AllReadyH.nil)
      go_simp
      refine (HL.out _ (HB1.out.trans (hHeld.1.mono HB1.out.size))).mono ?_
      rintro e wq ⟨rfl, hbq⟩
      go_simp
      refine hK.out _ _ (keepR7 hbq hHeld) (fun hHeld2 => ?_)
      clear hHeld
      have hHeld := hHeld2
      clear hK K hHeld2
      (try simp only [Act.put, List.getElem_toArray, List.getElem_cons_succ, List.getElem_cons_zero, List.setIfInBounds_toArray, List.set_cons_succ, List.set_cons_zero])
      refine wpAnyH_take (i := 19) (oi := _) (v := ?v6x19) rfl (by kernel_rfl) (by kernel_rfl) (by kernel_rfl) (fun _ _ _ h => h) (Or.inl ⟨by kernel_rfl, ?hy6x19⟩) (by with_reducible assumption) ?rest6x19
      case hy6x19 => (intro w hSw; (try dsimp only at hSw); go_simp; (try with_reducible rfl))
      (try simp only [Act.put, List.getElem_toArray, List.getElem_cons_succ, List.getElem_cons_zero, List.setIfInBounds_toArray, List.set_cons_succ, List.set_cons_zero])
      refine wpAnyH_take (i := 20) (oi := _) (v := ?v6x20) rfl (by kernel_rfl) (by kernel_rfl) (by kernel_rfl) (fun _ _ _ h => h) (Or.inl ⟨by kernel_rfl, ?hy6x20⟩) (by with_reducible assumption) ?rest6x20
      case hy6x20 => (intro w hSw; (try dsimp only at hSw); go_simp; (try with_reducible rfl))
      (try simp only [Act.put, List.getElem_toArray, List.getElem_cons_succ, List.getElem_cons_zero, List.setIfInBounds_toArray, List.set_cons_succ, List.set_cons_zero])
      refine wpAnyH_done (by kernel_rfl) ?_ _
      have hsv := hHeld
      clear hHeld
      clear c0 c1 c2 c3 c4 c5 c6
      obtain ⟨hbv, c0, c1, c2, c3, c4, c5, c6⟩ := hsv
      have HBV := Lib.hid (HB1.out.trans (hbv.mono HB1.out.size))
      clear hbv
      rcases (show en = -1 ∨ (¬ en = -1 ∧ (last ≤ en ∧ en ≤ 1000000)) ∨ (¬ en = -1 ∧ ¬ (last ≤ en ∧ en ≤ 1000000)) by omega) with h9 | h9 | h9
      · have he : (en == -1) = true := by simpa using h9
        have HR := Lib.hid (show R = decide (fromsOk n) by rw [HR6.out]; exact decide_eq_decide.2 ⟨fun h => h.2.2.2, fun h => ⟨h7b, by omega, .inl h9, h⟩⟩)
        generalize decide (fromsOk n) = fr at *
        clear HR6 HE h7b
        go_wp2_with fail
        refine wp_region_held_drew (S := (fun V => Below wq.heap.size wq V ∧ V.cell? ⟨w.heap.size, 0, none⟩ = some (.int .i64 rd) ∧ V.cell? ⟨w.heap.size, 1, none⟩ = some (.slice pa 0 pc) ∧ V.cell? ⟨w.heap.size, 2, none⟩ = some (.int .i64 ed) ∧ V.cell? ⟨w.heap.size, 3, none⟩ = some (.int .i64 sz) ∧ V.cell? ⟨w.heap.size, 4, none⟩ = some (.int .i64 cp) ∧ V.cell? ⟨w.heap.size, 5, none⟩ = some (.int .i64 en) ∧ V.cell? ⟨w.heap.size, 6, none⟩ = some (.slice fa fl fc))) (by kernel_rfl) (⟨(Below.refl _ _).drew, c0, c1, c2, c3, c4, c5, c6⟩) (fun hHeld => ?_)
        refine wpAnyH_take (i := 0) (oi := _) (v := ?v7x0) rfl (by kernel_rfl) (by kernel_rfl) (by kernel_rfl) (fun _ _ _ h => h) (Or.inl ⟨by kernel_rfl, ?hy7x0⟩) (by with_reducible assumption) ?rest7x0
        case hy7x0 => (intro w hSw; (try dsimp only at hSw); go_simp; (try with_reducible rfl))
        (try simp only [Act.put, List.getElem_toArray, List.getElem_cons_zero, List.setIfInBounds_toArray, List.set_cons_succ, List.set_cons_zero])
        refine wpAnyH_take (i := 1) (oi := _) (v := ?v7x1) rfl (by kernel_rfl) (by kernel_rfl) (by kernel_rfl) (fun _ _ _ h => h) (Or.inl ⟨by kernel_rfl, ?hy7x1⟩) (by with_reducible assumption) ?rest7x1
        case hy7x1 => (intro w hSw; (try dsimp only at hSw); go_simp; (try with_reducible rfl))
        (try simp only [Act.put, List.getElem_toArray, List.getElem_cons_succ, List.getElem_cons_zero, List.setIfInBounds_toArray, List.set_cons_succ, List.set_cons_zero])
        refine wpAnyH_take (i := 2) (oi := _) (v := ?v7x2) rfl (by kernel_rfl) (by kernel_rfl) (by kernel_rfl) (fun _ _ _ h => h) (Or.inl ⟨by kernel_rfl, ?hy7x2⟩) (by with_reducible assumption) ?rest7x2
        case hy7x2 => (intro w hSw; (try dsimp only at hSw); go_simp; (try with_reducible rfl))
        (try simp only [Act.put, List.getElem_toArray, List.getElem_cons_succ, List.getElem_cons_zero, List.setIfInBounds_toArray, List.set_cons_succ, List.set_cons_zero])
        refine wpAnyH_take (i := 3) (oi := _) (v := ?v7x3) rfl (by kernel_rfl) (by kernel_rfl) (by kernel_rfl) (fun _ _ _ h => h) (Or.inl ⟨by kernel_rfl, ?hy7x3⟩) (by with_reducible assumption) ?rest7x3
        case hy7x3 => (intro w hSw; (try dsimp only at hSw); go_simp; (try with_reducible rfl))
        (try simp only [Act.put, List.getElem_toArray, List.getElem_cons_succ, List.getElem_cons_zero, List.setIfInBounds_toArray, List.set_cons_succ, List.set_cons_zero])
        refine wpAnyH_take (i := 4) (oi := _) (v := undef) rfl (by kernel_rfl) (by kernel_rfl) (by kernel_rfl) (fun _ _ _ h => h) (Or.inr ⟨by kernel_rfl, rfl⟩) (by with_reducible assumption) ?rest7x4
        (try simp only [Act.put, List.getElem_toArray, List.getElem_cons_succ, List.getElem_cons_zero, List.setIfInBounds_toArray, List.set_cons_succ, List.set_cons_zero])
        refine wpAnyH_take (i := 5) (oi := _) (v := undef) rfl (by kernel_rfl) (by kernel_rfl) (by kernel_rfl) (fun _ _ _ h => h) (Or.inr ⟨by kernel_rfl, rfl⟩) (by with_reducible assumption) ?rest7x5
        (try simp only [Act.put, List.getElem_toArray, List.getElem_cons_succ, List.getElem_cons_zero, List.setIfInBounds_toArray, List.set_cons_succ, List.set_cons_zero])
        refine wpAnyH_take (i := 6) (oi := _) (v := undef) rfl (by kernel_rfl) (by kernel_rfl) (by kernel_rfl) (fun _ _ _ h => h) (Or.inr ⟨by kernel_rfl, rfl⟩) (by with_reducible assumption) ?rest7x6
        (try simp only [Act.put, List.getElem_toArray, List.getElem_cons_succ, List.getElem_cons_zero, List.setIfInBounds_toArray, List.set_cons_succ, List.set_cons_zero])
        refine wpAnyH_take (i := 7) (oi := _) (v := undef) rfl (by kernel_rfl) (by kernel_rfl) (by kernel_rfl) (fun _ _ _ h => h) (Or.inr ⟨by kernel_rfl, rfl⟩) (by with_reducible assumption) ?rest7x7
        (try simp only [Act.put, List.getElem_toArray, List.getElem_cons_succ, List.getElem_cons_zero, List.setIfInBounds_toArray, List.set_cons_succ, List.set_cons_zero])
        refine wpAnyH_take (i := 8) (oi := _) (v := undef) rfl (by kernel_rfl) (by kernel_rfl) (by kernel_rfl) (fun _ _ _ h => h) (Or.inr ⟨by kernel_rfl, rfl⟩) (by with_reducible assumption) ?rest7x8
        (try simp only [Act.put, List.getElem_toArray, List.getElem_cons_succ, List.getElem_cons_zero, List.setIfInBounds_toArray, List.set_cons_succ, List.set_cons_zero])
        refine wpAnyH_take (i := 9) (oi := _) (v := ?v7x9) rfl (by kernel_rfl) (by kernel_rfl) (by kernel_rfl) (fun _ _ _ h => h) (Or.inl ⟨by kernel_rfl, ?hy7x9⟩) (by with_reducible assumption) ?rest7x9
        case hy7x9 => (intro w hSw; (try dsimp only at hSw); go_simp; (try with_reducible rfl))
        (try simp only [Act.put, List.getElem_toArray, List.getElem_cons_succ, List.getElem_cons_zero, List.setIfInBounds_toArray, List.set_cons_succ, List.set_cons_zero])
        refine wpAnyH_take (i := 10) (oi := _) (v := ?v7x10) rfl (by kernel_rfl) (by kernel_rfl) (by kernel_rfl) (fun _ _ _ h => h) (Or.inl ⟨by kernel_rfl, ?hy7x10⟩) (by with_reducible assumption) ?rest7x10
        case hy7x10 => (intro w hSw; (try dsimp only at hSw); go_simp; (try with_reducible rfl))
        (try simp only [Act.put, List.getElem_toArray, List.getElem_cons_succ, List.getElem_cons_zero, List.setIfInBounds_toArray, List.set_cons_succ, List.set_cons_zero])
        refine wpAnyH_take (i := 11) (oi := _) (v := ?v7x11) rfl (by kernel_rfl) (by kernel_rfl) (by kernel_rfl) (fun _ _ _ h => h) (Or.inl ⟨by kernel_rfl, ?hy7x11⟩) (by with_reducible assumption) ?rest7x11
        case hy7x11 => (intro w hSw; (try dsimp only at hSw); go_simp; (try with_reducible rfl))
        (try simp only [Act.put, List.getElem_toArray, List.getElem_cons_succ, List.getElem_cons_zero, List.setIfInBounds_toArray, List.set_cons_succ, List.set_cons_zero])
        refine wpAnyH_take (i := 12) (oi := _) (v := ?v7x12) rfl (by kernel_rfl) (by kernel_rfl) (by kernel_rfl) (fun _ _ _ h => h) (Or.inl ⟨by kernel_rfl, ?hy7x12⟩) (by with_reducible assumption) ?rest7x12
        case hy7x12 => (intro w hSw; (try dsimp only at hSw); go_simp; (try with_reducible rfl))
        (try simp only [Act.put, List.getElem_toArray, List.getElem_cons_succ, List.getElem_cons_zero, List.setIfInBounds_toArray, List.set_cons_succ, List.set_cons_zero])
        refine wpAnyH_ready (rs := [13]) (by kernel_rfl) (by simp) (AllReadyH.cons (o := _) rfl (fun K hK => ?c7x13) AllReadyH.nil)
        go_simp
        refine (HFR.out _ (HBV.out.trans (hHeld.1.mono HBV.out.size))).mono ?_
        rintro e wf ⟨rfl, hbf⟩
        go_simp
        refine hK.out _ _ (keepR7 hbf hHeld) (fun hHeld2 => ?_)
        clear hHeld
        have hHeld := hHeld2
        clear hK K hHeld2
        (try simp only [Act.put, List.getElem_toArray, List.getElem_cons_succ, List.getElem_cons_zero, List.setIfInBounds_toArray, List.set_cons_succ, List.set_cons_zero])
        refine wpAnyH_take (i := 14) (oi := _) (v := ?v7x14) rfl (by kernel_rfl) (by kernel_rfl) (by kernel_rfl) (fun _ _ _ h => h) (Or.inl ⟨by kernel_rfl, ?hy7x14⟩) (by with_reducible assumption) ?rest7x14
        case hy7x14 => (intro w hSw; (try dsimp only at hSw); go_simp; (try with_reducible rfl))
        (try simp only [Act.put, List.getElem_toArray, List.getElem_cons_succ, List.getElem_cons_zero, List.setIfInBounds_toArray, List.set_cons_succ, List.set_cons_zero])
        refine wpAnyH_take (i := 15) (oi := _) (v := ?v7x15) rfl (by kernel_rfl) (by kernel_rfl) (by kernel_rfl) (fun _ _ _ h => h) (Or.inl ⟨by kernel_rfl, ?hy7x15⟩) (by with_reducible assumption) ?rest7x15
        case hy7x15 => (intro w hSw; (try dsimp only at hSw); go_simp; (try with_reducible rfl))
        (try simp only [Act.put, List.getElem_toArray, List.getElem_cons_succ, List.getElem_cons_zero, List.setIfInBounds_toArray, List.set_cons_succ, List.set_cons_zero])
        refine wpAnyH_done (by kernel_rfl) ?_ _
        have HBZ := Lib.hid (HBV.out.trans (hHeld.1.mono HBV.out.size))
        clear hHeld
        go_wp2_with fail
        go_ret
        exact ⟨ret_bool (by rw [HR.out]), HBZ.out⟩
      · have he : (en == -1) = false := by simpa using h9.1
        have HR := Lib.hid (show R = decide (fromsOk n) by rw [HR6.out]; exact decide_eq_decide.2 ⟨fun h => h.2.2.2, fun h => ⟨h7b, by omega, .inr h9.2, h⟩⟩)
        have HE2 := Lib.hid (by have h := HE.out; simp only [decide_eq_true h9.2] at h; exact h)
        generalize decide (fromsOk n) = fr at *
        clear HR6 HE h7b
        go_wp2_with fail
        refine wp_region_held_drew (S := (fun V => Below wq.heap.size wq V ∧ V.cell? ⟨w.heap.size, 0, none⟩ = some (.int .i64 rd) ∧ V.cell? ⟨w.heap.size, 1, none⟩ = some (.slice pa 0 pc) ∧ V.cell? ⟨w.heap.size, 2, none⟩ = some (.int .i64 ed) ∧ V.cell? ⟨w.heap.size, 3, none⟩ = some (.int .i64 sz) ∧ V.cell? ⟨w.heap.size, 4, none⟩ = some (.int .i64 cp) ∧ V.cell? ⟨w.heap.size, 5, none⟩ = some (.int .i64 en) ∧ V.cell? ⟨w.heap.size, 6, none⟩ = some (.slice fa fl fc))) (by kernel_rfl) (⟨(Below.refl _ _).drew, c0, c1, c2, c3, c4, c5, c6⟩) (fun hHeld => ?_)
        refine wpAnyH_take (i := 0) (oi := _) (v := ?v8x0) rfl (by kernel_rfl) (by kernel_rfl) (by kernel_rfl) (fun _ _ _ h => h) (Or.inl ⟨by kernel_rfl, ?hy8x0⟩) (by with_reducible assumption) ?rest8x0
        case hy8x0 => (intro w hSw; (try dsimp only at hSw); go_simp; (try with_reducible rfl))
        (try simp only [Act.put, List.getElem_toArray, List.getElem_cons_zero, List.setIfInBounds_toArray, List.set_cons_succ, List.set_cons_zero])
        refine wpAnyH_take (i := 1) (oi := _) (v := ?v8x1) rfl (by kernel_rfl) (by kernel_rfl) (by kernel_rfl) (fun _ _ _ h => h) (Or.inl ⟨by kernel_rfl, ?hy8x1⟩) (by with_reducible assumption) ?rest8x1
        case hy8x1 => (intro w hSw; (try dsimp only at hSw); go_simp; (try with_reducible rfl))
        (try simp only [Act.put, List.getElem_toArray, List.getElem_cons_succ, List.getElem_cons_zero, List.setIfInBounds_toArray, List.set_cons_succ, List.set_cons_zero])
        refine wpAnyH_take (i := 2) (oi := _) (v := ?v8x2) rfl (by kernel_rfl) (by kernel_rfl) (by kernel_rfl) (fun _ _ _ h => h) (Or.inl ⟨by kernel_rfl, ?hy8x2⟩) (by with_reducible assumption) ?rest8x2
        case hy8x2 => (intro w hSw; (try dsimp only at hSw); go_simp; (try with_reducible rfl))
        (try simp only [Act.put, List.getElem_toArray, List.getElem_cons_succ, List.getElem_cons_zero, List.setIfInBounds_toArray, List.set_cons_succ, List.set_cons_zero])
        refine wpAnyH_take (i := 3) (oi := _) (v := ?v8x3) rfl (by kernel_rfl) (by kernel_rfl) (by kernel_rfl) (fun _ _ _ h => h) (Or.inl ⟨by kernel_rfl, ?hy8x3⟩) (by with_reducible assumption) ?rest8x3
        case hy8x3 => (intro w hSw; (try dsimp only at hSw); go_simp; (try with_reducible rfl))
        (try simp only [Act.put, List.getElem_toArray, List.getElem_cons_succ, List.getElem_cons_zero, List.setIfInBounds_toArray, List.set_cons_succ, List.set_cons_zero])
        refine wpAnyH_take (i := 4) (oi := _) (v := ?v8x4) rfl (by kernel_rfl) (by kernel_rfl) (by kernel_rfl) (fun _ _ _ h => h) (Or.inl ⟨by kernel_rfl, ?hy8x4⟩) (by with_reducible assumption) ?rest8x4
        case hy8x4 => (intro w hSw; (try dsimp only at hSw); go_simp; (try with_reducible rfl))
        (try simp only [Act.put, List.getElem_toArray, List.getElem_cons_succ, List.getElem_cons_zero, List.setIfInBounds_toArray, List.set_cons_succ, List.set_cons_zero])
        refine wpAnyH_take (i := 5) (oi := _) (v := ?v8x5) rfl (by kernel_rfl) (by kernel_rfl) (by kernel_rfl) (fun _ _ _ h => h) (Or.inl ⟨by kernel_rfl, ?hy8x5⟩) (by with_reducible assumption) ?rest8x5
        case hy8x5 => (intro w hSw; (try dsimp only at hSw); go_simp; (try with_reducible rfl))
        (try simp only [Act.put, List.getElem_toArray, List.getElem_cons_succ, List.getElem_cons_zero, List.setIfInBounds_toArray, List.set_cons_succ, List.set_cons_zero])
        refine wpAnyH_take (i := 6) (oi := _) (v := ?v8x6) rfl (by kernel_rfl) (by kernel_rfl) (by kernel_rfl) (fun _ _ _ h => h) (Or.inl ⟨by kernel_rfl, ?hy8x6⟩) (by with_reducible assumption) ?rest8x6
        case hy8x6 => (intro w hSw; (try dsimp only at hSw); go_simp; (try with_reducible rfl))
        (try simp only [Act.put, List.getElem_toArray, List.getElem_cons_succ, List.getElem_cons_zero, List.setIfInBounds_toArray, List.set_cons_succ, List.set_cons_zero])
        refine wpAnyH_ready (rs := [7]) (by kernel_rfl) (by simp) (AllReadyH.cons (o := _) rfl (fun K hK => ?c8x7) AllReadyH.nil)
        go_simp
        refine (HL.out _ (HBV.out.trans (hHeld.1.mono HBV.out.size))).mono ?_
        rintro e wl ⟨rfl, hbl⟩
        go_simp
        refine hK.out _ _ (keepR7 hbl hHeld) (fun hHeld2 => ?_)
        clear hHeld
        have hHeld := hHeld2
        clear hK K hHeld2
        (try simp only [Act.put, List.getElem_toArray, List.getElem_cons_succ, List.getElem_cons_zero, List.setIfInBounds_toArray, List.set_cons_succ, List.set_cons_zero])
        refine wpAnyH_ready (rs := [8]) (by kernel_rfl) (by simp) (AllReadyH.cons (o := _) rfl (fun K hK => ?c8x8) AllReadyH.nil)
        go_simp
        refine (HE2.out _).mono ?_
        rintro e wi ⟨rfl, rfl⟩
        go_simp
        refine hK.out _ _ (hHeld) (fun hHeld2 => ?_)
        clear hHeld
        have hHeld := hHeld2
        clear hK K hHeld2
        (try simp only [Act.put, List.getElem_toArray, List.getElem_cons_succ, List.getElem_cons_zero, List.setIfInBounds_toArray, List.set_cons_succ, List.set_cons_zero])
        refine wpAnyH_take (i := 9) (oi := _) (v := ?v8x9) rfl (by kernel_rfl) (by kernel_rfl) (by kernel_rfl) (fun _ _ _ h => h) (Or.inl ⟨by kernel_rfl, ?hy8x9⟩) (by with_reducible assumption) ?rest8x9
        case hy8x9 => (intro w hSw; (try dsimp only at hSw); go_simp; (try with_reducible rfl))
        (try simp only [Act.put, List.getElem_toArray, List.getElem_cons_succ, List.getElem_cons_zero, List.setIfInBounds_toArray, List.set_cons_succ, List.set_cons_zero])
        refine wpAnyH_take (i := 10) (oi := _) (v := ?v8x10) rfl (by kernel_rfl) (by kernel_rfl) (by kernel_rfl) (fun _ _ _ h => h) (Or.inl ⟨by kernel_rfl, ?hy8x10⟩) (by with_reducible assumption) ?rest8x10
        case hy8x10 => (intro w hSw; (try dsimp only at hSw); go_simp; (try with_reducible rfl))
        (try simp only [Act.put, List.getElem_toArray, List.getElem_cons_succ, List.getElem_cons_zero, List.setIfInBounds_toArray, List.set_cons_succ, List.set_cons_zero])
        refine wpAnyH_take (i := 11) (oi := _) (v := ?v8x11) rfl (by kernel_rfl) (by kernel_rfl) (by kernel_rfl) (fun _ _ _ h => h) (Or.inl ⟨by kernel_rfl, ?hy8x11⟩) (by with_reducible assumption) ?rest8x11
        case hy8x11 => (intro w hSw; (try dsimp only at hSw); go_simp; (try with_reducible rfl))
        (try simp only [Act.put, List.getElem_toArray, List.getElem_cons_succ, List.getElem_cons_zero, List.setIfInBounds_toArray, List.set_cons_succ, List.set_cons_zero])
        refine wpAnyH_take (i := 12) (oi := _) (v := ?v8x12) rfl (by kernel_rfl) (by kernel_rfl) (by kernel_rfl) (fun _ _ _ h => h) (Or.inl ⟨by kernel_rfl, ?hy8x12⟩) (by with_reducible assumption) ?rest8x12
        case hy8x12 => (intro w hSw; (try dsimp only at hSw); go_simp; (try with_reducible rfl))
        (try simp only [Act.put, List.getElem_toArray, List.getElem_cons_succ, List.getElem_cons_zero, List.setIfInBounds_toArray, List.set_cons_succ, List.set_cons_zero])
        refine wpAnyH_ready (rs := [13]) (by kernel_rfl) (by simp) (AllReadyH.cons (o := _) rfl (fun K hK => ?c8x13) AllReadyH.nil)
        go_simp
        refine (HFR.out _ (HBV.out.trans (hHeld.1.mono HBV.out.size))).mono ?_
        rintro e wf ⟨rfl, hbf⟩
        go_simp
        refine hK.out _ _ (keepR7 hbf hHeld) (fun hHeld2 => ?_)
        clear hHeld
        have hHeld := hHeld2
        clear hK K hHeld2
        (try simp only [Act.put, List.getElem_toArray, List.getElem_cons_succ, List.getElem_cons_zero, List.setIfInBounds_toArray, List.set_cons_succ, List.set_cons_zero])
        refine wpAnyH_take (i := 14) (oi := _) (v := ?v8x14) rfl (by kernel_rfl) (by kernel_rfl) (by kernel_rfl) (fun _ _ _ h => h) (Or.inl ⟨by kernel_rfl, ?hy8x14⟩) (by with_reducible assumption) ?rest8x14
        case hy8x14 => (intro w hSw; (try dsimp only at hSw); go_simp; (try with_reducible rfl))
        (try simp only [Act.put, List.getElem_toArray, List.getElem_cons_succ, List.getElem_cons_zero, List.setIfInBounds_toArray, List.set_cons_succ, List.set_cons_zero])
        refine wpAnyH_take (i := 15) (oi := _) (v := ?v8x15) rfl (by kernel_rfl) (by kernel_rfl) (by kernel_rfl) (fun _ _ _ h => h) (Or.inl ⟨by kernel_rfl, ?hy8x15⟩) (by with_reducible assumption) ?rest8x15
        case hy8x15 => (intro w hSw; (try dsimp only at hSw); go_simp; (try with_reducible rfl))
        (try simp only [Act.put, List.getElem_toArray, List.getElem_cons_succ, List.getElem_cons_zero, List.setIfInBounds_toArray, List.set_cons_succ, List.set_cons_zero])
        refine wpAnyH_done (by kernel_rfl) ?_ _
        have HBZ := Lib.hid (HBV.out.trans (hHeld.1.mono HBV.out.size))
        clear hHeld
        go_wp2_with fail
        go_ret
        exact ⟨ret_bool (by rw [HR.out]), HBZ.out⟩
      · have he : (en == -1) = false := by simpa using h9.1
        have HR := Lib.hid (show R = false by rw [HR6.out]; exact decide_eq_false (fun h => h.2.2.1.elim h9.1 h9.2))
        have HE2 := Lib.hid (by have h := HE.out; simp only [decide_eq_false h9.2] at h; exact h)
        generalize decide (fromsOk n) = fr at *
        clear HR6 HE h7b
        go_wp2_with fail
        refine wp_region_held_drew (S := (fun V => Below wq.heap.size wq V ∧ V.cell? ⟨w.heap.size, 0, none⟩ = some (.int .i64 rd) ∧ V.cell? ⟨w.heap.size, 1, none⟩ = some (.slice pa 0 pc) ∧ V.cell? ⟨w.heap.size, 2, none⟩ = some (.int .i64 ed) ∧ V.cell? ⟨w.heap.size, 3, none⟩ = some (.int .i64 sz) ∧ V.cell? ⟨w.heap.size, 4, none⟩ = some (.int .i64 cp) ∧ V.cell? ⟨w.heap.size, 5, none⟩ = some (.int .i64 en) ∧ V.cell? ⟨w.heap.size, 6, none⟩ = some (.slice fa fl fc))) (by kernel_rfl) (⟨(Below.refl _ _).drew, c0, c1, c2, c3, c4, c5, c6⟩) (fun hHeld => ?_)
        refine wpAnyH_take (i := 0) (oi := _) (v := ?v9x0) rfl (by kernel_rfl) (by kernel_rfl) (by kernel_rfl) (fun _ _ _ h => h) (Or.inl ⟨by kernel_rfl, ?hy9x0⟩) (by with_reducible assumption) ?rest9x0
        case hy9x0 => (intro w hSw; (try dsimp only at hSw); go_simp; (try with_reducible rfl))
        (try simp only [Act.put, List.getElem_toArray, List.getElem_cons_zero, List.setIfInBounds_toArray, List.set_cons_succ, List.set_cons_zero])
        refine wpAnyH_take (i := 1) (oi := _) (v := ?v9x1) rfl (by kernel_rfl) (by kernel_rfl) (by kernel_rfl) (fun _ _ _ h => h) (Or.inl ⟨by kernel_rfl, ?hy9x1⟩) (by with_reducible assumption) ?rest9x1
        case hy9x1 => (intro w hSw; (try dsimp only at hSw); go_simp; (try with_reducible rfl))
        (try simp only [Act.put, List.getElem_toArray, List.getElem_cons_succ, List.getElem_cons_zero, List.setIfInBounds_toArray, List.set_cons_succ, List.set_cons_zero])
        refine wpAnyH_take (i := 2) (oi := _) (v := ?v9x2) rfl (by kernel_rfl) (by kernel_rfl) (by kernel_rfl) (fun _ _ _ h => h) (Or.inl ⟨by kernel_rfl, ?hy9x2⟩) (by with_reducible assumption) ?rest9x2
        case hy9x2 => (intro w hSw; (try dsimp only at hSw); go_simp; (try with_reducible rfl))
        (try simp only [Act.put, List.getElem_toArray, List.getElem_cons_succ, List.getElem_cons_zero, List.setIfInBounds_toArray, List.set_cons_succ, List.set_cons_zero])
        refine wpAnyH_take (i := 3) (oi := _) (v := ?v9x3) rfl (by kernel_rfl) (by kernel_rfl) (by kernel_rfl) (fun _ _ _ h => h) (Or.inl ⟨by kernel_rfl, ?hy9x3⟩) (by with_reducible assumption) ?rest9x3
        case hy9x3 => (intro w hSw; (try dsimp only at hSw); go_simp; (try with_reducible rfl))
        (try simp only [Act.put, List.getElem_toArray, List.getElem_cons_succ, List.getElem_cons_zero, List.setIfInBounds_toArray, List.set_cons_succ, List.set_cons_zero])
        refine wpAnyH_take (i := 4) (oi := _) (v := ?v9x4) rfl (by kernel_rfl) (by kernel_rfl) (by kernel_rfl) (fun _ _ _ h => h) (Or.inl ⟨by kernel_rfl, ?hy9x4⟩) (by with_reducible assumption) ?rest9x4
        case hy9x4 => (intro w hSw; (try dsimp only at hSw); go_simp; (try with_reducible rfl))
        (try simp only [Act.put, List.getElem_toArray, List.getElem_cons_succ, List.getElem_cons_zero, List.setIfInBounds_toArray, List.set_cons_succ, List.set_cons_zero])
        refine wpAnyH_take (i := 5) (oi := _) (v := ?v9x5) rfl (by kernel_rfl) (by kernel_rfl) (by kernel_rfl) (fun _ _ _ h => h) (Or.inl ⟨by kernel_rfl, ?hy9x5⟩) (by with_reducible assumption) ?rest9x5
        case hy9x5 => (intro w hSw; (try dsimp only at hSw); go_simp; (try with_reducible rfl))
        (try simp only [Act.put, List.getElem_toArray, List.getElem_cons_succ, List.getElem_cons_zero, List.setIfInBounds_toArray, List.set_cons_succ, List.set_cons_zero])
        refine wpAnyH_take (i := 6) (oi := _) (v := ?v9x6) rfl (by kernel_rfl) (by kernel_rfl) (by kernel_rfl) (fun _ _ _ h => h) (Or.inl ⟨by kernel_rfl, ?hy9x6⟩) (by with_reducible assumption) ?rest9x6
        case hy9x6 => (intro w hSw; (try dsimp only at hSw); go_simp; (try with_reducible rfl))
        (try simp only [Act.put, List.getElem_toArray, List.getElem_cons_succ, List.getElem_cons_zero, List.setIfInBounds_toArray, List.set_cons_succ, List.set_cons_zero])
        refine wpAnyH_ready (rs := [7]) (by kernel_rfl) (by simp) (AllReadyH.cons (o := _) rfl (fun K hK => ?c9x7) AllReadyH.nil)
        go_simp
        refine (HL.out _ (HBV.out.trans (hHeld.1.mono HBV.out.size))).mono ?_
        rintro e wl ⟨rfl, hbl⟩
        go_simp
        refine hK.out _ _ (keepR7 hbl hHeld) (fun hHeld2 => ?_)
        clear hHeld
        have hHeld := hHeld2
        clear hK K hHeld2
        (try simp only [Act.put, List.getElem_toArray, List.getElem_cons_succ, List.getElem_cons_zero, List.setIfInBounds_toArray, List.set_cons_succ, List.set_cons_zero])
        refine wpAnyH_ready (rs := [8]) (by kernel_rfl) (by simp) (AllReadyH.cons (o := _) rfl (fun K hK => ?c9x8) AllReadyH.nil)
        go_simp
        refine (HE2.out _).mono ?_
        rintro e wi ⟨rfl, rfl⟩
        go_simp
        refine hK.out _ _ (hHeld) (fun hHeld2 => ?_)
        clear hHeld
        have hHeld := hHeld2
        clear hK K hHeld2
        (try simp only [Act.put, List.getElem_toArray, List.getElem_cons_succ, List.getElem_cons_zero, List.setIfInBounds_toArray, List.set_cons_succ, List.set_cons_zero])
        refine wpAnyH_take (i := 9) (oi := _) (v := ?v9x9) rfl (by kernel_rfl) (by kernel_rfl) (by kernel_rfl) (fun _ _ _ h => h) (Or.inl ⟨by kernel_rfl, ?hy9x9⟩) (by with_reducible assumption) ?rest9x9
        case hy9x9 => (intro w hSw; (try dsimp only at hSw); go_simp; (try with_reducible rfl))
        (try simp only [Act.put, List.getElem_toArray, List.getElem_cons_succ, List.getElem_cons_zero, List.setIfInBounds_toArray, List.set_cons_succ, List.set_cons_zero])
        refine wpAnyH_take (i := 10) (oi := _) (v := ?v9x10) rfl (by kernel_rfl) (by kernel_rfl) (by kernel_rfl) (fun _ _ _ h => h) (Or.inl ⟨by kernel_rfl, ?hy9x10⟩) (by with_reducible assumption) ?rest9x10
        case hy9x10 => (intro w hSw; (try dsimp only at hSw); go_simp; (try with_reducible rfl))
        (try simp only [Act.put, List.getElem_toArray, List.getElem_cons_succ, List.getElem_cons_zero, List.setIfInBounds_toArray, List.set_cons_succ, List.set_cons_zero])
        refine wpAnyH_take (i := 11) (oi := _) (v := undef) rfl (by kernel_rfl) (by kernel_rfl) (by kernel_rfl) (fun _ _ _ h => h) (Or.inr ⟨by kernel_rfl, rfl⟩) (by with_reducible assumption) ?rest9x11
        (try simp only [Act.put, List.getElem_toArray, List.getElem_cons_succ, List.getElem_cons_zero, List.setIfInBounds_toArray, List.set_cons_succ, List.set_cons_zero])
        refine wpAnyH_take (i := 12) (oi := _) (v := undef) rfl (by kernel_rfl) (by kernel_rfl) (by kernel_rfl) (fun _ _ _ h => h) (Or.inr ⟨by kernel_rfl, rfl⟩) (by with_reducible assumption) ?rest9x12
        (try simp only [Act.put, List.getElem_toArray, List.getElem_cons_succ, List.getElem_cons_zero, List.setIfInBounds_toArray, List.set_cons_succ, List.set_cons_zero])
        refine wpAnyH_take (i := 13) (oi := _) (v := undef) rfl (by kernel_rfl) (by kernel_rfl) (by kernel_rfl) (fun _ _ _ h => h) (Or.inr ⟨by kernel_rfl, rfl⟩) (by with_reducible assumption) ?rest9x13
        (try simp only [Act.put, List.getElem_toArray, List.getElem_cons_succ, List.getElem_cons_zero, List.setIfInBounds_toArray, List.set_cons_succ, List.set_cons_zero])
        refine wpAnyH_take (i := 14) (oi := _) (v := ?v9x14) rfl (by kernel_rfl) (by kernel_rfl) (by kernel_rfl) (fun _ _ _ h => h) (Or.inl ⟨by kernel_rfl, ?hy9x14⟩) (by with_reducible assumption) ?rest9x14
        case hy9x14 => (intro w hSw; (try dsimp only at hSw); go_simp; (try with_reducible rfl))
        (try simp only [Act.put, List.getElem_toArray, List.getElem_cons_succ, List.getElem_cons_zero, List.setIfInBounds_toArray, List.set_cons_succ, List.set_cons_zero])
        refine wpAnyH_take (i := 15) (oi := _) (v := ?v9x15) rfl (by kernel_rfl) (by kernel_rfl) (by kernel_rfl) (fun _ _ _ h => h) (Or.inl ⟨by kernel_rfl, ?hy9x15⟩) (by with_reducible assumption) ?rest9x15
        case hy9x15 => (intro w hSw; (try dsimp only at hSw); go_simp; (try with_reducible rfl))
        (try simp only [Act.put, List.getElem_toArray, List.getElem_cons_succ, List.getElem_cons_zero, List.setIfInBounds_toArray, List.set_cons_succ, List.set_cons_zero])
        refine wpAnyH_done (by kernel_rfl) ?_ _
        have HBZ := Lib.hid (HBV.out.trans (hHeld.1.mono HBV.out.size))
        clear hHeld
        go_wp2_with fail
        go_ret
        exact ⟨ret_bool (by rw [HR.out]), HBZ.out⟩
    · have hg : decide (ed < last) = true := by simp; omega
      have HR := Lib.hid (show R = false by rw [HR6.out]; exact decide_eq_false (fun h => h8 h.2.1))
      unfold rcvV
      go_enter Tryz.func23, Tryz.ntmps23
      go_wp2_with fail
      have n1 := box_new w [.int .i64 rd, .slice pa 0 pc, .int .i64 ed, .int .i64 sz, .int .i64 cp, .int .i64 en, .slice fa fl fc] 26 (by simp)
      have hb0 : Below w.heap.size w (w.alloc (.cells #[.int .i64 rd, .slice pa 0 pc, .int .i64 ed, .int .i64 sz, .int .i64 cp, .int .i64 en, .slice fa fl fc] 26)) := (Below.refl _ _).alloc (Nat.le_refl _) _
      generalize w.alloc (.cells #[.int .i64 rd, .slice pa 0 pc, .int .i64 ed, .int .i64 sz, .int .i64 cp, .int .i64 en, .slice fa fl fc] 26) = W at *
      obtain ⟨c0, c1, c2, c3, c4, c5, c6⟩ := n1.seven
      have HB0 := Lib.hid hb0
      clear hb0
      (with_reducible refine (HT0.out _).mono ?_); rintro e w10 ⟨rfl, rfl⟩
      go_wp2_with fail
      (with_reducible refine (HT1.out _).mono ?_); rintro e w11 ⟨rfl, rfl⟩
      go_wp2_with fail
      (with_reducible refine (HT2.out _).mono ?_); rintro e w12 ⟨rfl, rfl⟩
      go_wp2_with fail
      (with_reducible refine (HT3.out _).mono ?_); rintro e w13 ⟨rfl, rfl⟩
      go_wp2_with fail
      (with_reducible refine (HT4.out _ HB0.out).mono ?_); rintro e w1 ⟨rfl, hb1⟩
      clear c0 c1 c2 c3 c4 c5 c6
      obtain ⟨c0, c1, c2, c3, c4, c5, c6⟩ := (n1.below hb1).seven
      have HB1 := Lib.hid (HB0.out.trans (hb1.mono HB0.out.size))
      clear hb1 n1
      go_wp2_with fail
      (with_reducible refine (HT5.out _).mono ?_); rintro e wv ⟨rfl, rfl⟩
      clear HT0 HT1 HT2 HT3 HT4 HT5
      go_wp2_with fail
      refine wp_region_held_drew (S := (fun V => Below wv.heap.size wv V ∧ V.cell? ⟨w.heap.size, 0, none⟩ = some (.int .i64 rd) ∧ V.cell? ⟨w.heap.size, 1, none⟩ = some (.slice pa 0 pc) ∧ V.cell? ⟨w.heap.size, 2, none⟩ = some (.int .i64 ed) ∧ V.cell? ⟨w.heap.size, 3, none⟩ = some (.int .i64 sz) ∧ V.cell? ⟨w.heap.size, 4, none⟩ = some (.int .i64 cp) ∧ V.cell? ⟨w.heap.size, 5, none⟩ = some (.int .i64 en) ∧ V.cell? ⟨w.heap.size, 6, none⟩ = some (.slice fa fl fc))) (by kernel_rfl) (⟨(Below.refl _ _).drew, c0, c1, c2, c3, c4, c5, c6⟩) (fun hHeld => ?_)
      refine wpAnyH_take (i := 0) (oi := _) (v := ?v10x0) rfl (by kernel_rfl) (by kernel_rfl) (by kernel_rfl) (fun _ _ _ h => h) (Or.inl ⟨by kernel_rfl, ?hy10x0⟩) (by with_reducible assumption) ?rest10x0
      case hy10x0 => (intro w hSw; (try dsimp only at hSw); go_simp; (try with_reducible rfl))
      (try simp only [Act.put, List.getElem_toArray, List.getElem_cons_zero, List.setIfInBounds_toArray, List.set_cons_succ, List.set_cons_zero])
      refine wpAnyH_take (i := 1) (oi := _) (v := ?v10x1) rfl (by kernel_rfl) (by kernel_rfl) (by kernel_rfl) (fun _ _ _ h => h) (Or.inl ⟨by kernel_rfl, ?hy10x1⟩) (by with_reducible assumption) ?rest10x1
      case hy10x1 => (intro w hSw; (try dsimp only at hSw); go_simp; (try with_reducible rfl))
      (try simp only [Act.put, List.getElem_toArray, List.getElem_cons_succ, List.getElem_cons_zero, List.setIfInBounds_toArray, List.set_cons_succ, List.set_cons_zero])
      refine wpAnyH_take (i := 2) (oi := _) (v := ?v10x2) rfl (by kernel_rfl) (by kernel_rfl) (by kernel_rfl) (fun _ _ _ h => h) (Or.inl ⟨by kernel_rfl, ?hy10x2⟩) (by with_reducible assumption) ?rest10x2
      case hy10x2 => (intro w hSw; (try dsimp only at hSw); go_simp; (try with_reducible rfl))
      (try simp only [Act.put, List.getElem_toArray, List.getElem_cons_succ, List.getElem_cons_zero, List.setIfInBounds_toArray, List.set_cons_succ, List.set_cons_zero])
      refine wpAnyH_take (i := 3) (oi := _) (v := ?v10x3) rfl (by kernel_rfl) (by kernel_rfl) (by kernel_rfl) (fun _ _ _ h => h) (Or.inl ⟨by kernel_rfl, ?hy10x3⟩) (by with_reducible assumption) ?rest10x3
      case hy10x3 => (intro w hSw; (try dsimp only at hSw); go_simp; (try with_reducible rfl))
      (try simp only [Act.put, List.getElem_toArray, List.getElem_cons_succ, List.getElem_cons_zero, List.setIfInBounds_toArray, List.set_cons_succ, List.set_cons_zero])
      refine wpAnyH_take (i := 4) (oi := _) (v := ?v10x4) rfl (by kernel_rfl) (by kernel_rfl) (by kernel_rfl) (fun _ _ _ h => h) (Or.inl ⟨by kernel_rfl, ?hy10x4⟩) (by with_reducible assumption) ?rest10x4
      case hy10x4 => (intro w hSw; (try dsimp only at hSw); go_simp; (try with_reducible rfl))
      (try simp only [Act.put, List.getElem_toArray, List.getElem_cons_succ, List.getElem_cons_zero, List.setIfInBounds_toArray, List.set_cons_succ, List.set_cons_zero])
      refine wpAnyH_take (i := 5) (oi := _) (v := undef) rfl (by kernel_rfl) (by kernel_rfl) (by kernel_rfl) (fun _ _ _ h => h) (Or.inr ⟨by kernel_rfl, rfl⟩) (by with_reducible assumption) ?rest10x5
      (try simp only [Act.put, List.getElem_toArray, List.getElem_cons_succ, List.getElem_cons_zero, List.setIfInBounds_toArray, List.set_cons_succ, List.set_cons_zero])
      refine wpAnyH_take (i := 6) (oi := _) (v := undef) rfl (by kernel_rfl) (by kernel_rfl) (by kernel_rfl) (fun _ _ _ h => h) (Or.inr ⟨by kernel_rfl, rfl⟩) (by with_reducible assumption) ?rest10x6
      (try simp only [Act.put, List.getElem_toArray, List.getElem_cons_succ, List.getElem_cons_zero, List.setIfInBounds_toArray, List.set_cons_succ, List.set_cons_zero])
      refine wpAnyH_take (i := 7) (oi := _) (v := undef) rfl (by kernel_rfl) (by kernel_rfl) (by kernel_rfl) (fun _ _ _ h => h) (Or.inr ⟨by kernel_rfl, rfl⟩) (by with_reducible assumption) ?rest10x7
      (try simp only [Act.put, List.getElem_toArray, List.getElem_cons_succ, List.getElem_cons_zero, List.setIfInBounds_toArray, List.set_cons_succ, List.set_cons_zero])
      refine wpAnyH_take (i := 8) (oi := _) (v := undef) rfl (by kernel_rfl) (by kernel_rfl) (by kernel_rfl) (fun _ _ _ h => h) (Or.inr ⟨by kernel_rfl, rfl⟩) (by with_reducible assumption) ?rest10x8
      (try simp only [Act.put, List.getElem_toArray, List.getElem_cons_succ, List.getElem_cons_zero, List.setIfInBounds_toArray, List.set_cons_succ, List.set_cons_zero])
      refine wpAnyH_take (i := 9) (oi := _) (v := undef) rfl (by kernel_rfl) (by kernel_rfl) (by kernel_rfl) (fun _ _ _ h => h) (Or.inr ⟨by kernel_rfl, rfl⟩) (by with_reducible assumption) ?rest10x9
      (try simp only [Act.put, List.getElem_toArray, List.getElem_cons_succ, List.getElem_cons_zero, List.setIfInBounds_toArray, List.set_cons_succ, List.set_cons_zero])
      refine wpAnyH_take (i := 10) (oi := _) (v := undef) rfl (by kernel_rfl) (by kernel_rfl) (by kernel_rfl) (fun _ _ _ h => h) (Or.inr ⟨by kernel_rfl, rfl⟩) (by with_reducible assumption) ?rest10x10
      (try simp only [Act.put, List.getElem_toArray, List.getElem_cons_succ, List.getElem_cons_zero, List.setIfInBounds_toArray, List.set_cons_succ, List.set_cons_zero])
      refine wpAnyH_take (i := 11) (oi := _) (v := undef) rfl (by kernel_rfl) (by kernel_rfl) (by kernel_rfl) (fun _ _ _ h => h) (Or.inr ⟨by kernel_rfl, rfl⟩) (by with_reducible assumption) ?rest10x11
      (try simp only [Act.put, List.getElem_toArray, List.getElem_cons_succ, List.getElem_cons_zero, List.setIfInBounds_toArray, List.set_cons_succ, List.set_cons_zero])
      refine wpAnyH_take (i := 12) (oi := _) (v := undef) rfl (by kernel_rfl) (by kernel_rfl) (by kernel_rfl) (fun _ _ _ h => h) (Or.inr ⟨by kernel_rfl, rfl⟩) (by with_reducible assumption) ?rest10x12
      (try simp only [Act.put, List.getElem_toArray, List.getElem_cons_succ, List.getElem_cons_zero, List.setIfInBounds_toArray, List.set_cons_succ, List.set_cons_zero])
      refine wpAnyH_take (i := 13) (oi := _) (v := ?v10x13) rfl (by kernel_rfl) (by kernel_rfl) (by kernel_rfl) (fun _ _ _ h => h) (Or.inl ⟨by kernel_rfl, ?hy10x13⟩) (by with_reducible assumption) ?rest10x13
      case hy10x13 => (intro w hSw; (try dsimp only at hSw); go_simp; (try with_reducible rfl))
      (try simp only [Act.put, List.getElem_toArray, List.getElem_cons_succ, List.getElem_cons_zero, List.setIfInBounds_toArray, List.set_cons_succ, List.set_cons_zero])
      refine wpAnyH_take (i := 14) (oi := _) (v := ?v10x14) rfl (by kernel_rfl) (by kernel_rfl) (by kernel_rfl) (fun _ _ _ h => h) (Or.inl ⟨by kernel_rfl, ?hy10x14⟩) (by with_reducible assumption) ?rest10x14
      case hy10x14 => (intro w hSw; (try dsimp only at hSw); go_simp; (try with_reducible rfl))
      (try simp only [Act.put, List.getElem_toArray, List.getElem_cons_succ, List.getElem_cons_zero, List.setIfInBounds_toArray, List.set_cons_succ, List.set_cons_zero])
      refine wpAnyH_take (i := 15) (oi := _) (v := ?v10x15) rfl (by kernel_rfl) (by kernel_rfl) (by kernel_rfl) (fun _ _ _ h => h) (Or.inl ⟨by kernel_rfl, ?hy10x15⟩) (by with_reducible assumption) ?rest10x15
      case hy10x15 => (intro w hSw; (try dsimp only at hSw); go_simp; (try with_reducible rfl))
      (try simp only [Act.put, List.getElem_toArray, List.getElem_cons_succ, List.getElem_cons_zero, List.setIfInBounds_toArray, List.set_cons_succ, List.set_cons_zero])
      refine wpAnyH_take (i := 17) (oi := _) (v := ?v10x17) rfl (by kernel_rfl) (by kernel_rfl) (by kernel_rfl) (fun _ _ _ h => h) (Or.inl ⟨by kernel_rfl, ?hy10x17⟩) (by with_reducible assumption) ?rest10x17
      case hy10x17 => (intro w hSw; (try dsimp only at hSw); go_simp; (try with_reducible rfl))
      (try simp only [Act.put, List.getElem_toArray, List.getElem_cons_succ, List.getElem_cons_zero, List.setIfInBounds_toArray, List.set_cons_succ, List.set_cons_zero])
      refine wpAnyH_take (i := 18) (oi := _) (v := ?v10x18) rfl (by kernel_rfl) (by kernel_rfl) (by kernel_rfl) (fun _ _ _ h => h) (Or.inl ⟨by kernel_rfl, ?hy10x18⟩) (by with_reducible assumption) ?rest10x18
      case hy10x18 => (intro w hSw; (try dsimp only at hSw); go_simp; (try with_reducible rfl))
      (try simp only [Act.put, List.getElem_toArray, List.getElem_cons_succ, List.getElem_cons_zero, List.setIfInBounds_toArray, List.set_cons_succ, List.set_cons_zero])
      refine wpAnyH_ready (rs := [16]) (by kernel_rfl) (by simp) (AllReadyH.cons (o := _) rfl (fun K hK => ?c10x16) AllReadyH.nil)
      go_simp
      refine (HL.out _ (HB1.out.trans (hHeld.1.mono HB1.out.size))).mono ?_
      rintro e wq ⟨rfl, hbq⟩
      go_simp
      refine hK.out _ _ (keepR7 hbq hHeld) (fun hHeld2 => ?_)
      clear hHeld
      have hHeld := hHeld2
      clear hK K hHeld2
      (try simp only [Act.put, List.getElem_toArray, List.getElem_cons_succ, List.getElem_cons_zero, List.setIfInBounds_toArray, List.set_cons_succ, List.set_cons_zero])
      refine wpAnyH_take (i := 19) (oi := _) (v := ?v10x19) rfl (by kernel_rfl) (by kernel_rfl) (by kernel_rfl) (fun _ _ _ h => h) (Or.inl ⟨by kernel_rfl, ?hy10x19⟩) (by with_reducible assumption) ?rest10x19
      case hy10x19 => (intro w hSw; (try dsimp only at hSw); go_simp; (try with_reducible rfl))
      (try simp only [Act.put, List.getElem_toArray, List.getElem_cons_succ, List.getElem_cons_zero, List.setIfInBounds_toArray, List.set_cons_succ, List.set_cons_zero])
      refine wpAnyH_take (i := 20) (oi := _) (v := ?v10x20) rfl (by kernel_rfl) (by kernel_rfl) (by kernel_rfl) (fun _ _ _ h => h) (Or.inl ⟨by kernel_rfl, ?hy10x20⟩) (by with_reducible assumption) ?rest10x20
      case hy10x20 => (intro w hSw; (try dsimp only at hSw); go_simp; (try with_reducible rfl))
      (try simp only [Act.put, List.getElem_toArray, List.getElem_cons_succ, List.getElem_cons_zero, List.setIfInBounds_toArray, List.set_cons_succ, List.set_cons_zero])
      refine wpAnyH_done (by kernel_rfl) ?_ _
      have HBZ := Lib.hid (HB1.out.trans (hHeld.1.mono HB1.out.size))
      go_wp2_with fail
      go_ret
      exact ⟨ret_bool (by rw [HR.out]), HBZ.out⟩
end Go.Proofs.YtdcahilfmhkmiaaGreatDoor
