/- The program's readers: their pieces, all that is right of them; RcvRight. -/
import Derived.Test.YtdcahilfmhkmiaaGreatDoorRcvB
import Derived.Test.YtdcahilfmhkmiaaGreatDoorRcvR
namespace Go.Proofs.YtdcahilfmhkmiaaGreatDoor
open Go.RowKit

/-- The first k pieces lie in the room. -/
def covTo (rd ed : Int) (ps : List Pc) (k : Nat) : Prop := ∀ i, i < k → rd ≤ (pcAt ps i).1 ∧ pcEnd (pcAt ps i) ≤ ed
def covOk (rd ed : Int) (ps : List Pc) : Prop := covTo rd ed ps ps.length
instance (rd ed : Int) (ps : List Pc) : Decidable (covOk rd ed ps) := by unfold covOk covTo; infer_instance
theorem covTo_succ {rd ed : Int} {ps : List Pc} {k : Nat} (h : covTo rd ed ps k) (h1 : rd ≤ (pcAt ps k).1 ∧ pcEnd (pcAt ps k) ≤ ed) : covTo rd ed ps (k + 1) := fun i hi => by
  by_cases e : i = k
  · subst e; exact h1
  · exact h i (by omega)
theorem rcvOk_iff {rd : Int} {ps : List Pc} {ed sz cp en : Int} {n : Frs} :
    (roomOk rd ed sz cp ∧ (right ps ∧ covOk rd ed ps) ∧ (en = -1 ∨ (lastN rd ps ≤ en ∧ en ≤ 1000000)) ∧ fromsOk n) ↔ rcvOk rd ps ed sz cp en n := by
  constructor
  · rintro ⟨⟨h1, h2, h3, h4, h5, h6, h7⟩, ⟨hr, hc⟩, he, hf⟩
    refine ⟨h4, h5, ⟨by omega, h3⟩, ⟨h1, h2⟩, hr, ⟨h6, h7⟩, fun hp => (hc 0 hp).1, ?_, he, hf⟩
    unfold lastN
    split
    · exact h6
    · exact (hc (ps.length - 1) (by omega)).2
  · rintro ⟨h4, h5, ⟨-, h3⟩, ⟨h1, h2⟩, hr, ⟨h6, h7⟩, h0, hl, he, hf⟩
    refine ⟨⟨h1, h2, h3, h4, h5, h6, h7⟩, ⟨hr, fun i hi => ?_⟩, he, hf⟩
    have a1 := right_starts hr i hi
    have a2 := right_ends hr i (ps.length - 1 - i) (by omega)
    have a3 := h0 (by omega)
    rw [show i + (ps.length - 1 - i) = ps.length - 1 by omega] at a2
    unfold lastN at hl
    rw [if_neg (by omega)] at hl
    omega
theorem keepP6 {a w w' : World} {p0 p1 p2 p3 p4 p5 : Addr} {x0 x1 x2 x3 x4 x5 : Value} (hb : Below w.heap.size w w')
    (h : Below a.heap.size a w ∧ w.cell? p0 = some x0 ∧ w.cell? p1 = some x1 ∧ w.cell? p2 = some x2 ∧ w.cell? p3 = some x3 ∧ w.cell? p4 = some x4 ∧ w.cell? p5 = some x5) :
    Below a.heap.size a w' ∧ w'.cell? p0 = some x0 ∧ w'.cell? p1 = some x1 ∧ w'.cell? p2 = some x2 ∧ w'.cell? p3 = some x3 ∧ w'.cell? p4 = some x4 ∧ w'.cell? p5 = some x5 :=
  have c {p : Addr} {x : Value} (h : w.cell? p = some x) : w'.cell? p = some x := (hb.cell (World.block_lt_of_cell? w _ h)).trans h
  ⟨h.1.trans (hb.mono h.1.size), c h.2.1, c h.2.2.1, c h.2.2.2.1, c h.2.2.2.2.1, c h.2.2.2.2.2.1, c h.2.2.2.2.2.2⟩

set_option maxHeartbeats 2000000 in
set_option maxRecDepth 100000 in
theorem piecesRight_calls {rd ed sz cp en : Int} {pa fa : Option Addr} {pl pc fl fc : Nat} {ps : List Pc} {w : World} (hp : InPcs w pa pl ps) :
    Calls Tryz.prog 144 #[readerV rd ed sz cp pa pl pc en fa fl fc] w fun e w' => e = .returned (.bool (decide (right ps ∧ covOk rd ed ps))) ∧ Below w.heap.size w w' := by
  have hl := hp.long
  have hm := hp.most
  have HR := Lib.hid (fun (V : World) (hb : Below w.heap.size w V) => rightI_calls (cap := pc) (hp.below hb))
  obtain ⟨R, hRR⟩ : ∃ R, R = decide (right ps ∧ covOk rd ed ps) := ⟨_, rfl⟩
  rw [← hRR]
  have HRR := Lib.hid hRR
  clear hRR
  unfold readerV
  by_cases hr : right ps
  case neg =>
    have HF := Lib.hid (HRR.out.trans (decide_eq_false (fun h : right ps ∧ covOk rd ed ps => hr h.1)))
    rw [decide_eq_false hr] at HR
    clear hp hr hl
    go_enter Tryz.func144, Tryz.ntmps144
    go_wp2_with fail
    refine (HR.out _ ((Below.refl _ _).alloc (Nat.le_refl _) _)).mono ?_
    rintro e w1 ⟨rfl, hb1⟩
    have HB := Lib.hid (((Below.refl w.heap.size w).alloc (Nat.le_refl _) _).trans (hb1.mono (by simp)))
    clear hb1
    go_wp2_with fail
    go_ret
    exact ⟨ret_bool (by rw [HF.out]), HB.out⟩
  rw [decide_eq_true hr] at HR
  have HP := Lib.hid hp
  have HRT := Lib.hid hr
  have HL := Lib.hid hl
  clear hp hr hl
  go_enter Tryz.func144, Tryz.ntmps144
  go_wp2_with fail
  have n1 := box_new w [.int .i64 rd, .int .i64 ed, .int .i64 sz, .int .i64 cp, .slice pa pl pc, .int .i64 en, .slice fa fl fc] 101 (by simp)
  have hb0 : Below w.heap.size w (w.alloc (.cells #[.int .i64 rd, .int .i64 ed, .int .i64 sz, .int .i64 cp, .slice pa pl pc, .int .i64 en, .slice fa fl fc] 101)) := (Below.refl _ _).alloc (Nat.le_refl _) _
  generalize w.alloc (.cells #[.int .i64 rd, .int .i64 ed, .int .i64 sz, .int .i64 cp, .slice pa pl pc, .int .i64 en, .slice fa fl fc] 101) = W at *
  (with_reducible refine (HR.out _ hb0).mono ?_); rintro e w1 ⟨rfl, hb1⟩
  have N1 := Lib.hid (n1.below hb1)
  obtain ⟨c0, c1, c2, c3, c4, c5, c6⟩ := N1.out.seven
  have HB1 := Lib.hid (hb0.trans (hb1.mono hb0.size))
  have HP1 := Lib.hid (HP.out.below HB1.out)
  clear n1 hb0 hb1 HR HP
  go_wp2_with fail
  clear c0 c1 c2 c3 c4 c5 c6
  go_loopw [12] (fun i wr => ∃ k : Nat, i = .int .i64 (k : Int) ∧ k ≤ pl ∧ covTo rd ed ps k ∧ Below w1.heap.size w1 wr) (fun i _ => pl - (intOf i).toNat)
  case atStart => exact ⟨0, rfl, Nat.zero_le _, fun i hi => by omega, Below.refl _ _⟩
  case round =>
    obtain ⟨k, rfl, hk, hcv, hbl⟩ := hrel
    by_cases hkl : k < pl
    · obtain ⟨b, o, rfl⟩ := HP1.out.there (by omega)
      obtain ⟨p0, p1⟩ := (HP1.out.below hbl).cell b o rfl k hkl
      have hst := covTo_succ (k := k) hcv
      have hno : covOk rd ed ps → rd ≤ (pcAt ps k).1 ∧ pcEnd (pcAt ps k) ≤ ed := fun h => h k (by have := HL.out; omega)
      have hok := HRT.out.2 k (by have := HL.out; omega)
      have hft := HP1.out.fit k hkl
      have hwr : wrap64 (pcEnd (pcAt ps k)) = pcEnd (pcAt ps k) := IntWalk.wrap64_in _ (by have := hok.2.1; have := hok.2.2.1; unfold pcEnd; omega)
      have hend := fun V => endOf_calls (pcAt ps k) V
      rw [hwr] at hend
      have N2 := Lib.hid (N1.out.below hbl)
      have HBL := Lib.hid (HB1.out.trans (hbl.mono HB1.out.size))
      have HBW := Lib.hid hbl
      have h1 : (k : Int) < (pl : Int) := by omega
      clear hcv hok hft hwr hbl
      generalize hpv : pcAt ps k = p at *
      obtain ⟨at0, t⟩ := p
      dsimp only at p0 p1 hst hno
      generalize pcEnd (at0, t) = E at *
      have hcov := fun V => covers_calls rd ed sz cp at0 E V
      unfold roomV at hcov
      have HE := Lib.hid hend
      have hD1 : decide (rd ≤ at0 ∧ E ≤ ed) = true → covTo rd ed ps (k + 1) := fun h => hst (of_decide_eq_true h)
      have hD2 : decide (rd ≤ at0 ∧ E ≤ ed) = false → R = false := fun h => HRR.out.trans (decide_eq_false (fun h2 => of_decide_eq_false h (hno h2.2)))
      generalize decide (rd ≤ at0 ∧ E ≤ ed) = D at *
      have HD1 := Lib.hid hD1
      have HD2 := Lib.hid hD2
      have HC := Lib.hid hcov
      clear hst hno hend hcov hpv hD1 hD2
      go_wp2_with fail
      have m1 := box_new wr [.int .i64 at0, gs t] 121 (by simp)
      have hbm : Below wr.heap.size wr (wr.alloc (.cells #[.int .i64 at0, gs t] 121)) := (Below.refl _ _).alloc (Nat.le_refl _) _
      obtain ⟨q0, q1⟩ : _ ∧ _ := ⟨m1.cell 0 _ rfl, m1.cell 1 _ rfl⟩
      obtain ⟨c0, c1, c2, c3, c4, c5, c6⟩ := (N2.out.below hbm).seven
      have hlt : wr.heap.size < (wr.alloc (.cells #[.int .i64 at0, gs t] 121)).heap.size := by simp
      generalize hVe : wr.alloc (.cells #[.int .i64 at0, gs t] 121) = V at *
      clear m1 hVe
      have HBV := Lib.hid (HBL.out.trans (hbm.mono HBL.out.size))
      have HBM := Lib.hid hbm
      clear hbm p0 p1 c4 c5 c6
      first | (go_region_held3 (fun X => Below V.heap.size V X ∧ X.cell? ⟨w.heap.size, 0, none⟩ = some (.int .i64 rd) ∧ X.cell? ⟨w.heap.size, 1, none⟩ = some (.int .i64 ed) ∧ X.cell? ⟨w.heap.size, 2, none⟩ = some (.int .i64 sz) ∧ X.cell? ⟨w.heap.size, 3, none⟩ = some (.int .i64 cp) ∧ X.cell? ⟨wr.heap.size, 0, none⟩ = some (.int .i64 at0) ∧ X.cell? ⟨wr.heap.size, 1, none⟩ = some (gs t)) (first | exact ⟨(Below.refl _ _).drew, c0, c1, c2, c3, q0, q1⟩ | (with_reducible assumption) | (refine keepP6 (by with_reducible assumption) (by with_reducible assumption))) (first | (go_at_call 209; (with_reducible refine (HE.out _).mono ?_); rintro e w2 ⟨rfl, hb2⟩) | (go_at_call 211; (with_reducible refine (HC.out _).mono ?_); rintro e w2 ⟨rfl, hb2⟩))) | fail
      have HB2 := Lib.hid (HBV.out.trans ((by with_reducible assumption : Below V.heap.size V w2 ∧ _).1.mono HBV.out.size))
      have HB3 := Lib.hid ((by with_reducible assumption : Below V.heap.size V w2 ∧ _).1)
      cases D
      · have HF := Lib.hid (HD2.out rfl)
        go_wp2_with fail
        go_ret
        exact ⟨ret_bool (by rw [HF.out]), HB2.out⟩
      · have HK := Lib.hid (HD1.out rfl)
        go_wp2_with fail
        go_roundw
        case rel => exact ⟨k + 1, by go_num, by omega, HK.out, HBW.out.trans ((HBM.out.trans (HB3.out.mono HBM.out.size)).mono HBW.out.size)⟩
        case measure => simp [intOf]; omega
    · have hkl' : k = pl := by omega
      subst hkl'
      have HF := Lib.hid (HRR.out.trans (decide_eq_true (show right ps ∧ covOk rd ed ps from ⟨HRT.out, by unfold covOk; rw [HL.out]; exact hcv⟩)))
      have HBL := Lib.hid (HB1.out.trans (hbl.mono HB1.out.size))
      clear hcv hbl
      go_wp2_with fail
      go_ret
      exact ⟨ret_bool (by rw [HF.out]), HBL.out⟩
end Go.Proofs.YtdcahilfmhkmiaaGreatDoor
