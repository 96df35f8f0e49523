/- Which Froms are right, as the model tells it. -/
import Derived.Test.YtdcahilfmhkmiaaGreatDoorRcvDef
import Derived.Deep.QuietTactic
import Derived.BigQuiet
namespace Go.Proofs.YtdcahilfmhkmiaaGreatDoor
open Go.RowKit

set_option maxHeartbeats 4000000 in
set_option maxRecDepth 100000 in
theorem fromsS_calls {S : Nat → Prop} {a : Option Addr} {len cap : Nat} {n : Frs} {w : World} (h : InFrs S w a len n) :
    Calls Tryz.prog 87 #[.slice a len cap] w fun e w' => e = .returned (.bool (decide (fromsOk n))) ∧ Below w.heap.size w w' := by
  have hm := h.most
  have hlen := h.long
  have hres : ∃ R, R = decide (fromsOk n) := ⟨_, rfl⟩
  obtain ⟨R, hR⟩ := hres
  rw [← hR]
  have HRR := Lib.hid hR
  clear hR
  go_enter Tryz.func87, Tryz.ntmps87
  go_wp2_with fail
  go_loopw [3] (fun i wr => ∃ j : Nat, i = .int .i64 (j : Int) ∧ j ≤ len ∧ j ≤ 5 ∧ fromUp n j ∧ Below w.heap.size w wr) (fun i _ => len - (intOf i).toNat)
  case atStart => exact ⟨0, rfl, Nat.zero_le _, by omega, (fun j hj => by omega), Below.refl _ _⟩
  case round =>
    obtain ⟨j, rfl, hj, hj5, hup, hbl⟩ := hrel
    by_cases hjl : j < len ∧ j ≤ 4
    · obtain ⟨hjl, hj4⟩ := hjl
      have hh := h.below hbl
      obtain ⟨b, o, rfl⟩ := hh.there (by omega)
      obtain ⟨-, x, cx, c0, c1, r0, -⟩ := hh.cell b o rfl j hjl
      have h1 : (j : Int) < (len : Int) := by omega
      have h2 : (j : Int) ≤ 4 := by omega
      have hft := hh.fit j hjl
      have hst := fun (hk : fromOk (frAt n j)) => fromUp_succ hup hk
      have hno := fun (hk : ¬ fromOk (frAt n j)) => (show R = false by rw [HRR.out, decide_eq_false (not_from (by omega) hk)])
      generalize frAt n j = f at *
      obtain ⟨wt, l⟩ := f
      dsimp only at c0 c1 r0 hft
      have hl8 := r0.small
      have hT := timeS_calls wt
      have HST := Lib.hid hst
      have HNO := Lib.hid hno
      have HBL := Lib.hid hbl
      clear hst hno hup hbl hh
      by_cases hw : 0 ≤ wt ∧ wt ≤ 1000000
      · rw [decide_eq_true hw] at hT
        have HT := Lib.hid hT
        clear hT
        by_cases h8 : l.length ≤ 8
        · go_wp2_with fail
          have n1 := box_new wr [.int .i64 wt, .slice x l.length cx] 159 (by simp)
          have hb0 : Below wr.heap.size wr (wr.alloc (.cells #[.int .i64 wt, .slice x l.length cx] 159)) := (Below.refl _ _).alloc (Nat.le_refl _) _
          have hr1 := r0.below hb0
          have hlt : wr.heap.size < (wr.alloc (.cells #[.int .i64 wt, .slice x l.length cx] 159)).heap.size := by simp
          generalize wr.alloc (.cells #[.int .i64 wt, .slice x l.length cx] 159) = W at *
          refine (HT.out W).mono ?_
          rintro e w1 ⟨rfl, rfl⟩
          have d0 := n1.cell 0 _ rfl
          have d1 := n1.cell 1 _ rfl
          have HN1 := Lib.hid n1
          have HB0 := Lib.hid (HBL.out.trans (hb0.mono HBL.out.size))
          have HR1 := Lib.hid hr1
          clear n1 hb0 hr1 HBL HT r0 c0 c1 h
          go_wp2_with fail
          go_loopw [5] (fun i wr => ∃ k : Nat, i = .int .i64 (k : Int) ∧ k ≤ l.length ∧ lateUp (wt, l) k ∧ Below w1.heap.size w1 wr) (fun i _ => l.length - (intOf i).toNat)
          case atStart => exact ⟨0, rfl, Nat.zero_le _, (fun j hj => by omega), Below.refl _ _⟩
          case round =>
            obtain ⟨k, rfl, hk, hlu, hb2⟩ := hrel
            have f0 := (hb2.cell (World.block_lt_of_cell? _ _ d0)).trans d0
            have f1 := (hb2.cell (World.block_lt_of_cell? _ _ d1)).trans d1
            have hrr := HR1.out.below hb2
            have HB2 := Lib.hid (HB0.out.trans (hb2.mono HB0.out.size))
            have HB3 := Lib.hid hb2
            clear d0 d1 hb2 HN1
            by_cases hkl : k < l.length
            · obtain ⟨b2, o2, rfl⟩ := hrr.there (by omega)
              have e0 := hrr.cell b2 o2 rfl k hkl
              have hfk := hrr.fit k hkl
              have hok := fun (hk : lateOk (wt, l) k) => lateUp_succ hlu hk
              have hbad := fun (hk : ¬ lateOk (wt, l) k) => HNO.out (not_late (f := (wt, l)) hkl hk)
              have hpv := fun (h0 : 0 < k) => hrr.cell b2 o2 rfl (k - 1) (by omega)
              unfold lateOk at hok hbad
              dsimp only at hok hbad
              have hT2 := timeS_calls (lgAt l k)
              have hkm : 0 < k → IntKind.i64.wrap ((k : Int) - 1) = ((k - 1 : Nat) : Int) := fun h0 => by rw [IntWalk.i64_in _ (by omega)]; omega
              generalize lgAt l (k - 1) = pv at *
              generalize lgAt l k = cur at *
              have HOK := Lib.hid hok
              have HBAD := Lib.hid hbad
              have HPV := Lib.hid hpv
              have HKM := Lib.hid hkm
              clear hok hbad hpv hrr hlu HRR hkm
              by_cases hA : cur ≤ wt
              · have HR := Lib.hid (HBAD.out (fun hc => by omega))
                have hd : decide (cur ≤ wt) = true := by simpa using hA
                clear HOK HBAD HPV HKM hT2
                go_wp2_with fail
                go_quiet (fail)
                go_wp2_with fail
                go_ret
                exact ⟨ret_bool (by rw [HR.out]), lg_drewN HB2.out _⟩
              · have hd : decide (cur ≤ wt) = false := by simp; omega
                by_cases hB : 0 ≤ cur ∧ cur ≤ 1000000
                · rw [decide_eq_true hB] at hT2
                  have HT2 := Lib.hid hT2
                  clear hT2
                  rcases Nat.eq_zero_or_pos k with h0 | h0
                  · have hz : decide (0 < k) = false := by simp; omega
                    have HOK2 := Lib.hid (HOK.out ⟨by omega, hB, fun h => by omega⟩)
                    clear HOK HBAD HPV HKM h0
                    go_wp2_with fail
                    go_quiet ((go_at_call 84; exact Calls.quiet_of_same (HT2.out _)))
                    go_wp2_with fail
                    go_roundw
                    case rel => exact ⟨k + 1, by go_num, by omega, HOK2.out, lg_drewN HB3.out _⟩
                    case measure => simp [intOf]; omega
                  · have hz : decide (0 < k) = true := by simp; omega
                    have hk1 := HKM.out h0
                    have e1 := HPV.out h0
                    rcases Int.lt_or_le pv cur with hlt2 | hle2
                    · have hg : decide (cur ≤ pv) = false := by simp; omega
                      have HOK2 := Lib.hid (HOK.out ⟨by omega, hB, fun h => hlt2⟩)
                      clear HOK HBAD HPV HKM h0 hlt2
                      go_wp2_with fail
                      go_quiet ((go_at_call 84; exact Calls.quiet_of_same (HT2.out _)))
                      go_wp2_with fail
                      go_roundw
                      case rel => exact ⟨k + 1, by go_num, by omega, HOK2.out, lg_drewN HB3.out _⟩
                      case measure => simp [intOf]; omega
                    · have hg : decide (cur ≤ pv) = true := by simp; omega
                      have HR := Lib.hid (HBAD.out (fun hc => by have := hc.2.2 h0; omega))
                      clear HOK HBAD HPV HKM h0 hle2
                      go_wp2_with fail
                      go_quiet ((go_at_call 84; exact Calls.quiet_of_same (HT2.out _)))
                      go_wp2_with fail
                      go_ret
                      exact ⟨ret_bool (by rw [HR.out]), lg_drewN HB2.out _⟩
                · rw [decide_eq_false hB] at hT2
                  have HT2 := Lib.hid hT2
                  have HR := Lib.hid (HBAD.out (fun hc => hB hc.2.1))
                  clear hT2 HOK HBAD HPV HKM hB
                  go_wp2_with fail
                  go_quiet ((go_at_call 84; exact Calls.quiet_of_same (HT2.out _)))
                  go_wp2_with fail
                  go_ret
                  exact ⟨ret_bool (by rw [HR.out]), lg_drewN HB2.out _⟩
            · have hkl' : k = l.length := by omega
              subst hkl'
              have HU := Lib.hid (HST.out ⟨hw, h8, hlu⟩)
              clear hlu hrr HST HNO HR1 HB3
              go_wp2_with fail
              exact ⟨⟨j + 1, by go_num, by omega, by omega, HU.out, HB2.out⟩, by simp [intOf]; omega⟩
        · have HR := Lib.hid (HNO.out (fun hc => h8 hc.2.1))
          clear HST HNO r0 h
          go_wp2_with fail
          have n1 := box_new wr [.int .i64 wt, .slice x l.length cx] 159 (by simp)
          have hb0 : Below wr.heap.size wr (wr.alloc (.cells #[.int .i64 wt, .slice x l.length cx] 159)) := (Below.refl _ _).alloc (Nat.le_refl _) _
          generalize wr.alloc (.cells #[.int .i64 wt, .slice x l.length cx] 159) = W at *
          refine (HT.out W).mono ?_
          rintro e w1 ⟨rfl, rfl⟩
          have d1 := n1.cell 1 _ rfl
          have HB0 := Lib.hid (HBL.out.trans (hb0.mono HBL.out.size))
          clear n1 hb0 HBL
          go_wp2_with fail
          go_ret
          exact ⟨ret_bool (by rw [HR.out]), HB0.out⟩
      · rw [decide_eq_false hw] at hT
        have HT := Lib.hid hT
        have HR := Lib.hid (HNO.out (fun hc => hw hc.1))
        clear hT HST HNO r0 h
        go_wp2_with fail
        have hb0 : Below wr.heap.size wr (wr.alloc (.cells #[.int .i64 wt, .slice x l.length cx] 159)) := (Below.refl _ _).alloc (Nat.le_refl _) _
        generalize wr.alloc (.cells #[.int .i64 wt, .slice x l.length cx] 159) = W at *
        refine (HT.out W).mono ?_
        rintro e w1 ⟨rfl, rfl⟩
        have HB0 := Lib.hid (HBL.out.trans (hb0.mono HBL.out.size))
        clear hb0 HBL
        go_wp2_with fail
        go_ret
        exact ⟨ret_bool (by rw [HR.out]), HB0.out⟩
    · have hr : R = (decide ((len : Int) ≥ 1) && decide ((len : Int) ≤ 4)) := by
        rw [HRR.out, ← Bool.decide_and]
        apply decide_eq_decide.2
        unfold fromsOk
        constructor
        · intro hc; omega
        · intro hc; exact ⟨by omega, fun i hi => hup i (by omega)⟩
      have HR := Lib.hid hr
      have HBL := Lib.hid hbl
      clear h hup hr hbl
      by_cases h1 : (j : Int) < (len : Int)
      · have h2 : ¬ (j : Int) ≤ 4 := by omega
        have h3 : (len : Int) ≥ 1 := by omega
        go_wp2_with fail
        go_ret
        exact ⟨ret_bool (by rw [HR.out, decide_eq_true h3]; simp), HBL.out⟩
      · by_cases h3 : (len : Int) ≥ 1
        · go_wp2_with fail
          go_ret
          exact ⟨ret_bool (by rw [HR.out, decide_eq_true h3]; simp), HBL.out⟩
        · have HD := Lib.hid (decide_eq_false h3)
          go_wp2_with fail
          go_ret
          exact ⟨ret_bool (by rw [HR.out, HD.out]; simp), HBL.out⟩
end Go.Proofs.YtdcahilfmhkmiaaGreatDoor
