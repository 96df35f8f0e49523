/- What of a reader is right, as the program tells it: its room, one From, all Froms. -/
import Derived.Test.YtdcahilfmhkmiaaGreatDoorRcvDef
import Derived.Test.YtdcahilfmhkmiaaGreatDoorPackC
namespace Go.Proofs.YtdcahilfmhkmiaaGreatDoor
open Go.RowKit

def roomV (rd ed sz cp : Int) : Value := .agg #[.int .i64 rd, .int .i64 ed, .int .i64 sz, .int .i64 cp]
def readerV (rd ed sz cp : Int) (pa : Option Addr) (pl pc : Nat) (en : Int) (fa : Option Addr) (fl fc : Nat) : Value := .agg #[.int .i64 rd, .int .i64 ed, .int .i64 sz, .int .i64 cp, .slice pa pl pc, .int .i64 en, .slice fa fl fc]
/-- A room is right. -/
def roomOk (rd ed sz cp : Int) : Prop := 1 ≤ sz ∧ sz ≤ cp ∧ cp ≤ 64 ∧ (0 ≤ rd ∧ rd ≤ 1000000) ∧ (0 ≤ ed ∧ ed ≤ 1000000) ∧ rd ≤ ed ∧ ed ≤ rd + sz
instance (rd ed sz cp : Int) : Decidable (roomOk rd ed sz cp) := by unfold roomOk; infer_instance
theorem covers_calls (rd ed sz cp f t : Int) (w : World) : Calls Tryz.prog 211 #[roomV rd ed sz cp, .int .i64 f, .int .i64 t] w fun e w' => e = .returned (.bool (decide (rd ≤ f ∧ t ≤ ed))) ∧ Below w.heap.size w w' := by
  unfold roomV
  by_cases h1 : rd ≤ f
  · go_enter Tryz.func211, Tryz.ntmps211
    go_wp2
    go_ret
    exact ⟨ret_bool (by simp; omega), (Below.refl _ _).alloc (Nat.le_refl _) _⟩
  · go_enter Tryz.func211, Tryz.ntmps211
    go_wp2
    go_ret
    exact ⟨ret_bool (by simp; omega), (Below.refl _ _).alloc (Nat.le_refl _) _⟩
set_option maxHeartbeats 2000000 in
set_option maxRecDepth 100000 in
theorem roomRight_calls (rd ed sz cp : Int) (w : World) : Calls Tryz.prog 143 #[roomV rd ed sz cp] w fun e w' => e = .returned (.bool (decide (roomOk rd ed sz cp))) ∧ Below w.heap.size w w' := by
  have HT1 := Lib.hid (fun W => isTime_calls rd W)
  have HT2 := Lib.hid (fun W => isTime_calls ed W)
  have HB := Lib.hid (fun x => (Below.refl w.heap.size w).alloc (Nat.le_refl _) x)
  unfold roomV
  by_cases h1 : 1 ≤ sz
  case neg =>
    have HF := Lib.hid (decide_eq_false (fun h : roomOk rd ed sz cp => h1 h.1))
    go_enter Tryz.func143, Tryz.ntmps143
    go_wp2_with fail
    go_ret
    exact ⟨ret_bool HF.out.symm, HB.out _⟩
  by_cases h2 : sz ≤ cp
  case neg =>
    have HF := Lib.hid (decide_eq_false (fun h : roomOk rd ed sz cp => h2 h.2.1))
    go_enter Tryz.func143, Tryz.ntmps143
    go_wp2_with fail
    go_ret
    exact ⟨ret_bool HF.out.symm, HB.out _⟩
  by_cases h3 : cp ≤ 64
  case neg =>
    have HF := Lib.hid (decide_eq_false (fun h : roomOk rd ed sz cp => h3 h.2.2.1))
    go_enter Tryz.func143, Tryz.ntmps143
    go_wp2_with fail
    go_ret
    exact ⟨ret_bool HF.out.symm, HB.out _⟩
  by_cases h4 : 0 ≤ rd ∧ rd ≤ 1000000
  case neg =>
    have HF := Lib.hid (decide_eq_false (fun h : roomOk rd ed sz cp => h4 h.2.2.2.1))
    rw [decide_eq_false h4] at HT1
    clear h4
    go_enter Tryz.func143, Tryz.ntmps143
    go_wp2_with fail
    refine (HT1.out _).mono ?_
    rintro e w1 ⟨rfl, rfl⟩
    go_wp2_with fail
    go_ret
    exact ⟨ret_bool HF.out.symm, HB.out _⟩
  rw [decide_eq_true h4] at HT1
  by_cases h5 : 0 ≤ ed ∧ ed ≤ 1000000
  case neg =>
    have HF := Lib.hid (decide_eq_false (fun h : roomOk rd ed sz cp => h5 h.2.2.2.2.1))
    rw [decide_eq_false h5] at HT2
    clear h4 h5
    go_enter Tryz.func143, Tryz.ntmps143
    go_wp2_with fail
    refine (HT1.out _).mono ?_
    rintro e w1 ⟨rfl, rfl⟩
    go_wp2_with fail
    refine (HT2.out _).mono ?_
    rintro e w1 ⟨rfl, rfl⟩
    go_wp2_with fail
    go_ret
    exact ⟨ret_bool HF.out.symm, HB.out _⟩
  rw [decide_eq_true h5] at HT2
  by_cases h6 : rd ≤ ed
  case neg =>
    have HF := Lib.hid (decide_eq_false (fun h : roomOk rd ed sz cp => h6 h.2.2.2.2.2.1))
    clear h4 h5
    go_enter Tryz.func143, Tryz.ntmps143
    go_wp2_with fail
    refine (HT1.out _).mono ?_
    rintro e w1 ⟨rfl, rfl⟩
    go_wp2_with fail
    refine (HT2.out _).mono ?_
    rintro e w1 ⟨rfl, rfl⟩
    go_wp2_with fail
    go_ret
    exact ⟨ret_bool HF.out.symm, HB.out _⟩
  have hR : decide (roomOk rd ed sz cp) = decide (ed ≤ rd + sz) := by
    rw [Bool.eq_iff_iff]
    simp only [decide_eq_true_iff]
    exact ⟨fun h => h.2.2.2.2.2.2, fun h => ⟨h1, h2, h3, h4, h5, h6, h⟩⟩
  have HF := Lib.hid hR
  clear hR
  go_enter Tryz.func143, Tryz.ntmps143
  go_wp2_with fail
  refine (HT1.out _).mono ?_
  rintro e w1 ⟨rfl, rfl⟩
  go_wp2_with fail
  refine (HT2.out _).mono ?_
  rintro e w1 ⟨rfl, rfl⟩
  go_wp2_with fail
  all_goals go_ret
  all_goals exact ⟨ret_bool HF.out.symm, HB.out _⟩

/-- The number ahead of place k of a Late: ahead of all Want. -/
def lastTo (f : Fr) (k : Nat) : Int := if k = 0 then f.1 else lgAt f.2 (k - 1)
theorem lastTo_zero (f : Fr) : lastTo f 0 = f.1 := rfl
theorem lastTo_succ (f : Fr) (k : Nat) : lastTo f (k + 1) = lgAt f.2 k := by unfold lastTo; rw [if_neg (by omega)]; rfl
theorem lateUp_last {f : Fr} {k : Nat} (h : lateUp f k) : f.1 ≤ lastTo f k := by
  unfold lastTo
  split
  · omega
  · have := (h (k - 1) (by omega)).1
    omega
theorem lateOk_of {f : Fr} {k : Nat} (h : lateUp f k) (h1 : lastTo f k < lgAt f.2 k) (h2 : 0 ≤ lgAt f.2 k ∧ lgAt f.2 k ≤ 1000000) : lateOk f k := by
  have h3 := lateUp_last h
  refine ⟨by omega, h2, fun hk => ?_⟩
  unfold lastTo at h1
  rw [if_neg (by omega)] at h1
  exact h1
theorem lateOk_last {f : Fr} {k : Nat} (h : lateOk f k) : lastTo f k < lgAt f.2 k := by
  unfold lastTo
  split
  · exact h.1
  · exact h.2.2 (by omega)

set_option maxHeartbeats 2000000 in
set_option maxRecDepth 100000 in
theorem fromRight_calls {a : Option Addr} {cap : Nat} {x : Int} {l : Lg} {w : World} (h : InLg w a l.length l) :
    Calls Tryz.prog 212 #[.agg #[.int .i64 x, .slice a l.length cap]] w fun e w' => e = .returned (.bool (decide (fromOk (x, l)))) ∧ Below w.heap.size w w' := by
  have hs := h.small
  have HT := Lib.hid (fun W => isTime_calls x W)
  have HB := Lib.hid (fun y => (Below.refl w.heap.size w).alloc (Nat.le_refl _) y)
  by_cases hx : 0 ≤ x ∧ x ≤ 1000000
  case neg =>
    have HF := Lib.hid (decide_eq_false (fun h : fromOk (x, l) => hx h.1))
    rw [decide_eq_false hx] at HT
    clear hx h
    generalize l.length = len at *
    go_enter Tryz.func212, Tryz.ntmps212
    go_wp2_with fail
    refine (HT.out _).mono ?_
    rintro e w1 ⟨rfl, rfl⟩
    go_wp2_with fail
    go_ret
    exact ⟨ret_bool HF.out.symm, HB.out _⟩
  rw [decide_eq_true hx] at HT
  by_cases h8 : 8 < l.length
  case pos =>
    have HF := Lib.hid (decide_eq_false (fun h : fromOk (x, l) => by have := h.2.1; dsimp only at this; omega))
    clear hx h
    generalize l.length = len at *
    go_enter Tryz.func212, Tryz.ntmps212
    go_wp2_with fail
    refine (HT.out _).mono ?_
    rintro e w1 ⟨rfl, rfl⟩
    go_wp2_with fail
    all_goals go_ret
    all_goals exact ⟨ret_bool HF.out.symm, HB.out _⟩
  have HX := Lib.hid hx
  have HZ := Lib.hid (lastTo_zero (x, l))
  have HL := Lib.hid (rfl : l.length = l.length)
  have hinc : InLg (w.alloc (.cells #[.int .i64 x, .slice a l.length cap] 159)) a l.length l := h.below (HB.out _)
  have HC := Lib.hid hinc
  clear h hinc
  generalize hlen : l.length = len at *
  have HLN := Lib.hid hlen
  clear hlen hx
  go_enter Tryz.func212, Tryz.ntmps212
  go_wp2_with fail
  refine (HT.out _).mono ?_
  rintro e w1 ⟨rfl, rfl⟩
  clear HT
  go_wp2_with fail
  generalize hWe : w.alloc (.cells #[.int .i64 x, .slice a len cap] 159) = W at *
  have HWE := Lib.hid hWe
  clear hWe
  go_loopw [3, 21] (fun v i wr => ∃ (k : Nat) (E : Int), i = .int .i64 (k : Int) ∧ v = .int .i64 E ∧ k ≤ len ∧ lateUp (x, l) k ∧ E = lastTo (x, l) k ∧ wr = W) (fun _ i _ => len - (intOf i).toNat)
  case atStart => exact ⟨0, x, rfl, rfl, Nat.zero_le _, fun i hi => by omega, HZ.out.symm, rfl⟩
  case round =>
    obtain ⟨k, E, rfl, rfl, hk, hup, hE, rfl⟩ := hrel
    by_cases hkl : k < len
    · obtain ⟨b, o, rfl⟩ := HC.out.there (by omega)
      have c0 := HC.out.cell b o rfl k hkl
      have hst := fun h => lateUp_succ (k := k) hup h
      have hof := lateOk_of (k := k) hup
      have hno : ¬ lateOk (x, l) k → ¬ fromOk (x, l) := not_late (by rw [show (x, l).2 = l from rfl, HLN.out]; exact hkl)
      have hol := lateOk_last (f := (x, l)) (k := k)
      have hls := lastTo_succ (x, l) k
      have htm := fun W => isTime_calls (lgAt l k) W
      dsimp only at hof hol hls
      rw [← hE] at hof hol
      have h2 : lateOk (x, l) k → 0 ≤ lgAt l k ∧ lgAt l k ≤ 1000000 := fun h => h.2.1
      generalize lgAt l k = y at *
      generalize lateOk (x, l) k = OK at *
      by_cases hle : y ≤ E
      · have HF := Lib.hid (decide_eq_false (hno (fun h => by have := hol h; omega)))
        clear hst hof hno hol hls htm h2 hE hup
        go_wp2_with fail
        go_ret
        exact ⟨ret_bool HF.out.symm, by rw [← HWE.out]; exact HB.out _⟩
      · by_cases hy : 0 ≤ y ∧ y ≤ 1000000
        · have HK := Lib.hid (hst (hof (by omega) hy))
          have HS := Lib.hid hls
          rw [decide_eq_true hy] at htm
          have HM := Lib.hid htm
          clear hst hof hno hol hls htm h2 hE hup hy
          go_wp2_with (go_at_call 149; refine (HM.out _).mono ?_; rintro e w1 ⟨rfl, rfl⟩)
          go_roundw
          case rel => exact ⟨k + 1, y, by go_num, rfl, by omega, HK.out, HS.out.symm, by first | rfl | trivial⟩
          case measure => simp [intOf]; omega
        · have HF := Lib.hid (decide_eq_false (hno (fun h => hy (h2 h))))
          rw [decide_eq_false hy] at htm
          have HM := Lib.hid htm
          clear hst hof hno hol hls htm h2 hE hup hy
          go_wp2_with (go_at_call 149; refine (HM.out _).mono ?_; rintro e w1 ⟨rfl, rfl⟩)
          go_ret
          exact ⟨ret_bool HF.out.symm, by rw [← HWE.out]; exact HB.out _⟩
    · have hkl' : k = len := by omega
      subst hkl'
      have HF := Lib.hid (decide_eq_true (show fromOk (x, l) from ⟨HX.out, by rw [show (x, l).2 = l from rfl, HLN.out]; omega, by rw [show (x, l).2 = l from rfl, HLN.out]; exact hup⟩))
      clear hup hE
      go_wp2_with fail
      go_ret
      exact ⟨ret_bool HF.out.symm, by rw [← HWE.out]; exact HB.out _⟩
end Go.Proofs.YtdcahilfmhkmiaaGreatDoor
