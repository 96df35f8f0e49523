/- The model's l06Sub where the number is the one that is wanted. -/
import Derived.Test.YtdcahilfmhkmiaaGreatDoorSubDef
import Derived.Deep.QuietTactic
import Derived.BigQuiet
namespace Go.Proofs.YtdcahilfmhkmiaaGreatDoor
open Go.RowKit

theorem frs_set_set (n : Frs) (k : Nat) (p q : Fr) : (n.set k p).set k q = n.set k q := by simp [List.set_set]
theorem frsSp_drew {S : Nat → Prop} {w : World} {a : Option Addr} {len : Nat} {n : Frs} {A : Nat → Option Addr} {C : Nat → Nat} (h : FrsSp S w a len n A C) (m : Nat) : FrsSp S (w.drewN m) a len n A C := h.blks (fun _ _ _ => rfl)
theorem frsOwn_drew {S : Nat → Prop} {w : World} {a : Option Addr} {len : Nat} {n : Frs} {A : Nat → Option Addr} {C : Nat → Nat} (h : FrsOwn S w a len n A C) (m : Nat) : FrsOwn S (w.drewN m) a len n A C := h.blks (fun _ _ _ => rfl)
theorem kept_drewN {S : Nat → Prop} {a w : World} (h : Kept S a w) (m : Nat) : Kept S a (w.drewN m) := ⟨h.os, h.tape, h.output, h.size, h.block⟩

theorem runN_cons (k x : Int) (l : Lg) : runN k (x :: l) = if x = k then runN (k + 1) l else (k, x :: l) := rfl
theorem kept_same {S : Nat → Prop} {a w w' : World} (h : Kept S a w) (h1 : w'.os = w.os) (h2 : w'.tape = w.tape) (h3 : w'.output = w.output) (h4 : w'.heap = w.heap) : Kept S a w' :=
  ⟨h1.trans h.os, h2.trans h.tape, h3.trans h.output, by rw [h4]; exact h.size, fun b hb hs => by rw [h4]; exact h.block b hb hs⟩
theorem lenAt_of {w w' : World} {a : Addr} {x : Option Addr} {n c : Nat} (h : w.cell? a = some (.slice x n c)) (hh : w'.heap = w.heap) : lenAt w' a = n := by
  have h' : w'.cell? a = some (.slice x n c) := (World.cell?_of_block (w := w) (w' := w') (a := a) (by rw [hh])).trans h
  simp [lenAt, h']
set_option maxHeartbeats 4000000 in
set_option maxRecDepth 100000 in
theorem subA_calls {S : Nat → Prop} {w : World} {g len k : Nat} {n : Frs} {A : Nat → Option Addr} {C : Nat → Nat} (h : FrsSp S w (some ⟨g, 0, none⟩) len n A C) (hk : k < len) (hw : 0 ≤ (frAt n k).1 ∧ (frAt n k).1 ≤ 1000000) (hl : (frAt n k).2.length ≤ 8) :
    Calls Tryz.prog 141 #[.pointer (some ⟨g, k * 2, none⟩), .int .i64 (frAt n k).1] w fun e w' => e = .returned (.tuple #[]) ∧ (∃ A' C', FrsSp S w' (some ⟨g, 0, none⟩) len (n.set k (subN (frAt n k) (frAt n k).1)) A' C') ∧ Kept (fun b => b = g) w w' := by
  have hlen := h.long
  have hs : subN (frAt n k) (frAt n k).1 = runN ((frAt n k).1 + 1) (frAt n k).2 := by unfold subN; rw [if_pos rfl]
  rw [hs]
  obtain ⟨c0, c1⟩ := h.cell g 0 rfl k hk
  have z0 := h.free g 0 rfl (k * 2) (by omega)
  rw [Nat.zero_add] at c0 c1 z0
  have h1 := h.want_set hk (x := (frAt n k).1 + 1) ⟨by omega, by omega⟩
  rw [Nat.zero_add] at h1
  have hk1 := kept_set (S := fun b => b = g) w g (k * 2) (.int .i64 ((frAt n k).1 + 1)) rfl
  generalize hf : frAt n k = f at *
  obtain ⟨wt, l0⟩ := f
  dsimp only at *
  have hm := h.most
  have H1 := Lib.hid h1
  have HK1 := Lib.hid hk1
  have hadd : IntKind.i64.wrap (wt + 1) = wt + 1 := IntWalk.i64_in _ (by omega)
  clear h h1 hk1 hs c1 hf
  go_enter Tryz.func141, Tryz.ntmps141
  go_wp2_with fail
  generalize w.setCell ⟨g, k * 2, none⟩ (.int .i64 (wt + 1)) = w1 at *
  clear c0 z0
  go_loopw [] (fun wr => ∃ (v : Int) (l : Lg) (A' : Nat → Option Addr) (C' : Nat → Nat), FrsSp S wr (some ⟨g, 0, none⟩) len (n.set k (v, l)) A' C' ∧ runN (wt + 1) l0 = runN v l ∧ 0 ≤ v ∧ v + l.length ≤ 1000010 ∧ Kept (fun b => b = g) w wr) (fun wr => lenAt wr ⟨g, k * 2 + 1, none⟩)
  case atStart => exact ⟨wt + 1, l0, A, C, H1.out, rfl, by omega, by omega, HK1.out⟩
  case round =>
    clear H1 HK1
    obtain ⟨v, l, A', C', ho, hrun, hv0, hv1, hkp⟩ := hrel
    obtain ⟨c0, c1⟩ := ho.cell g 0 rfl k hk
    have z0 := ho.free g 0 rfl (k * 2) (by omega)
    have z1 := ho.free g 0 rfl (k * 2 + 1) (by omega)
    have hat : frAt (n.set k (v, l)) k = (v, l) := by rw [frAt_set (by omega), if_pos rfl]
    have hlt := ho.late k hk
    have hrm := ho.room k hk
    have hlb := ho.sblk k hk
    have hap := fun j (hj : j < len) (hjk : j ≠ k) => ho.spart k j hk hj (Ne.symm hjk)
    have hsp := ho.sp k hk
    rw [hat] at c0 c1 hlt hrm
    dsimp only at c0 c1 hlt hrm
    rw [Nat.zero_add] at c0 c1 z0 z1
    cases l with
    | nil =>
      have HO := Lib.hid ho
      have HKP := Lib.hid hkp
      have HR := Lib.hid hrun
      clear ho hkp hrun hlt hlb hap hsp
      dsimp only [List.length_nil] at c1
      go_wp2_with fail
      go_quiet (fail)
      go_wp2_with fail
      refine bodyPost_ret (v := .tuple #[]) (by simp [results, Tryz.results141, go_sem]) rfl ⟨rfl, ⟨A', C', ?_⟩, ?_⟩
      · rw [HR.out]; exact HO.out.blks (fun _ _ _ => rfl)
      · exact kept_drewN HKP.out _
    | cons y l =>
      obtain ⟨bx, ox, hax⟩ := hlt.1.there (by simp)
      rw [hax] at c1 hlt hlb hap hsp
      have e0 := hlt.1.cell bx ox rfl 0 (by simp)
      have hy : lgAt (y :: l) 0 = y := rfl
      rw [hy, Nat.add_zero] at e0
      have hL : (y :: l).length = l.length + 1 := rfl
      rw [hL] at c1 hlt hrm
      have hgt : decide (0 < l.length + 1) = true := by simp
      rw [hL] at hv1
      by_cases hyv : y = v
      · have hq : (y == v) = true := by simpa using hyv
        subst hyv
        have hrun2 : runN y (y :: l) = runN (y + 1) l := by rw [runN_cons, if_pos rfl]
        have hadd2 : IntKind.i64.wrap (y + 1) = y + 1 := IntWalk.i64_in _ (by omega)
        have i1 : ((0 : Int) ≤ 1) := by omega
        have i2 : ((1 : Int) ≤ ((l.length + 1 : Nat) : Int)) := by omega
        have i3 : ((((l.length + 1 : Nat) : Int)) ≤ (C' k : Int)) := by omega
        by_cases hc : C' k = 1
        · have hl0 : l = [] := List.eq_nil_of_length_eq_zero (by omega)
          subst hl0
          have hp := (ho.late_put (T := S) hk (x' := some ⟨bx, ox, none⟩) (c' := 0) (t := []) inLg_nil lgFree_nil spare_zero (fun b' hb' => absurd hb'.1 (by omega)) (fun _ h => h) (Nat.zero_le _)).want_set hk (x := y + 1) ⟨by omega, by omega⟩
          rw [hat] at hp
          rw [frAt_set (by simp; omega), if_pos rfl, frs_set_set, frs_set_set] at hp
          simp only [Nat.zero_add] at hp
          have hkp2 := (hkp.trans (kept_set wr g (k * 2 + 1) (.slice (some ⟨bx, ox, none⟩) 0 0) rfl)).trans (kept_set _ g (k * 2) (.int .i64 (y + 1)) rfl)
          have HP := Lib.hid hp
          have HKP := Lib.hid hkp2
          have hcc := (hp.cell g 0 rfl k hk).2
          rw [frAt_set (by omega), if_pos rfl, if_pos rfl, Nat.zero_add] at hcc
          have hm1 := lenAt_of c1 rfl
          have HC := Lib.hid hcc
          have HM1 := Lib.hid hm1
          have HR := Lib.hid (hrun.trans hrun2)
          rw [hc] at c1 i3
          clear ho hkp hrun hlt hlb hap hsp hp hkp2 hrm hat hcc hm1
          go_wp2_with fail
          go_quiet (fail)
          go_wp2_with fail
          refine ⟨⟨y + 1, [], _, _, HP.out.blks (fun _ _ _ => rfl), HR.out, by omega, by simp; omega, kept_same HKP.out rfl rfl rfl rfl⟩, ?_⟩
          rw [HM1.out]
          exact Nat.lt_of_le_of_lt (Nat.le_of_eq (lenAt_of HC.out rfl)) (by simp)
        · have hp := (ho.late_put (T := S) hk (x' := some ⟨bx, ox + 1, none⟩) (c' := C' k - 1) (t := l) (inLg_tail hlt.1) (fun b' o' e i hi => by cases e; have := hlt.2 bx ox rfl (i + 1) (by omega); rwa [show ox + (i + 1) = ox + 1 + i by omega] at this)
            (fun hc0 => by
              obtain ⟨b2, o2, cur, T2, e2, hg2, hl2⟩ := hsp (by omega)
              injection e2 with e2
              injection e2 with e2 e3
              subst e2 e3
              exact ⟨bx, ox + 1, cur, T2, rfl, hg2, by omega⟩)
            (fun b' hb' => by
              obtain ⟨hc0, o', e⟩ := hb'
              injection e with e
              injection e with e
              subst e
              have hbx : LgB (some ⟨bx, ox, none⟩) (C' k) bx := ⟨by omega, ox, rfl⟩
              exact ⟨(hlb bx hbx).1, fun e => (hlb bx hbx).2 ⟨by omega, 0, by rw [e]⟩, fun j hj hjk => hap j hj hjk bx hbx⟩) (fun _ h => h) (by omega)).want_set hk (x := y + 1) ⟨by omega, by omega⟩
          rw [hat] at hp
          rw [frAt_set (by simp; omega), if_pos rfl, frs_set_set, frs_set_set] at hp
          simp only [Nat.zero_add] at hp
          have hkp2 := (hkp.trans (kept_set wr g (k * 2 + 1) (.slice (some ⟨bx, ox + 1, none⟩) l.length (C' k - 1)) rfl)).trans (kept_set _ g (k * 2) (.int .i64 (y + 1)) rfl)
          have hcc := (hp.cell g 0 rfl k hk).2
          rw [frAt_set (by omega), if_pos rfl, if_pos rfl, Nat.zero_add] at hcc
          have hm1 := lenAt_of c1 rfl
          have HP := Lib.hid hp
          have HKP := Lib.hid hkp2
          have HC := Lib.hid hcc
          have HM1 := Lib.hid hm1
          have HR := Lib.hid (hrun.trans hrun2)
          clear ho hkp hrun hlt hlb hap hsp hp hkp2 hrm hat hcc hm1
          go_wp2_with fail
          go_quiet (fail)
          go_wp2_with fail
          refine ⟨⟨y + 1, l, _, _, HP.out.blks (fun _ _ _ => rfl), HR.out, by omega, by omega, kept_same HKP.out rfl rfl rfl rfl⟩, ?_⟩
          rw [HM1.out]
          exact Nat.lt_of_le_of_lt (Nat.le_of_eq (lenAt_of HC.out rfl)) (by simp)
      · have hq : (y == v) = false := by simpa using hyv
        have hrun2 : runN v (y :: l) = (v, y :: l) := by rw [runN_cons, if_neg hyv]
        have HO := Lib.hid ho
        have HKP := Lib.hid hkp
        have HR := Lib.hid (hrun.trans hrun2)
        clear ho hkp hrun hlt hlb hap hsp hrm hat
        go_wp2_with fail
        go_quiet (fail)
        go_wp2_with fail
        refine bodyPost_ret (v := .tuple #[]) (by simp [results, Tryz.results141, go_sem]) rfl ⟨rfl, ⟨A', C', ?_⟩, ?_⟩
        · rw [HR.out]; exact HO.out.blks (fun _ _ _ => rfl)
        · exact kept_drewN HKP.out _
end Go.Proofs.YtdcahilfmhkmiaaGreatDoor
