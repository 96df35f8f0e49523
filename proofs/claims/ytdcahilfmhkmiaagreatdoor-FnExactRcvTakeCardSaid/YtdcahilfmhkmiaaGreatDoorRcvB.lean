/- What of a reader is right, as the program tells it: Froms, the pieces, the end, all. -/
import Derived.Test.YtdcahilfmhkmiaaGreatDoorRcvA
import Derived.Test.YtdcahilfmhkmiaaGreatDoorRcvMath
import Derived.Test.YtdcahilfmhkmiaaGreatDoorPackA
import Derived.Test.YtdcahilfmhkmiaaGreatDoorRcvR
namespace Go.Proofs.YtdcahilfmhkmiaaGreatDoor
open Go.RowKit

set_option maxHeartbeats 2000000 in
set_option maxRecDepth 100000 in
theorem fromsRight_calls {S : Nat → Prop} {a : Option Addr} {len cap : Nat} {n : Frs} {w : World} (h : InFrs S w a len n) :
    Calls Tryz.prog 146 #[.slice a len cap] w fun e w' => e = .returned (.bool (decide (fromsOk n))) ∧ Below w.heap.size w w' := by
  have hm := h.most
  have hlen := h.long
  by_cases h1 : len < 1
  case pos =>
    have HF := Lib.hid (decide_eq_false (fun h : fromsOk n => by have := h.1; omega))
    clear h hlen
    go_enter Tryz.func146, Tryz.ntmps146
    go_wp2_with fail
    all_goals go_ret
    all_goals exact ⟨ret_bool HF.out.symm, Below.refl _ _⟩
  by_cases h4 : 4 < len
  case pos =>
    have HF := Lib.hid (decide_eq_false (fun h : fromsOk n => by have := h.1; omega))
    clear h hlen
    go_enter Tryz.func146, Tryz.ntmps146
    go_wp2_with fail
    all_goals first
      | (go_ret; exact ⟨ret_bool HF.out.symm, Below.refl _ _⟩)
      | (exfalso; omega)
  have HH := Lib.hid h
  have HL := Lib.hid hlen
  clear h hlen
  go_enter Tryz.func146, Tryz.ntmps146
  go_wp2_with fail
  go_loopw [15] (fun i wr => ∃ k : Nat, i = .int .i64 (k : Int) ∧ k ≤ len ∧ fromUp n k ∧ Below w.heap.size w wr) (fun i _ => len - (intOf i).toNat)
  case atStart => exact ⟨0, rfl, Nat.zero_le _, fun i hi => by omega, Below.refl _ _⟩
  case round =>
    obtain ⟨k, rfl, hk, hup, hbl⟩ := hrel
    by_cases hkl : k < len
    · have hh := HH.out.below hbl
      obtain ⟨b, o, rfl⟩ := hh.there (by omega)
      obtain ⟨-, x, cx, c0, c1, r0, -⟩ := hh.cell b o rfl k hkl
      have hst := fun (hk : fromOk (frAt n k)) => fromUp_succ hup hk
      have hno : ¬ fromOk (frAt n k) → ¬ fromsOk n := not_from (by have := HL.out; omega)
      generalize frAt n k = f at *
      obtain ⟨wt, l⟩ := f
      dsimp only at c0 c1 r0
      have hc := fun (V : World) (hb : Below wr.heap.size wr V) => fromRight_calls (x := wt) (cap := cx) (r0.below hb)
      have HBL := Lib.hid hbl
      have h1 : (k : Int) < (len : Int) := by omega
      clear hh hup hbl r0
      by_cases hok : fromOk (wt, l)
      · have HK := Lib.hid (hst hok)
        rw [decide_eq_true hok] at hc
        have HC := Lib.hid hc
        clear hst hno hc hok
        go_wp2_with fail
        refine (HC.out _ ((Below.refl _ _).alloc (Nat.le_refl _) _)).mono ?_
        rintro e w1 ⟨rfl, hb1⟩
        have HB1 := Lib.hid (HBL.out.trans ((((Below.refl _ _).alloc (Nat.le_refl _) _).trans (hb1.mono (by simp))).mono HBL.out.size))
        clear hb1
        go_wp2_with fail
        go_roundw
        case rel => exact ⟨k + 1, by go_num, by omega, HK.out, HB1.out⟩
        case measure => simp [intOf]; omega
      · have HF := Lib.hid (decide_eq_false (hno hok))
        rw [decide_eq_false hok] at hc
        have HC := Lib.hid hc
        clear hst hno hc hok
        go_wp2_with fail
        refine (HC.out _ ((Below.refl _ _).alloc (Nat.le_refl _) _)).mono ?_
        rintro e w1 ⟨rfl, hb1⟩
        have HB1 := Lib.hid (HBL.out.trans ((((Below.refl _ _).alloc (Nat.le_refl _) _).trans (hb1.mono (by simp))).mono HBL.out.size))
        clear hb1
        go_wp2_with fail
        go_ret
        exact ⟨ret_bool HF.out.symm, HB1.out⟩
    · have hkl' : k = len := by omega
      subst hkl'
      have HF := Lib.hid (decide_eq_true (show fromsOk n from ⟨by have := HL.out; omega, by rw [HL.out]; exact hup⟩))
      clear hup
      go_wp2_with fail
      go_ret
      exact ⟨ret_bool HF.out.symm, hbl⟩

set_option maxHeartbeats 2000000 in
set_option maxRecDepth 100000 in
theorem behindLast_calls {rd ed sz cp en : Int} {pa fa : Option Addr} {pl pc fl fc : Nat} {ps : List Pc} {w : World} (hp : InPcs w pa pl ps) (hr : right ps) :
    Calls Tryz.prog 195 #[readerV rd ed sz cp pa pl pc en fa fl fc] w fun e w' => e = .returned (.int .i64 (lastN rd ps)) ∧ Below w.heap.size w w' := by
  have hl := hp.long
  have hm := hp.most
  unfold readerV
  by_cases h0 : pl = 0
  · have hq : lastN rd ps = rd := by unfold lastN; rw [if_pos (by omega)]
    rw [hq]
    subst h0
    clear hp hr hq hl
    go_enter Tryz.func195, Tryz.ntmps195
    go_wp2_with fail
    go_ret
    exact ⟨rfl, (Below.refl _ _).alloc (Nat.le_refl _) _⟩
  · have hq : lastN rd ps = pcEnd (pcAt ps (pl - 1)) := by unfold lastN; rw [if_neg (by omega), hl]
    rw [hq]
    obtain ⟨b, o, rfl⟩ := hp.there (by omega)
    obtain ⟨c0, c1⟩ := hp.cell b o rfl (pl - 1) (by omega)
    have hok := hr.2 (pl - 1) (by omega)
    have hft := hp.fit (pl - 1) (by omega)
    have hpos : 0 < pl := by omega
    have hb : b < w.heap.size := World.block_lt_of_cell? w _ c0
    generalize hpv : pcAt ps (pl - 1) = p at *
    obtain ⟨at0, t⟩ := p
    have hend := fun W => endOf_calls (at0, t) W
    have hwr : wrap64 (pcEnd (at0, t)) = pcEnd (at0, t) := IntWalk.wrap64_in _ (by have := hok.2.1; have := hok.2.2.1; rw [hpv] at this; rw [hpv] at *; unfold pcEnd; dsimp only at *; omega)
    rw [hwr] at hend
    generalize pcEnd (at0, t) = E at *
    have hkm : IntKind.i64.wrap ((pl : Int) - 1) = ((pl - 1 : Nat) : Int) := by rw [IntWalk.i64_in _ (by omega)]; omega
    have HE := Lib.hid hend
    dsimp only at c0 c1
    generalize hpm : pl - 1 = pm at *
    have hpl : pl = pm + 1 := by omega
    subst hpl
    clear hp hr hq hl hend hwr hok hft hpv h0
    go_enter Tryz.func195, Tryz.ntmps195
    go_wp2_with fail
    refine (HE.out _).mono ?_
    rintro e w1 ⟨rfl, hb1⟩
    have HB := Lib.hid (((Below.refl _ _).alloc (Nat.le_refl _) _).trans (hb1.mono (by simp)))
    clear hb1 HE
    go_wp2_with fail
    go_ret
    exact ⟨rfl, HB.out⟩


set_option maxHeartbeats 2000000 in
set_option maxRecDepth 100000 in
theorem endRight_calls {rd ed sz cp en : Int} {pa fa : Option Addr} {pl pc fl fc : Nat} {ps : List Pc} {w : World} (hp : InPcs w pa pl ps) (hr : right ps) :
    Calls Tryz.prog 145 #[readerV rd ed sz cp pa pl pc en fa fl fc] w fun e w' => e = .returned (.bool (decide (en = -1 ∨ (lastN rd ps ≤ en ∧ en ≤ 1000000)))) ∧ Below w.heap.size w w' := by
  have HL := Lib.hid (fun (V : World) (hb : Below w.heap.size w V) => behindLast_calls (rd := rd) (ed := ed) (sz := sz) (cp := cp) (en := en) (pc := pc) (fa := fa) (fl := fl) (fc := fc) (hp.below hb) hr)
  clear hp hr
  generalize lastN rd ps = q at *
  unfold readerV at *
  by_cases h1 : en = -1
  · subst h1
    go_enter Tryz.func145, Tryz.ntmps145
    go_wp2_with (first | go_quiet (fail) | fail)
    go_ret
    exact ⟨ret_bool (by simp), below_drewN ((Below.refl _ _).alloc (Nat.le_refl _) _) _⟩
  have hd : (en == -1) = false := by simp; omega
  by_cases h2 : q ≤ en
  · have hd2 : decide (q ≤ en) = true := by simp; omega
    go_enter Tryz.func145, Tryz.ntmps145
    go_wp2_with fail
    have n1 := box_new w [.int .i64 rd, .int .i64 ed, .int .i64 sz, .int .i64 cp, .slice pa pl pc, .int .i64 en, .slice fa fl fc] 101 (by simp)
    have hb0 : Below w.heap.size w (w.alloc (.cells #[.int .i64 rd, .int .i64 ed, .int .i64 sz, .int .i64 cp, .slice pa pl pc, .int .i64 en, .slice fa fl fc] 101)) := (Below.refl _ _).alloc (Nat.le_refl _) _
    generalize w.alloc (.cells #[.int .i64 rd, .int .i64 ed, .int .i64 sz, .int .i64 cp, .slice pa pl pc, .int .i64 en, .slice fa fl fc] 101) = W at *
    obtain ⟨c0, c1, c2, c3, c4, c5, c6⟩ := n1.seven
    have HB0 := Lib.hid hb0
    clear hb0 n1
    go_wp2_with fail
    refine wp_region_held_drew (S := (fun V => Below W.heap.size W V ∧ V.cell? ⟨w.heap.size, 0, none⟩ = some (.int .i64 rd) ∧ V.cell? ⟨w.heap.size, 1, none⟩ = some (.int .i64 ed) ∧ V.cell? ⟨w.heap.size, 2, none⟩ = some (.int .i64 sz) ∧ V.cell? ⟨w.heap.size, 3, none⟩ = some (.int .i64 cp) ∧ V.cell? ⟨w.heap.size, 4, none⟩ = some (.slice pa pl pc) ∧ V.cell? ⟨w.heap.size, 5, none⟩ = some (.int .i64 en) ∧ V.cell? ⟨w.heap.size, 6, none⟩ = some (.slice fa fl fc))) (by kernel_rfl) (⟨(Below.refl _ _).drew, c0, c1, c2, c3, c4, c5, c6⟩) (fun hHeld => ?_)
    refine wpAnyH_take (i := 0) (oi := _) (v := ?v1x0) rfl (by kernel_rfl) (by kernel_rfl) (by kernel_rfl) (fun _ _ _ h => h) (Or.inl ⟨by kernel_rfl, ?hy1x0⟩) (by with_reducible assumption) ?rest1x0
    case hy1x0 => (intro w hSw; (try dsimp only at hSw); go_simp; (try with_reducible rfl))
    (try simp only [Act.put, List.getElem_toArray, List.getElem_cons_zero, List.setIfInBounds_toArray, List.set_cons_succ, List.set_cons_zero])
    refine wpAnyH_take (i := 1) (oi := _) (v := ?v1x1) rfl (by kernel_rfl) (by kernel_rfl) (by kernel_rfl) (fun _ _ _ h => h) (Or.inl ⟨by kernel_rfl, ?hy1x1⟩) (by with_reducible assumption) ?rest1x1
    case hy1x1 => (intro w hSw; (try dsimp only at hSw); go_simp; (try with_reducible rfl))
    (try simp only [Act.put, List.getElem_toArray, List.getElem_cons_succ, List.getElem_cons_zero, List.setIfInBounds_toArray, List.set_cons_succ, List.set_cons_zero])
    refine wpAnyH_take (i := 2) (oi := _) (v := ?v1x2) rfl (by kernel_rfl) (by kernel_rfl) (by kernel_rfl) (fun _ _ _ h => h) (Or.inl ⟨by kernel_rfl, ?hy1x2⟩) (by with_reducible assumption) ?rest1x2
    case hy1x2 => (intro w hSw; (try dsimp only at hSw); go_simp; (try with_reducible rfl))
    (try simp only [Act.put, List.getElem_toArray, List.getElem_cons_succ, List.getElem_cons_zero, List.setIfInBounds_toArray, List.set_cons_succ, List.set_cons_zero])
    refine wpAnyH_take (i := 3) (oi := _) (v := ?v1x3) rfl (by kernel_rfl) (by kernel_rfl) (by kernel_rfl) (fun _ _ _ h => h) (Or.inl ⟨by kernel_rfl, ?hy1x3⟩) (by with_reducible assumption) ?rest1x3
    case hy1x3 => (intro w hSw; (try dsimp only at hSw); go_simp; (try with_reducible rfl))
    (try simp only [Act.put, List.getElem_toArray, List.getElem_cons_succ, List.getElem_cons_zero, List.setIfInBounds_toArray, List.set_cons_succ, List.set_cons_zero])
    refine wpAnyH_take (i := 4) (oi := _) (v := ?v1x4) rfl (by kernel_rfl) (by kernel_rfl) (by kernel_rfl) (fun _ _ _ h => h) (Or.inl ⟨by kernel_rfl, ?hy1x4⟩) (by with_reducible assumption) ?rest1x4
    case hy1x4 => (intro w hSw; (try dsimp only at hSw); go_simp; (try with_reducible rfl))
    (try simp only [Act.put, List.getElem_toArray, List.getElem_cons_succ, List.getElem_cons_zero, List.setIfInBounds_toArray, List.set_cons_succ, List.set_cons_zero])
    refine wpAnyH_take (i := 5) (oi := _) (v := ?v1x5) rfl (by kernel_rfl) (by kernel_rfl) (by kernel_rfl) (fun _ _ _ h => h) (Or.inl ⟨by kernel_rfl, ?hy1x5⟩) (by with_reducible assumption) ?rest1x5
    case hy1x5 => (intro w hSw; (try dsimp only at hSw); go_simp; (try with_reducible rfl))
    (try simp only [Act.put, List.getElem_toArray, List.getElem_cons_succ, List.getElem_cons_zero, List.setIfInBounds_toArray, List.set_cons_succ, List.set_cons_zero])
    refine wpAnyH_take (i := 6) (oi := _) (v := ?v1x6) rfl (by kernel_rfl) (by kernel_rfl) (by kernel_rfl) (fun _ _ _ h => h) (Or.inl ⟨by kernel_rfl, ?hy1x6⟩) (by with_reducible assumption) ?rest1x6
    case hy1x6 => (intro w hSw; (try dsimp only at hSw); go_simp; (try with_reducible rfl))
    (try simp only [Act.put, List.getElem_toArray, List.getElem_cons_succ, List.getElem_cons_zero, List.setIfInBounds_toArray, List.set_cons_succ, List.set_cons_zero])
    refine wpAnyH_ready (rs := [7]) (by kernel_rfl) (by simp) (AllReadyH.cons (o := _) rfl (fun K hK => ?c1x7) AllReadyH.nil)
    go_simp
    refine (HL.out _ (HB0.out.trans (hHeld.1.mono HB0.out.size))).mono ?_
    rintro e w1 ⟨rfl, hb1⟩
    go_simp
    refine hK.out _ _ (keepR7 hb1 hHeld) (fun hHeld2 => ?_)
    clear hHeld
    have hHeld := hHeld2
    clear hK K hHeld2
    (try simp only [Act.put, List.getElem_toArray, List.getElem_cons_succ, List.getElem_cons_zero, List.setIfInBounds_toArray, List.set_cons_succ, List.set_cons_zero])
    refine wpAnyH_take (i := 8) (oi := _) (v := ?v1x8) rfl (by kernel_rfl) (by kernel_rfl) (by kernel_rfl) (fun _ _ _ h => h) (Or.inl ⟨by kernel_rfl, ?hy1x8⟩) (by with_reducible assumption) ?rest1x8
    case hy1x8 => (intro w hSw; (try dsimp only at hSw); go_simp; (try with_reducible rfl))
    (try simp only [Act.put, List.getElem_toArray, List.getElem_cons_succ, List.getElem_cons_zero, List.setIfInBounds_toArray, List.set_cons_succ, List.set_cons_zero])
    refine wpAnyH_take (i := 9) (oi := _) (v := ?v1x9) rfl (by kernel_rfl) (by kernel_rfl) (by kernel_rfl) (fun _ _ _ h => h) (Or.inl ⟨by kernel_rfl, ?hy1x9⟩) (by with_reducible assumption) ?rest1x9
    case hy1x9 => (intro w hSw; (try dsimp only at hSw); go_simp; (try with_reducible rfl))
    (try simp only [Act.put, List.getElem_toArray, List.getElem_cons_succ, List.getElem_cons_zero, List.setIfInBounds_toArray, List.set_cons_succ, List.set_cons_zero])
    refine wpAnyH_take (i := 10) (oi := _) (v := ?v1x10) rfl (by kernel_rfl) (by kernel_rfl) (by kernel_rfl) (fun _ _ _ h => h) (Or.inl ⟨by kernel_rfl, ?hy1x10⟩) (by with_reducible assumption) ?rest1x10
    case hy1x10 => (intro w hSw; (try dsimp only at hSw); go_simp; (try with_reducible rfl))
    (try simp only [Act.put, List.getElem_toArray, List.getElem_cons_succ, List.getElem_cons_zero, List.setIfInBounds_toArray, List.set_cons_succ, List.set_cons_zero])
    refine wpAnyH_take (i := 11) (oi := _) (v := ?v1x11) rfl (by kernel_rfl) (by kernel_rfl) (by kernel_rfl) (fun _ _ _ h => h) (Or.inl ⟨by kernel_rfl, ?hy1x11⟩) (by with_reducible assumption) ?rest1x11
    case hy1x11 => (intro w hSw; (try dsimp only at hSw); go_simp; (try with_reducible rfl))
    (try simp only [Act.put, List.getElem_toArray, List.getElem_cons_succ, List.getElem_cons_zero, List.setIfInBounds_toArray, List.set_cons_succ, List.set_cons_zero])
    refine wpAnyH_take (i := 12) (oi := _) (v := ?v1x12) rfl (by kernel_rfl) (by kernel_rfl) (by kernel_rfl) (fun _ _ _ h => h) (Or.inl ⟨by kernel_rfl, ?hy1x12⟩) (by with_reducible assumption) ?rest1x12
    case hy1x12 => (intro w hSw; (try dsimp only at hSw); go_simp; (try with_reducible rfl))
    (try simp only [Act.put, List.getElem_toArray, List.getElem_cons_succ, List.getElem_cons_zero, List.setIfInBounds_toArray, List.set_cons_succ, List.set_cons_zero])
    refine wpAnyH_take (i := 13) (oi := _) (v := ?v1x13) rfl (by kernel_rfl) (by kernel_rfl) (by kernel_rfl) (fun _ _ _ h => h) (Or.inl ⟨by kernel_rfl, ?hy1x13⟩) (by with_reducible assumption) ?rest1x13
    case hy1x13 => (intro w hSw; (try dsimp only at hSw); go_simp; (try with_reducible rfl))
    (try simp only [Act.put, List.getElem_toArray, List.getElem_cons_succ, List.getElem_cons_zero, List.setIfInBounds_toArray, List.set_cons_succ, List.set_cons_zero])
    refine wpAnyH_take (i := 14) (oi := _) (v := ?v1x14) rfl (by kernel_rfl) (by kernel_rfl) (by kernel_rfl) (fun _ _ _ h => h) (Or.inl ⟨by kernel_rfl, ?hy1x14⟩) (by with_reducible assumption) ?rest1x14
    case hy1x14 => (intro w hSw; (try dsimp only at hSw); go_simp; (try with_reducible rfl))
    (try simp only [Act.put, List.getElem_toArray, List.getElem_cons_succ, List.getElem_cons_zero, List.setIfInBounds_toArray, List.set_cons_succ, List.set_cons_zero])
    refine wpAnyH_take (i := 15) (oi := _) (v := ?v1x15) rfl (by kernel_rfl) (by kernel_rfl) (by kernel_rfl) (fun _ _ _ h => h) (Or.inl ⟨by kernel_rfl, ?hy1x15⟩) (by with_reducible assumption) ?rest1x15
    case hy1x15 => (intro w hSw; (try dsimp only at hSw); go_simp; (try with_reducible rfl))
    (try simp only [Act.put, List.getElem_toArray, List.getElem_cons_succ, List.getElem_cons_zero, List.setIfInBounds_toArray, List.set_cons_succ, List.set_cons_zero])
    refine wpAnyH_done (by kernel_rfl) ?_ _
    have HBZ := Lib.hid (HB0.out.trans (hHeld.1.mono HB0.out.size))
    clear hHeld
    go_wp2_with fail
    go_ret
    exact ⟨ret_bool (by rw [Bool.eq_iff_iff]; simp; omega), HBZ.out⟩
  · have hd2 : decide (q ≤ en) = false := by simp; omega
    go_enter Tryz.func145, Tryz.ntmps145
    go_wp2_with fail
    have n1 := box_new w [.int .i64 rd, .int .i64 ed, .int .i64 sz, .int .i64 cp, .slice pa pl pc, .int .i64 en, .slice fa fl fc] 101 (by simp)
    have hb0 : Below w.heap.size w (w.alloc (.cells #[.int .i64 rd, .int .i64 ed, .int .i64 sz, .int .i64 cp, .slice pa pl pc, .int .i64 en, .slice fa fl fc] 101)) := (Below.refl _ _).alloc (Nat.le_refl _) _
    generalize w.alloc (.cells #[.int .i64 rd, .int .i64 ed, .int .i64 sz, .int .i64 cp, .slice pa pl pc, .int .i64 en, .slice fa fl fc] 101) = W at *
    obtain ⟨c0, c1, c2, c3, c4, c5, c6⟩ := n1.seven
    have HB0 := Lib.hid hb0
    clear hb0 n1
    go_wp2_with fail
    refine wp_region_held_drew (S := (fun V => Below W.heap.size W V ∧ V.cell? ⟨w.heap.size, 0, none⟩ = some (.int .i64 rd) ∧ V.cell? ⟨w.heap.size, 1, none⟩ = some (.int .i64 ed) ∧ V.cell? ⟨w.heap.size, 2, none⟩ = some (.int .i64 sz) ∧ V.cell? ⟨w.heap.size, 3, none⟩ = some (.int .i64 cp) ∧ V.cell? ⟨w.heap.size, 4, none⟩ = some (.slice pa pl pc) ∧ V.cell? ⟨w.heap.size, 5, none⟩ = some (.int .i64 en) ∧ V.cell? ⟨w.heap.size, 6, none⟩ = some (.slice fa fl fc))) (by kernel_rfl) (⟨(Below.refl _ _).drew, c0, c1, c2, c3, c4, c5, c6⟩) (fun hHeld => ?_)
    refine wpAnyH_take (i := 0) (oi := _) (v := ?v2x0) rfl (by kernel_rfl) (by kernel_rfl) (by kernel_rfl) (fun _ _ _ h => h) (Or.inl ⟨by kernel_rfl, ?hy2x0⟩) (by with_reducible assumption) ?rest2x0
    case hy2x0 => (intro w hSw; (try dsimp only at hSw); go_simp; (try with_reducible rfl))
    (try simp only [Act.put, List.getElem_toArray, List.getElem_cons_zero, List.setIfInBounds_toArray, List.set_cons_succ, List.set_cons_zero])
    refine wpAnyH_take (i := 1) (oi := _) (v := ?v2x1) rfl (by kernel_rfl) (by kernel_rfl) (by kernel_rfl) (fun _ _ _ h => h) (Or.inl ⟨by kernel_rfl, ?hy2x1⟩) (by with_reducible assumption) ?rest2x1
    case hy2x1 => (intro w hSw; (try dsimp only at hSw); go_simp; (try with_reducible rfl))
    (try simp only [Act.put, List.getElem_toArray, List.getElem_cons_succ, List.getElem_cons_zero, List.setIfInBounds_toArray, List.set_cons_succ, List.set_cons_zero])
    refine wpAnyH_take (i := 2) (oi := _) (v := ?v2x2) rfl (by kernel_rfl) (by kernel_rfl) (by kernel_rfl) (fun _ _ _ h => h) (Or.inl ⟨by kernel_rfl, ?hy2x2⟩) (by with_reducible assumption) ?rest2x2
    case hy2x2 => (intro w hSw; (try dsimp only at hSw); go_simp; (try with_reducible rfl))
    (try simp only [Act.put, List.getElem_toArray, List.getElem_cons_succ, List.getElem_cons_zero, List.setIfInBounds_toArray, List.set_cons_succ, List.set_cons_zero])
    refine wpAnyH_take (i := 3) (oi := _) (v := ?v2x3) rfl (by kernel_rfl) (by kernel_rfl) (by kernel_rfl) (fun _ _ _ h => h) (Or.inl ⟨by kernel_rfl, ?hy2x3⟩) (by with_reducible assumption) ?rest2x3
    case hy2x3 => (intro w hSw; (try dsimp only at hSw); go_simp; (try with_reducible rfl))
    (try simp only [Act.put, List.getElem_toArray, List.getElem_cons_succ, List.getElem_cons_zero, List.setIfInBounds_toArray, List.set_cons_succ, List.set_cons_zero])
    refine wpAnyH_take (i := 4) (oi := _) (v := ?v2x4) rfl (by kernel_rfl) (by kernel_rfl) (by kernel_rfl) (fun _ _ _ h => h) (Or.inl ⟨by kernel_rfl, ?hy2x4⟩) (by with_reducible assumption) ?rest2x4
    case hy2x4 => (intro w hSw; (try dsimp only at hSw); go_simp; (try with_reducible rfl))
    (try simp only [Act.put, List.getElem_toArray, List.getElem_cons_succ, List.getElem_cons_zero, List.setIfInBounds_toArray, List.set_cons_succ, List.set_cons_zero])
    refine wpAnyH_take (i := 5) (oi := _) (v := ?v2x5) rfl (by kernel_rfl) (by kernel_rfl) (by kernel_rfl) (fun _ _ _ h => h) (Or.inl ⟨by kernel_rfl, ?hy2x5⟩) (by with_reducible assumption) ?rest2x5
    case hy2x5 => (intro w hSw; (try dsimp only at hSw); go_simp; (try with_reducible rfl))
    (try simp only [Act.put, List.getElem_toArray, List.getElem_cons_succ, List.getElem_cons_zero, List.setIfInBounds_toArray, List.set_cons_succ, List.set_cons_zero])
    refine wpAnyH_take (i := 6) (oi := _) (v := ?v2x6) rfl (by kernel_rfl) (by kernel_rfl) (by kernel_rfl) (fun _ _ _ h => h) (Or.inl ⟨by kernel_rfl, ?hy2x6⟩) (by with_reducible assumption) ?rest2x6
    case hy2x6 => (intro w hSw; (try dsimp only at hSw); go_simp; (try with_reducible rfl))
    (try simp only [Act.put, List.getElem_toArray, List.getElem_cons_succ, List.getElem_cons_zero, List.setIfInBounds_toArray, List.set_cons_succ, List.set_cons_zero])
    refine wpAnyH_ready (rs := [7]) (by kernel_rfl) (by simp) (AllReadyH.cons (o := _) rfl (fun K hK => ?c2x7) AllReadyH.nil)
    go_simp
    refine (HL.out _ (HB0.out.trans (hHeld.1.mono HB0.out.size))).mono ?_
    rintro e w1 ⟨rfl, hb1⟩
    go_simp
    refine hK.out _ _ (keepR7 hb1 hHeld) (fun hHeld2 => ?_)
    clear hHeld
    have hHeld := hHeld2
    clear hK K hHeld2
    (try simp only [Act.put, List.getElem_toArray, List.getElem_cons_succ, List.getElem_cons_zero, List.setIfInBounds_toArray, List.set_cons_succ, List.set_cons_zero])
    refine wpAnyH_take (i := 8) (oi := _) (v := ?v2x8) rfl (by kernel_rfl) (by kernel_rfl) (by kernel_rfl) (fun _ _ _ h => h) (Or.inl ⟨by kernel_rfl, ?hy2x8⟩) (by with_reducible assumption) ?rest2x8
    case hy2x8 => (intro w hSw; (try dsimp only at hSw); go_simp; (try with_reducible rfl))
    (try simp only [Act.put, List.getElem_toArray, List.getElem_cons_succ, List.getElem_cons_zero, List.setIfInBounds_toArray, List.set_cons_succ, List.set_cons_zero])
    refine wpAnyH_take (i := 9) (oi := _) (v := ?v2x9) rfl (by kernel_rfl) (by kernel_rfl) (by kernel_rfl) (fun _ _ _ h => h) (Or.inl ⟨by kernel_rfl, ?hy2x9⟩) (by with_reducible assumption) ?rest2x9
    case hy2x9 => (intro w hSw; (try dsimp only at hSw); go_simp; (try with_reducible rfl))
    (try simp only [Act.put, List.getElem_toArray, List.getElem_cons_succ, List.getElem_cons_zero, List.setIfInBounds_toArray, List.set_cons_succ, List.set_cons_zero])
    refine wpAnyH_take (i := 10) (oi := _) (v := undef) rfl (by kernel_rfl) (by kernel_rfl) (by kernel_rfl) (fun _ _ _ h => h) (Or.inr ⟨by kernel_rfl, rfl⟩) (by with_reducible assumption) ?rest2x10
    (try simp only [Act.put, List.getElem_toArray, List.getElem_cons_succ, List.getElem_cons_zero, List.setIfInBounds_toArray, List.set_cons_succ, List.set_cons_zero])
    refine wpAnyH_take (i := 11) (oi := _) (v := undef) rfl (by kernel_rfl) (by kernel_rfl) (by kernel_rfl) (fun _ _ _ h => h) (Or.inr ⟨by kernel_rfl, rfl⟩) (by with_reducible assumption) ?rest2x11
    (try simp only [Act.put, List.getElem_toArray, List.getElem_cons_succ, List.getElem_cons_zero, List.setIfInBounds_toArray, List.set_cons_succ, List.set_cons_zero])
    refine wpAnyH_take (i := 12) (oi := _) (v := undef) rfl (by kernel_rfl) (by kernel_rfl) (by kernel_rfl) (fun _ _ _ h => h) (Or.inr ⟨by kernel_rfl, rfl⟩) (by with_reducible assumption) ?rest2x12
    (try simp only [Act.put, List.getElem_toArray, List.getElem_cons_succ, List.getElem_cons_zero, List.setIfInBounds_toArray, List.set_cons_succ, List.set_cons_zero])
    refine wpAnyH_take (i := 13) (oi := _) (v := ?v2x13) rfl (by kernel_rfl) (by kernel_rfl) (by kernel_rfl) (fun _ _ _ h => h) (Or.inl ⟨by kernel_rfl, ?hy2x13⟩) (by with_reducible assumption) ?rest2x13
    case hy2x13 => (intro w hSw; (try dsimp only at hSw); go_simp; (try with_reducible rfl))
    (try simp only [Act.put, List.getElem_toArray, List.getElem_cons_succ, List.getElem_cons_zero, List.setIfInBounds_toArray, List.set_cons_succ, List.set_cons_zero])
    refine wpAnyH_take (i := 14) (oi := _) (v := ?v2x14) rfl (by kernel_rfl) (by kernel_rfl) (by kernel_rfl) (fun _ _ _ h => h) (Or.inl ⟨by kernel_rfl, ?hy2x14⟩) (by with_reducible assumption) ?rest2x14
    case hy2x14 => (intro w hSw; (try dsimp only at hSw); go_simp; (try with_reducible rfl))
    (try simp only [Act.put, List.getElem_toArray, List.getElem_cons_succ, List.getElem_cons_zero, List.setIfInBounds_toArray, List.set_cons_succ, List.set_cons_zero])
    refine wpAnyH_take (i := 15) (oi := _) (v := ?v2x15) rfl (by kernel_rfl) (by kernel_rfl) (by kernel_rfl) (fun _ _ _ h => h) (Or.inl ⟨by kernel_rfl, ?hy2x15⟩) (by with_reducible assumption) ?rest2x15
    case hy2x15 => (intro w hSw; (try dsimp only at hSw); go_simp; (try with_reducible rfl))
    (try simp only [Act.put, List.getElem_toArray, List.getElem_cons_succ, List.getElem_cons_zero, List.setIfInBounds_toArray, List.set_cons_succ, List.set_cons_zero])
    refine wpAnyH_done (by kernel_rfl) ?_ _
    have HBZ := Lib.hid (HB0.out.trans (hHeld.1.mono HB0.out.size))
    clear hHeld
    go_wp2_with fail
    go_ret
    exact ⟨ret_bool (by rw [Bool.eq_iff_iff]; simp; omega), HBZ.out⟩
end Go.Proofs.YtdcahilfmhkmiaaGreatDoor
