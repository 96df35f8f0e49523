/- The laws' words on nets: how many bytes, whether two are the same. -/
import Derived.Test.YthimndilobadeaaDoorNet
import Derived.StillTailTactics
import Derived.Deep.RegionHeld3
namespace Go.Proofs.YthimndilobadeaaDoor
open Go.RowKit

/-- Four cells that a region reads, behind a call that makes memory. -/
theorem keepW4 {a w w' : World} {p q r s : Addr} {x y z u : Value} (hb : Below w.heap.size w w') (h : Below a.heap.size a w ∧ w.cell? p = some x ∧ w.cell? q = some y ∧ w.cell? r = some z ∧ w.cell? s = some u) :
    Below a.heap.size a w' ∧ w'.cell? p = some x ∧ w'.cell? q = some y ∧ w'.cell? r = some z ∧ w'.cell? s = some u :=
  have c {p : Addr} {x : Value} (h : w.cell? p = some x) : w'.cell? p = some x := (hb.cell (World.block_lt_of_cell? w _ h)).trans h
  ⟨h.1.trans (hb.mono h.1.size), c h.2.1, c h.2.2.1, c h.2.2.2.1, c h.2.2.2.2⟩

set_option maxHeartbeats 1000000 in
set_option maxRecDepth 100000 in
theorem szWayS_calls {a : Option Addr} {len cap : Nat} {l : Nt} {w : World} (h : RawNet w a len l) :
    Calls Tryd.prog 5 #[.slice a len cap, .int .i64 1048576] w fun e w' => e = .returned (.int .i64 (szNet l 1048576)) ∧ Below w.heap.size w w' := by
  have hm := h.most
  have hlen := h.long
  by_cases hbig : 1048576 < (len : Int)
  · have hs : szNet l 1048576 = -1 := by unfold szNet; rw [if_pos (by omega)]
    have HS := Lib.hid hs; clear hs
    go_enter Tryd.func5, Tryd.ntmps5
    go_wp2_with fail
    all_goals first
      | (go_ret; exact ⟨ret_int (by rw [HS.out]), Below.refl _ _⟩)
      | (exfalso; omega)
  · have hs : szNet l 1048576 = szNetGo (l.drop 0) (1048576 - (len : Int)) := by unfold szNet; rw [if_neg (by omega), hlen]; rfl
    have HS := Lib.hid hs; clear hs
    have hr : ∃ R, R = szNet l 1048576 := ⟨_, rfl⟩
    obtain ⟨R, hR⟩ := hr
    rw [← hR] at HS
    rw [← hR]
    have HRR := Lib.hid hR
    clear hR
    go_enter Tryd.func5, Tryd.ntmps5
    go_wp2_with fail
    go_loopw [1, 5] (fun v i wr => ∃ (k : Nat) (m : Int), i = .int .i64 (k : Int) ∧ v = .int .i64 m ∧ k ≤ len ∧ 0 ≤ m ∧ m ≤ 1048576 ∧ R = szNetGo (l.drop k) m ∧ Below w.heap.size w wr) (fun _ i _ => len - (intOf i).toNat)
    case atStart => exact ⟨0, _, rfl, rfl, Nat.zero_le _, by omega, by omega, HS.out, Below.refl _ _⟩
    case round =>
      clear HS
      obtain ⟨k, m, rfl, rfl, hk, hm0, hm1, hgo, hbl⟩ := hrel
      by_cases hkl : k < len
      · have hh := h.below hbl
        obtain ⟨b, o, rfl⟩ := hh.there (by omega)
        obtain ⟨x, cx, y, cy, c0, c1, r0, r1⟩ := hh.cell b o rfl k hkl
        rw [nt_drop (by omega : k < l.length), szNetGo_cons] at hgo
        have hcall := szWay_calls (ca := cx) (cb := cy) r0 r1 m hm0 hm1
        have hle := szWy_le ((wyAt l k).1, (wyAt l k).2) m hm0
        change R = if szWy ((wyAt l k).1, (wyAt l k).2) m < 0 then -1 else szNetGo (l.drop (k + 1)) (szWy ((wyAt l k).1, (wyAt l k).2) m) at hgo
        generalize szWy ((wyAt l k).1, (wyAt l k).2) m = r at *
        have HC := Lib.hid hcall
        have HBL := Lib.hid hbl
        clear hh h hbl hcall r0 r1
        unfold wayV at HC
        by_cases hr : r < 0
        · rw [if_pos hr] at hgo
          have HG := Lib.hid hgo; clear hgo
          go_wp2_with (go_at_call 16; refine HC.out.mono ?_; rintro e w1 ⟨rfl, hb1⟩)
          all_goals first
            | (go_ret; exact ⟨ret_int (by rw [HG.out]), HBL.out.trans (hb1.mono HBL.out.size)⟩)
            | (exfalso; omega)
        · rw [if_neg hr] at hgo
          have HG := Lib.hid hgo; clear hgo
          go_wp2_with (go_at_call 16; refine HC.out.mono ?_; rintro e w1 ⟨rfl, hb1⟩)
          go_roundw
          case rel => exact ⟨k + 1, r, by go_num, rfl, by omega, by omega, by omega, HG.out, HBL.out.trans (hb1.mono HBL.out.size)⟩
          case measure => simp [intOf]; omega
      · have hd : l.drop k = [] := List.drop_eq_nil_of_le (by omega)
        rw [hd] at hgo
        have HG := Lib.hid hgo; clear hgo hd
        go_wp2_with fail
        go_ret
        exact ⟨ret_int (by rw [HG.out]; rfl), hbl⟩

set_option maxHeartbeats 1000000 in
set_option maxRecDepth 100000 in
theorem eqWayS_calls {S S' : Nat → Prop} {a b : Option Addr} {la ca lb cb : Nat} {l m : Nt} {w : World} (h : InNet S w a la l) (h' : InNet S' w b lb m) :
    Calls Tryd.prog 10 #[.slice a la ca, .slice b lb cb] w fun e w' => e = .returned (.bool (decide (l = m))) ∧ Below w.heap.size w w' := by
  have hm := h.most
  have hm' := h'.most
  have hl := h.long
  have hl' := h'.long
  by_cases hne : la = lb
  · subst hne
    have hres : ∃ R, R = decide (l = m) := ⟨_, rfl⟩
    obtain ⟨R, hR⟩ := hres
    rw [← hR]
    have HRR := Lib.hid hR
    clear hR
    go_enter Tryd.func10, Tryd.ntmps10
    go_wp2_with fail
    go_loopw [5] (fun i wr => ∃ k : Nat, i = .int .i64 (k : Int) ∧ k ≤ la ∧ eqNtTo l m k ∧ Below w.heap.size w wr) (fun i _ => la - (intOf i).toNat)
    case atStart => exact ⟨0, rfl, Nat.zero_le _, eqNtTo_zero _ _, Below.refl _ _⟩
    case round =>
      obtain ⟨k, rfl, hk, hto, hbl⟩ := hrel
      by_cases hkl : k < la
      · have hh := h.below hbl
        have hh' := h'.below hbl
        obtain ⟨b1, o1, rfl⟩ := hh.there (by omega)
        obtain ⟨b2, o2, rfl⟩ := hh'.there (by omega)
        obtain ⟨-, x, cx, y, cy, c0, c1, r0, r1, -, -⟩ := hh.cell b1 o1 rfl k hkl
        obtain ⟨-, x', cx', y', cy', d0, d1, s0, s1, -, -⟩ := hh'.cell b2 o2 rfl k hkl
        have hcall := fun (W : World) (hb : Below wr.heap.size wr W) => eqWay_calls (w := W) (ca := cx) (cb := cy) (ca' := cx') (cb' := cy') (r0.below hb) (r1.below hb) (s0.below hb) (s1.below hb)
        by_cases hq : wyAt l k = wyAt m k
        · have hto' := eqNtTo_succ hto hq
          have HT := Lib.hid hto'
          clear hto'
          rw [show decide (((wyAt l k).1, (wyAt l k).2) = ((wyAt m k).1, (wyAt m k).2)) = true from decide_eq_true hq] at hcall
          have HC := Lib.hid hcall
          have HBL := Lib.hid hbl
          unfold wayV at HC
          generalize (wyAt l k).1.length = p0 at *
          generalize (wyAt l k).2.length = p1 at *
          generalize (wyAt m k).1.length = q0 at *
          generalize (wyAt m k).2.length = q1 at *
          clear hh hh' h h' hcall hto hbl hq r0 r1 s0 s1
          go_wp2_with fail
          first | (go_region_held3 (fun W => Below wr.heap.size wr W ∧ W.cell? ⟨b1, o1 + k * 2, none⟩ = some (.slice x p0 cx) ∧ W.cell? ⟨b1, o1 + k * 2 + 1, none⟩ = some (.slice y p1 cy) ∧ W.cell? ⟨b2, o2 + k * 2, none⟩ = some (.slice x' q0 cx') ∧ W.cell? ⟨b2, o2 + k * 2 + 1, none⟩ = some (.slice y' q1 cy')) (first | exact ⟨(Below.refl _ _).drew, c0, c1, d0, d1⟩ | assumption | (refine keepW4 (by assumption) (by assumption))) (first | (go_at_call 24; (with_reducible refine (HC.out _ ?_).mono ?_); (· exact (by assumption : Below wr.heap.size wr _ ∧ _).1); rintro e w2 ⟨rfl, hb2⟩))) | fail
          have HB2 : Below w.heap.size w w2 := HBL.out.trans ((by assumption : Below wr.heap.size wr w2 ∧ _).1.mono HBL.out.size)
          go_wp2_with fail
          go_roundw
          case rel => exact ⟨k + 1, by go_num, by omega, HT.out, HB2⟩
          case measure => simp [intOf]; omega
        · have hto' : ¬ l = m := fun e => hq (by rw [e])
          have HT := Lib.hid hto'
          clear hto'
          rw [show decide (((wyAt l k).1, (wyAt l k).2) = ((wyAt m k).1, (wyAt m k).2)) = false from decide_eq_false hq] at hcall
          have HC := Lib.hid hcall
          have HBL := Lib.hid hbl
          unfold wayV at HC
          generalize (wyAt l k).1.length = p0 at *
          generalize (wyAt l k).2.length = p1 at *
          generalize (wyAt m k).1.length = q0 at *
          generalize (wyAt m k).2.length = q1 at *
          clear hh hh' h h' hcall hto hbl hq r0 r1 s0 s1
          go_wp2_with fail
          first | (go_region_held3 (fun W => Below wr.heap.size wr W ∧ W.cell? ⟨b1, o1 + k * 2, none⟩ = some (.slice x p0 cx) ∧ W.cell? ⟨b1, o1 + k * 2 + 1, none⟩ = some (.slice y p1 cy) ∧ W.cell? ⟨b2, o2 + k * 2, none⟩ = some (.slice x' q0 cx') ∧ W.cell? ⟨b2, o2 + k * 2 + 1, none⟩ = some (.slice y' q1 cy')) (first | exact ⟨(Below.refl _ _).drew, c0, c1, d0, d1⟩ | assumption | (refine keepW4 (by assumption) (by assumption))) (first | (go_at_call 24; (with_reducible refine (HC.out _ ?_).mono ?_); (· exact (by assumption : Below wr.heap.size wr _ ∧ _).1); rintro e w2 ⟨rfl, hb2⟩))) | fail
          have HB2 : Below w.heap.size w w2 := HBL.out.trans ((by assumption : Below wr.heap.size wr w2 ∧ _).1.mono HBL.out.size)
          go_wp2_with fail
          go_ret
          exact ⟨ret_bool (by rw [HRR.out, decide_eq_false HT.out]), HB2⟩
      · have hkl' : k = la := by omega
        have he : l = m := eqNtTo_all (by omega) (by rw [hl, ← hkl']; exact hto)
        have HE := Lib.hid he
        clear h h' hto he hl hl'
        go_wp2_with fail
        go_ret
        exact ⟨ret_bool (by rw [HRR.out, decide_eq_true HE.out]), hbl⟩
  · have he : ¬ l = m := fun e => by subst e; omega
    have HE := Lib.hid he
    have hd : ((la : Int) != (lb : Int)) = true := by simp; omega
    clear h h' he hl hl'
    go_enter Tryd.func10, Tryd.ntmps10
    go_wp2_with fail
    go_ret
    exact ⟨ret_bool (by rw [decide_eq_false HE.out]), Below.refl _ _⟩
end Go.Proofs.YthimndilobadeaaDoor
