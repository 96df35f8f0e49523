/- The laws' words on rows of Lines: sizes, the same, a copy. -/
import Derived.Test.YtfjmcmdkmecgiaaLns
import Derived.StillTailTactics
import Derived.Deep.RegionHeld3
namespace Go.Proofs.Ytfjmcmdkmecgiaa
open Go.RowKit

theorem keepL {a w w' : World} {p0 p1 p2 p3 p4 p5 p6 p7 p8 p9 p10 p11 : Addr} {x0 x1 x2 x3 x4 x5 x6 x7 x8 x9 x10 x11 : Value} (hb : Below w.heap.size w w') (h : Below a.heap.size a w ∧ w.cell? p0 = some x0 ∧ w.cell? p1 = some x1 ∧ w.cell? p2 = some x2 ∧ w.cell? p3 = some x3 ∧ w.cell? p4 = some x4 ∧ w.cell? p5 = some x5 ∧ w.cell? p6 = some x6 ∧ w.cell? p7 = some x7 ∧ w.cell? p8 = some x8 ∧ w.cell? p9 = some x9 ∧ w.cell? p10 = some x10 ∧ w.cell? p11 = some x11) :
    Below a.heap.size a w' ∧ w'.cell? p0 = some x0 ∧ w'.cell? p1 = some x1 ∧ w'.cell? p2 = some x2 ∧ w'.cell? p3 = some x3 ∧ w'.cell? p4 = some x4 ∧ w'.cell? p5 = some x5 ∧ w'.cell? p6 = some x6 ∧ w'.cell? p7 = some x7 ∧ w'.cell? p8 = some x8 ∧ w'.cell? p9 = some x9 ∧ w'.cell? p10 = some x10 ∧ w'.cell? p11 = some x11 :=
  have c {p : Addr} {x : Value} (h : w.cell? p = some x) : w'.cell? p = some x := (hb.cell (World.block_lt_of_cell? w _ h)).trans h
  ⟨h.1.trans (hb.mono h.1.size), c h.2.1, c h.2.2.1, c h.2.2.2.1, c h.2.2.2.2.1, c h.2.2.2.2.2.1, c h.2.2.2.2.2.2.1, c h.2.2.2.2.2.2.2.1, c h.2.2.2.2.2.2.2.2.1, c h.2.2.2.2.2.2.2.2.2.1, c h.2.2.2.2.2.2.2.2.2.2.1, c h.2.2.2.2.2.2.2.2.2.2.2.1, c h.2.2.2.2.2.2.2.2.2.2.2.2⟩

set_option maxHeartbeats 1000000 in
set_option maxRecDepth 100000 in
theorem szLineS_calls {a : Option Addr} {len cap : Nat} {l : Lns} {w : World} (h : RawLns w a len l) (n : Int) (hn0 : 0 ≤ n) (hn1 : n ≤ 1048576) :
    Calls Try.prog 20 #[.slice a len cap, .int .i64 n] w fun e w' => e = .returned (.int .i64 (szLns l n)) ∧ Below w.heap.size w w' := by
  have hm := h.most
  have hlen := h.long
  by_cases hbig : n < (len : Int)
  · have hs : szLns l n = -1 := by unfold szLns; rw [if_pos (by omega)]
    have HS := Lib.hid hs; clear hs
    go_enter Try.func20, Try.ntmps20
    go_wp2_with fail
    all_goals first
      | (go_ret; exact ⟨ret_int (by rw [HS.out]), Below.refl _ _⟩)
      | (exfalso; omega)
  · have hs : szLns l n = szLnsGo (l.drop 0) (n - (len : Int)) := by unfold szLns; rw [if_neg (by omega), hlen]; rfl
    have HS := Lib.hid hs; clear hs
    have hr : ∃ R, R = szLns l n := ⟨_, rfl⟩
    obtain ⟨R, hR⟩ := hr
    rw [← hR] at HS
    rw [← hR]
    have HRR := Lib.hid hR
    clear hR
    go_enter Try.func20, Try.ntmps20
    go_wp2_with fail
    go_loopw [1, 5] (fun v i wr => ∃ (k : Nat) (m : Int), i = .int .i64 (k : Int) ∧ v = .int .i64 m ∧ k ≤ len ∧ 0 ≤ m ∧ m ≤ 1048576 ∧ R = szLnsGo (l.drop k) m ∧ Below w.heap.size w wr) (fun _ i _ => len - (intOf i).toNat)
    case atStart => exact ⟨0, _, rfl, rfl, Nat.zero_le _, by omega, by omega, HS.out, Below.refl _ _⟩
    case round =>
      clear HS
      obtain ⟨k, m, rfl, rfl, hk, hm0, hm1, hgo, hbl⟩ := hrel
      by_cases hkl : k < len
      · have hh := h.below hbl
        obtain ⟨b, o, rfl⟩ := hh.there (by omega)
        obtain ⟨⟨c0, c1, c2, c3, c4⟩, x, cx, c5, r0⟩ := hh.cell b o rfl k hkl
        rw [lns_drop (by omega : k < l.length), szLnsGo_cons] at hgo
        have hcall := szLine_calls (p := (lnAt l k).1) (ca := cx) r0 m hm0 hm1
        have hle := szSn_le (lnAt l k).2 m hm0
        generalize szSn (lnAt l k).2 m = r at *
        generalize (lnAt l k).1 = p at *
        generalize (lnAt l k).2.length = q at *
        obtain ⟨p0, p1, p2, p3, p4⟩ := p
        dsimp only at c0 c1 c2 c3 c4
        have HC := Lib.hid hcall
        have HBL := Lib.hid hbl
        clear hh h hbl hcall r0
        unfold lineV at HC
        by_cases hr : r < 0
        · rw [if_pos hr] at hgo
          have HG := Lib.hid hgo; clear hgo
          go_wp2_with (go_at_call 41; refine HC.out.mono ?_; rintro e w1 ⟨rfl, hb1⟩)
          all_goals first
            | (go_ret; exact ⟨ret_int (by rw [HG.out]), HBL.out.trans (hb1.mono HBL.out.size)⟩)
            | (exfalso; omega)
        · rw [if_neg hr] at hgo
          have HG := Lib.hid hgo; clear hgo
          go_wp2_with (go_at_call 41; refine HC.out.mono ?_; rintro e w1 ⟨rfl, hb1⟩)
          go_roundw
          case rel => exact ⟨k + 1, r, by go_num, rfl, by omega, by omega, by omega, HG.out, HBL.out.trans (hb1.mono HBL.out.size)⟩
          case measure => simp [intOf]; omega
      · have hd : l.drop k = [] := List.drop_eq_nil_of_le (by omega)
        rw [hd] at hgo
        have HG := Lib.hid hgo; clear hgo hd
        go_wp2_with fail
        go_ret
        exact ⟨ret_int (by rw [HG.out]; rfl), hbl⟩

set_option maxHeartbeats 2000000 in
set_option maxRecDepth 100000 in
theorem eqLineS_same {S S' : Nat → Prop} {a b : Option Addr} {la ca lb cb : Nat} {l : Lns} {w : World} (h : InLns S w a la l) (h' : InLns S' w b lb l) :
    Calls Try.prog 28 #[.slice a la ca, .slice b lb cb] w fun e w' => e = .returned (.bool true) ∧ Below w.heap.size w w' := by
  have hm := h.most
  have hl := h.long
  have hl' := h'.long
  obtain rfl : la = lb := by omega
  go_enter Try.func28, Try.ntmps28
  go_wp2_with fail
  go_loopw [5] (fun i wr => ∃ k : Nat, i = .int .i64 (k : Int) ∧ k ≤ la ∧ Below w.heap.size w wr) (fun i _ => la - (intOf i).toNat)
  case atStart => exact ⟨0, rfl, Nat.zero_le _, Below.refl _ _⟩
  case round =>
    obtain ⟨k, rfl, hk, hbl⟩ := hrel
    by_cases hkl : k < la
    · have hh := h.below hbl
      have hh' := h'.below hbl
      obtain ⟨b1, o1, rfl⟩ := hh.there (by omega)
      obtain ⟨b2, o2, rfl⟩ := hh'.there (by omega)
      obtain ⟨-, ⟨c0, c1, c2, c3, c4⟩, x, cx, c5, r1, -⟩ := hh.cell b1 o1 rfl k hkl
      obtain ⟨-, ⟨d0, d1, d2, d3, d4⟩, x', cx', d5, s1, -⟩ := hh'.cell b2 o2 rfl k hkl
      have hcall := fun (W : World) (hb : Below wr.heap.size wr W) => eqLine_same (w := W) (p := (lnAt l k).1) (ca := cx) (ca' := cx') (r1.below hb) (s1.below hb)
      have HBL := Lib.hid hbl
      clear hh hh' h h' hbl r1 s1
      generalize (lnAt l k).1 = p at *
      generalize (lnAt l k).2.length = pl at *
      obtain ⟨p0, p1, p2, p3, p4⟩ := p
      dsimp only at c0 c1 c2 c3 c4 d0 d1 d2 d3 d4
      have HC := Lib.hid hcall
      clear hcall
      unfold lineV at HC
      go_wp2_with fail
      first | (go_region_held3 (fun W => Below wr.heap.size wr W ∧ W.cell? ⟨b1, o1 + k * 6, none⟩ = some (.int .i64 p0) ∧ W.cell? ⟨b1, o1 + k * 6 + 1, none⟩ = some (.int .i64 p1) ∧ W.cell? ⟨b1, o1 + k * 6 + 2, none⟩ = some (.int .i64 p2) ∧ W.cell? ⟨b1, o1 + k * 6 + 3, none⟩ = some (.int .i64 p3) ∧ W.cell? ⟨b1, o1 + k * 6 + 4, none⟩ = some (.int .i64 p4) ∧ W.cell? ⟨b1, o1 + k * 6 + 5, none⟩ = some (.slice x pl cx) ∧ W.cell? ⟨b2, o2 + k * 6, none⟩ = some (.int .i64 p0) ∧ W.cell? ⟨b2, o2 + k * 6 + 1, none⟩ = some (.int .i64 p1) ∧ W.cell? ⟨b2, o2 + k * 6 + 2, none⟩ = some (.int .i64 p2) ∧ W.cell? ⟨b2, o2 + k * 6 + 3, none⟩ = some (.int .i64 p3) ∧ W.cell? ⟨b2, o2 + k * 6 + 4, none⟩ = some (.int .i64 p4) ∧ W.cell? ⟨b2, o2 + k * 6 + 5, none⟩ = some (.slice x' pl cx')) (first | exact ⟨(Below.refl _ _).drew, c0, c1, c2, c3, c4, c5, d0, d1, d2, d3, d4, d5⟩ | (with_reducible assumption) | (refine keepL (by assumption) (by assumption))) (first | (go_at_call 48; (with_reducible refine (HC.out _ ?_).mono ?_); (· exact (by assumption : Below wr.heap.size wr _ ∧ _).1); rintro e w2 ⟨rfl, hb2⟩))) | fail
      have HB2 : Below w.heap.size w w2 := HBL.out.trans ((by assumption : Below wr.heap.size wr w2 ∧ _).1.mono HBL.out.size)
      go_wp2_with fail
      go_roundw
      case rel => exact ⟨k + 1, by go_num, by omega, HB2⟩
      case measure => simp [intOf]; omega
    · clear h h'
      go_wp2_with fail
      go_ret
      exact ⟨rfl, hbl⟩
end Go.Proofs.Ytfjmcmdkmecgiaa
