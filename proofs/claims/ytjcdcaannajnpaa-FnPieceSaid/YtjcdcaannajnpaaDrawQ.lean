/- Drawn pieces, as a rule right ones; the draws of chapter 3's promise. -/
import Derived.Test.YtjcdcaannajnpaaDrawP
namespace Go.Proofs.Ytjcdcaannajnpaa
open Go.RowKit

def AnyL (L : List Pc) : Prop := Tiny 200000 L ∧ L.length ≤ 60
theorem rightL_any {L : List Pc} (h : RightL L) : AnyL L := ⟨⟨by have := h.2.1.1; omega, h.2.1.2⟩, by have := h.2.2; omega⟩
theorem rightL_app {L : List Pc} (h : RightL L) {n : Int} {t : List UInt8} (h0 : 0 ≤ n) (h1 : n ≤ 200) (ht : t.length ≤ 100) : AnyL (L ++ [(n, t)]) := by
  refine ⟨⟨?_, fun p hp => ?_⟩, ?_⟩
  · rw [bytesN_app]; have := h.2.1.1; simp only [bytesN]; omega
  · rcases List.mem_append.1 hp with hp | hp
    · exact h.2.1.2 p hp
    · simp at hp; subst hp; exact ⟨h0, h1⟩
  · have := h.2.2; simp; omega
/-- The first k of a row of single bytes. -/
def OnesL (k : Nat) (L : List Pc) : Prop := L.length = k ∧ bytesN L = k ∧ ∀ p ∈ L, 0 ≤ p.1 ∧ p.1 ≤ 200
theorem onesL_succ {k : Nat} {L : List Pc} (h : OnesL k L) (hk : k ≤ 41) : OnesL (k + 1) (L ++ [(3 * (k : Int), [97])]) := by
  refine ⟨by simp [h.1], by rw [bytesN_app, h.2.1]; simp [bytesN], fun p hp => ?_⟩
  rcases List.mem_append.1 hp with hp | hp
  · exact h.2.2 p hp
  · simp at hp; subst hp; dsimp only; omega

set_option maxHeartbeats 2000000 in
set_option maxRecDepth 100000 in
theorem l02Pieces_calls {a : Option Addr} {len cap : Nat} {z : List Int} {p : Nat} {w : World} (h : Src a len cap z p w) :
    Calls Try.prog 41 #[.pointer (some ⟨p, 0, none⟩)] w (DrawnP a len cap z p AnyL w) := by
  have hzz : (Try.prog.info? 69).map (fun i => (i.zero, i.size, i.bytes)) = some (some (.agg #[.int .i64 0, gs []]), 2, 24) := by kernel_rfl
  obtain ⟨i0, hi, hz0, hz1, hz2⟩ := info_parts hzz
  have hp := src_lt h
  have HA := Lib.hid (row_below h.1)
  have H0 := Lib.hid (piecesOf_calls h)
  clear h hzz
  go_enter Try.func41, Try.ntmps41
  go_wp2_with fail
  refine H0.out.mono ?_
  rintro e w1 ⟨v, L, rfl, hown, hL, hs, hg⟩
  have H1 := Lib.hid (src_draw hs (most := 12) (by omega))
  have HO := Lib.hid hown
  have HL := Lib.hid hL
  have HG := Lib.hid hg
  clear hs hown hL hg H0
  go_wp2_with fail
  refine H1.out.mono ?_
  rintro e w2 ⟨r, rfl, hr0, hr1, hs2, hg2⟩
  have HO2 := Lib.hid (HO.out.kept hg2 (Or.inr (by intro e; have := (HO.out.lt p e).1; omega)))
  have HG2 := Lib.hid (grown_trans HG.out hg2)
  have hr12 : r < 12 := by omega
  clear hg2 HO HG H1 hr1
  by_cases h0 : r = 0
  · subst h0
    have H2 := Lib.hid (src_draw hs2 (most := 40) (by omega))
    clear hs2 hr0 hr12
    go_wp2_with fail
    refine H2.out.mono ?_
    rintro e w3 ⟨n, rfl, hn0, hn1, hs3, hg3⟩
    have hn40 : n ≤ 39 := by omega
    have H3 := Lib.hid (src_draw hs3 (most := 3) (by omega))
    have HO3 := Lib.hid (HO2.out.kept hg3 (Or.inr (by intro e; have := (HO2.out.lt p e).1; omega)))
    have HG3 := Lib.hid (grown_trans HG2.out hg3)
    clear hs3 hg3 hn1 H2 HO2 HG2
    go_wp2_with fail
    refine H3.out.mono ?_
    rintro e w4 ⟨m, rfl, hm0, hm1, hs4, hg4⟩
    obtain ⟨m, rfl⟩ := Int.eq_ofNat_of_zero_le hm0
    have hm3 : m ≤ 2 := by omega
    have H4 := Lib.hid (src_bytes hs4 m (by omega))
    have HO4 := Lib.hid (HO3.out.kept hg4 (Or.inr (by intro e; have := (HO3.out.lt p e).1; omega)))
    have HG4 := Lib.hid (grown_trans HG3.out hg4)
    clear hs4 hg4 hm1 H3 HO3 HG3
    go_wp2_with fail
    refine H4.out.mono ?_
    rintro e w5 ⟨t, rfl, ht, hs5, hg5⟩
    have hown5 := HO4.out.kept hg5 (Or.inr (by intro e; have := (HO4.out.lt p e).1; omega))
    have HG5 := Lib.hid (grown_trans HG4.out hg5)
    have HS5 := Lib.hid hs5
    have hLl := HL.out.2.2
    have hw5 := HG5.out.size
    have HT := Lib.hid ht
    clear hs5 hg5 ht H4 HO4 HG4
    go_wp2_with (at_builtin; refine wpList_append_own _ rfl _ _ 23 rfl w.heap.size 69 i0 (.agg #[.int .i64 0, gs []]) 2 24 Try.underlying23 hi hz0 hz1 hz2 rfl (by decide) _ _ _ rfl (hown5.alloc _) ⟨w5.heap.size, 0, none⟩ 1 1 [.int .i64 n, gs t] rfl rfl (two_new _ _ _ _) (two_cell _ _ _) (by unfold maxLen; omega) (by omega) (by simp; omega) ?_)
    intro v' w6 hown' hgrow _
    have hbl : ∀ k, Value.ownBlock _ = some k → w.heap.size ≤ k := fun k hk => (hown5.lt k hk).1
    have R1 : w6.ownsRow w.heap.size 69 2 v' (L ++ [(n, t)]).length (pv (L ++ [(n, t)])) := by rw [pv_append, List.length_append]; simpa [pv] using hown'
    have R2 := src_far (src_alloc HS5.out _) hgrow hbl hp HA.out
    have R3 : w.grownBy w6 (some p) := grown_far (grown_trans HG5.out (World.grownBy_alloc w5 _ _)) hgrow hbl
    have HR := Lib.hid (And.intro R1 (And.intro R2 R3))
    clear hown' hgrow hown5 R1 R2 R3 hbl
    go_wp2_with fail
    go_ret
    exact ⟨_, L ++ [(n, t)], rfl, HR.out.1, rightL_app HL.out hn0 (by omega) (by have := HT.out; omega), HR.out.2.1, HR.out.2.2⟩
  · by_cases h1 : r = 1
    · subst h1
      have HS2 := Lib.hid hs2
      clear hs2 hr0 hr12 h0
      go_wp2_with fail
      go_loopw [3, 4] (fun v i wr => ∃ (k : Nat) (L : List Pc), i = .int .i64 (k : Int) ∧ k ≤ 41 ∧ OnesL k L ∧ wr.ownsRow w.heap.size 69 2 v L.length (pv L) ∧ Src a len cap z p wr ∧ w.grownBy wr (some p)) (fun _ i _ => 41 - (intOf i).toNat)
      case atStart => exact ⟨0, [], rfl, by omega, ⟨rfl, rfl, fun p hp => by cases hp⟩, World.ownsRow_nil _ _ _ _, HS2.out, HG2.out⟩
      case round =>
        clear HS2 HG2 HO2 HL
        obtain ⟨k, L, rfl, hk, hL, hown, hs, hg⟩ := hrel
        have H2 := Lib.hid (src_draw hs (most := 3) (by omega))
        have HO := Lib.hid hown
        have HL := Lib.hid hL
        have HG := Lib.hid hg
        clear hs hg hown hL
        go_wp2_with fail
        refine H2.out.mono ?_
        rintro e w3 ⟨q, rfl, hq0, hq1, hs3, hg3⟩
        have hq3 : q ≤ 2 := by omega
        have hown3 := HO.out.kept hg3 (Or.inr (by intro e; have := (HO.out.lt p e).1; omega))
        have HG3 := Lib.hid (grown_trans HG.out hg3)
        have HS3 := Lib.hid hs3
        have hLl : L.length = k := HL.out.1
        have HLL := Lib.hid hLl
        have hLl2 : L.length ≤ 41 := by omega
        have hw3 := HG3.out.size
        clear hs3 hg3 hq1 H2 HO HG hLl
        by_cases hlt : (k : Int) < 39 + q
        · have hk40 : k ≤ 40 := by omega
          go_wp2_with (at_builtin; refine wpList_append_own _ rfl _ _ 23 rfl w.heap.size 69 i0 (.agg #[.int .i64 0, gs []]) 2 24 Try.underlying23 hi hz0 hz1 hz2 rfl (by decide) _ _ _ rfl (hown3.alloc _) ⟨w3.heap.size, 0, none⟩ 1 1 [.int .i64 (3 * (k : Int)), gs [97]] rfl rfl (two_new _ _ _ _) (two_cell _ _ _) (by unfold maxLen; omega) (by omega) (by simp; omega) ?_)
          intro v' w6 hown' hgrow _
          have hbl : ∀ k, Value.ownBlock _ = some k → w.heap.size ≤ k := fun k hk => (hown3.lt k hk).1
          have R1 : w6.ownsRow w.heap.size 69 2 v' (L ++ [(3 * (k : Int), [97])]).length (pv (L ++ [(3 * (k : Int), [97])])) := by rw [pv_append, List.length_append]; simpa [pv] using hown'
          have R2 := src_far (src_alloc HS3.out _) hgrow hbl hp HA.out
          have R3 : w.grownBy w6 (some p) := grown_far (grown_trans HG3.out (World.grownBy_alloc w3 _ _)) hgrow hbl
          have HR := Lib.hid (And.intro R1 (And.intro R2 R3))
          clear hown' hgrow hown3 R1 R2 R3 hbl
          go_wp2_with fail
          go_roundw
          case rel => exact ⟨k + 1, _, by go_num, by omega, onesL_succ HL.out hk, HR.out.1, HR.out.2.1, HR.out.2.2⟩
          case measure => simp [intOf]; omega
        · have HR := Lib.hid (And.intro hown3 (And.intro HS3.out HG3.out))
          clear hown3
          go_wp2_with fail
          go_ret
          exact ⟨_, L, rfl, HR.out.1, ⟨⟨by have := HL.out.2.1; omega, HL.out.2.2⟩, by omega⟩, HR.out.2.1, HR.out.2.2⟩
    · have hd0 : (r == 0) = false := by simpa using h0
      have hd1 : (r == 1) = false := by simpa using h1
      have HS2 := Lib.hid hs2
      clear hs2 h0 h1
      go_wp2_with fail
      go_ret
      exact ⟨_, L, rfl, HO2.out, rightL_any HL.out, HS2.out, HG2.out⟩

/-- What DrawPieceFrom and DrawPieceCut hand back. -/
def Drawn2 (w : World) (e : Ending) (w' : World) : Prop :=
  ∃ v L n, e = .returned (.tuple #[v, .int .i64 n]) ∧ w'.ownsRow w.heap.size 69 2 v L.length (pv L) ∧ AnyL L ∧ (-9223372036854775808 ≤ n ∧ n ≤ 9223372036854775807) ∧ Below w.heap.size w w'
def Drawn3 (w : World) (e : Ending) (w' : World) : Prop :=
  ∃ v L n t, e = .returned (.tuple #[v, .int .i64 n, gs t]) ∧ w'.ownsRow w.heap.size 69 2 v L.length (pv L) ∧ AnyL L ∧ (-9223372036854775808 ≤ n ∧ n ≤ 9223372036854775807) ∧ t.length ≤ 11 ∧ Below w.heap.size w w'

set_option maxHeartbeats 1000000 in
set_option maxRecDepth 100000 in
theorem drawFrom_calls {a : Option Addr} {len cap : Nat} {z : List Int} {w : World} (hrow : InRow w a len z) :
    Calls Try.prog 11 #[.slice a len cap] w (Drawn2 w) := by
  have H := Lib.hid (source_calls (cap := cap) hrow)
  clear hrow
  go_enter Try.func11, Try.ntmps11
  go_wp2_with fail
  refine H.out.mono ?_
  rintro e w1 ⟨rfl, hs, hb⟩
  have H2 := Lib.hid (src_draw hs (most := 40) (by omega))
  have HB := Lib.hid hb
  clear hs hb
  go_wp2_with fail
  refine H2.out.mono ?_
  rintro e w2 ⟨n, rfl, hn0, hn1, hs2, hg2⟩
  have hn40 : n ≤ 39 := by omega
  have HB2 := Lib.hid (HB.out.grown hg2 HB.out.size (fun k hk => Nat.le_of_eq (Option.some.inj hk)))
  have H3 := Lib.hid (src_one hs2 (most := 15) (by omega))
  clear hs2 hg2 hn1 H2 HB
  go_wp2_with fail
  refine H3.out.mono ?_
  rintro e w3 ⟨b, rfl, hs3, hg3⟩
  have HB3 := Lib.hid (HB2.out.grown hg3 HB2.out.size (fun k hk => Nat.le_of_eq (Option.some.inj hk)))
  clear hg3 H3 HB2
  cases b with
  | true =>
    have H4 := Lib.hid (src_edge hs3)
    clear hs3
    go_wp2_with fail
    refine H4.out.mono ?_
    rintro e w4 ⟨m, rfl, hm, hs4, hg4⟩
    have HB4 := Lib.hid (HB3.out.grown hg4 HB3.out.size (fun k hk => Nat.le_of_eq (Option.some.inj hk)))
    have H5 := Lib.hid (l02Pieces_calls hs4)
    have HM := Lib.hid hm
    have hw4 := HB4.out.size
    clear hs4 hg4 hm H4 HB3
    go_wp2_with fail
    refine H5.out.mono ?_
    rintro e w5 ⟨v, L, rfl, hown, hL, _, hg5⟩
    have HE := Lib.hid (And.intro (ownsRow_base hown hw4) (And.intro hL (HB4.out.grown hg5 hw4 (fun k hk => Nat.le_of_eq (Option.some.inj hk)))))
    clear hown hL hg5 H5
    go_wp2_with fail
    go_ret2
    exact ⟨v, L, m, rfl, HE.out.1, HE.out.2.1, HM.out, HE.out.2.2⟩
  | false =>
    have H5 := Lib.hid (l02Pieces_calls hs3)
    have hw4 := HB3.out.size
    clear hs3
    go_wp2_with fail
    refine H5.out.mono ?_
    rintro e w5 ⟨v, L, rfl, hown, hL, _, hg5⟩
    have HE := Lib.hid (And.intro (ownsRow_base hown hw4) (And.intro hL (HB3.out.grown hg5 hw4 (fun k hk => Nat.le_of_eq (Option.some.inj hk)))))
    clear hown hL hg5 H5
    go_wp2_with fail
    go_ret2
    exact ⟨v, L, _, rfl, HE.out.1, HE.out.2.1, ⟨by omega, by omega⟩, HE.out.2.2⟩
theorem drawCut_calls {a : Option Addr} {len cap : Nat} {z : List Int} {w : World} (hrow : InRow w a len z) :
    Calls Try.prog 12 #[.slice a len cap] w (Drawn2 w) := by
  have H := Lib.hid (drawFrom_calls (cap := cap) hrow)
  clear hrow
  go_enter Try.func12, Try.ntmps12
  go_wp2_with fail
  refine H.out.mono ?_
  rintro e w1 ⟨v, L, n, rfl, hown, hL, hn, hb⟩
  have HE := Lib.hid (And.intro hown (And.intro hL (And.intro hn hb)))
  clear hown hL hn hb H
  go_wp2_with fail
  go_ret2
  exact ⟨v, L, n, rfl, HE.out.1, HE.out.2.1, HE.out.2.2.1, HE.out.2.2.2⟩
set_option maxHeartbeats 1000000 in
set_option maxRecDepth 100000 in
theorem drawPut_calls {a : Option Addr} {len cap : Nat} {z : List Int} {w : World} (hrow : InRow w a len z) :
    Calls Try.prog 8 #[.slice a len cap] w (Drawn3 w) := by
  have H := Lib.hid (source_calls (cap := cap) hrow)
  clear hrow
  go_enter Try.func8, Try.ntmps8
  go_wp2_with fail
  refine H.out.mono ?_
  rintro e w1 ⟨rfl, hs, hb⟩
  have H2 := Lib.hid (src_draw hs (most := 36) (by omega))
  have HB := Lib.hid hb
  clear hs hb
  go_wp2_with fail
  refine H2.out.mono ?_
  rintro e w2 ⟨n, rfl, hn0, hn1, hs2, hg2⟩
  have hn36 : n ≤ 35 := by omega
  have HB2 := Lib.hid (HB.out.grown hg2 HB.out.size (fun k hk => Nat.le_of_eq (Option.some.inj hk)))
  have H3 := Lib.hid (src_draw hs2 (most := 12) (by omega))
  clear hs2 hg2 hn1 H2 HB
  go_wp2_with fail
  refine H3.out.mono ?_
  rintro e w3 ⟨m, rfl, hm0, hm1, hs3, hg3⟩
  obtain ⟨m, rfl⟩ := Int.eq_ofNat_of_zero_le hm0
  have hm11 : m ≤ 11 := by omega
  have HB3 := Lib.hid (HB2.out.grown hg3 HB2.out.size (fun k hk => Nat.le_of_eq (Option.some.inj hk)))
  have H4 := Lib.hid (src_bytes hs3 m (by omega))
  clear hs3 hg3 hm1 H3 HB2
  go_wp2_with fail
  refine H4.out.mono ?_
  rintro e w4 ⟨t, rfl, ht, hs4, hg4⟩
  have HB4 := Lib.hid (HB3.out.grown hg4 HB3.out.size (fun k hk => Nat.le_of_eq (Option.some.inj hk)))
  have H5 := Lib.hid (src_one hs4 (most := 12) (by omega))
  have HT := Lib.hid ht
  clear hs4 hg4 ht H4 HB3
  go_wp2_with fail
  refine H5.out.mono ?_
  rintro e w5 ⟨b, rfl, hs5, hg5⟩
  have HB5 := Lib.hid (HB4.out.grown hg5 HB4.out.size (fun k hk => Nat.le_of_eq (Option.some.inj hk)))
  clear hg5 H5 HB4
  cases b with
  | true =>
    have H6 := Lib.hid (src_edge hs5)
    clear hs5
    go_wp2_with fail
    refine H6.out.mono ?_
    rintro e w6 ⟨q, rfl, hq, hs6, hg6⟩
    have HB6 := Lib.hid (HB5.out.grown hg6 HB5.out.size (fun k hk => Nat.le_of_eq (Option.some.inj hk)))
    have H7 := Lib.hid (l02Pieces_calls hs6)
    have HQ := Lib.hid hq
    have hw6 := HB6.out.size
    clear hs6 hg6 hq H6 HB5
    go_wp2_with fail
    refine H7.out.mono ?_
    rintro e w7 ⟨v, L, rfl, hown, hL, _, hg7⟩
    have HE := Lib.hid (And.intro (ownsRow_base hown hw6) (And.intro hL (HB6.out.grown hg7 hw6 (fun k hk => Nat.le_of_eq (Option.some.inj hk)))))
    clear hown hL hg7 H7
    go_wp2_with fail
    go_ret3
    exact ⟨v, L, q, t, rfl, HE.out.1, HE.out.2.1, HQ.out, by have := HT.out; omega, HE.out.2.2⟩
  | false =>
    have H7 := Lib.hid (l02Pieces_calls hs5)
    have hw6 := HB5.out.size
    clear hs5
    go_wp2_with fail
    refine H7.out.mono ?_
    rintro e w7 ⟨v, L, rfl, hown, hL, _, hg7⟩
    have HE := Lib.hid (And.intro (ownsRow_base hown hw6) (And.intro hL (HB5.out.grown hg7 hw6 (fun k hk => Nat.le_of_eq (Option.some.inj hk)))))
    clear hown hL hg7 H7
    go_wp2_with fail
    go_ret3
    exact ⟨v, L, n, t, rfl, HE.out.1, HE.out.2.1, ⟨by omega, by omega⟩, by have := HT.out; omega, HE.out.2.2⟩
end Go.Proofs.Ytjcdcaannajnpaa
