/- Drawn bytes; the draws of chapter 2's promises. -/
import Derived.Test.YtcegabpckndonaaDoorDraw
import Derived.Test.YtcegabpckndonaaDoorNum
import Derived.Test.YtcegabpckndonaaDoorCrc
import Derived.Test.YtcegabpckndonaaDoorBytes
namespace Go.Proofs.YtcegabpckndonaaDoor
open Go.RowKit

/-- The source stays behind writes to blocks from B on, p and the row being below. -/
theorem src_far {a : Option Addr} {len cap : Nat} {z : List Int} {p B : Nat} {w w' : World} {row : Option Nat} (h : Src a len cap z p w) (hg : w.grownBy w' row) (hB : ∀ k, row = some k → B ≤ k) (hp : p < B) (ha : ∀ x, a = some x → 0 < len → x.block < B) : Src a len cap z p w' := by
  obtain ⟨hrow, hne, k, mix, size, hb, rest⟩ := h
  have hpl := (Array.getElem?_eq_some_iff.1 hb).1
  refine ⟨⟨fun x hx i hi => hg.cell (hrow.cell x hx i hi) (by rw [add_block]; intro e; have := hB _ e.symm; have := ha x hx (by omega); omega), hrow.fit, hrow.some, hrow.small⟩, hne, k, mix, size, ?_, rest⟩
  rw [hg.block p hpl (by intro e; have := hB _ e.symm; omega)]; exact hb
theorem grown_far {w v v' : World} {p : Nat} {row : Option Nat} (h : w.grownBy v (some p)) (hg : v.grownBy v' row) (hB : ∀ k, row = some k → w.heap.size ≤ k) : w.grownBy v' (some p) :=
  ⟨hg.os.trans h.os, hg.tape.trans h.tape, hg.output.trans h.output, Nat.le_trans h.size hg.size, fun i hi hne => (hg.block i (Nat.lt_of_lt_of_le hi h.size) (by intro e; have := hB _ e.symm; omega)).trans (h.block i hi hne)⟩

set_option maxHeartbeats 2000000 in
set_option maxRecDepth 100000 in
theorem src_bytes {a : Option Addr} {len cap : Nat} {z : List Int} {p : Nat} {w : World} (h : Src a len cap z p w) (n : Nat) (hn : n ≤ 1000000) :
    Calls Tryd.prog 38 #[.pointer (some ⟨p, 0, none⟩), .int .i64 (n : Int)] w (DrawnT a len cap z p n w) := by
  obtain ⟨i0, hi, hz0, hz1, hz2⟩ := info_parts Tryd.infoU8
  have hp := src_lt h
  have HA := Lib.hid (row_below h.1)
  have HS0 := Lib.hid (src_alloc h (.cells #[] 5))
  clear h
  go_enter Tryd.func38, Tryd.ntmps38
  go_wp2_with fail
  go_loopw [5, 6] (fun v i wr => ∃ l : List UInt8, i = .int .i64 (l.length : Int) ∧ l.length ≤ n ∧ Src a len cap z p wr ∧ w.grownBy wr (some p) ∧ wr.ownsRow w.heap.size 5 1 v l.length (u8s l))
    (fun _ i _ => n - (intOf i).toNat)
  case atStart => exact ⟨[], rfl, Nat.zero_le _, HS0.out, World.grownBy_alloc w _ _, World.ownsRow_lit (base := w.heap.size) (size := 1) w #[] 0 (Nat.le_refl _) (by unfold maxLen; omega) rfl⟩
  case round =>
    obtain ⟨l, rfl, hln, hs, hg, hown⟩ := hrel
    by_cases hl : l.length < n
    · have HD := Lib.hid (src_draw hs (most := 256) (by omega))
      have HG := Lib.hid hg
      have HO := Lib.hid hown
      have hws := hg.size
      clear hs hg
      go_wp2_with fail
      refine HD.out.mono ?_
      rintro e w1 ⟨r, rfl, hr0, hr1, hs1, hg1⟩
      have hown1 := HO.out.kept hg1 (Or.inr (by intro e; have := (HO.out.lt p e).1; omega))
      have hw1 := hg1.size
      have HS1 := Lib.hid hs1
      have HG1 := Lib.hid (grown_trans HG.out hg1)
      obtain ⟨r, rfl⟩ := Int.eq_ofNat_of_zero_le hr0
      have hr2 : r < 256 := by omega
      clear hs1 hg1 hr1 hown
      go_wp2_with (at_builtin; refine wpList_append_own _ rfl _ _ 22 rfl w.heap.size 5 i0 (.int .u8 0) 1 1 Tryd.underlying22 hi hz0 hz1 hz2 rfl (by decide) _ _ _ rfl (hown1.alloc _) ⟨w1.heap.size, 0, none⟩ 1 1 [.int .u8 (r : Int)] rfl rfl (byte_new _ _ _) (one_cell _ _) (by unfold maxLen; omega) (by omega) (by simp; omega) ?_)
      intro v' w2 hown2 hgrow _
      have R1 : w2.ownsRow w.heap.size 5 1 v' (l ++ [UInt8.ofNat r]).length (u8s (l ++ [UInt8.ofNat r])) := by
        have hb : u8s [UInt8.ofNat r] = [.int .u8 (r : Int)] := by simp only [u8s, List.map]; rw [u8_of r hr2]
        rw [u8s_append, hb, List.length_append]; exact hown2
      have hbl : ∀ k, Value.ownBlock _ = some k → w.heap.size ≤ k := fun k hk => (hown1.lt k hk).1
      have R2 := src_far (src_alloc HS1.out _) hgrow hbl hp HA.out
      have R3 : w.grownBy w2 (some p) := grown_far (grown_trans HG1.out (World.grownBy_alloc w1 _ _)) hgrow hbl
      have HR := Lib.hid (And.intro R1 (And.intro R2 R3))
      clear hown2 hgrow hown1 R1 R2 R3 hbl
      go_wp2_with fail
      go_roundw
      case rel => exact ⟨l ++ [UInt8.ofNat r], by simp, by simp; omega, HR.out.2.1, HR.out.2.2, HR.out.1⟩
      case measure => simp [intOf]; omega
    · have hcv := run_own_string (P := Tryd.prog) (dst := 9) Tryd.underlying22 Tryd.underlying5 Tryd.underlying9 hown
      have HS := Lib.hid (And.intro hs hg)
      clear hs hg hown
      go_wp2_with fail
      go_ret
      exact ⟨l, rfl, by omega, HS.out.1, HS.out.2⟩

/-- What DrawPutNum hands back. -/
theorem drawPutNum_calls {a : Option Addr} {len cap : Nat} {z : List Int} {w : World} (hrow : InRow w a len z) :
    Calls Tryd.prog 8 #[.slice a len cap] w fun e w' => ∃ n : Int, e = .returned (.int .i64 n) ∧ (-9223372036854775808 ≤ n ∧ n ≤ 9223372036854775807) ∧ Below w.heap.size w w' := by
  have H := Lib.hid (source_calls (cap := cap) hrow)
  clear hrow
  go_enter Tryd.func8, Tryd.ntmps8
  go_wp2_with fail
  refine H.out.mono ?_
  rintro e w1 ⟨rfl, hs, hb⟩
  have H2 := Lib.hid (src_any hs)
  have HB := Lib.hid hb
  clear hs hb
  go_wp2_with fail
  refine H2.out.mono ?_
  rintro e w2 ⟨n, rfl, hn, hs2, hg2⟩
  have HN := Lib.hid (And.intro hn (HB.out.grown hg2 HB.out.size (fun k hk => Nat.le_of_eq (Option.some.inj hk))))
  clear hn hs2 hg2
  go_wp2_with fail
  go_ret
  exact ⟨n, rfl, HN.out⟩

set_option maxHeartbeats 1000000 in
set_option maxRecDepth 100000 in
/-- DrawPutText: a text of at most 20001 bytes. -/
theorem drawPutText_calls {a : Option Addr} {len cap : Nat} {z : List Int} {w : World} (hrow : InRow w a len z) :
    Calls Tryd.prog 12 #[.slice a len cap] w fun e w' => ∃ l : List UInt8, e = .returned (gs l) ∧ l.length ≤ 20001 ∧ Below w.heap.size w w' := by
  obtain ⟨i0, hi, hz0, hz1, hz2⟩ := info_parts Tryd.infoU8
  have H := Lib.hid (source_calls (cap := cap) hrow)
  clear hrow
  go_enter Tryd.func12, Tryd.ntmps12
  go_wp2_with fail
  refine H.out.mono ?_
  rintro e w1 ⟨rfl, hs, hb⟩
  have H2 := Lib.hid (src_one hs (most := 8) (by omega))
  have HB := Lib.hid hb
  clear hs hb
  go_wp2_with fail
  refine H2.out.mono ?_
  rintro e w2 ⟨b, rfl, hs2, hg2⟩
  have HB2 := Lib.hid (HB.out.grown hg2 HB.out.size (fun k hk => Nat.le_of_eq (Option.some.inj hk)))
  cases b with
  | true =>
    have H3 := Lib.hid (src_draw hs2 (most := 3) (by omega))
    clear hs2 hg2
    go_wp2_with fail
    refine H3.out.mono ?_
    rintro e w3 ⟨r, rfl, hr0, hr1, hs3, hg3⟩
    have HB3 := Lib.hid (HB2.out.grown hg3 HB2.out.size (fun k hk => Nat.le_of_eq (Option.some.inj hk)))
    obtain ⟨r, rfl⟩ := Int.eq_ofNat_of_zero_le hr0
    have hr3 : r < 3 := by omega
    have hmk := run_make_bytes (P := Tryd.prog) Tryd.underlying22 hi hz0 hz1 hz2 (19999 + r) (19999 + (r : Int)) (by omega) (by omega) w3
    have hcv := run_string_bytes (P := Tryd.prog) (dst := 9) Tryd.underlying22 Tryd.underlying5 Tryd.underlying9 w3 (List.replicate (19999 + r) 0) (19999 + r) (19999 + r) _ rfl (by simp)
    generalize hL : List.replicate (19999 + r) (0 : UInt8) = L at hmk hcv
    have hlen : L.length ≤ 20001 := by rw [← hL]; simp; omega
    have HLen := Lib.hid hlen
    clear hs3 hg3 hr1 hi hz0 hz1 hz2 hL hlen
    go_wp2_with fail
    go_ret
    exact ⟨L, rfl, HLen.out, HB3.out.alloc HB3.out.size _⟩
  | false =>
    have H3 := Lib.hid (src_draw hs2 (most := 20) (by omega))
    clear hs2 hg2
    go_wp2_with fail
    refine H3.out.mono ?_
    rintro e w3 ⟨r, rfl, hr0, hr1, hs3, hg3⟩
    have HB3 := Lib.hid (HB2.out.grown hg3 HB2.out.size (fun k hk => Nat.le_of_eq (Option.some.inj hk)))
    obtain ⟨r, rfl⟩ := Int.eq_ofNat_of_zero_le hr0
    have hr3 : r < 20 := by omega
    have H4 := Lib.hid (src_bytes hs3 r (by omega))
    clear hs3 hg3 hr1
    go_wp2_with fail
    refine H4.out.mono ?_
    rintro e w4 ⟨l, rfl, hl, hs4, hg4⟩
    have HB4 := Lib.hid (And.intro hl (HB3.out.grown hg4 HB3.out.size (fun k hk => Nat.le_of_eq (Option.some.inj hk))))
    clear hl hs4 hg4
    go_wp2_with fail
    go_ret
    exact ⟨l, rfl, by have := HB4.out.1; omega, HB4.out.2⟩

set_option maxHeartbeats 1000000 in
set_option maxRecDepth 100000 in
/-- DrawSeal: a text of at most 19997 bytes. -/
theorem drawSeal_calls {a : Option Addr} {len cap : Nat} {z : List Int} {w : World} (hrow : InRow w a len z) :
    Calls Tryd.prog 16 #[.slice a len cap] w fun e w' => ∃ l : List UInt8, e = .returned (gs l) ∧ l.length ≤ 19997 ∧ Below w.heap.size w w' := by
  obtain ⟨i0, hi, hz0, hz1, hz2⟩ := info_parts Tryd.infoU8
  have H := Lib.hid (source_calls (cap := cap) hrow)
  clear hrow
  go_enter Tryd.func16, Tryd.ntmps16
  go_wp2_with fail
  refine H.out.mono ?_
  rintro e w1 ⟨rfl, hs, hb⟩
  have H2 := Lib.hid (src_one hs (most := 30) (by omega))
  have HB := Lib.hid hb
  clear hs hb
  go_wp2_with fail
  refine H2.out.mono ?_
  rintro e w2 ⟨b, rfl, hs2, hg2⟩
  have HB2 := Lib.hid (HB.out.grown hg2 HB.out.size (fun k hk => Nat.le_of_eq (Option.some.inj hk)))
  cases b with
  | true =>
    have H3 := Lib.hid (src_draw hs2 (most := 3) (by omega))
    clear hs2 hg2
    go_wp2_with fail
    refine H3.out.mono ?_
    rintro e w3 ⟨r, rfl, hr0, hr1, hs3, hg3⟩
    have HB3 := Lib.hid (HB2.out.grown hg3 HB2.out.size (fun k hk => Nat.le_of_eq (Option.some.inj hk)))
    obtain ⟨r, rfl⟩ := Int.eq_ofNat_of_zero_le hr0
    have hr3 : r < 3 := by omega
    have hmk := run_make_bytes (P := Tryd.prog) Tryd.underlying22 hi hz0 hz1 hz2 (19995 + r) (19995 + (r : Int)) (by omega) (by omega) w3
    have hcv := run_string_bytes (P := Tryd.prog) (dst := 9) Tryd.underlying22 Tryd.underlying5 Tryd.underlying9 w3 (List.replicate (19995 + r) 0) (19995 + r) (19995 + r) _ rfl (by simp)
    generalize hL : List.replicate (19995 + r) (0 : UInt8) = L at hmk hcv
    have hlen : L.length ≤ 19997 := by rw [← hL]; simp; omega
    have HLen := Lib.hid hlen
    clear hs3 hg3 hr1 hi hz0 hz1 hz2 hL hlen
    go_wp2_with fail
    go_ret
    exact ⟨L, rfl, HLen.out, HB3.out.alloc HB3.out.size _⟩
  | false =>
    have H3 := Lib.hid (src_draw hs2 (most := 20) (by omega))
    clear hs2 hg2
    go_wp2_with fail
    refine H3.out.mono ?_
    rintro e w3 ⟨r, rfl, hr0, hr1, hs3, hg3⟩
    have HB3 := Lib.hid (HB2.out.grown hg3 HB2.out.size (fun k hk => Nat.le_of_eq (Option.some.inj hk)))
    obtain ⟨r, rfl⟩ := Int.eq_ofNat_of_zero_le hr0
    have hr3 : r < 20 := by omega
    have H4 := Lib.hid (src_bytes hs3 r (by omega))
    clear hs3 hg3 hr1
    go_wp2_with fail
    refine H4.out.mono ?_
    rintro e w4 ⟨l, rfl, hl, hs4, hg4⟩
    have HB4 := Lib.hid (And.intro hl (HB3.out.grown hg4 HB3.out.size (fun k hk => Nat.le_of_eq (Option.some.inj hk))))
    clear hl hs4 hg4
    go_wp2_with fail
    go_ret
    exact ⟨l, rfl, by have := HB4.out.1; omega, HB4.out.2⟩

set_option maxHeartbeats 1000000 in
set_option maxRecDepth 100000 in
/-- DrawCrcMore: a number, and a text of at most 8 bytes. -/
theorem drawCrcMore_calls {a : Option Addr} {len cap : Nat} {z : List Int} {w : World} (hrow : InRow w a len z) :
    Calls Tryd.prog 21 #[.slice a len cap] w fun e w' => ∃ (n : Int) (l : List UInt8), e = .returned (.tuple #[.int .i64 n, gs l]) ∧ (-9223372036854775808 ≤ n ∧ n ≤ 9223372036854775807) ∧ l.length ≤ 8 ∧ Below w.heap.size w w' := by
  have H := Lib.hid (source_calls (cap := cap) hrow)
  clear hrow
  go_enter Tryd.func21, Tryd.ntmps21
  go_wp2_with fail
  refine H.out.mono ?_
  rintro e w1 ⟨rfl, hs, hb⟩
  have H2 := Lib.hid (src_draw hs (most := 9) (by omega))
  have HB := Lib.hid hb
  clear hs hb
  go_wp2_with fail
  refine H2.out.mono ?_
  rintro e w2 ⟨r, rfl, hr0, hr1, hs2, hg2⟩
  have HB2 := Lib.hid (HB.out.grown hg2 HB.out.size (fun k hk => Nat.le_of_eq (Option.some.inj hk)))
  obtain ⟨r, rfl⟩ := Int.eq_ofNat_of_zero_le hr0
  have hr3 : r < 9 := by omega
  have H3 := Lib.hid (src_bytes hs2 r (by omega))
  clear hs2 hg2 hr1
  go_wp2_with fail
  refine H3.out.mono ?_
  rintro e w3 ⟨l, rfl, hl, hs3, hg3⟩
  have HB3 := Lib.hid (HB2.out.grown hg3 HB2.out.size (fun k hk => Nat.le_of_eq (Option.some.inj hk)))
  have H4 := Lib.hid (src_one hs3 (most := 5) (by omega))
  have HL := Lib.hid hl
  clear hs3 hg3 hl
  go_wp2_with fail
  refine H4.out.mono ?_
  rintro e w4 ⟨b, rfl, hs4, hg4⟩
  have HB4 := Lib.hid (HB3.out.grown hg4 HB3.out.size (fun k hk => Nat.le_of_eq (Option.some.inj hk)))
  cases b with
  | true =>
    have H5 := Lib.hid (src_edge hs4)
    clear hs4 hg4
    go_wp2_with fail
    refine H5.out.mono ?_
    rintro e w5 ⟨n, rfl, hn, hs5, hg5⟩
    have HN := Lib.hid (And.intro hn (HB4.out.grown hg5 HB4.out.size (fun k hk => Nat.le_of_eq (Option.some.inj hk))))
    clear hn hs5 hg5
    go_wp2_with fail
    go_ret2
    exact ⟨n, l, rfl, HN.out.1, by have := HL.out; omega, HN.out.2⟩
  | false =>
    have H5 := Lib.hid (src_draw hs4 (most := 9) (by omega))
    clear hs4 hg4
    go_wp2_with fail
    refine H5.out.mono ?_
    rintro e w5 ⟨q, rfl, hq0, hq1, hs5, hg5⟩
    have HB5 := Lib.hid (HB4.out.grown hg5 HB4.out.size (fun k hk => Nat.le_of_eq (Option.some.inj hk)))
    obtain ⟨q, rfl⟩ := Int.eq_ofNat_of_zero_le hq0
    have hq9 : q < 9 := by omega
    have H6 := Lib.hid (src_bytes hs5 q (by omega))
    clear hs5 hg5 hq1
    go_wp2_with fail
    refine H6.out.mono ?_
    rintro e w6 ⟨m, rfl, hm, hs6, hg6⟩
    have HN := Lib.hid (HB5.out.grown hg6 HB5.out.size (fun k hk => Nat.le_of_eq (Option.some.inj hk)))
    have HC := Lib.hid (crcTextS_calls m w6 (by omega))
    have hcl : (crcN m : Int) < 4294967296 := by unfold crcN; split; omega; have := crcOn_lt 0 m; omega
    have HCL := Lib.hid hcl
    clear hm hs6 hg6 hcl
    go_wp2_with fail
    refine HC.out.mono ?_
    rintro e w7 ⟨rfl, rfl⟩
    go_wp2_with fail
    go_ret2
    exact ⟨_, l, rfl, ⟨by omega, by have := HCL.out; omega⟩, by have := HL.out; omega, HN.out⟩
end Go.Proofs.YtcegabpckndonaaDoor
