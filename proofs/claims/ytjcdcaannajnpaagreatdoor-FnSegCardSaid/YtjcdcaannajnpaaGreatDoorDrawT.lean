/- Drawn bytes. -/
import Derived.Test.YtjcdcaannajnpaaGreatDoorDrawA
import Derived.Test.YtjcdcaannajnpaaGreatDoorBytes
namespace Go.Proofs.YtjcdcaannajnpaaGreatDoor
open Go.RowKit

/-- The source stays behind writes to blocks from B on, p and the row being below. -/
theorem src_far {a : Option Addr} {len cap : Nat} {z : List Int} {p B : Nat} {w w' : World} {row : Option Nat} (h : Src a len cap z p w) (hg : w.grownBy w' row) (hB : ∀ k, row = some k → B ≤ k) (hp : p < B) (ha : ∀ x, a = some x → 0 < len → x.block < B) : Src a len cap z p w' := by
  obtain ⟨hrow, hne, k, mix, size, hb, rest⟩ := h
  have hpl := (Array.getElem?_eq_some_iff.1 hb).1
  refine ⟨⟨fun x hx i hi => hg.cell (hrow.cell x hx i hi) (by rw [add_block]; intro e; have := hB _ e.symm; have := ha x hx (by omega); omega), hrow.fit, hrow.some, hrow.small⟩, hne, k, mix, size, ?_, rest⟩
  rw [hg.block p hpl (by intro e; have := hB _ e.symm; omega)]; exact hb
theorem grown_far {w v v' : World} {p : Nat} {row : Option Nat} (h : w.grownBy v (some p)) (hg : v.grownBy v' row) (hB : ∀ k, row = some k → w.heap.size ≤ k) : w.grownBy v' (some p) :=
  ⟨hg.os.trans h.os, hg.tape.trans h.tape, hg.output.trans h.output, Nat.le_trans h.size hg.size, fun i hi hne => (hg.block i (Nat.lt_of_lt_of_le hi h.size) (by intro e; have := hB _ e.symm; omega)).trans (h.block i hi hne)⟩

set_option maxHeartbeats 2000000 in
set_option maxRecDepth 100000 in
theorem src_bytes {a : Option Addr} {len cap : Nat} {z : List Int} {p : Nat} {w : World} (h : Src a len cap z p w) (n : Nat) (hn : n ≤ 1000000) :
    Calls Tryz.prog 54 #[.pointer (some ⟨p, 0, none⟩), .int .i64 (n : Int)] w (DrawnT a len cap z p n w) := by
  have hzz : (Tryz.prog.info? 5).map (fun i => (i.zero, i.size, i.bytes)) = some (some (.int .u8 0), 1, 1) := by kernel_rfl
  obtain ⟨i0, hi, hz0, hz1, hz2⟩ := info_parts hzz
  clear hzz
  have hp := src_lt h
  have HA := Lib.hid (row_below h.1)
  have HS0 := Lib.hid (src_alloc h (.cells #[] 5))
  clear h
  go_enter Tryz.func54, Tryz.ntmps54
  go_wp2_with fail
  go_loopw [5, 6] (fun v i wr => ∃ l : List UInt8, i = .int .i64 (l.length : Int) ∧ l.length ≤ n ∧ Src a len cap z p wr ∧ w.grownBy wr (some p) ∧ wr.ownsRow w.heap.size 5 1 v l.length (u8s l))
    (fun _ i _ => n - (intOf i).toNat)
  case atStart => exact ⟨[], rfl, Nat.zero_le _, HS0.out, World.grownBy_alloc w _ _, World.ownsRow_lit (base := w.heap.size) (size := 1) w #[] 0 (Nat.le_refl _) (by unfold maxLen; omega) rfl⟩
  case round =>
    obtain ⟨l, rfl, hln, hs, hg, hown⟩ := hrel
    by_cases hl : l.length < n
    · have HD := Lib.hid (src_draw hs (most := 256) (by omega))
      have HG := Lib.hid hg
      have HO := Lib.hid hown
      have hws := hg.size
      clear hs hg
      go_wp2_with fail
      refine HD.out.mono ?_
      rintro e w1 ⟨r, rfl, hr0, hr1, hs1, hg1⟩
      have hown1 := HO.out.kept hg1 (Or.inr (by intro e; have := (HO.out.lt p e).1; omega))
      have hw1 := hg1.size
      have HS1 := Lib.hid hs1
      have HG1 := Lib.hid (grown_trans HG.out hg1)
      obtain ⟨r, rfl⟩ := Int.eq_ofNat_of_zero_le hr0
      have hr2 : r < 256 := by omega
      clear hs1 hg1 hr1 hown
      go_wp2_with (at_builtin; refine wpList_append_own _ rfl _ _ 22 rfl w.heap.size 5 i0 (.int .u8 0) 1 1 Tryz.underlying22 hi hz0 hz1 hz2 rfl (by decide) _ _ _ rfl (hown1.alloc _) ⟨w1.heap.size, 0, none⟩ 1 1 [.int .u8 (r : Int)] rfl rfl (byte_new _ _ _) (one_cell _ _) (by unfold maxLen; omega) (by omega) (by simp; omega) ?_)
      intro v' w2 hown2 hgrow _
      have R1 : w2.ownsRow w.heap.size 5 1 v' (l ++ [UInt8.ofNat r]).length (u8s (l ++ [UInt8.ofNat r])) := by
        have hb : u8s [UInt8.ofNat r] = [.int .u8 (r : Int)] := by simp only [u8s, List.map]; rw [UInt8.toNat_ofNat', Nat.mod_eq_of_lt (by omega)]
        rw [u8s_append, hb, List.length_append]; exact hown2
      have hbl : ∀ k, Value.ownBlock _ = some k → w.heap.size ≤ k := fun k hk => (hown1.lt k hk).1
      have R2 := src_far (src_alloc HS1.out _) hgrow hbl hp HA.out
      have R3 : w.grownBy w2 (some p) := grown_far (grown_trans HG1.out (World.grownBy_alloc w1 _ _)) hgrow hbl
      have HR := Lib.hid (And.intro R1 (And.intro R2 R3))
      clear hown2 hgrow hown1 R1 R2 R3 hbl
      go_wp2_with fail
      go_roundw
      case rel => exact ⟨l ++ [UInt8.ofNat r], by simp, by simp; omega, HR.out.2.1, HR.out.2.2, HR.out.1⟩
      case measure => simp [intOf]; omega
    · have hcv := run_own_string (P := Tryz.prog) (dst := 9) Tryz.underlying22 Tryz.underlying5 Tryz.underlying9 hown
      have HS := Lib.hid (And.intro hs hg)
      clear hs hg hown
      go_wp2_with fail
      go_ret
      exact ⟨l, rfl, by omega, HS.out.1, HS.out.2⟩

end Go.Proofs.YtjcdcaannajnpaaGreatDoor
