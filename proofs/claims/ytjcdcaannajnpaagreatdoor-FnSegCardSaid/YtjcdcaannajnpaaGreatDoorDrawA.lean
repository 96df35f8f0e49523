/- The draws that are built on the source: one, edge; the source itself. -/
import Derived.Test.YtjcdcaannajnpaaGreatDoorSrc
import Derived.Test.YtjcdcaannajnpaaGreatDoorBytes
namespace Go.Proofs.YtjcdcaannajnpaaGreatDoor
open Go.RowKit

theorem src_draw {a : Option Addr} {len cap : Nat} {z : List Int} {p : Nat} {w : World} (h : Src a len cap z p w) {most : Int} (hm2 : most ≤ 9223372036854775807) :
    Calls Tryz.prog 34 #[.pointer (some ⟨p, 0, none⟩), .int .i64 most] w (Drawn a len cap z p most w) := by
  by_cases hm : most ≤ 1
  · exact src_low h hm
  · exact src_n h hm hm2

/-- A bool was drawn. -/
def DrawnB (a : Option Addr) (len cap : Nat) (z : List Int) (p : Nat) (w : World) (e : Ending) (w' : World) : Prop :=
  ∃ b : Bool, e = .returned (.bool b) ∧ Src a len cap z p w' ∧ w.grownBy w' (some p)
/-- An int64 was drawn. -/
def DrawnI (a : Option Addr) (len cap : Nat) (z : List Int) (p : Nat) (w : World) (e : Ending) (w' : World) : Prop :=
  ∃ n : Int, e = .returned (.int .i64 n) ∧ (-9223372036854775808 ≤ n ∧ n ≤ 9223372036854775807) ∧ Src a len cap z p w' ∧ w.grownBy w' (some p)
/-- A text of at most most bytes was drawn. -/
def DrawnT (a : Option Addr) (len cap : Nat) (z : List Int) (p : Nat) (most : Nat) (w : World) (e : Ending) (w' : World) : Prop :=
  ∃ l : List UInt8, e = .returned (gs l) ∧ l.length ≤ most ∧ Src a len cap z p w' ∧ w.grownBy w' (some p)

theorem src_one {a : Option Addr} {len cap : Nat} {z : List Int} {p : Nat} {w : World} (h : Src a len cap z p w) {most : Int} (hm2 : most ≤ 9223372036854775807) :
    Calls Tryz.prog 56 #[.pointer (some ⟨p, 0, none⟩), .int .i64 most] w (DrawnB a len cap z p w) := by
  have H := Lib.hid (src_draw h hm2)
  clear h
  go_enter Tryz.func56, Tryz.ntmps56
  go_wp2_with fail
  refine H.out.mono ?_
  rintro e w1 ⟨r, rfl, hr0, hr1, hs, hg⟩
  have HS := Lib.hid hs
  have HG := Lib.hid hg
  clear hs hg hr1
  go_wp2_with fail
  go_ret
  exact ⟨_, rfl, HS.out, HG.out⟩

theorem src_alloc {a : Option Addr} {len cap : Nat} {z : List Int} {p : Nat} {w : World} (h : Src a len cap z p w) (o : Obj) : Src a len cap z p (w.alloc o) := by
  obtain ⟨hrow, hne, k, mix, size, hb, rest⟩ := h
  have hg := World.grownBy_alloc w o none
  refine ⟨⟨fun x hx i hi => hg.cell (hrow.cell x hx i hi) (by simp), hrow.fit, hrow.some, hrow.small⟩, hne, k, mix, size, ?_, rest⟩
  rw [hg.block p (Array.getElem?_eq_some_iff.1 hb).1 (by simp)]; exact hb
theorem src_lt {a : Option Addr} {len cap : Nat} {z : List Int} {p : Nat} {w : World} (h : Src a len cap z p w) : p < w.heap.size := by
  obtain ⟨hrow, hne, k, mix, size, hb, rest⟩ := h
  exact (Array.getElem?_eq_some_iff.1 hb).1

abbrev edgeCells : Array Value := #[.int .i64 0, .int .i64 1, .int .i64 (-1), .int .i64 2, .int .i64 1000, .int .i64 1001, .int .i64 2147483648, .int .i64 2147483647, .int .i64 (-2147483648), .int .i64 4611686018427387904, .int .i64 9223372036854775807, .int .i64 (-9223372036854775808), .int .i64 1000000, .int .i64 1000001]
theorem edge_at (r : Nat) (h : r < 14) : ∃ v : Int, edgeCells[r]? = some (.int .i64 v) ∧ -9223372036854775808 ≤ v ∧ v ≤ 9223372036854775807 := by
  match r, h with
  | 0, _ => exact ⟨0, rfl, by omega, by omega⟩
  | 1, _ => exact ⟨1, rfl, by omega, by omega⟩
  | 2, _ => exact ⟨(-1), rfl, by omega, by omega⟩
  | 3, _ => exact ⟨2, rfl, by omega, by omega⟩
  | 4, _ => exact ⟨1000, rfl, by omega, by omega⟩
  | 5, _ => exact ⟨1001, rfl, by omega, by omega⟩
  | 6, _ => exact ⟨2147483648, rfl, by omega, by omega⟩
  | 7, _ => exact ⟨2147483647, rfl, by omega, by omega⟩
  | 8, _ => exact ⟨(-2147483648), rfl, by omega, by omega⟩
  | 9, _ => exact ⟨4611686018427387904, rfl, by omega, by omega⟩
  | 10, _ => exact ⟨9223372036854775807, rfl, by omega, by omega⟩
  | 11, _ => exact ⟨(-9223372036854775808), rfl, by omega, by omega⟩
  | 12, _ => exact ⟨1000000, rfl, by omega, by omega⟩
  | 13, _ => exact ⟨1000001, rfl, by omega, by omega⟩

set_option maxHeartbeats 1000000 in
set_option maxRecDepth 100000 in
theorem src_edge {a : Option Addr} {len cap : Nat} {z : List Int} {p : Nat} {w : World} (h : Src a len cap z p w) :
    Calls Tryz.prog 55 #[.pointer (some ⟨p, 0, none⟩)] w (DrawnI a len cap z p w) := by
  have hp := src_lt h
  have H := Lib.hid (src_draw (src_alloc h (.cells edgeCells 2)) (most := 14) (by omega))
  clear h
  go_enter Tryz.func55, Tryz.ntmps55
  go_wp2_with fail
  refine H.out.mono ?_
  rintro e w1 ⟨r, rfl, hr0, hr1, hs, hg⟩
  obtain ⟨r, rfl⟩ := Int.eq_ofNat_of_zero_le hr0
  have hr14 : r < 14 := by omega
  obtain ⟨v, hv, hv0, hv1⟩ := edge_at r hr14
  have hc : w1.cell? ⟨w.heap.size, r, none⟩ = some (.int .i64 v) := hg.cell (a := ⟨w.heap.size, r, none⟩) (by rw [World.cell?_alloc_mark w edgeCells _ (0, 0) r]; exact hv) (by intro e; have := Option.some.inj e; simp at this; omega)
  have HS := Lib.hid hs
  have HG := Lib.hid hg
  have HV := Lib.hid (And.intro hv0 hv1)
  clear hs hg hr1 hv hv0 hv1
  go_wp2_with fail
  go_ret
  exact ⟨v, rfl, HV.out, HS.out, grown_trans (World.grownBy_alloc w _ _) HG.out⟩

theorem row_below {w : World} {a : Option Addr} {len : Nat} {z : List Int} (h : InRow w a len z) : ∀ x, a = some x → 0 < len → x.block < w.heap.size := fun x hx hl => by
  have := World.block_lt_of_cell? w _ (h.cell x hx 0 hl)
  rwa [add_block] at this

theorem source_end {a : Option Addr} {len cap : Nat} {z : List Int} {w wr : World} {mix size : Int} (hrow : InRow w a len z) (ha : ∀ x, a = some x → 0 < len → x.block < w.heap.size) (hbel : Below w.heap.size w wr)
    (hB : wr.heap[w.heap.size]? = some (.cells #[.slice a len cap, .int .i64 0, .int .u64 mix, .int .i64 size] 81 (0, 0))) (h0 : 0 ≤ mix) (h1 : mix < 18446744073709551616) (hs0 : 0 ≤ size) (hs1 : size ≤ 12) : Src a len cap z w.heap.size wr :=
  ⟨⟨fun x hx i hi => (hbel.cell (by rw [add_block]; exact ha x hx (by omega))).trans (hrow.cell x hx i hi), hrow.fit, hrow.some, hrow.small⟩, fun x hx hl => Nat.ne_of_lt (ha x hx hl), 0, mix, size, hB, by omega, by omega, h0, h1, hs0, hs1⟩

set_option maxHeartbeats 2000000 in
set_option maxRecDepth 100000 in
theorem source_calls {a : Option Addr} {len cap : Nat} {z : List Int} {w : World} (hrow : InRow w a len z) :
    Calls Tryz.prog 32 #[.slice a len cap] w fun e w' => e = .returned (.pointer (some ⟨w.heap.size, 0, none⟩)) ∧ Src a len cap z w.heap.size w' ∧ Below w.heap.size w w' := by
  have HR := Lib.hid hrow
  have HA := Lib.hid (row_below hrow)
  have hsm := hrow.small
  clear hrow
  go_enter Tryz.func32, Tryz.ntmps32
  go_wp2_with fail
  go_loopw [4] (fun i wr => ∃ k : Nat, ∃ mix : Int, i = .int .i64 (k : Int) ∧ k ≤ len ∧ 0 ≤ mix ∧ mix < 18446744073709551616 ∧ wr.heap[w.heap.size]? = some (.cells #[.slice a len cap, .int .i64 0, .int .u64 mix, .int .i64 0] 81 (0, 0)) ∧ Below w.heap.size w wr)
    (fun i _ => len - (intOf i).toNat)
  case atStart => exact ⟨0, 88172645463325252, rfl, Nat.zero_le _, by omega, by omega, heap_alloc_new w _, (Below.refl _ _).alloc (Nat.le_refl _) _⟩
  case round =>
    obtain ⟨k, mix, rfl, hk, hm0, hm1, hB, hbel⟩ := hrel
    have c0 : wr.cell? ⟨w.heap.size, 0, none⟩ = some (.slice a len cap) := cell_of_row wr _ 0 _ _ _ hB
    have c2 : wr.cell? ⟨w.heap.size, 2, none⟩ = some (.int .u64 mix) := cell_of_row wr _ 2 _ _ _ hB
    have f2 : wr.frozen? ⟨w.heap.size, 2, none⟩ = false := frozen_of_row wr _ 2 _ _ hB
    have c3 : wr.cell? ⟨w.heap.size, 3, none⟩ = some (.int .i64 0) := cell_of_row wr _ 3 _ _ _ hB
    have f3 : wr.frozen? ⟨w.heap.size, 3, none⟩ = false := frozen_of_row wr _ 3 _ _ hB
    by_cases hkl : k < len
    · by_cases hk6 : k < 64
      · obtain ⟨b, o, rfl⟩ := HR.out.some (by omega)
        have cz := HR.out.cell _ rfl k hkl
        rw [Addr.add_lit] at cz
        have hbl : b < w.heap.size := HA.out _ rfl (by omega)
        have cz' : wr.cell? ⟨b, o + k, none⟩ = some (.int .u8 (z.getD k 0)) := (hbel.cell (p := ⟨b, o + k, none⟩) hbl).trans cz
        obtain ⟨fz0, fz1⟩ := HR.out.fit k hkl
        generalize z.getD k 0 = y at cz' fz0 fz1
        have HB := Lib.hid hB
        have HL := Lib.hid hbel
        clear hB hbel cz
        go_wp2_with fail
        go_region
        go_wp2_with fail
        refine ⟨⟨k + 1, _, by go_num, by omega, ?_, ?_, set_at (off := 2) HB.out _, (HL.out.setCell (p := ⟨w.heap.size, 2, none⟩) (Nat.le_refl _) _).drew⟩, by simp [intOf]; omega⟩
        · rw [IntKind.wrap_u64]; omega
        · rw [IntKind.wrap_u64]; omega
      · have HB := Lib.hid hB
        have HL := Lib.hid hbel
        clear hB hbel
        by_cases h12 : 12 < (len : Int) / 20
        · go_wp2_with fail
          go_ret
          exact ⟨rfl, source_end HR.out HA.out ((HL.out.setCell (p := ⟨w.heap.size, 3, none⟩) (Nat.le_refl _) _).setCell (p := ⟨w.heap.size, 3, none⟩) (Nat.le_refl _) _) (set_at (off := 3) (set_at (off := 3) HB.out _) _) hm0 hm1 (by omega) (by omega), (HL.out.setCell (p := ⟨w.heap.size, 3, none⟩) (Nat.le_refl _) _).setCell (p := ⟨w.heap.size, 3, none⟩) (Nat.le_refl _) _⟩
        · go_wp2_with fail
          go_ret
          exact ⟨rfl, source_end HR.out HA.out (HL.out.setCell (p := ⟨w.heap.size, 3, none⟩) (Nat.le_refl _) _) (set_at (off := 3) HB.out _) hm0 hm1 (by omega) (by omega), HL.out.setCell (p := ⟨w.heap.size, 3, none⟩) (Nat.le_refl _) _⟩
    · have HB := Lib.hid hB
      have HL := Lib.hid hbel
      clear hB hbel
      by_cases h12 : 12 < (len : Int) / 20
      · go_wp2_with fail
        go_ret
        exact ⟨rfl, source_end HR.out HA.out ((HL.out.setCell (p := ⟨w.heap.size, 3, none⟩) (Nat.le_refl _) _).setCell (p := ⟨w.heap.size, 3, none⟩) (Nat.le_refl _) _) (set_at (off := 3) (set_at (off := 3) HB.out _) _) hm0 hm1 (by omega) (by omega), (HL.out.setCell (p := ⟨w.heap.size, 3, none⟩) (Nat.le_refl _) _).setCell (p := ⟨w.heap.size, 3, none⟩) (Nat.le_refl _) _⟩
      · go_wp2_with fail
        go_ret
        exact ⟨rfl, source_end HR.out HA.out (HL.out.setCell (p := ⟨w.heap.size, 3, none⟩) (Nat.le_refl _) _) (set_at (off := 3) HB.out _) hm0 hm1 (by omega) (by omega), HL.out.setCell (p := ⟨w.heap.size, 3, none⟩) (Nat.le_refl _) _⟩
end Go.Proofs.YtjcdcaannajnpaaGreatDoor
