/- The draws' source: what it holds in memory, and what drawing a number leaves. -/
import Derived.Test.YtjcdcaannajnpaaGreatDoorBase
import Derived.Test.YtjcdcaannajnpaaGreatDoorRows
import Derived.RegionTactic
import Derived.BigRegion
import Derived.Deep.QuietTactic
import Derived.BigQuiet
namespace Go.Proofs.YtjcdcaannajnpaaGreatDoor
open Go.RowKit

/-- A row of bytes that came in, as the walks read it: its i-th byte. -/
structure InRow (w : World) (a : Option Addr) (len : Nat) (z : List Int) : Prop where
  cell : ∀ x, a = some x → ∀ i, i < len → w.cell? (x.add i) = some (.int .u8 (z.getD i 0))
  fit : ∀ i, i < len → 0 ≤ z.getD i 0 ∧ z.getD i 0 < 256
  some : 0 < len → ∃ b o, a = some ⟨b, o, none⟩
  small : len ≤ 1048576

/-- Block p holds a source over that row. -/
def Src (a : Option Addr) (len cap : Nat) (z : List Int) (p : Nat) (w : World) : Prop :=
  InRow w a len z ∧ (∀ x, a = some x → 0 < len → x.block ≠ p) ∧ ∃ k mix size : Int, w.heap[p]? = some (.cells #[.slice a len cap, .int .i64 k, .int .u64 mix, .int .i64 size] 81 (0, 0)) ∧ 0 ≤ k ∧ k ≤ len ∧ 0 ≤ mix ∧ mix < 18446744073709551616 ∧ 0 ≤ size ∧ size ≤ 12

theorem bits_u64 (op : BinOp) (x y : Int) : 0 ≤ bits op .u64 x y ∧ bits op .u64 x y < 18446744073709551616 := by
  unfold bits
  split <;> (try (rw [IntKind.wrap_u64]; omega))

/-- A walk may forget all of a world but what it wants. -/
theorem wp_world {P : Program} {c : Code} {Q : Exit → Act → World → Prop} {a : Act} {w : World} (R : World → Prop) (hR : R w) (h : ∀ w', R w' → Code.wp P c Q a w') : Code.wp P c Q a w := h w hR
theorem grown_set {w v : World} {p : Nat} {off : Nat} {x : Value} (h : w.grownBy v (some p)) : w.grownBy (v.setCell ⟨p, off, none⟩ x) (some p) :=
  ⟨h.os, h.tape, h.output, by simpa [World.setCell] using h.size, fun i hi hne => (Below.heap_setCell v ⟨p, off, none⟩ x i (by rintro rfl; exact hne rfl)).trans (h.block i hi hne)⟩
theorem grown_drew {w v : World} {r : Option Nat} (h : w.grownBy v r) (n : Nat) : w.grownBy (v.drewN n) r := ⟨h.os, h.tape, h.output, h.size, h.block⟩
theorem grown_drew1 {w v : World} {r : Option Nat} (h : w.grownBy v r) : w.grownBy v.drew r := ⟨h.os, h.tape, h.output, h.size, h.block⟩
theorem grown_trans {a b c : World} {p : Nat} (h : a.grownBy b (some p)) (k : b.grownBy c (some p)) : a.grownBy c (some p) :=
  ⟨k.os.trans h.os, k.tape.trans h.tape, k.output.trans h.output, Nat.le_trans h.size k.size, fun i hi hne => (k.block i (Nat.lt_of_lt_of_le hi h.size) hne).trans (h.block i hi hne)⟩
theorem set_at {w : World} {p off : Nat} {C : Array Value} {T : TypeId} (h : w.heap[p]? = some (.cells C T (0, 0))) (x : Value) : (w.setCell ⟨p, off, none⟩ x).heap[p]? = some (.cells (C.setIfInBounds off x) T (0, 0)) := by
  simp only [World.setCell, Array.getElem?_modify, h]
  simp

/-- What drawing leaves: a number below most (0 of most 1 or less), the source, and no other block turned. -/
def Drawn (a : Option Addr) (len cap : Nat) (z : List Int) (p : Nat) (most : Int) (w : World) (e : Ending) (w' : World) : Prop :=
  ∃ r : Int, e = .returned (.int .i64 r) ∧ 0 ≤ r ∧ (r < most ∨ r = 0) ∧ Src a len cap z p w' ∧ w.grownBy w' (some p)

theorem add_block (x : Addr) (i : Nat) : (x.add i).block = x.block := by unfold Addr.add; split <;> rfl
theorem inRow_kept {w w' : World} {a : Option Addr} {len : Nat} {z : List Int} {p : Nat} (h : InRow w a len z) (hne : ∀ x, a = some x → 0 < len → x.block ≠ p) (hg : w.grownBy w' (some p)) : InRow w' a len z :=
  ⟨fun x hx i hi => hg.cell (h.cell x hx i hi) (by rw [add_block]; intro e; exact hne x hx (by omega) (Option.some.inj e)), h.fit, h.some, h.small⟩
theorem drawn_end {a : Option Addr} {len cap : Nat} {z : List Int} {p : Nat} {w W : World} {k m2 m3 size most x : Int} (hrow : InRow w a len z) (hne : ∀ x, a = some x → 0 < len → x.block ≠ p)
    (hB : W.heap[p]? = some (.cells #[.slice a len cap, .int .i64 k, .int .u64 m2, .int .i64 size] 81 (0, 0))) (hG : w.grownBy W (some p)) (hk0 : 0 ≤ k) (hk1 : k ≤ len) (h30 : 0 ≤ m3) (h31 : m3 < 18446744073709551616) (hs0 : 0 ≤ size) (hs1 : size ≤ 12)
    (_hx : 0 ≤ x) (hm : ¬ most ≤ 1) (hm2 : most ≤ 9223372036854775807) : Drawn a len cap z p most w (.returned (.int .i64 (wrap64 (x % most)))) (W.setCell ⟨p, 2, none⟩ (.int .u64 m3)).drew := by
  have h1 : 0 ≤ x % most := Int.emod_nonneg _ (by omega)
  have h2 : x % most < most := Int.emod_lt_of_pos _ (by omega)
  have hw : wrap64 (x % most) = x % most := IntWalk.wrap64_in _ (by omega)
  have hg : w.grownBy (W.setCell ⟨p, 2, none⟩ (.int .u64 m3)).drew (some p) := grown_drew1 (grown_set hG)
  refine ⟨x % most, by rw [hw], h1, .inl h2, ⟨inRow_kept hrow hne hg, hne, k, m3, size, ?_, hk0, hk1, h30, h31, hs0, hs1⟩, hg⟩
  exact set_at (off := 2) hB _

theorem src_low {a : Option Addr} {len cap : Nat} {z : List Int} {p : Nat} {w : World} (h : Src a len cap z p w) {most : Int} (hm : most ≤ 1) :
    Calls Tryz.prog 34 #[.pointer (some ⟨p, 0, none⟩), .int .i64 most] w (Drawn a len cap z p most w) := by
  have H := Lib.hid h; clear h
  go_enter Tryz.func34, Tryz.ntmps34
  go_wp2
  go_ret
  exact ⟨0, rfl, by omega, .inr rfl, H.out, World.grownBy.refl _ _⟩

set_option maxHeartbeats 2000000 in
set_option maxRecDepth 100000 in
theorem src_n {a : Option Addr} {len cap : Nat} {z : List Int} {p : Nat} {w : World} (h : Src a len cap z p w) {most : Int} (hm : ¬ most ≤ 1) (hm2 : most ≤ 9223372036854775807) :
    Calls Tryz.prog 34 #[.pointer (some ⟨p, 0, none⟩), .int .i64 most] w (Drawn a len cap z p most w) := by
  obtain ⟨hrow, hne, k, mix, size, hb, hk0, hk1, hm0, hm1, hs0, hs1⟩ := h
  have c0 : w.cell? ⟨p, 0, none⟩ = some (.slice a len cap) := cell_of_row w p 0 _ _ _ hb
  have c1 : w.cell? ⟨p, 1, none⟩ = some (.int .i64 k) := cell_of_row w p 1 _ _ _ hb
  have c2 : w.cell? ⟨p, 2, none⟩ = some (.int .u64 mix) := cell_of_row w p 2 _ _ _ hb
  have c3 : w.cell? ⟨p, 3, none⟩ = some (.int .i64 size) := cell_of_row w p 3 _ _ _ hb
  have f1 : w.frozen? ⟨p, 1, none⟩ = false := frozen_of_row w p 1 _ _ hb
  have f2 : w.frozen? ⟨p, 2, none⟩ = false := frozen_of_row w p 2 _ _ hb
  have HROW := Lib.hid hrow
  have HNE := Lib.hid hne
  clear hrow hne
  by_cases hk : k < len
  · obtain ⟨k, rfl⟩ := Int.eq_ofNat_of_zero_le hk0
    have hkn : k < len := by omega
    obtain ⟨b, o, rfl⟩ := HROW.out.some (by omega)
    have cz := HROW.out.cell _ rfl k hkn
    obtain ⟨fz0, fz1⟩ := HROW.out.fit k hkn
    rw [Addr.add_lit] at cz
    generalize z.getD k 0 = y at cz fz0 fz1
    have HB := Lib.hid hb
    have HG : Hid (w.grownBy w (some p)) := World.grownBy.refl _ _
    go_enter Tryz.func34, Tryz.ntmps34
    go_wp2_with fail
    go_quiet (fail)
    go_wp2_with fail
    go_quiet (fail)
    go_wp2_with fail
    have hw : wrap64 ((k : Int) + 1) = ((k + 1 : Nat) : Int) := IntWalk.wrap64_in _ (by have := HROW.out.small; omega)
    rw [hw]
    clear hw
    refine wp_world (fun W' => W'.heap[p]? = some (.cells #[.slice (some ⟨b, o, none⟩) len cap, .int .i64 ((k + 1 : Nat) : Int), .int .u64 mix, .int .i64 size] 81 (0, 0)) ∧ w.grownBy W' (some p)) ⟨?_, ?_⟩ ?_
    · exact set_at (off := 1) (by exact HB.out) _
    · exact grown_set (grown_drew HG.out _)
    clear c0 c1 c2 c3 f1 f2 HB HG
    rintro W0 ⟨hB, hG⟩
    have c2 : W0.cell? ⟨p, 2, none⟩ = some (.int .u64 mix) := cell_of_row W0 p 2 _ _ _ hB
    have f2 : W0.frozen? ⟨p, 2, none⟩ = false := frozen_of_row W0 p 2 _ _ hB
    have HB := Lib.hid hB
    have HG := Lib.hid hG
    clear hB hG
    generalize hkk : ((k + 1 : Nat) : Int) = K at *
    have hK0 : 0 ≤ K := by omega
    have hK1 : K ≤ len := by omega
    clear hkk
    go_region
    go_wp2_with fail
    obtain ⟨m1, hm1⟩ : ∃ m1, m1 = bits BinOp.xor IntKind.u64 mix (IntKind.u64.wrap (mix * 8192)) := ⟨_, rfl⟩
    have hv1 : 0 ≤ m1 ∧ m1 < 18446744073709551616 := by rw [hm1]; exact bits_u64 _ _ _
    obtain ⟨hv1a, hv1b⟩ := hv1
    rw [← hm1]
    clear hm1
    refine wp_world (fun W' => W'.heap[p]? = some (.cells #[.slice (some ⟨b, o, none⟩) len cap, .int .i64 K, .int .u64 m1, .int .i64 size] 81 (0, 0)) ∧ w.grownBy W' (some p)) ⟨?_, ?_⟩ ?_
    · exact set_at (off := 2) (by exact HB.out) _
    · first | exact grown_set (grown_drew HG.out _) | exact grown_drew1 (grown_set HG.out) | exact grown_drew (grown_set HG.out) _ | exact grown_set (grown_drew1 HG.out)
    clear c2 f2 HB HG
    rintro W1 ⟨hB, hG⟩
    have c2 : W1.cell? ⟨p, 2, none⟩ = some (.int .u64 m1) := cell_of_row W1 p 2 _ _ _ hB
    have f2 : W1.frozen? ⟨p, 2, none⟩ = false := frozen_of_row W1 p 2 _ _ hB
    have HB := Lib.hid hB
    have HG := Lib.hid hG
    clear hB hG
    go_wp2_with fail
    go_region
    go_wp2_with fail
    obtain ⟨m2, hm2⟩ : ∃ m2, m2 = bits BinOp.xor IntKind.u64 m1 (m1 / 128) := ⟨_, rfl⟩
    have hv2 : 0 ≤ m2 ∧ m2 < 18446744073709551616 := by rw [hm2]; exact bits_u64 _ _ _
    obtain ⟨hv2a, hv2b⟩ := hv2
    rw [← hm2]
    clear hm2
    refine wp_world (fun W' => W'.heap[p]? = some (.cells #[.slice (some ⟨b, o, none⟩) len cap, .int .i64 K, .int .u64 m2, .int .i64 size] 81 (0, 0)) ∧ w.grownBy W' (some p)) ⟨?_, ?_⟩ ?_
    · exact set_at (off := 2) (by exact HB.out) _
    · first | exact grown_set (grown_drew HG.out _) | exact grown_drew1 (grown_set HG.out) | exact grown_drew (grown_set HG.out) _ | exact grown_set (grown_drew1 HG.out)
    clear c2 f2 HB HG
    rintro W2 ⟨hB, hG⟩
    have c2 : W2.cell? ⟨p, 2, none⟩ = some (.int .u64 m2) := cell_of_row W2 p 2 _ _ _ hB
    have f2 : W2.frozen? ⟨p, 2, none⟩ = false := frozen_of_row W2 p 2 _ _ hB
    have HB := Lib.hid hB
    have HG := Lib.hid hG
    clear hB hG
    go_wp2_with fail
    go_region
    obtain ⟨m3, hm3⟩ : ∃ m3, m3 = bits BinOp.xor IntKind.u64 m2 (IntKind.u64.wrap (m2 * 131072)) := ⟨_, rfl⟩
    have hv3 : 0 ≤ m3 ∧ m3 < 18446744073709551616 := by rw [hm3]; exact bits_u64 _ _ _
    obtain ⟨hv3a, hv3b⟩ := hv3
    rw [← hm3]
    clear hm3
    go_wp2_with fail
    go_ret
    exact drawn_end HROW.out HNE.out HB.out HG.out hK0 hK1 hv3a hv3b hs0 hs1 (by omega) (by omega) hm2
  · have HB := Lib.hid hb
    have HG : Hid (w.grownBy w (some p)) := World.grownBy.refl _ _
    go_enter Tryz.func34, Tryz.ntmps34
    go_wp2_with fail
    go_quiet (fail)
    go_wp2_with fail
    go_region
    go_wp2_with fail
    obtain ⟨m1, hm1⟩ : ∃ m1, m1 = bits BinOp.xor IntKind.u64 mix (IntKind.u64.wrap (mix * 8192)) := ⟨_, rfl⟩
    have hv1 : 0 ≤ m1 ∧ m1 < 18446744073709551616 := by rw [hm1]; exact bits_u64 _ _ _
    obtain ⟨hv1a, hv1b⟩ := hv1
    rw [← hm1]
    clear hm1
    refine wp_world (fun W' => W'.heap[p]? = some (.cells #[.slice a len cap, .int .i64 k, .int .u64 m1, .int .i64 size] 81 (0, 0)) ∧ w.grownBy W' (some p)) ⟨?_, ?_⟩ ?_
    · exact set_at (off := 2) (by exact HB.out) _
    · first | exact grown_set (grown_drew HG.out _) | exact grown_drew1 (grown_set HG.out) | exact grown_drew (grown_set HG.out) _ | exact grown_set (grown_drew1 HG.out)
    clear c2 f2 HB HG
    rintro W1 ⟨hB, hG⟩
    have c2 : W1.cell? ⟨p, 2, none⟩ = some (.int .u64 m1) := cell_of_row W1 p 2 _ _ _ hB
    have f2 : W1.frozen? ⟨p, 2, none⟩ = false := frozen_of_row W1 p 2 _ _ hB
    have HB := Lib.hid hB
    have HG := Lib.hid hG
    clear hB hG
    go_wp2_with fail
    go_region
    go_wp2_with fail
    obtain ⟨m2, hm2⟩ : ∃ m2, m2 = bits BinOp.xor IntKind.u64 m1 (m1 / 128) := ⟨_, rfl⟩
    have hv2 : 0 ≤ m2 ∧ m2 < 18446744073709551616 := by rw [hm2]; exact bits_u64 _ _ _
    obtain ⟨hv2a, hv2b⟩ := hv2
    rw [← hm2]
    clear hm2
    refine wp_world (fun W' => W'.heap[p]? = some (.cells #[.slice a len cap, .int .i64 k, .int .u64 m2, .int .i64 size] 81 (0, 0)) ∧ w.grownBy W' (some p)) ⟨?_, ?_⟩ ?_
    · exact set_at (off := 2) (by exact HB.out) _
    · first | exact grown_set (grown_drew HG.out _) | exact grown_drew1 (grown_set HG.out) | exact grown_drew (grown_set HG.out) _ | exact grown_set (grown_drew1 HG.out)
    clear c2 f2 HB HG
    rintro W2 ⟨hB, hG⟩
    have c2 : W2.cell? ⟨p, 2, none⟩ = some (.int .u64 m2) := cell_of_row W2 p 2 _ _ _ hB
    have f2 : W2.frozen? ⟨p, 2, none⟩ = false := frozen_of_row W2 p 2 _ _ hB
    have HB := Lib.hid hB
    have HG := Lib.hid hG
    clear hB hG
    go_wp2_with fail
    go_region
    obtain ⟨m3, hm3⟩ : ∃ m3, m3 = bits BinOp.xor IntKind.u64 m2 (IntKind.u64.wrap (m2 * 131072)) := ⟨_, rfl⟩
    have hv3 : 0 ≤ m3 ∧ m3 < 18446744073709551616 := by rw [hm3]; exact bits_u64 _ _ _
    obtain ⟨hv3a, hv3b⟩ := hv3
    rw [← hm3]
    clear hm3
    go_wp2_with fail
    go_ret
    exact drawn_end HROW.out HNE.out HB.out HG.out hk0 hk1 hv3a hv3b hs0 hs1 (by omega) (by omega) hm2
end Go.Proofs.YtjcdcaannajnpaaGreatDoor
