/- The laws' markPieceS: a list of pieces is written over with its marks. -/
import Derived.Test.YtnfnghcajhmnpaaHeld
namespace Go.Proofs.Ytnfnghcajhmnpaa
open Go.RowKit

theorem grown_trans {a b c : World} {r : Option Nat} (h : a.grownBy b r) (k : b.grownBy c r) : a.grownBy c r :=
  ⟨k.os.trans h.os, k.tape.trans h.tape, k.output.trans h.output, Nat.le_trans h.size k.size, fun i hi hne => (k.block i (Nat.lt_of_lt_of_le hi h.size) hne).trans (h.block i hi hne)⟩
theorem grown_set (w : World) (g o : Nat) (v : Value) : w.grownBy (w.setCell ⟨g, o, none⟩ v) (some g) :=
  ⟨rfl, rfl, rfl, by simp, fun k _ hk => Below.heap_setCell _ _ _ _ (fun e => hk (by simp [e]))⟩
theorem grown_below {w w' : World} (h : Below w.heap.size w w') (r : Option Nat) : w.grownBy w' r := ⟨h.os, h.tape, h.output, h.size, fun k hk _ => h.block k hk⟩

/-- A row of 2 * len cells that may be written. -/
structure Open (w : World) (g o len : Nat) : Prop where
  there : ∀ i, i < len * 2 → ∃ v, w.cell? ⟨g, o + i, none⟩ = some v
  free : ∀ i, i < len * 2 → w.frozen? ⟨g, o + i, none⟩ = false
theorem Open.below {w w' : World} {g o len : Nat} (h : Open w g o len) (hb : Below w.heap.size w w') : Open w' g o len :=
  ⟨fun i hi => by obtain ⟨v, hv⟩ := h.there i hi; exact ⟨v, (hb.cell (World.block_lt_of_cell? w _ hv)).trans hv⟩,
   fun i hi => by obtain ⟨v, hv⟩ := h.there i hi; exact (hb.frozen (World.block_lt_of_cell? w _ hv)).trans (h.free i hi)⟩
theorem Open.drew {w : World} {g o len : Nat} (h : Open w g o len) : Open w.drew g o len := ⟨h.there, h.free⟩
theorem cell_set {w : World} {g o : Nat} {u v : Value} (h : w.cell? ⟨g, o, none⟩ = some u) : (w.setCell ⟨g, o, none⟩ v).cell? ⟨g, o, none⟩ = some v := by
  exact World.cell?_setCell_same _ _ _ h
theorem cell_set_ne {w : World} {g o o' : Nat} {v : Value} (h : o ≠ o') : (w.setCell ⟨g, o, none⟩ v).cell? ⟨g, o', none⟩ = w.cell? ⟨g, o', none⟩ :=
  World.cell?_setCell_other _ _ _ _ (fun e => h (Addr.mk.inj e).2.1)
theorem Open.set {w : World} {g o len : Nat} (h : Open w g o len) (p : Nat) (v : Value) : Open (w.setCell ⟨g, p, none⟩ v) g o len :=
  ⟨fun i hi => by
    obtain ⟨u, hu⟩ := h.there i hi
    by_cases e : p = o + i
    · subst e; exact ⟨v, cell_set hu⟩
    · exact ⟨u, (cell_set_ne e).trans hu⟩, fun i hi => by rw [World.frozen?_setCell]; exact h.free i hi⟩

/-- The first j pieces are marked. -/
def Marked (w : World) (g o k j : Nat) : Prop := ∀ i, i < j → w.cell? ⟨g, o + i * 2, none⟩ = some (.int .i64 ((k + 2 * i : Nat) : Int)) ∧ w.cell? ⟨g, o + i * 2 + 1, none⟩ = some (gs (mText (k + 2 * i + 1)))
theorem Marked.below {w w' : World} {g o k j : Nat} (h : Marked w g o k j) (hb : Below w.heap.size w w') : Marked w' g o k j := fun i hi => by
  obtain ⟨c0, c1⟩ := h i hi
  exact ⟨(hb.cell (World.block_lt_of_cell? w _ c0)).trans c0, (hb.cell (World.block_lt_of_cell? w _ c1)).trans c1⟩

theorem Marked.set {w : World} {g o k j : Nat} (h : Marked w g o k j) {p : Nat} (hp : o + j * 2 ≤ p) (v : Value) : Marked (w.setCell ⟨g, p, none⟩ v) g o k j := fun i hi => by
  obtain ⟨c0, c1⟩ := h i hi
  exact ⟨(cell_set_ne (by omega)).trans c0, (cell_set_ne (by omega)).trans c1⟩
theorem Marked.succ {w : World} {g o k j : Nat} (h : Marked w g o k j) (c0 : w.cell? ⟨g, o + j * 2, none⟩ = some (.int .i64 ((k + 2 * j : Nat) : Int))) (c1 : w.cell? ⟨g, o + j * 2 + 1, none⟩ = some (gs (mText (k + 2 * j + 1)))) : Marked w g o k (j + 1) := fun i hi => by
  by_cases e : i = j
  · subst e; exact ⟨c0, c1⟩
  · exact h i (by omega)

set_option maxHeartbeats 1000000 in
set_option maxRecDepth 100000 in
theorem mark_calls {g o len cap k : Nat} {w : World} (ho : Open w g o len) (hm : len ≤ 2000000) (hk : k ≤ 100000000) :
    Calls Try.prog 18 #[.slice (some ⟨g, o, none⟩) len cap, .int .i64 (k : Int)] w fun e w' => e = .returned (.int .i64 ((k + 2 * len : Nat) : Int)) ∧ Open w' g o len ∧ Marked w' g o k len ∧ w.grownBy w' (some g) := by
  go_enter Try.func18, Try.ntmps18
  go_wp2_with fail
  go_loopw [1, 5] (fun v i wr => ∃ j : Nat, i = .int .i64 (j : Int) ∧ v = .int .i64 ((k + 2 * j : Nat) : Int) ∧ j ≤ len ∧ Open wr g o len ∧ Marked wr g o k j ∧ w.grownBy wr (some g)) (fun _ i _ => len - (intOf i).toNat)
  case atStart => exact ⟨0, rfl, rfl, Nat.zero_le _, ho, (fun i hi => absurd hi (by omega)), grown_below (Below.refl _ _) _⟩
  case round =>
    clear ho
    obtain ⟨j, rfl, rfl, hj, ho, hmk, hgr⟩ := hrel
    by_cases hjl : j < len
    · obtain ⟨v0, e0⟩ := ho.there (j * 2) (by omega)
      have z0 := ho.free (j * 2) (by omega)
      have hcall := fun w => markText_calls (k + 2 * j + 1) w (by omega)
      have hs1 : k + 2 * j + 2 ≤ 200000000 := by omega
      generalize hn : k + 2 * j = n at *
      have hcast : ((n + 1 : Nat) : Int) = (n : Int) + 1 := by omega
      rw [hcast] at hcall
      have HC := Lib.hid hcall
      have HO := Lib.hid ho
      have HM := Lib.hid hmk
      have HG := Lib.hid hgr
      have HN := Lib.hid hn
      clear hcall ho hmk hgr hn hcast
      go_wp2_with fail
      have hM1 := HM.out.set (Nat.le_refl _) (.int .i64 (n : Int))
      have hO1 := HO.out.set (o + j * 2) (.int .i64 (n : Int))
      have hG1 := grown_trans HG.out (grown_set wr g (o + j * 2) (.int .i64 (n : Int)))
      have m0 := cell_set (v := .int .i64 (n : Int)) e0
      generalize wr.setCell ⟨g, o + j * 2, none⟩ (.int .i64 (n : Int)) = w1 at *
      clear e0 z0 HM HO HG
      refine (HC.out _).mono ?_
      rintro e w2 ⟨rfl, hb2⟩
      have hM2 := hM1.below hb2
      have hO2 := hO1.below hb2
      have hG2 := grown_trans hG1 (grown_below hb2 _)
      have m2 := (hb2.cell (World.block_lt_of_cell? w1 _ m0)).trans m0
      obtain ⟨v1, e1⟩ := hO2.there (j * 2 + 1) (by omega)
      have z1 := hO2.free (j * 2 + 1) (by omega)
      rw [← Nat.add_assoc] at e1 z1
      have hM3 := hM2.set (p := o + j * 2 + 1) (by omega) (gs (mText (n + 1)))
      have hO3 := hO2.set (o + j * 2 + 1) (gs (mText (n + 1)))
      have hG3 := grown_trans hG2 (grown_set w2 g (o + j * 2 + 1) (gs (mText (n + 1))))
      have m3 := (cell_set_ne (v := gs (mText (n + 1))) (by omega : o + j * 2 + 1 ≠ o + j * 2)).trans m2
      have m4 := cell_set (v := gs (mText (n + 1))) e1
      have hn := HN.out
      have hM4 : Marked (w2.setCell ⟨g, o + j * 2 + 1, none⟩ (gs (mText (n + 1)))) g o k (j + 1) := hM3.succ (by rw [hn]; exact m3) (by rw [hn]; exact m4)
      have HM4 := Lib.hid hM4
      have HO4 := Lib.hid hO3
      have HG4 := Lib.hid hG3
      clear hM1 hO1 hG1 m0 hM2 hO2 hG2 m2 hM3 hO3 hG3 m3 m4 hn hM4 hb2
      go_wp2_with fail
      exact ⟨⟨j + 1, by go_num, by have := HN.out; exact val_int (by omega), by omega, HO4.out, HM4.out, HG4.out⟩, by simp [intOf]; omega⟩
    · have : j = len := by omega
      subst this
      go_wp2_with fail
      go_ret
      exact ⟨rfl, ho, hmk, hgr⟩
end Go.Proofs.Ytnfnghcajhmnpaa
