/- Clocks: ClockSample and ClockSlow of the model. -/
import Derived.Test.YtfjmcmdkmecgiaaClk
namespace Go.Proofs.Ytfjmcmdkmecgiaa
open Go.RowKit

/-- What ClockSample answers. -/
def sampleV (m v r t : Int) : Value := if clkRight m v r then clkV (meanN m v t) (varN m v t) (rtoN m v t) else clkV m v r
/-- What ClockSlow answers. -/
def slowV (m v r : Int) : Value := if clkRight m v r then clkV m v (min (2 * r) 64) else clkV m v r
/-- A block of three cells. -/
structure Three (w : World) (g : Nat) (x y z : Value) : Prop where
  c0 : w.cell? ⟨g, 0, none⟩ = some x
  c1 : w.cell? ⟨g, 1, none⟩ = some y
  c2 : w.cell? ⟨g, 2, none⟩ = some z
  z0 : w.frozen? ⟨g, 0, none⟩ = false
  z1 : w.frozen? ⟨g, 1, none⟩ = false
  z2 : w.frozen? ⟨g, 2, none⟩ = false
theorem Three.lt {w : World} {g : Nat} {x y z : Value} (h : Three w g x y z) : g < w.heap.size := World.block_lt_of_cell? _ _ h.c0
theorem Three.below {w w' : World} {g : Nat} {x y z : Value} (h : Three w g x y z) (hb : Below w.heap.size w w') : Three w' g x y z :=
  ⟨(hb.cell h.lt).trans h.c0, (hb.cell h.lt).trans h.c1, (hb.cell h.lt).trans h.c2, (hb.frozen h.lt).trans h.z0, (hb.frozen h.lt).trans h.z1, (hb.frozen h.lt).trans h.z2⟩
theorem three_at (w : World) (x y z : Value) (T : TypeId) : Three (w.alloc (.cells #[x, y, z] T)) w.heap.size x y z := ⟨by simp, by simp, by simp, by simp, by simp, by simp⟩
theorem Three.other {w : World} {g : Nat} {x y z : Value} (h : Three w g x y z) {p : Addr} (hp : p.block ≠ g) (v : Value) : Three (w.setCell p v) g x y z := by
  have hb : (w.setCell p v).heap[g]? = w.heap[g]? := Below.heap_setCell _ _ _ _ (by omega)
  exact ⟨(World.cell?_of_block (a := ⟨g, 0, none⟩) hb).trans h.c0, (World.cell?_of_block (a := ⟨g, 1, none⟩) hb).trans h.c1, (World.cell?_of_block (a := ⟨g, 2, none⟩) hb).trans h.c2,
    (World.frozen?_of_block (a := ⟨g, 0, none⟩) hb).trans h.z0, (World.frozen?_of_block (a := ⟨g, 1, none⟩) hb).trans h.z1, (World.frozen?_of_block (a := ⟨g, 2, none⟩) hb).trans h.z2⟩
theorem Three.set3 {w : World} {g : Nat} {x y z : Value} (h : Three w g x y z) (a b c : Value) : Three (((w.setCell ⟨g, 0, none⟩ a).setCell ⟨g, 1, none⟩ b).setCell ⟨g, 2, none⟩ c) g a b c := by
  have h0 : (w.setCell ⟨g, 0, none⟩ a).cell? ⟨g, 0, none⟩ = some a := World.cell?_setCell_same _ _ _ h.c0
  have h1 : (w.setCell ⟨g, 0, none⟩ a).cell? ⟨g, 1, none⟩ = some y := (World.cell?_setCell_other _ _ _ _ (fun e => by cases e)).trans h.c1
  have h2 : (w.setCell ⟨g, 0, none⟩ a).cell? ⟨g, 2, none⟩ = some z := (World.cell?_setCell_other _ _ _ _ (fun e => by cases e)).trans h.c2
  generalize hV : w.setCell ⟨g, 0, none⟩ a = V at *
  have z0 : V.frozen? ⟨g, 0, none⟩ = false := by rw [← hV]; exact (World.frozen?_setCell _ _ _ _).trans h.z0
  have z1 : V.frozen? ⟨g, 1, none⟩ = false := by rw [← hV]; exact (World.frozen?_setCell _ _ _ _).trans h.z1
  have z2 : V.frozen? ⟨g, 2, none⟩ = false := by rw [← hV]; exact (World.frozen?_setCell _ _ _ _).trans h.z2
  have i0 : (V.setCell ⟨g, 1, none⟩ b).cell? ⟨g, 0, none⟩ = some a := (World.cell?_setCell_other _ _ _ _ (fun e => by cases e)).trans h0
  have i1 : (V.setCell ⟨g, 1, none⟩ b).cell? ⟨g, 1, none⟩ = some b := World.cell?_setCell_same _ _ _ h1
  have i2 : (V.setCell ⟨g, 1, none⟩ b).cell? ⟨g, 2, none⟩ = some z := (World.cell?_setCell_other _ _ _ _ (fun e => by cases e)).trans h2
  exact ⟨(World.cell?_setCell_other _ _ _ _ (fun e => by cases e)).trans i0, (World.cell?_setCell_other _ _ _ _ (fun e => by cases e)).trans i1, World.cell?_setCell_same _ _ _ i2,
    by simp [World.frozen?_setCell, z0], by simp [World.frozen?_setCell, z1], by simp [World.frozen?_setCell, z2]⟩
theorem three_two (w : World) (x y z x' y' z' : Value) (T T' : TypeId) :
    let W := (w.alloc (.cells #[x, y, z] T)).alloc (.cells #[x', y', z'] T')
    Three W w.heap.size x y z ∧ Three W (w.heap.size + 1) x' y' z' ∧ W.heap.size = w.heap.size + 2 ∧ Below w.heap.size w W := by
  intro W
  have s1 : (w.alloc (.cells #[x, y, z] T)).heap.size = w.heap.size + 1 := by simp
  have n1 := three_at w x y z T
  have n2 := three_at (w.alloc (.cells #[x, y, z] T)) x' y' z' T'
  rw [s1] at n2
  have b0 : Below w.heap.size w (w.alloc (.cells #[x, y, z] T)) := (Below.refl _ _).alloc (Nat.le_refl _) _
  have b1 : Below (w.alloc (.cells #[x, y, z] T)).heap.size (w.alloc (.cells #[x, y, z] T)) W := (Below.refl _ _).alloc (Nat.le_refl _) _
  exact ⟨n1.below b1, n2, by simp [W], b0.trans (b1.mono (by simp))⟩


theorem tookN_le (t : Int) : 0 ≤ tookN t ∧ tookN t ≤ 1000 := by unfold tookN; omega



end Go.Proofs.Ytfjmcmdkmecgiaa
