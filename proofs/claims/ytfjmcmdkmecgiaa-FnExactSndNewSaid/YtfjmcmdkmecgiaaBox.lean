/- A block of cells. -/
import Derived.Test.YtfjmcmdkmecgiaaProg
import Derived.Test.YtfjmcmdkmecgiaaBase
namespace Go.Proofs.Ytfjmcmdkmecgiaa
open Go.RowKit

/-- A block whose first cells are vs, and may be written. -/
structure Box (w : World) (g : Nat) (vs : List Value) : Prop where
  cell : ∀ i v, vs[i]? = some v → w.cell? ⟨g, i, none⟩ = some v
  free : ∀ i, i < vs.length → w.frozen? ⟨g, i, none⟩ = false
  pos : 0 < vs.length
theorem Box.lt {w : World} {g : Nat} {vs : List Value} (h : Box w g vs) : g < w.heap.size :=
  World.block_lt_of_cell? w _ (h.cell 0 _ (List.getElem?_eq_getElem h.pos))
theorem Box.kept {w w' : World} {g : Nat} {vs : List Value} (h : Box w g vs) (hb : w'.heap[g]? = w.heap[g]?) : Box w' g vs :=
  ⟨fun i v e => (World.cell?_of_block (a := ⟨g, i, none⟩) hb).trans (h.cell i v e), fun i hi => (World.frozen?_of_block (a := ⟨g, i, none⟩) hb).trans (h.free i hi), h.pos⟩
theorem Box.below {w w' : World} {g : Nat} {vs : List Value} (h : Box w g vs) (hb : Below w.heap.size w w') : Box w' g vs := h.kept (hb.block g h.lt)
theorem Box.other {w : World} {g : Nat} {vs : List Value} (h : Box w g vs) {p : Addr} (hp : p.block ≠ g) (v : Value) : Box (w.setCell p v) g vs := h.kept (Below.heap_setCell _ _ _ _ (Ne.symm hp))
theorem Box.set {w : World} {g : Nat} {vs : List Value} (h : Box w g vs) (i : Nat) (v : Value) : Box (w.setCell ⟨g, i, none⟩ v) g (vs.set i v) := by
  refine ⟨fun j u e => ?_, fun j hj => (World.frozen?_setCell _ _ _ _).trans (h.free j (by simpa using hj)), by simpa using h.pos⟩
  have hj : j < vs.length := by
    obtain ⟨hj, _⟩ := List.getElem?_eq_some_iff.1 e
    simpa using hj
  by_cases hij : i = j
  · subst hij
    rw [List.getElem?_set_self hj] at e
    cases e
    exact World.cell?_setCell_same _ _ _ (h.cell i _ (List.getElem?_eq_getElem hj))
  · rw [List.getElem?_set_ne hij] at e
    exact (World.cell?_setCell_other _ _ _ _ (fun e' => by injection e' with _ e' _; omega)).trans (h.cell j u e)
theorem box_new (w : World) (vs : List Value) (T : TypeId) (h : 0 < vs.length) : Box (w.alloc (.cells vs.toArray T)) w.heap.size vs := by
  refine ⟨fun i v e => ?_, fun i _ => by simp, h⟩
  obtain ⟨hi, rfl⟩ := List.getElem?_eq_some_iff.1 e
  simp [hi]
theorem box_two (w : World) (vs us : List Value) (T U : TypeId) (h : 0 < vs.length) (k : 0 < us.length) :
    let W := (w.alloc (.cells vs.toArray T)).alloc (.cells us.toArray U)
    Box W w.heap.size vs ∧ Box W (w.heap.size + 1) us ∧ W.heap.size = w.heap.size + 2 ∧ Below w.heap.size w W := by
  intro W
  have s1 : (w.alloc (.cells vs.toArray T)).heap.size = w.heap.size + 1 := by simp
  have n1 := box_new w vs T h
  have n2 := box_new (w.alloc (.cells vs.toArray T)) us U k
  rw [s1] at n2
  have b0 : Below w.heap.size w (w.alloc (.cells vs.toArray T)) := (Below.refl _ _).alloc (Nat.le_refl _) _
  have b1 : Below (w.alloc (.cells vs.toArray T)).heap.size (w.alloc (.cells vs.toArray T)) W := (Below.refl _ _).alloc (Nat.le_refl _) _
  exact ⟨n1.below b1, n2, by simp [W], b0.trans (b1.mono (by simp))⟩
theorem box_three (w : World) (vs us ts : List Value) (T U V : TypeId) (h : 0 < vs.length) (k : 0 < us.length) (m : 0 < ts.length) :
    let W := ((w.alloc (.cells vs.toArray T)).alloc (.cells us.toArray U)).alloc (.cells ts.toArray V)
    Box W w.heap.size vs ∧ Box W (w.heap.size + 1) us ∧ Box W (w.heap.size + 1 + 1) ts ∧ W.heap.size = w.heap.size + 3 ∧ Below w.heap.size w W := by
  intro W
  obtain ⟨n1, n2, hs, hb⟩ := box_two w vs us T U h k
  have n3 := box_new ((w.alloc (.cells vs.toArray T)).alloc (.cells us.toArray U)) ts V m
  have b1 : Below ((w.alloc (.cells vs.toArray T)).alloc (.cells us.toArray U)).heap.size ((w.alloc (.cells vs.toArray T)).alloc (.cells us.toArray U)) W := (Below.refl _ _).alloc (Nat.le_refl _) _
  have hb2 := hb.trans (b1.mono hb.size)
  replace n1 := n1.below b1
  replace n2 := n2.below b1
  rw [hs] at n3
  exact ⟨n1, n2, n3, by simp [W], hb2⟩
/-- The cells of a block of seven. -/
theorem Box.seven {w : World} {g : Nat} {a b c d e f h : Value} (k : Box w g [a, b, c, d, e, f, h]) :
    w.cell? ⟨g, 0, none⟩ = some a ∧ w.cell? ⟨g, 1, none⟩ = some b ∧ w.cell? ⟨g, 2, none⟩ = some c ∧ w.cell? ⟨g, 3, none⟩ = some d ∧ w.cell? ⟨g, 4, none⟩ = some e ∧ w.cell? ⟨g, 5, none⟩ = some f ∧ w.cell? ⟨g, 6, none⟩ = some h :=
  ⟨k.cell 0 _ rfl, k.cell 1 _ rfl, k.cell 2 _ rfl, k.cell 3 _ rfl, k.cell 4 _ rfl, k.cell 5 _ rfl, k.cell 6 _ rfl⟩
theorem Box.frz7 {w : World} {g : Nat} {a b c d e f h : Value} (k : Box w g [a, b, c, d, e, f, h]) :
    w.frozen? ⟨g, 0, none⟩ = false ∧ w.frozen? ⟨g, 1, none⟩ = false ∧ w.frozen? ⟨g, 2, none⟩ = false ∧ w.frozen? ⟨g, 3, none⟩ = false ∧ w.frozen? ⟨g, 4, none⟩ = false ∧ w.frozen? ⟨g, 5, none⟩ = false ∧ w.frozen? ⟨g, 6, none⟩ = false :=
  ⟨k.free 0 (by simp), k.free 1 (by simp), k.free 2 (by simp), k.free 3 (by simp), k.free 4 (by simp), k.free 5 (by simp), k.free 6 (by simp)⟩
end Go.Proofs.Ytfjmcmdkmecgiaa
