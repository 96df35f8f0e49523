/- The laws' copy of one way: two rows of its own. -/
import Derived.Test.YthimndilobadeaaDoorTxTo
import Derived.Test.YthimndilobadeaaDoorWay
namespace Go.Proofs.YthimndilobadeaaDoor
open Go.RowKit

/-- A block of two cells. -/
structure Two (w : World) (g : Nat) (x y : Value) : Prop where
  fst : w.cell? ⟨g, 0, none⟩ = some x
  snd : w.cell? ⟨g, 1, none⟩ = some y
  frz0 : w.frozen? ⟨g, 0, none⟩ = false
  frz1 : w.frozen? ⟨g, 1, none⟩ = false
theorem Two.lt {w : World} {g : Nat} {x y : Value} (h : Two w g x y) : g < w.heap.size := World.block_lt_of_cell? _ _ h.fst
theorem Two.below {w w' : World} {g : Nat} {x y : Value} (h : Two w g x y) (hb : Below w.heap.size w w') : Two w' g x y :=
  ⟨(hb.cell h.lt).trans h.fst, (hb.cell h.lt).trans h.snd, (hb.frozen h.lt).trans h.frz0, (hb.frozen h.lt).trans h.frz1⟩
theorem two_new (w : World) (x y : Value) (T : TypeId) : Two (w.alloc (.cells #[x, y] T)) w.heap.size x y := ⟨by simp, by simp, by simp, by simp⟩
theorem Two.set0 {w : World} {g : Nat} {x y : Value} (h : Two w g x y) (v : Value) : Two (w.setCell ⟨g, 0, none⟩ v) g v y :=
  ⟨World.cell?_setCell_same _ _ _ h.fst, (World.cell?_setCell_other _ _ _ _ (fun e => by cases e)).trans h.snd, (World.frozen?_setCell _ _ _ _).trans h.frz0, (World.frozen?_setCell _ _ _ _).trans h.frz1⟩
theorem Two.set1 {w : World} {g : Nat} {x y : Value} (h : Two w g x y) (v : Value) : Two (w.setCell ⟨g, 1, none⟩ v) g x v :=
  ⟨(World.cell?_setCell_other _ _ _ _ (fun e => by cases e)).trans h.fst, World.cell?_setCell_same _ _ _ h.snd, (World.frozen?_setCell _ _ _ _).trans h.frz0, (World.frozen?_setCell _ _ _ _).trans h.frz1⟩
theorem Two.other {w : World} {g : Nat} {x y : Value} (h : Two w g x y) {p : Addr} (hp : p.block ≠ g) (v : Value) : Two (w.setCell p v) g x y := by
  have hb : (w.setCell p v).heap[g]? = w.heap[g]? := Below.heap_setCell _ _ _ _ (by omega)
  exact ⟨(World.cell?_of_block (a := ⟨g, 0, none⟩) hb).trans h.fst, (World.cell?_of_block (a := ⟨g, 1, none⟩) hb).trans h.snd, (World.frozen?_of_block (a := ⟨g, 0, none⟩) hb).trans h.frz0, (World.frozen?_of_block (a := ⟨g, 1, none⟩) hb).trans h.frz1⟩

theorem three_new (w : World) (x y x' y' x'' y'' : Value) (T T' T'' : TypeId) :
    let W := ((w.alloc (.cells #[x, y] T)).alloc (.cells #[x', y'] T')).alloc (.cells #[x'', y''] T'')
    Two W w.heap.size x y ∧ Two W (w.heap.size + 1) x' y' ∧ Two W (w.heap.size + 1 + 1) x'' y'' ∧ W.heap.size = w.heap.size + 3 ∧ Below w.heap.size w W := by
  intro W
  have s1 : (w.alloc (.cells #[x, y] T)).heap.size = w.heap.size + 1 := by simp
  have s2 : ((w.alloc (.cells #[x, y] T)).alloc (.cells #[x', y'] T')).heap.size = w.heap.size + 1 + 1 := by simp
  have n1 := two_new w x y T
  have n2 := two_new (w.alloc (.cells #[x, y] T)) x' y' T'
  have n3 := two_new ((w.alloc (.cells #[x, y] T)).alloc (.cells #[x', y'] T')) x'' y'' T''
  rw [s1] at n2
  rw [s2] at n3
  have b1 : Below (w.alloc (.cells #[x, y] T)).heap.size (w.alloc (.cells #[x, y] T)) ((w.alloc (.cells #[x, y] T)).alloc (.cells #[x', y'] T')) := (Below.refl _ _).alloc (Nat.le_refl _) _
  have b2 : Below ((w.alloc (.cells #[x, y] T)).alloc (.cells #[x', y'] T')).heap.size ((w.alloc (.cells #[x, y] T)).alloc (.cells #[x', y'] T')) W := (Below.refl _ _).alloc (Nat.le_refl _) _
  have b0 : Below w.heap.size w (w.alloc (.cells #[x, y] T)) := (Below.refl _ _).alloc (Nat.le_refl _) _
  exact ⟨(n1.below b1).below b2, n2.below b2, n3, by simp [W], (b0.trans (b1.mono (by simp))).trans (b2.mono (by simp; omega))⟩

/-- A copy of a way. -/
def WyCopied (w : World) (t u : Tx) (e : Ending) (w' : World) : Prop :=
  ∃ g k, e = .returned (wayV (some ⟨g, 0, none⟩) t.length t.length (some ⟨k, 0, none⟩) u.length u.length) ∧ InTx w' (some ⟨g, 0, none⟩) t.length t ∧ OpenTx w' g t.length ∧ InTx w' (some ⟨k, 0, none⟩) u.length u ∧ OpenTx w' k u.length ∧
    w.heap.size ≤ g ∧ g < k ∧ k < w'.heap.size ∧ Below w.heap.size w w'

set_option maxHeartbeats 1000000 in
set_option maxRecDepth 100000 in
theorem toWay_calls {a b : Option Addr} {la ca lb cb : Nat} {t u : Tx} {w : World} (h : InTx w a la t) (h' : InTx w b lb u) :
    Calls Tryd.prog 19 #[wayV a la ca b lb cb] w (WyCopied w t u) := by
  have e1 := h.long
  have e2 := h'.long
  subst e1 e2
  have c1 := fun (w' : World) (hb : Below w.heap.size w w') => toStringS_calls (cap := ca) (h.below hb)
  have c2 := fun (w' : World) (hb : Below w.heap.size w w') => toStringS_calls (cap := cb) (h'.below hb)
  have C1 := Lib.hid c1
  have C2 := Lib.hid c2
  clear c1 c2 h h'
  unfold wayV
  go_enter Tryd.func19, Tryd.ntmps19
  go_wp2_with fail
  have h3 := three_new w (.slice a t.length ca) (.slice b u.length cb) (.slice none 0 0) (.slice none 0 0) (.slice none 0 0) (.slice none 0 0) 37 41 41
  dsimp only at h3
  generalize ((w.alloc (.cells #[.slice a t.length ca, .slice b u.length cb] 37)).alloc (.cells #[.slice none 0 0, .slice none 0 0] 41)).alloc (.cells #[.slice none 0 0, .slice none 0 0] 41) = W at *
  obtain ⟨n1, n2, n3, hs, hb⟩ := h3
  refine (C1.out W hb).mono ?_
  rintro e w1 ⟨g, rfl, i1, o1, hg1, hg2, hb1⟩
  have n1 := n1.below hb1
  have n2 := n2.below hb1
  have n3 := n3.below hb1
  have hB1 := hb.trans (hb1.mono hb.size)
  have f3 := n3.fst
  have f2 := n3.frz0
  have f1 := n1.snd
  have N1 := Lib.hid n1
  have N2 := Lib.hid n2
  have N3 := Lib.hid n3
  have HB := Lib.hid hB1
  have I1 := Lib.hid i1
  have O1 := Lib.hid o1
  clear n1 n2 n3 hB1 hb1 hb i1 o1
  go_wp2_with fail
  have n1 := N1.out.other (p := ⟨w.heap.size + 1 + 1, 0, none⟩) (by simp; omega) (.slice (some ⟨g, 0, none⟩) t.length t.length)
  have n2 := N2.out.other (p := ⟨w.heap.size + 1 + 1, 0, none⟩) (by simp) (.slice (some ⟨g, 0, none⟩) t.length t.length)
  have n3 := N3.out.set0 (.slice (some ⟨g, 0, none⟩) t.length t.length)
  have i1 := I1.out.store (p := ⟨w.heap.size + 1 + 1, 0, none⟩) (by simp; omega) (.slice (some ⟨g, 0, none⟩) t.length t.length)
  have o1 := O1.out.store (p := ⟨w.heap.size + 1 + 1, 0, none⟩) (by simp; omega) (.slice (some ⟨g, 0, none⟩) t.length t.length)
  have hb1 := HB.out.setCell (p := ⟨w.heap.size + 1 + 1, 0, none⟩) (by simp; omega) (.slice (some ⟨g, 0, none⟩) t.length t.length)
  have hgV : g < (w1.setCell ⟨w.heap.size + 1 + 1, 0, none⟩ (.slice (some ⟨g, 0, none⟩) t.length t.length)).heap.size := by simpa using hg2
  generalize w1.setCell ⟨w.heap.size + 1 + 1, 0, none⟩ (.slice (some ⟨g, 0, none⟩) t.length t.length) = V at *
  refine (C2.out V hb1).mono ?_
  rintro e w2 ⟨k, rfl, i2, o2, hk1, hk2, hb2⟩
  have n2 := n2.below hb2
  have n3 := n3.below hb2
  have i1 := i1.below hb2
  have o1 := o1.below hgV hb2
  have hB1 := hb1.trans (hb2.mono hb1.size)
  have f0 := n2.fst
  have f1 := n2.snd
  have f2 := n2.frz0
  have f3 := n2.frz1
  have e0 := n3.fst
  have e1 := n3.snd
  have e2 := n3.frz0
  have e3 := n3.frz1
  have I1 := Lib.hid i1
  have O1 := Lib.hid o1
  have I2 := Lib.hid i2
  have O2 := Lib.hid o2
  have HB1 := Lib.hid hB1
  have hsz := hb2.size
  clear N1 N2 N3 HB n1 n2 n3 hb1 hb2 i1 i2 o1 o2 hB1 C1 C2
  go_wp2_with fail
  refine bodyPost_ret (v := wayV (some ⟨g, 0, none⟩) t.length t.length (some ⟨k, 0, none⟩) u.length u.length) (by simp [wayV, results, Tryd.results19, go_sem, f0, f1]) rfl ?_
  refine ⟨g, k, rfl, ((I1.out.store (by simp; omega) _).store (by simp; omega) _).store (by simp; omega) _, ((O1.out.store (by simp; omega) _).store (by simp; omega) _).store (by simp; omega) _,
    ((I2.out.store (by simp; omega) _).store (by simp; omega) _).store (by simp; omega) _, ((O2.out.store (by simp; omega) _).store (by simp; omega) _).store (by simp; omega) _, by omega, by omega, by simpa using hk2,
    ((HB1.out.setCell (by simp; omega) _).setCell (by simp) _).setCell (by simp) _⟩
end Go.Proofs.YthimndilobadeaaDoor
