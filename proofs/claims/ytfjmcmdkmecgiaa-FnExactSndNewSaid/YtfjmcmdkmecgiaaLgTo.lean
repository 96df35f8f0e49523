/- The laws' copy of a row of numbers: a row of its own. -/
import Derived.Test.YtfjmcmdkmecgiaaLg
import Derived.Lib.BufferWrite
import Derived.Deep.WholeRow
namespace Go.Proofs.Ytfjmcmdkmecgiaa
open Go.RowKit

/-- A row's cells are there, and may be written. -/
structure OpenLg (w : World) (g len : Nat) : Prop where
  there : ∀ i, i < len → ∃ v, w.cell? ⟨g, i, none⟩ = some v
  free : ∀ i, i < len → w.frozen? ⟨g, i, none⟩ = false
theorem OpenLg.below {w w' : World} {g len : Nat} (h : OpenLg w g len) (hg : g < w.heap.size) (hb : Below w.heap.size w w') : OpenLg w' g len :=
  ⟨fun i hi => by obtain ⟨v, hv⟩ := h.there i hi; exact ⟨v, (hb.cell (p := ⟨g, i, none⟩) hg).trans hv⟩, fun i hi => (hb.frozen (p := ⟨g, i, none⟩) hg).trans (h.free i hi)⟩
theorem OpenLg.kept {w w' : World} {g len : Nat} (h : OpenLg w g len) (hb : w'.heap[g]? = w.heap[g]?) : OpenLg w' g len :=
  ⟨fun i hi => by obtain ⟨v, hv⟩ := h.there i hi; exact ⟨v, (World.cell?_of_block (a := ⟨g, i, none⟩) hb).trans hv⟩, fun i hi => (World.frozen?_of_block (a := ⟨g, i, none⟩) hb).trans (h.free i hi)⟩
theorem OpenLg.store {w : World} {g len : Nat} (h : OpenLg w g len) {p : Addr} (hp : g ≠ p.block) (v : Value) : OpenLg (w.setCell p v) g len := h.kept (Below.heap_setCell _ _ _ _ hp)
theorem run_make_longs {P : Program} {t e : TypeId} {i : TypeInfo} (ht : P.underlying t = some (.slice e)) (hi : P.info? e = some i) (hz : i.zero = some (.int .i64 0)) (h1 : i.size = 1) (h2 : i.bytes = 8)
    (n : Nat) (L : Int) (hL : L = (n : Int)) (hn : n ≤ 1000000000) (w : World) :
    (Instr.makeSlice t (.int .i64 L) (.int .i64 L)).run P w = .ok (.slice (some ⟨w.heap.size, 0, none⟩) n n) (w.alloc (.cells (madeCells (Value.cells (.int .i64 0)) (n * 1)) e)) := by
  subst hL
  have h := run_make (P := P) w t e i (.int .i64 0) ht hi hz .i64 .i64 n n (by omega) (by omega) (by rw [h2]; omega) (by omega)
  rw [h, h1]
  simp only [Int.toNat_natCast]
/-- The first k numbers of l stand in a row of cells. -/
def LgTo (xs : List Value) (l : Lg) (k : Nat) : Prop := ∀ j, j < k → xs[j]? = some (.int .i64 (lgAt l j))
theorem lgTo_zero (xs : List Value) (l : Lg) : LgTo xs l 0 := fun j h => by omega
theorem lgTo_succ {xs : List Value} {l : Lg} {k : Nat} (h : LgTo xs l k) (hl : k < xs.length) : LgTo (xs.set k (.int .i64 (lgAt l k))) l (k + 1) := fun j hj => by
  by_cases e : j = k
  · subst e
    rw [List.getElem?_set_self (by omega)]
  · rw [List.getElem?_set_ne (by omega)]; exact h j (by omega)
theorem own_under {w w' : World} {base : Nat} {e : TypeId} {size : Nat} {v : Value} {n : Nat} {xs : List Value} (h : w.ownsRow base e size v n xs) (hb : Below w.heap.size w w') : w'.ownsRow base e size v n xs := by
  refine ⟨h.1, ?_⟩
  rcases h.2 with hn | ⟨g, cap, cur, rfl, hbg, hgg, rest⟩
  · exact .inl hn
  · exact .inr ⟨g, cap, cur, rfl, hbg, (hb.block g (Array.getElem?_eq_some_iff.1 hgg).1).trans hgg, rest⟩
/-- A row that the call owns, full of numbers. -/
theorem inLg_own {w : World} {base g len cap : Nat} {e : TypeId} {xs : List Value} {l : Lg} (ho : w.ownsRow base e 1 (.slice (some ⟨g, 0, none⟩) len cap) len xs) (ht : LgTo xs l len) (hl : l.length = len) (hm : len ≤ 2000000)
    (hf : ∀ i, i < len → -9223372036854775808 ≤ lgAt l i ∧ lgAt l i ≤ 9223372036854775807) : InLg w (some ⟨g, 0, none⟩) len l ∧ OpenLg w g len ∧ base ≤ g ∧ g < w.heap.size := by
  have hx : xs.length = len := by have := ho.1; omega
  refine ⟨⟨⟨hl, by omega, fun _ => ⟨g, 0, rfl⟩, fun b o ha i hi => ?_, hf⟩, hm⟩, ⟨fun i hi => ?_, fun i hi => ho.frozenAt i⟩, ?_⟩
  · cases ha
    rw [Nat.zero_add]
    exact (ho.cellAt i (by omega)).trans (ht i hi)
  · exact ⟨_, (ho.cellAt i (by omega)).trans (ht i hi)⟩
  · rcases ho.2 with ⟨h, _⟩ | ⟨g', c', cur, he, hb, hh, _⟩
    · cases h
    · injection he with he1 he2 he3
      injection he1 with he1
      injection he1 with he1
      subst he1
      exact ⟨hb, (Array.getElem?_eq_some_iff.1 hh).1⟩

/-- A copy of a row of numbers. -/
def LgCopied (w : World) (len : Nat) (l : Lg) (e : Ending) (w' : World) : Prop :=
  ∃ g, e = .returned (.slice (some ⟨g, 0, none⟩) len len) ∧ InLg w' (some ⟨g, 0, none⟩) len l ∧ OpenLg w' g len ∧ w.heap.size ≤ g ∧ g < w'.heap.size ∧ Below w.heap.size w w'

end Go.Proofs.Ytfjmcmdkmecgiaa
