/- The laws' copy of a list of pieces. -/
import Derived.Test.YtjcdcaannajnpaaPieceLaw
import Derived.Test.YtjcdcaannajnpaaBytes
namespace Go.Proofs.Ytjcdcaannajnpaa
open Go.RowKit

theorem run_make_pieces {P : Program} {t e : TypeId} {i : TypeInfo} (ht : P.underlying t = some (.slice e)) (hi : P.info? e = some i) (hz : i.zero = some (.agg #[.int .i64 0, gs []])) (h1 : i.size = 2) (h2 : i.bytes = 24)
    (n : Nat) (L : Int) (hL : L = (n : Int)) (hn : n ≤ 1000000000) (w : World) :
    (Instr.makeSlice t (.int .i64 L) (.int .i64 L)).run P w = .ok (.slice (some ⟨w.heap.size, 0, none⟩) n n) (w.alloc (.cells (madeCells #[.int .i64 0, gs []] (n * 2)) e)) := by
  subst hL
  have h := run_make (P := P) w t e i (.agg #[.int .i64 0, gs []]) ht hi hz .i64 .i64 n n (by omega) (by omega) (by rw [h2]; omega) (by omega)
  rw [h, h1]
  simp only [Int.toNat_natCast]
  rfl

theorem ownsRow_below {w w' : World} {base : Nat} {e : TypeId} {size : Nat} {v : Value} {n : Nat} {xs : List Value} (h : w.ownsRow base e size v n xs) (hb : Below w.heap.size w w') : w'.ownsRow base e size v n xs := by
  refine ⟨h.1, ?_⟩
  rcases h.2 with hn | ⟨g, cap, cur, rfl, hbg, hgg, rest⟩
  · exact .inl hn
  · exact .inr ⟨g, cap, cur, rfl, hbg, (hb.block g (Array.getElem?_eq_some_iff.1 hgg).1).trans hgg, rest⟩

/-- The first k pieces of l stand in a row of cells. -/
def PcTo (xs : List Value) (l : List Pc) (k : Nat) : Prop := ∀ j, j < k → xs[j * 2]? = some (.int .i64 (pcAt l j).1) ∧ xs[j * 2 + 1]? = some (gs (pcAt l j).2)
theorem pcTo_zero (xs : List Value) (l : List Pc) : PcTo xs l 0 := fun j h => by omega
theorem pcTo_succ {xs : List Value} {l : List Pc} {k : Nat} (h : PcTo xs l k) (hl : k * 2 + 1 < xs.length) : PcTo ((xs.set (k * 2) (.int .i64 (pcAt l k).1)).set (k * 2 + 1) (gs (pcAt l k).2)) l (k + 1) := fun j hj => by
  by_cases e : j = k
  · subst e
    constructor
    · rw [List.getElem?_set_ne (by omega), List.getElem?_set_self (by omega)]
    · rw [List.getElem?_set_self (by simp; omega)]
  · obtain ⟨h0, h1⟩ := h j (by omega)
    constructor
    · rw [List.getElem?_set_ne (by omega), List.getElem?_set_ne (by omega)]; exact h0
    · rw [List.getElem?_set_ne (by omega), List.getElem?_set_ne (by omega)]; exact h1

/-- A row that the call owns, full of pieces. -/
theorem inPcs_own {w : World} {base g len cap : Nat} {e : TypeId} {xs : List Value} {l : List Pc} (ho : w.ownsRow base e 2 (.slice (some ⟨g, 0, none⟩) len cap) len xs) (ht : PcTo xs l len) (hl : l.length = len) (hm : len ≤ 2000000)
    (hf : ∀ i, i < len → -9223372036854775808 ≤ (pcAt l i).1 ∧ (pcAt l i).1 ≤ 9223372036854775807 ∧ (pcAt l i).2.length ≤ 2000000) : InPcs w (some ⟨g, 0, none⟩) len l :=
  ⟨hl, hm, fun _ => ⟨g, 0, rfl⟩, fun b o ha i hi => by
    cases ha
    obtain ⟨h0, h1⟩ := ht i hi
    rw [Nat.zero_add]
    exact ⟨(ho.cellAt (i * 2) (by omega)).trans h0, (ho.cellAt (i * 2 + 1) (by omega)).trans h1⟩, hf⟩

end Go.Proofs.Ytjcdcaannajnpaa
