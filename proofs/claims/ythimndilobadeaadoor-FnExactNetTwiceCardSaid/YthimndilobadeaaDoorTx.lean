/- Rows of texts in memory. -/
import Derived.Test.YthimndilobadeaaDoorRows
import Derived.Test.YthimndilobadeaaDoorBase
namespace Go.Proofs.YthimndilobadeaaDoor
open Go.RowKit

abbrev Tx := List (List UInt8)
/-- The i-th text. -/
def txAt (l : Tx) (i : Nat) : List UInt8 := l.getD i []
theorem txAt_get {l : Tx} {i : Nat} (h : i < l.length) : txAt l i = l[i] := by simp [txAt, List.getD, h]
theorem txAt_mem {l : Tx} {i : Nat} (h : i < l.length) : txAt l i ∈ l := by rw [txAt_get h]; exact List.getElem_mem h
theorem tx_drop {l : Tx} {k : Nat} (h : k < l.length) : l.drop k = txAt l k :: l.drop (k + 1) := by
  rw [List.drop_eq_getElem_cons h, txAt_get h]
/-- The texts l in memory, of whatever lengths. -/
structure RawTx (w : World) (a : Option Addr) (len : Nat) (l : Tx) : Prop where
  long : l.length = len
  most : len ≤ 9223372036854775807
  there : 0 < len → ∃ b o, a = some ⟨b, o, none⟩
  cell : ∀ b o, a = some ⟨b, o, none⟩ → ∀ i, i < len → w.cell? ⟨b, o + i, none⟩ = some (gs (txAt l i))
  fit : ∀ i, i < len → (txAt l i).length ≤ 9223372036854775807
/-- The same, small. -/
structure InTx (w : World) (a : Option Addr) (len : Nat) (l : Tx) : Prop where
  long : l.length = len
  most : len ≤ 2000000
  there : 0 < len → ∃ b o, a = some ⟨b, o, none⟩
  cell : ∀ b o, a = some ⟨b, o, none⟩ → ∀ i, i < len → w.cell? ⟨b, o + i, none⟩ = some (gs (txAt l i))
  fit : ∀ i, i < len → (txAt l i).length ≤ 2000000
theorem RawTx.below {w w' : World} {a : Option Addr} {len : Nat} {l : Tx} (h : RawTx w a len l) (hb : Below w.heap.size w w') : RawTx w' a len l :=
  ⟨h.long, h.most, h.there, fun b o ha i hi => (hb.cell (World.block_lt_of_cell? w _ (h.cell b o ha i hi))).trans (h.cell b o ha i hi), h.fit⟩
theorem InTx.below {w w' : World} {a : Option Addr} {len : Nat} {l : Tx} (h : InTx w a len l) (hb : Below w.heap.size w w') : InTx w' a len l :=
  ⟨h.long, h.most, h.there, fun b o ha i hi => (hb.cell (World.block_lt_of_cell? w _ (h.cell b o ha i hi))).trans (h.cell b o ha i hi), h.fit⟩
/-- A row whose block is as it was. -/
theorem InTx.kept {w w' : World} {a : Option Addr} {len : Nat} {l : Tx} (h : InTx w a len l) (hb : ∀ b o, a = some ⟨b, o, none⟩ → b < w.heap.size → w'.heap[b]? = w.heap[b]?) : InTx w' a len l :=
  ⟨h.long, h.most, h.there, fun b o ha i hi => (World.cell?_of_block (w := w) (a := ⟨b, o + i, none⟩) (hb b o ha (World.block_lt_of_cell? w _ (h.cell b o ha i hi)))).trans (h.cell b o ha i hi), h.fit⟩
theorem InTx.store {w : World} {g o len : Nat} {l : Tx} (h : InTx w (some ⟨g, o, none⟩) len l) {p : Addr} (hp : g ≠ p.block) (v : Value) : InTx (w.setCell p v) (some ⟨g, o, none⟩) len l :=
  h.kept fun b o' e _ => by cases e; exact Below.heap_setCell _ _ _ _ hp
theorem inTx_nil {w : World} {a : Option Addr} : InTx w a 0 [] := ⟨rfl, by omega, (fun h => by omega), (fun _ _ _ i hi => by omega), (fun i hi => by omega)⟩

/-- What is left of a budget behind some texts. -/
def szTxGo : Tx → Int → Int
  | [], n => n
  | t :: l, n => if n < (t.length : Int) then -1 else szTxGo l (n - (t.length : Int))
theorem szTxGo_cons (t : List UInt8) (l : Tx) (n : Int) : szTxGo (t :: l) n = if n < (t.length : Int) then -1 else szTxGo l (n - (t.length : Int)) := rfl
def szTx (l : Tx) (n : Int) : Int := if n < (l.length : Int) then -1 else szTxGo l (n - (l.length : Int))
theorem szTxGo_le : ∀ (l : Tx) (n : Int), 0 ≤ n → -1 ≤ szTxGo l n ∧ szTxGo l n ≤ n
  | [], n, h => by simp [szTxGo]; omega
  | t :: l, n, h => by
    rw [szTxGo_cons]
    split
    · omega
    · have := szTxGo_le l (n - (t.length : Int)) (by omega); omega
theorem szTx_le (l : Tx) (n : Int) (h : 0 ≤ n) : -1 ≤ szTx l n ∧ szTx l n ≤ n := by
  unfold szTx
  split
  · omega
  · have := szTxGo_le l (n - (l.length : Int)) (by omega); omega
theorem szTxGo_small : ∀ (l : Tx) (n : Int), 0 ≤ n → 0 ≤ szTxGo l n → ∀ t ∈ l, (t.length : Int) ≤ n
  | [], _, _, _ => fun t ht => by cases ht
  | u :: l, n, h0, h => by
    rw [szTxGo_cons] at h
    split at h
    · omega
    · intro t ht
      rcases List.mem_cons.1 ht with rfl | ht
      · omega
      · have := szTxGo_small l _ (by omega) h t ht; omega
/-- A row that the budget lets by is a small one. -/
theorem inTx_of {w : World} {a : Option Addr} {len : Nat} {l : Tx} {n : Int} (h : RawTx w a len l) (h0 : 0 ≤ n) (h1 : n ≤ 1048576) (hs : 0 ≤ szTx l n) : InTx w a len l := by
  have hl := h.long
  unfold szTx at hs
  split at hs
  · omega
  · exact ⟨h.long, by omega, h.there, h.cell, fun i hi => by
      have := szTxGo_small l _ (by omega) hs (txAt l i) (txAt_mem (by omega))
      omega⟩

/-- The first k texts of two rows are the same. -/
def eqTxTo (l m : Tx) (k : Nat) : Prop := ∀ j, j < k → txAt l j = txAt m j
theorem eqTxTo_zero (l m : Tx) : eqTxTo l m 0 := fun j h => by omega
theorem eqTxTo_succ {l m : Tx} {k : Nat} (h : eqTxTo l m k) (hk : txAt l k = txAt m k) : eqTxTo l m (k + 1) := fun j hj => by
  by_cases e : j = k
  · subst e; exact hk
  · exact h j (by omega)
theorem eqTxTo_all {l m : Tx} (hl : l.length = m.length) (h : eqTxTo l m l.length) : l = m := by
  apply List.ext_getElem hl
  intro i h1 h2
  have := h i h1
  rwa [txAt_get h1, txAt_get h2] at this
end Go.Proofs.YthimndilobadeaaDoor
