/- Rows of numbers in memory, and the laws' words on them. -/
import Derived.Test.YtfjmcmdkmecgiaaRows
import Derived.Test.YtfjmcmdkmecgiaaBase
import Derived.Deep.QuietTactic
import Derived.BigQuiet
import Derived.Lib.BufferWrite
import Derived.Deep.WholeRow
namespace Go.Proofs.Ytfjmcmdkmecgiaa
open Go.RowKit

abbrev Lg := List Int
/-- The i-th number. -/
def lgAt (l : Lg) (i : Nat) : Int := l.getD i 0
theorem lgAt_get {l : Lg} {i : Nat} (h : i < l.length) : lgAt l i = l[i] := by simp [lgAt, List.getD, h]
/-- The numbers l in memory. -/
structure RawLg (w : World) (a : Option Addr) (len : Nat) (l : Lg) : Prop where
  long : l.length = len
  most : len ≤ 9223372036854775807
  there : 0 < len → ∃ b o, a = some ⟨b, o, none⟩
  cell : ∀ b o, a = some ⟨b, o, none⟩ → ∀ i, i < len → w.cell? ⟨b, o + i, none⟩ = some (.int .i64 (lgAt l i))
  fit : ∀ i, i < len → -9223372036854775808 ≤ lgAt l i ∧ lgAt l i ≤ 9223372036854775807
/-- The same, small. -/
structure InLg (w : World) (a : Option Addr) (len : Nat) (l : Lg) : Prop extends RawLg w a len l where
  small : len ≤ 2000000
theorem RawLg.below {w w' : World} {a : Option Addr} {len : Nat} {l : Lg} (h : RawLg w a len l) (hb : Below w.heap.size w w') : RawLg w' a len l :=
  ⟨h.long, h.most, h.there, fun b o ha i hi => (hb.cell (World.block_lt_of_cell? w _ (h.cell b o ha i hi))).trans (h.cell b o ha i hi), h.fit⟩
theorem InLg.below {w w' : World} {a : Option Addr} {len : Nat} {l : Lg} (h : InLg w a len l) (hb : Below w.heap.size w w') : InLg w' a len l := ⟨h.toRawLg.below hb, h.small⟩
/-- A row whose block is as it was. -/
theorem InLg.kept {w w' : World} {a : Option Addr} {len : Nat} {l : Lg} (h : InLg w a len l) (hb : ∀ b o, a = some ⟨b, o, none⟩ → b < w.heap.size → w'.heap[b]? = w.heap[b]?) : InLg w' a len l :=
  ⟨⟨h.long, h.most, h.there, fun b o ha i hi => (World.cell?_of_block (w := w) (a := ⟨b, o + i, none⟩) (hb b o ha (World.block_lt_of_cell? w _ (h.cell b o ha i hi)))).trans (h.cell b o ha i hi), h.fit⟩, h.small⟩
theorem InLg.store {w : World} {g o len : Nat} {l : Lg} (h : InLg w (some ⟨g, o, none⟩) len l) {p : Addr} (hp : g ≠ p.block) (v : Value) : InLg (w.setCell p v) (some ⟨g, o, none⟩) len l :=
  h.kept fun b o' e _ => by cases e; exact Below.heap_setCell _ _ _ _ hp
/-- What is left of a budget behind some numbers. -/
def szLg (l : Lg) (n : Int) : Int := if n < (l.length : Int) then -1 else n - (l.length : Int)
theorem inLg_of {w : World} {a : Option Addr} {len : Nat} {l : Lg} {n : Int} (h : RawLg w a len l) (h1 : n ≤ 1048576) (hs : 0 ≤ szLg l n) : InLg w a len l := by
  have hl := h.long
  unfold szLg at hs
  split at hs
  · omega
  · exact ⟨h, by omega⟩
/-- The first k numbers of two rows are the same. -/
def eqLgTo (l m : Lg) (k : Nat) : Prop := ∀ j, j < k → lgAt l j = lgAt m j
theorem eqLgTo_zero (l m : Lg) : eqLgTo l m 0 := fun j h => by omega
theorem eqLgTo_succ {l m : Lg} {k : Nat} (h : eqLgTo l m k) (hk : lgAt l k = lgAt m k) : eqLgTo l m (k + 1) := fun j hj => by
  by_cases e : j = k
  · subst e; exact hk
  · exact h j (by omega)
theorem eqLgTo_all {l m : Lg} (hl : l.length = m.length) (h : eqLgTo l m l.length) : l = m := by
  apply List.ext_getElem hl
  intro i h1 h2
  have := h i h1
  rwa [lgAt_get h1, lgAt_get h2] at this
theorem lg_drewN {B : Nat} {a w : World} (h : Below B a w) (n : Nat) : Below B a (w.drewN n) := ⟨h.os, h.tape, h.output, h.size, h.block⟩


end Go.Proofs.Ytfjmcmdkmecgiaa
