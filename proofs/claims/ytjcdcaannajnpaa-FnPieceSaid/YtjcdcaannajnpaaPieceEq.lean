/- The laws' word on whether two lists of pieces are the same. -/
import Derived.Test.YtjcdcaannajnpaaPieceTo
namespace Go.Proofs.Ytjcdcaannajnpaa
open Go.RowKit

/-- The first k pieces of two lists are the same. -/
def eqTo (l m : List Pc) (k : Nat) : Prop := ∀ j, j < k → pcAt l j = pcAt m j
theorem eqTo_zero (l m : List Pc) : eqTo l m 0 := fun j h => by omega
theorem eqTo_succ {l m : List Pc} {k : Nat} (h : eqTo l m k) (hk : pcAt l k = pcAt m k) : eqTo l m (k + 1) := fun j hj => by
  by_cases e : j = k
  · subst e; exact hk
  · exact h j (by omega)
theorem eqTo_all {l m : List Pc} (hl : l.length = m.length) (h : eqTo l m l.length) : l = m := by
  apply List.ext_getElem hl
  intro i h1 h2
  have := h i h1
  simpa [pcAt, List.getD, h1, h2] using this

end Go.Proofs.Ytjcdcaannajnpaa
