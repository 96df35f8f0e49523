/- A Seg and an Ack as they come in: their fields. -/
import Derived.Test.YtmgefmjfefmaoaaDoorSegR
import Derived.Deep.Fields
import Derived.ChangeSame
import Derived.WideShapes
import Derived.OpenShut
import Derived.ChangeMaps5
namespace Go.Proofs.YtmgefmjfefmaoaaDoor
open Go.RowKit Go.ChangeShapes Go.WideShapes Go.ChangeAt

/-- One field of a struct of one-cell fields, out of its cells. -/
theorem field_at {H : Type} {enc : TypeId × Value → H} {P : Program} {w : World} {base : Nat} {spare : Nat → Bool} {held : Bool} {n : Nat} {fs : Array Field} {l : List Value} {xs : List (DataW H × List MemPlace)} (hone : Go.Deep.oneCellFields P fs = true)
    (hg : ∀ (i : Nat) (f : Field), fs[i]? = some f → DataW.trod enc P w base spare held n f.type ((l.drop f.offset).take (P.cellsOf f.type)) = xs[i]?) (i : Nat) (f : Field) (hf : fs[i]? = some f) (v : Value) (hv : l[i]? = some v) (hx : i < xs.length) :
    ∃ y, DataW.trod enc P w base spare held n f.type [v] = some y := by
  obtain ⟨o, k⟩ := Go.Deep.hone_of hone i f hf
  have h := hg i f hf
  obtain ⟨hi, rfl⟩ := List.getElem?_eq_some_iff.1 hv
  rw [o, k, List.drop_eq_getElem_cons hi] at h
  exact ⟨xs[i], h.trans (List.getElem?_eq_getElem hx)⟩
theorem int_field {H : Type} {enc : TypeId × Value → H} {w : World} {base : Nat} {spare : Nat → Bool} {held : Bool} {n : Nat} {v : Value} {y : DataW H × List MemPlace} (h : DataW.trod enc Tryd.prog w base spare held n 2 [v] = some y) :
    ∃ x : Int, v = .int .i64 x ∧ (-9223372036854775808 ≤ x ∧ x ≤ 9223372036854775807) := by
  obtain ⟨x, hv, -, hw⟩ := DataW.trod_int Tryd.underlying2 h
  exact ⟨x, by simpa using hv, i64_bounds hw⟩
theorem text_field {H : Type} {enc : TypeId × Value → H} {w : World} {base : Nat} {spare : Nat → Bool} {held : Bool} {n : Nat} {v : Value} {y : DataW H × List MemPlace} (h : DataW.trod enc Tryd.prog w base spare held n 9 [v] = some y) :
    ∃ t : List UInt8, v = gs t ∧ t.length ≤ 9223372036854775807 := by
  obtain ⟨x, hv, -, hw⟩ := DataW.trod_string Tryd.underlying9 h
  have hv' : v = .string x := by simpa using hv
  refine ⟨x.data.toList, by rw [hv'], ?_⟩
  unfold maxLen at hw
  rw [Array.length_toList]
  exact hw
theorem list_five {l : List Value} (h : l.length = 5) : ∃ a b c d e, l = [a, b, c, d, e] := by
  match l, h with
  | [a, b, c, d, e], _ => exact ⟨a, b, c, d, e, rfl⟩
theorem list_four {l : List Value} (h : l.length = 4) : ∃ a b c d, l = [a, b, c, d] := by
  match l, h with
  | [a, b, c, d], _ => exact ⟨a, b, c, d, rfl⟩
end Go.Proofs.YtmgefmjfefmaoaaDoor
