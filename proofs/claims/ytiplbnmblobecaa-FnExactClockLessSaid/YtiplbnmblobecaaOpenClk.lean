/- A Clock as it comes in: its fields. -/
import Derived.Test.YtiplbnmblobecaaClk
import Derived.Deep.Fields
import Derived.ChangeSame
import Derived.WideShapes
import Derived.OpenShut
import Derived.ChangeMaps5
namespace Go.Proofs.Ytiplbnmblobecaa
open Go.RowKit Go.ChangeShapes Go.WideShapes Go.ChangeAt

/-- One field of a struct of one-cell fields, out of its cells. -/
theorem field_of {H : Type} {enc : TypeId × Value → H} {P : Program} {w : World} {base : Nat} {spare : Nat → Bool} {held : Bool} {n : Nat} {fs : Array Field} {l : List Value} {xs : List (DataW H × List MemPlace)} (hone : Go.Deep.oneCellFields P fs = true)
    (hg : ∀ (i : Nat) (f : Field), fs[i]? = some f → DataW.trod enc P w base spare held n f.type ((l.drop f.offset).take (P.cellsOf f.type)) = xs[i]?) (i : Nat) (f : Field) (hf : fs[i]? = some f) (v : Value) (hv : l[i]? = some v) (hx : i < xs.length) :
    ∃ y, DataW.trod enc P w base spare held n f.type [v] = some y := by
  obtain ⟨o, k⟩ := Go.Deep.hone_of hone i f hf
  have h := hg i f hf
  obtain ⟨hi, rfl⟩ := List.getElem?_eq_some_iff.1 hv
  rw [o, k, List.drop_eq_getElem_cons hi] at h
  exact ⟨xs[i], h.trans (List.getElem?_eq_getElem hx)⟩
theorem long_field {H : Type} {enc : TypeId × Value → H} {w : World} {base : Nat} {spare : Nat → Bool} {held : Bool} {n : Nat} {v : Value} {y : DataW H × List MemPlace} (h : DataW.trod enc Try.prog w base spare held n 2 [v] = some y) :
    ∃ x : Int, v = .int .i64 x ∧ (-9223372036854775808 ≤ x ∧ x ≤ 9223372036854775807) := by
  obtain ⟨x, hv, -, hw⟩ := DataW.trod_int Try.underlying2 h
  exact ⟨x, by simpa using hv, i64_bounds hw⟩
theorem list_three {l : List Value} (h : l.length = 3) : ∃ a b c, l = [a, b, c] := by
  match l, h with
  | [a, b, c], _ => exact ⟨a, b, c, rfl⟩
set_option maxRecDepth 100000 in
theorem open_clock {H : Type} {enc : TypeId × Value → H} {w : World} {base : Nat} {spare : Nat → Bool} {held : Bool} {r : Reach} {b0 : Nat} {v : Value} {d : DataW H} {ps : List MemPlace} (hv : Value.okWide Try.prog w r b0 23 v) (h : DataW.Trod enc Try.prog w base spare held 23 v d ps) :
    ∃ (p s q : Int), v = clkV p s q ∧ (-9223372036854775808 ≤ p ∧ p ≤ 9223372036854775807) ∧ (-9223372036854775808 ≤ s ∧ s ≤ 9223372036854775807) ∧ (-9223372036854775808 ≤ q ∧ q ≤ 9223372036854775807) := by
  obtain ⟨cs, rfl, hsz⟩ := okWide_struct Try.underlying23 hv
  have hC : Try.prog.cellsOf 23 = 3 := by kernel_rfl
  obtain ⟨l⟩ := cs
  obtain ⟨v0, v1, v2, rfl⟩ := list_three (hsz.trans hC)
  obtain ⟨fuel, hf⟩ := h
  obtain ⟨xs, n, _, _, _, hlen, hg⟩ := DataW.trod_struct Try.underlying23 hf
  have hl3 : xs.length = 3 := hlen
  obtain ⟨_, g0⟩ := field_of (by kernel_rfl) hg 0 _ rfl v0 rfl (by omega)
  obtain ⟨_, g1⟩ := field_of (by kernel_rfl) hg 1 _ rfl v1 rfl (by omega)
  obtain ⟨_, g2⟩ := field_of (by kernel_rfl) hg 2 _ rfl v2 rfl (by omega)
  obtain ⟨p, rfl, hp⟩ := long_field g0
  obtain ⟨s, rfl, hs⟩ := long_field g1
  obtain ⟨q, rfl, hq⟩ := long_field g2
  exact ⟨p, s, q, rfl, hp, hs, hq⟩
end Go.Proofs.Ytiplbnmblobecaa
