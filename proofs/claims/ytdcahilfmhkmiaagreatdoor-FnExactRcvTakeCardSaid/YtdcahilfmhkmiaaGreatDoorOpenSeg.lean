/- A Seg and an Ack as they come in: their fields. -/
import Derived.Test.YtdcahilfmhkmiaaGreatDoorSegR
import Derived.Deep.Fields
import Derived.ChangeSame
import Derived.WideShapes
import Derived.OpenShut
import Derived.ChangeMaps5
namespace Go.Proofs.YtdcahilfmhkmiaaGreatDoor
open Go.RowKit Go.ChangeShapes Go.WideShapes Go.ChangeAt

/-- One field of a struct of one-cell fields, out of its cells. -/
theorem field_at {H : Type} {enc : TypeId × Value → H} {P : Program} {w : World} {base : Nat} {spare : Nat → Bool} {held : Bool} {n : Nat} {fs : Array Field} {l : List Value} {xs : List (DataW H × List MemPlace)} (hone : Go.Deep.oneCellFields P fs = true)
    (hg : ∀ (i : Nat) (f : Field), fs[i]? = some f → DataW.trod enc P w base spare held n f.type ((l.drop f.offset).take (P.cellsOf f.type)) = xs[i]?) (i : Nat) (f : Field) (hf : fs[i]? = some f) (v : Value) (hv : l[i]? = some v) (hx : i < xs.length) :
    ∃ y, DataW.trod enc P w base spare held n f.type [v] = some y := by
  obtain ⟨o, k⟩ := Go.Deep.hone_of hone i f hf
  have h := hg i f hf
  obtain ⟨hi, rfl⟩ := List.getElem?_eq_some_iff.1 hv
  rw [o, k, List.drop_eq_getElem_cons hi] at h
  exact ⟨xs[i], h.trans (List.getElem?_eq_getElem hx)⟩
theorem int_field {H : Type} {enc : TypeId × Value → H} {w : World} {base : Nat} {spare : Nat → Bool} {held : Bool} {n : Nat} {v : Value} {y : DataW H × List MemPlace} (h : DataW.trod enc Tryz.prog w base spare held n 2 [v] = some y) :
    ∃ x : Int, v = .int .i64 x ∧ (-9223372036854775808 ≤ x ∧ x ≤ 9223372036854775807) := by
  obtain ⟨x, hv, -, hw⟩ := DataW.trod_int Tryz.underlying2 h
  exact ⟨x, by simpa using hv, i64_bounds hw⟩
theorem text_field {H : Type} {enc : TypeId × Value → H} {w : World} {base : Nat} {spare : Nat → Bool} {held : Bool} {n : Nat} {v : Value} {y : DataW H × List MemPlace} (h : DataW.trod enc Tryz.prog w base spare held n 9 [v] = some y) :
    ∃ t : List UInt8, v = gs t ∧ t.length ≤ 9223372036854775807 := by
  obtain ⟨x, hv, -, hw⟩ := DataW.trod_string Tryz.underlying9 h
  have hv' : v = .string x := by simpa using hv
  refine ⟨x.data.toList, by rw [hv'], ?_⟩
  unfold maxLen at hw
  rw [Array.length_toList]
  exact hw
theorem list_five {l : List Value} (h : l.length = 5) : ∃ a b c d e, l = [a, b, c, d, e] := by
  match l, h with
  | [a, b, c, d, e], _ => exact ⟨a, b, c, d, e, rfl⟩
theorem list_four {l : List Value} (h : l.length = 4) : ∃ a b c d, l = [a, b, c, d] := by
  match l, h with
  | [a, b, c, d], _ => exact ⟨a, b, c, d, rfl⟩
set_option maxRecDepth 100000 in
theorem open_seg {H : Type} {enc : TypeId × Value → H} {w : World} {base : Nat} {spare : Nat → Bool} {held : Bool} {r : Reach} {b0 : Nat} {v : Value} {d : DataW H} {ps : List MemPlace} (hv : Value.okWide Tryz.prog w r b0 82 v) (h : DataW.Trod enc Tryz.prog w base spare held 82 v d ps) :
    ∃ (p s q : Int) (t : List UInt8) (e : Int), v = segV p s q t e ∧ (-9223372036854775808 ≤ p ∧ p ≤ 9223372036854775807) ∧ (-9223372036854775808 ≤ s ∧ s ≤ 9223372036854775807) ∧ (-9223372036854775808 ≤ q ∧ q ≤ 9223372036854775807) ∧ t.length ≤ 9223372036854775807 ∧ (-9223372036854775808 ≤ e ∧ e ≤ 9223372036854775807) := by
  obtain ⟨cs, rfl, hsz⟩ := okWide_struct Tryz.underlying82 hv
  have hC : Tryz.prog.cellsOf 82 = 5 := by kernel_rfl
  obtain ⟨l⟩ := cs
  obtain ⟨v0, v1, v2, v3, v4, rfl⟩ := list_five (hsz.trans hC)
  obtain ⟨fuel, hf⟩ := h
  obtain ⟨xs, n, _, _, _, hlen, hg⟩ := DataW.trod_struct Tryz.underlying82 hf
  have hl5 : xs.length = 5 := hlen
  obtain ⟨_, g0⟩ := field_at (by kernel_rfl) hg 0 _ rfl v0 rfl (by omega)
  obtain ⟨_, g1⟩ := field_at (by kernel_rfl) hg 1 _ rfl v1 rfl (by omega)
  obtain ⟨_, g2⟩ := field_at (by kernel_rfl) hg 2 _ rfl v2 rfl (by omega)
  obtain ⟨_, g3⟩ := field_at (by kernel_rfl) hg 3 _ rfl v3 rfl (by omega)
  obtain ⟨_, g4⟩ := field_at (by kernel_rfl) hg 4 _ rfl v4 rfl (by omega)
  obtain ⟨p, rfl, hp⟩ := int_field g0
  obtain ⟨s, rfl, hs⟩ := int_field g1
  obtain ⟨q, rfl, hq⟩ := int_field g2
  obtain ⟨t, rfl, ht⟩ := text_field g3
  obtain ⟨e, rfl, he⟩ := int_field g4
  exact ⟨p, s, q, t, e, rfl, hp, hs, hq, ht, he⟩
end Go.Proofs.YtdcahilfmhkmiaaGreatDoor
