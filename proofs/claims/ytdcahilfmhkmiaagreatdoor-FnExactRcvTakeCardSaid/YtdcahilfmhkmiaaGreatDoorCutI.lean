/- PieceCut, the model's and the program's. -/
import Derived.Test.YtdcahilfmhkmiaaGreatDoorFromI
import Derived.Test.YtdcahilfmhkmiaaGreatDoorPackC
namespace Go.Proofs.YtdcahilfmhkmiaaGreatDoor
open Go.RowKit

theorem ownsRow_base {w : World} {B B' : Nat} {e : TypeId} {size : Nat} {v : Value} {n : Nat} {xs : List Value} (h : w.ownsRow B e size v n xs) (hB : B' ≤ B) : w.ownsRow B' e size v n xs := by
  refine ⟨h.1, ?_⟩
  rcases h.2 with h | ⟨g, cap, cur, rfl, hb, rest⟩
  · exact .inl h
  · exact .inr ⟨g, cap, cur, rfl, Nat.le_trans hB hb, rest⟩
theorem ownsRow_slice {w : World} {B : Nat} {e : TypeId} {size : Nat} {v : Value} {n : Nat} {xs : List Value} (h : w.ownsRow B e size v n xs) : ∃ a c, v = .slice a n c := by
  rcases h.2 with ⟨rfl, rfl⟩ | ⟨g, cap, cur, rfl, _⟩
  · exact ⟨_, _, rfl⟩
  · exact ⟨_, _, rfl⟩
/-- What PieceCut answers: the pieces, the code. -/
def cutR (l : List Pc) (n : Int) : List Pc × Int := if 400 < l.length then ([], 2) else if right l then (cutN l n, 0) else ([], 1)
/-- What a function of pieces hands back: a row of its own, and a code. -/
def OutRow (w : World) (r : List Pc × Int) (e : Ending) (w' : World) : Prop :=
  ∃ v, e = .returned (.agg #[v, .int .i64 r.2]) ∧ w'.ownsRow w.heap.size 121 2 v r.1.length (pv r.1) ∧ Below w.heap.size w w'
theorem outRow_code {w w' : World} {c : Int} (hb : Below w.heap.size w w') : OutRow w ([], c) (.returned (.agg #[.slice none 0 0, .int .i64 c])) w' := ⟨_, rfl, World.ownsRow_nil w' _ _ _, hb⟩

end Go.Proofs.YtdcahilfmhkmiaaGreatDoor
