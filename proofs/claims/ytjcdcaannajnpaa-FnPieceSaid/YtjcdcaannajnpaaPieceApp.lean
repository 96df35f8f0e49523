/- What an append of one piece wants: the two cells laid new, and the cells of a list of pieces. -/
import Derived.Test.YtjcdcaannajnpaaPieces
namespace Go.Proofs.Ytjcdcaannajnpaa
open Go.RowKit

theorem two_new (w : World) (e : TypeId) (x y : Value) : ∀ (j : Nat) (u : Value), [x, y][j]? = some u → (w.alloc (.cells #[x, y] e)).cell? ((⟨w.heap.size, 0, none⟩ : Addr).add j) = some u := by
  intro j u hj
  match j, hj with
  | 0, hj => simp at hj; subst hj; simp [Addr.add]
  | 1, hj => simp at hj; subst hj; simp [Addr.add]
theorem two_cell (k : IntKind) (n : Int) (t : List UInt8) : ∀ u ∈ [Value.int k n, gs t], u.oneCell' = true := by intro u hu; simp at hu; rcases hu with rfl | rfl <;> rfl
/-- The cells of pieces. -/
def pv : List Pc → List Value
  | [] => []
  | p :: l => .int .i64 p.1 :: gs p.2 :: pv l
theorem pv_append (a b : List Pc) : pv (a ++ b) = pv a ++ pv b := by
  induction a with
  | nil => rfl
  | cons p a ih => simp [pv, ih]
theorem pv_length (l : List Pc) : (pv l).length = l.length * 2 := by
  induction l with
  | nil => rfl
  | cons p l ih => simp [pv, ih]; omega
/-- What an append of one piece leaves. -/
theorem piece_step {B : Nat} {a w w' : World} {v v' : Value} {e e' : TypeId} {l : List Pc} {p : Pc} {x : Array Value} (hb : Below B a w) (hs : B ≤ w.heap.size) (hown : w.ownsRow B e 2 v l.length (pv l))
    (hown' : w'.ownsRow B e 2 v' (l.length + 1) (pv l ++ [.int .i64 p.1, gs p.2])) (hg : (w.alloc (.cells x e')).grownBy w' v.ownBlock) :
    w'.ownsRow B e 2 v' (l ++ [p]).length (pv (l ++ [p])) ∧ Below B a w' := by
  refine ⟨?_, ?_⟩
  · rw [pv_append]; simpa [pv] using hown'
  · exact (hb.alloc hs _).grown hg (by simp; omega) (fun k hk => (hown.lt k hk).1)
end Go.Proofs.Ytjcdcaannajnpaa
