/- What the calls on nets answer. -/
import Derived.Test.YthimndilobadeaaDoorFly
namespace Go.Proofs.YthimndilobadeaaDoor
open Go.RowKit

/-- What flies in a direction. -/
def lst (p : Wy) (back : Bool) : Tx := if back then p.2 else p.1
/-- The same net, but what flies there. -/
def withN (n : Nt) (p : Nat) (back : Bool) (l : Tx) : Nt := n.set p (if back then ((wyAt n p).1, l) else (l, (wyAt n p).2))
theorem withN_len (n : Nt) (p : Nat) (back : Bool) (l : Tx) : (withN n p back l).length = n.length := by simp [withN]
def openC (n : Nt) (path : Int) : Nat := if 400 < n.length then 2 else if ¬ netRight n then 1 else if path < 0 ∨ (n.length : Int) ≤ path then 6 else 0
def openAtC (n : Nt) (path : Int) (back : Bool) (x : Int) : Nat := if openC n path ≠ 0 then openC n path else if x < 0 ∨ ((lst (wyAt n path.toNat) back).length : Int) ≤ x then 6 else 0
/-- Where a direction's ring begins. -/
def ringO (p : Nat) (back : Bool) : Nat := if back then p * 20 + 10 else p * 20
theorem openC_ok {n : Nt} {path : Int} (h : openC n path = 0) : n.length ≤ 400 ∧ netRight n ∧ 0 ≤ path ∧ path < n.length := by
  unfold openC at h
  split at h
  · cases h
  · split at h
    · cases h
    · split at h
      · cases h
      · rename_i h1 h2 h3
        exact ⟨by omega, Classical.byContradiction h2, by omega, by omega⟩
theorem openAtC_ok {n : Nt} {path x : Int} {back : Bool} (h : openAtC n path back x = 0) : openC n path = 0 ∧ 0 ≤ x ∧ x < ((lst (wyAt n path.toNat) back).length : Int) := by
  unfold openAtC at h
  split at h
  · rename_i h1; exact absurd h h1
  · rename_i h1
    split at h
    · cases h
    · exact ⟨Classical.byContradiction h1, by omega, by omega⟩

/-- What such a call answers: the net, the bytes, the code. -/
abbrev NRes := Nt × List UInt8 × Int
/-- What NetTake answers. -/
def takeR (n : Nt) (path : Int) (back : Bool) (x : Int) : NRes :=
  if openAtC n path back x ≠ 0 then ([], [], openAtC n path back x)
  else (withN n path.toNat back ((lst (wyAt n path.toNat) back).eraseIdx x.toNat), txAt (lst (wyAt n path.toNat) back) x.toNat, 0)
/-- What NetTwice answers. -/
def twiceR (n : Nt) (path : Int) (back : Bool) (x : Int) : NRes :=
  if openAtC n path back x ≠ 0 then ([], [], openAtC n path back x)
  else (withN n path.toNat back (if (lst (wyAt n path.toNat) back).length < 8 then lst (wyAt n path.toNat) back ++ [txAt (lst (wyAt n path.toNat) back) x.toNat] else lst (wyAt n path.toNat) back), [], 0)

end Go.Proofs.YthimndilobadeaaDoor
