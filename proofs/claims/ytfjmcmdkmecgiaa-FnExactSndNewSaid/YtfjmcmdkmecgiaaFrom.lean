/- The laws' words on one From: a number and a row of numbers. -/
import Derived.Test.YtfjmcmdkmecgiaaLgTo
namespace Go.Proofs.Ytfjmcmdkmecgiaa
open Go.RowKit

/-- A From as a value: Want and Late. -/
def fromV (k : Int) (a : Option Addr) (la ca : Nat) : Value := .agg #[.int .i64 k, .slice a la ca]
abbrev Fr := Int × Lg
theorem szLg_le (l : Lg) (n : Int) (h : 0 ≤ n) : -1 ≤ szLg l n ∧ szLg l n ≤ n := by unfold szLg; split <;> omega
/-- What a call over a world with an argument's block keeps. -/
theorem below_box {w w1 : World} {o : Obj} (hb : Below (w.alloc o).heap.size (w.alloc o) w1) : Below w.heap.size w w1 :=
  ((Below.refl _ _).alloc (Nat.le_refl _) o).trans (hb.mono (by simp))
theorem below_boxes {w w1 : World} {o o' : Obj} (hb : Below ((w.alloc o).alloc o').heap.size ((w.alloc o).alloc o') w1) : Below w.heap.size w w1 := below_box (below_box hb)


end Go.Proofs.Ytfjmcmdkmecgiaa
