/- The laws' own words on a Seg and an Ack: how many bytes it has, a copy of it. -/
import Derived.Test.YtdcahilfmhkmiaaGreatDoorSegR
namespace Go.Proofs.YtdcahilfmhkmiaaGreatDoor
open Go.RowKit

def szSegN (t : List UInt8) : Int := if 1048576 < t.length then -1 else 1048576 - (t.length : Int)
theorem szSeg_calls (p s d : Int) (t : List UInt8) (e : Int) (w : World) (ht : t.length ≤ 9223372036854775807) : Calls Tryz.prog 50 #[segV p s d t e, .int .i64 1048576] w fun x w' => x = .returned (.int .i64 (szSegN t)) ∧ Below w.heap.size w w' := by
  by_cases h : 1048576 < t.length
  · have hs : szSegN t = -1 := by unfold szSegN; rw [if_pos h]
    have HS := Lib.hid hs; clear hs
    go_enter Tryz.func50, Tryz.ntmps50
    go_wp2
    all_goals first
      | (go_ret; exact ⟨ret_int (by rw [HS.out]), (Below.refl _ _).alloc (Nat.le_refl _) _⟩)
      | (exfalso; omega)
  · have hs : szSegN t = 1048576 - (t.length : Int) := by unfold szSegN; rw [if_neg h]
    have HS := Lib.hid hs; clear hs
    go_enter Tryz.func50, Tryz.ntmps50
    go_wp2
    all_goals first
      | (go_ret; exact ⟨ret_int (by rw [HS.out]), (Below.refl _ _).alloc (Nat.le_refl _) _⟩)
      | (exfalso; omega)
theorem toSeg_calls (p s d : Int) (t : List UInt8) (e : Int) (w : World) : Calls Tryz.prog 52 #[segV p s d t e] w fun x w' => x = .returned (segV p s d t e) ∧ Below w.heap.size w w' := by
  go_enter Tryz.func52, Tryz.ntmps52
  go_wp2
  refine bodyPost_ret (v := segV p s d t e) (by simp [results, Tryz.results52, go_sem]) rfl ⟨rfl, ?_⟩
  go_grown
theorem below_next {w w1 w2 : World} (h1 : Below w.heap.size w w1) (h2 : Below w1.heap.size w1 w2) : Below w.heap.size w w2 := h1.trans (h2.mono h1.size)
end Go.Proofs.YtdcahilfmhkmiaaGreatDoor
