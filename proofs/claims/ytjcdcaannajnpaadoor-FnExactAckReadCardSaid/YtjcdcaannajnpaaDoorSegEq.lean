/- The laws' words on whether two answers are the same: of one with itself, yes. -/
import Derived.Test.YtjcdcaannajnpaaDoorSegS
namespace Go.Proofs.YtjcdcaannajnpaaDoor
open Go.RowKit

theorem eqSeg_calls (p s d : Int) (t : List UInt8) (e : Int) (w : World) : Calls Tryd.prog 23 #[segV p s d t e, segV p s d t e] w fun x w' => x = .returned (.bool true) ∧ Below w.heap.size w w' := by
  go_enter Tryd.func23, Tryd.ntmps23
  go_wp2
  go_ret
  exact ⟨rfl, by go_grown⟩
theorem eqAck_calls (p s d e : Int) (w : World) : Calls Tryd.prog 27 #[ackV p s d e, ackV p s d e] w fun x w' => x = .returned (.bool true) ∧ Below w.heap.size w w' := by
  go_enter Tryd.func27, Tryd.ntmps27
  go_wp2
  go_ret
  exact ⟨rfl, by go_grown⟩
set_option maxHeartbeats 1000000 in
set_option maxRecDepth 100000 in
theorem eqSegOut_calls (p s d : Int) (t : List UInt8) (e : Int) (c : Nat) (w : World) : Calls Tryd.prog 7 #[segOut p s d t e c, segOut p s d t e c] w fun x w' => x = .returned (.bool true) ∧ Below w.heap.size w w' := by
  have HE := Lib.hid (eqSeg_calls p s d t e)
  go_enter Tryd.func7, Tryd.ntmps7
  go_wp2_with fail
  (with_reducible refine (HE.out _).mono ?_)
  rintro x w1 ⟨rfl, hb1⟩
  have HB := Lib.hid (((((Below.refl _ _).alloc (Nat.le_refl _) _).alloc (by simp) _)).trans (hb1.mono (by simp; omega)) : Below w.heap.size w w1)
  obtain ⟨hc1, hf1⟩ := bcell hb1
  have hs1 := hb1.size
  simp at hc1 hf1 hs1
  clear hb1
  go_wp2_with fail
  go_ret
  exact ⟨rfl, HB.out⟩
set_option maxHeartbeats 1000000 in
set_option maxRecDepth 100000 in
theorem eqAckOut_calls (p s d e : Int) (c : Nat) (w : World) : Calls Tryd.prog 10 #[ackOut p s d e c, ackOut p s d e c] w fun x w' => x = .returned (.bool true) ∧ Below w.heap.size w w' := by
  have HE := Lib.hid (eqAck_calls p s d e)
  go_enter Tryd.func10, Tryd.ntmps10
  go_wp2_with fail
  (with_reducible refine (HE.out _).mono ?_)
  rintro x w1 ⟨rfl, hb1⟩
  have HB := Lib.hid (((((Below.refl _ _).alloc (Nat.le_refl _) _).alloc (by simp) _)).trans (hb1.mono (by simp; omega)) : Below w.heap.size w w1)
  obtain ⟨hc1, hf1⟩ := bcell hb1
  have hs1 := hb1.size
  simp at hc1 hf1 hs1
  clear hb1
  go_wp2_with fail
  go_ret
  exact ⟨rfl, HB.out⟩
end Go.Proofs.YtjcdcaannajnpaaDoor
