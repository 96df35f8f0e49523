/- What is put, where nothing lies in the room. -/
import Derived.Test.YtdcahilfmhkmiaaGreatDoorPutR
import Derived.Test.YtdcahilfmhkmiaaGreatDoorInside
import Derived.Test.YtdcahilfmhkmiaaGreatDoorRcvPlain
namespace Go.Proofs.YtdcahilfmhkmiaaGreatDoor
open Go.RowKit

theorem putN_nil {l : List Pc} (h : canonG (-1) l) {n : Int} (hn : 0 ≤ n) : putN l n [] = l := by
  refine canon_ext _ _ (-1) (put_canon h hn) h (fun i => ?_)
  rw [put_byte h hn]
  unfold wasOr
  have : byteAt [(n, ([] : List UInt8))] i = none := by
    unfold byteAt
    split
    · simp
    · rfl
  rw [this, Option.or_none]
theorem put_inside {rd ed d : Int} {ps : List Pc} {t : List UInt8} (h : right ps) (hrd : 0 ≤ rd ∧ rd ≤ 1000000) : putR ps (inAt rd ed d t) (inText rd ed d t) = takePs rd ps ed d t := by
  unfold inAt inText takePs
  by_cases hc : max d rd < min (d + (t.length : Int)) ed
  · rw [if_pos hc, if_pos hc, if_pos hc]
  · rw [if_neg hc, if_neg hc, if_neg hc]
    unfold putR
    have h32 := h.1
    rw [if_neg (by simp; omega), if_neg (by rintro (e | e | e) <;> first | exact e h | exact e hrd | (simp at e)), putN_nil (right_canon h) hrd.1]
    unfold fullR
    rw [if_pos h]
end Go.Proofs.YtdcahilfmhkmiaaGreatDoor
