/- GetNum, the program's. -/
import Derived.Test.YtjcdcaannajnpaaGreatDoorRead
namespace Go.Proofs.YtjcdcaannajnpaaGreatDoor
open Go.RowKit

theorem readOut_bad {t : List UInt8} {a : Int} {c : Nat} (h : (getN t a).2.2 = c) (hc : c ≠ 0) : readOut (getN t a) = .tuple #[.int .i64 (getN t a).1, .int .i64 (getN t a).2.1, faultV c] := by
  rw [readOut, h, if_neg hc]
theorem readOut_ok {t : List UInt8} {a : Int} (h : (getN t a).2.2 = 0) : readOut (getN t a) = .tuple #[.int .i64 (getN t a).1, .int .i64 (getN t a).2.1, .nilIface] := by
  rw [readOut, h, if_pos rfl]
theorem getN_cases (t : List UInt8) (a : Int) : (∃ c, c ≠ 0 ∧ getN t a = (0, 0, c)) ∨ ∃ n b, getN t a = (n, b, 0) := by
  unfold getN
  split
  · exact .inl ⟨2, by decide, rfl⟩
  · split
    · exact .inl ⟨1, by decide, rfl⟩
    · split
      · exact .inr ⟨_, _, rfl⟩
      · exact .inl ⟨_, ‹_›, rfl⟩


end Go.Proofs.YtjcdcaannajnpaaGreatDoor
