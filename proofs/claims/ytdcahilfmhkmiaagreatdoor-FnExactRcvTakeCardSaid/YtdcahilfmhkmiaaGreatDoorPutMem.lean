/- What is put fits. -/
import Derived.Test.YtdcahilfmhkmiaaGreatDoorPutR
namespace Go.Proofs.YtdcahilfmhkmiaaGreatDoor
open Go.RowKit

theorem putR_len {l : List Pc} (n : Int) (t : List UInt8) (hs : bytesN l ≤ 1900000) : (putR l n t).1.length ≤ 2000000 ∧ ∀ p ∈ (putR l n t).1, -9223372036854775808 ≤ p.1 ∧ p.1 ≤ 9223372036854775807 ∧ p.2.length ≤ 2000000 := by
  unfold putR
  split
  · exact ⟨by simp, fun p hp => by cases hp⟩
  · split
    · exact ⟨by simp, fun p hp => by cases hp⟩
    · rename_i h
      have hr : right l := Classical.byContradiction fun hn => h (.inl hn)
      have ht : 0 ≤ n ∧ n ≤ 1000000 := Classical.byContradiction fun hn => h (.inr (.inl hn))
      have hl : t.length ≤ 200 := by
        rcases Nat.lt_or_ge 200 t.length with h' | h'
        · exact absurd (.inr (.inr h')) h
        · exact h'
      obtain ⟨a, b⟩ := putN_fits hr ht.1 ht.2 hl hs
      unfold fullR
      split
      · exact ⟨by show (putN l n t).length ≤ _; omega, b⟩
      · exact ⟨by simp, fun p hp => by cases hp⟩
end Go.Proofs.YtdcahilfmhkmiaaGreatDoor
