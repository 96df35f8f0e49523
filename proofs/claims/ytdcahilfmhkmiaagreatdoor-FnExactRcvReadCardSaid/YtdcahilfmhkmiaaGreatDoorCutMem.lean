/- What is among the pieces behind a cut. -/
import Derived.Test.YtdcahilfmhkmiaaGreatDoorPackC
namespace Go.Proofs.YtdcahilfmhkmiaaGreatDoor
open Go.RowKit

theorem cutN_mem : ∀ (l : List Pc) (n : Int) (q : Pc), q ∈ cutN l n → q ∈ l ∨ (q.1 = n ∧ ∃ p ∈ l, q.2.length ≤ p.2.length)
  | [], _, _, h => by cases h
  | p :: l, n, q, h => by
    rw [cutN_cons] at h
    have ih := cutN_mem l n q
    have lift : (q ∈ l ∨ (q.1 = n ∧ ∃ p ∈ l, q.2.length ≤ p.2.length)) → q ∈ p :: l ∨ (q.1 = n ∧ ∃ p' ∈ p :: l, q.2.length ≤ p'.2.length) := fun h => by
      rcases h with h | ⟨h, p', hp', hl⟩
      · exact .inl (List.mem_cons_of_mem _ h)
      · exact .inr ⟨h, p', List.mem_cons_of_mem _ hp', hl⟩
    split at h
    · rcases List.mem_cons.1 h with rfl | h
      · exact .inl (by simp)
      · exact lift (ih h)
    · split at h
      · rcases List.mem_cons.1 h with rfl | h
        · exact .inr ⟨rfl, p, by simp, by simp⟩
        · exact lift (ih h)
      · exact lift (ih h)
theorem cutN_len : ∀ (l : List Pc) (n : Int), (cutN l n).length ≤ l.length
  | [], _ => Nat.le_refl _
  | p :: l, n => by
    have := cutN_len l n
    rw [cutN_cons]
    split
    · simp; omega
    · split <;> simp <;> omega
end Go.Proofs.YtdcahilfmhkmiaaGreatDoor
