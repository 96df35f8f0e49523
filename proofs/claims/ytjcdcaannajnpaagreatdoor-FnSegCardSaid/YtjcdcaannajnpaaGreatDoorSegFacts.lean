/- Promise 4 in plain words: what comes back, and what does not. No program here. -/
import Derived.Test.YtjcdcaannajnpaaGreatDoorSteps
import Derived.Test.YtjcdcaannajnpaaGreatDoorSealBack
import Derived.Test.YtjcdcaannajnpaaGreatDoorSegI
namespace Go.Proofs.YtjcdcaannajnpaaGreatDoor
open Go.RowKit

theorem seg_small {p s d e : Int} {t : List UInt8} (h : segOk p s d t e) : ¬ 7996 < (segBody p s d t e).length := by
  have := segBody_len (p := p) (s := s) (d := d) (e := e) h.2.1
  omega
theorem ack_small {p s d e : Int} : ¬ 7996 < (ackBody p s d e).length := by
  have := ackBody_len p s d e
  omega
/-- A right piece's bytes: read they give it; turned, or read as an answer, they give a code. -/
theorem seg_facts (p s d : Int) (t : List UInt8) (e : Int) (hne : segN p s d t e ≠ []) :
    (∀ v, SegGot (segN p s d t e) v → v = segOut p s d t e 0) ∧
    (∀ v, AckGot (segN p s d t e) v → ∃ c : Nat, c ≠ 0 ∧ v = ackOut 0 0 0 0 c) ∧
    (∀ (k : Nat) (x : UInt8) (v : Value), k < (segN p s d t e).length → x ≠ 0 → SegGot (turned (segN p s d t e) k x) v → ∃ c : Nat, c ≠ 0 ∧ v = segOut 0 0 0 [] 0 c) := by
  have hk : segOk p s d t e := by
    by_cases h : segOk p s d t e
    · exact h
    · exact absurd (segN_no h) hne
  have hn := segN_yes hk
  have hsm := seg_small hk
  have hu := unsN_back hsm
  refine ⟨fun v hv => ?_, fun v hv => ?_, fun k x v hkl hx hv => ?_⟩
  · refine hv.uniq (.inl ⟨_, p, s, d, t, e, ?_, segIs_back hk, rfl⟩)
    rw [hn]; exact hu
  · rcases hv with ⟨b, p', s', d', e', h1, h2, rfl⟩ | ⟨c, h1, rfl, _⟩
    · rw [hn, hu] at h1
      obtain rfl : segBody p s d t e = b := by simpa using h1
      have := h2.1
      simp [segBody] at this
    · exact ⟨c, h1, rfl⟩
  · rw [hn] at hkl hv
    have ht := unsN_turned hsm hkl hx
    rcases hv with ⟨b, p', s', d', t', e', h1, h2, rfl⟩ | ⟨c, h1, rfl, _⟩
    · rw [ht] at h1; simp at h1
    · exact ⟨c, h1, rfl⟩
theorem ack_facts (p s d e : Int) (hne : ackN p s d e ≠ []) :
    (∀ v, AckGot (ackN p s d e) v → v = ackOut p s d e 0) ∧ (∀ v, SegGot (ackN p s d e) v → ∃ c : Nat, c ≠ 0 ∧ v = segOut 0 0 0 [] 0 c) := by
  have hk : ackOk p s d e := by
    by_cases h : ackOk p s d e
    · exact h
    · exact absurd (ackN_no h) hne
  have hn := ackN_yes hk
  have hu := unsN_back (ack_small (p := p) (s := s) (d := d) (e := e))
  refine ⟨fun v hv => ?_, fun v hv => ?_⟩
  · refine hv.uniq (.inl ⟨_, p, s, d, e, ?_, ackIs_back hk, rfl⟩)
    rw [hn]; exact hu
  · rcases hv with ⟨b, p', s', d', t', e', h1, h2, rfl⟩ | ⟨c, h1, rfl, _⟩
    · rw [hn, hu] at h1
      obtain rfl : ackBody p s d e = b := by simpa using h1
      have := h2.1
      simp [ackBody] at this
    · exact ⟨c, h1, rfl⟩
/-- What was read has those bytes, and no others. -/
theorem seg_again {v : List UInt8} {p s d e : Int} {t : List UInt8} {c : Nat} (h : SegGot v (segOut p s d t e c)) (hc : c = 0) : segN p s d t e = v ∧ t.length ≤ 16 := by
  subst hc
  rcases h with ⟨b, p', s', d', t', e', h1, h2, h3⟩ | ⟨c, h1, h3, _⟩
  · obtain ⟨h4, h5⟩ := h2.canon
    obtain ⟨h6, _⟩ := unsN_canon h1
    injection h3 with h3
    injection h3 with h3
    simp only [List.cons.injEq, Value.int.injEq, true_and, and_true] at h3
    obtain ⟨rfl, rfl, rfl, ht, rfl, _⟩ := h3
    have ht' : t = t' := by injection ht with ht; injection ht with ht; simpa using ht
    subst ht'
    exact ⟨by rw [segN_yes h5, h6, h4], h5.2.1⟩
  · injection h3 with h3
    injection h3 with h3
    simp only [List.cons.injEq, Value.int.injEq, true_and, and_true] at h3
    omega
theorem ack_again {v : List UInt8} {p s d e : Int} {c : Nat} (h : AckGot v (ackOut p s d e c)) (hc : c = 0) : ackN p s d e = v := by
  subst hc
  rcases h with ⟨b, p', s', d', e', h1, h2, h3⟩ | ⟨c, h1, h3, _⟩
  · obtain ⟨h4, h5⟩ := h2.canon
    obtain ⟨h6, _⟩ := unsN_canon h1
    injection h3 with h3
    injection h3 with h3
    simp only [List.cons.injEq, Value.int.injEq, true_and, and_true] at h3
    obtain ⟨rfl, rfl, rfl, rfl, _⟩ := h3
    rw [ackN_yes h5, h6, h4]
  · injection h3 with h3
    injection h3 with h3
    simp only [List.cons.injEq, Value.int.injEq, true_and, and_true] at h3
    omega
theorem segEnd_same {t : List UInt8} {v : Value} {w w' : World} {e : Ending} (h : SegGot t v) (hh : SegEnd t w e w') : e = .returned v ∧ Below w.heap.size w w' := by
  obtain ⟨v', he, hg, hb⟩ := hh
  exact ⟨by rw [he, hg.uniq h], hb⟩
theorem ackEnd_same {t : List UInt8} {v : Value} {w w' : World} {e : Ending} (h : AckGot t v) (hh : AckEnd t w e w') : e = .returned v ∧ Below w.heap.size w w' := by
  obtain ⟨v', he, hg, hb⟩ := hh
  exact ⟨by rw [he, hg.uniq h], hb⟩
end Go.Proofs.YtjcdcaannajnpaaGreatDoor
