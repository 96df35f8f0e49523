/- Pieces that are right lie in their order; what a right Rcv keeps is little. -/
import Derived.Test.YtdcahilfmhkmiaaGreatDoorRcvDef
import Derived.Test.YtdcahilfmhkmiaaGreatDoorPackB
namespace Go.Proofs.YtdcahilfmhkmiaaGreatDoor
open Go.RowKit

theorem bytesN_by (c : Nat) : ∀ (l : List Pc), (∀ p ∈ l, p.2.length ≤ c) → bytesN l ≤ l.length * c
  | [], _ => by simp [bytesN]
  | p :: l, h => by
    have h1 := h p (by simp)
    have h2 := bytesN_by c l (fun q hq => h q (by simp [hq]))
    unfold bytesN
    rw [List.length_cons, Nat.succ_mul]
    omega
theorem right_ends {l : List Pc} (h : right l) (i : Nat) : ∀ k, i + k < l.length → pcEnd (pcAt l i) ≤ pcEnd (pcAt l (i + k))
  | 0, _ => Int.le_refl _
  | k + 1, hk => by
    have h1 := right_ends h i k (by omega)
    have h2 := (h.2 (i + (k + 1)) hk).2.2.2 (by omega)
    rw [show i + (k + 1) - 1 = i + k by omega] at h2
    have : pcEnd (pcAt l (i + (k + 1))) = (pcAt l (i + (k + 1))).1 + ((pcAt l (i + (k + 1))).2.length : Int) := rfl
    omega
theorem right_starts {l : List Pc} (h : right l) : ∀ k, k < l.length → (pcAt l 0).1 ≤ (pcAt l k).1
  | 0, _ => Int.le_refl _
  | k + 1, hk => by
    have h1 := right_starts h k (by omega)
    have h2 := (h.2 (k + 1) hk).2.2.2 (by omega)
    rw [show k + 1 - 1 = k by omega] at h2
    have : pcEnd (pcAt l k) = (pcAt l k).1 + ((pcAt l k).2.length : Int) := rfl
    omega
theorem rcv_bytes {rd ed sz cp en : Int} {ps : List Pc} {n : Frs} (h : rcvOk rd ps ed sz cp en n) : bytesN ps ≤ 2600 := by
  obtain ⟨-, -, hcp, hsz, hrt, he, h0, hl, -⟩ := h
  have h1 := bytesN_by 64 ps (fun p hp => by
    obtain ⟨k, hk, rfl⟩ := mem_pcAt hp
    have a1 := right_starts hrt k hk
    have a2 := right_ends hrt k (ps.length - 1 - k) (by omega)
    have a3 := h0 (by omega)
    rw [show k + (ps.length - 1 - k) = ps.length - 1 by omega] at a2
    unfold lastN at hl
    rw [if_neg (by omega)] at hl
    have : pcEnd (pcAt ps k) = (pcAt ps k).1 + ((pcAt ps k).2.length : Int) := rfl
    omega)
  have h2 : ps.length * 64 ≤ 40 * 64 := Nat.mul_le_mul_right _ hrt.1
  omega
end Go.Proofs.YtdcahilfmhkmiaaGreatDoor
