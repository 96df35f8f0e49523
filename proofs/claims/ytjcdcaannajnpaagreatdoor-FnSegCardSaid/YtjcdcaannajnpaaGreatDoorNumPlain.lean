/- Plain mathematics of chapter 2's numbers: the folded number, its bytes. No program here. -/
import Derived.Handy
namespace Go.Proofs.YtjcdcaannajnpaaGreatDoor
open Go.RowKit

/-- An int64 folded to a number from 0 to 2^64-1. -/
def foldN (n : Int) : Nat := if n < 0 then (-2 * n - 1).toNat else (2 * n).toNat
theorem foldN_lt (n : Int) (h1 : -9223372036854775808 ≤ n) (h2 : n ≤ 9223372036854775807) : foldN n < 18446744073709551616 := by
  unfold foldN; split <;> omega

/-- The bytes of a number, seven bits a byte, the lowest first. -/
def numBytes : Nat → Nat → List UInt8
  | 0, u => [UInt8.ofNat u]
  | f + 1, u => if 128 ≤ u then UInt8.ofNat (u % 128 + 128) :: numBytes f (u / 128) else [UInt8.ofNat u]

def putN (n : Int) : List UInt8 := numBytes 10 (foldN n)

/-- A round's head: what was laid, and what is still to lay, are together the whole. -/
def NumAt (f : Nat) (l : List UInt8) (u : Nat) (whole : List UInt8) : Prop := u < 128 ^ f ∧ l ++ numBytes f u = whole

theorem NumAt.step {f : Nat} {l : List UInt8} {u : Nat} {whole : List UInt8} (h : NumAt f l u whole) (hu : 128 ≤ u) : ∃ g, f = g + 1 ∧ NumAt g (l ++ [UInt8.ofNat (u % 128 + 128)]) (u / 128) whole := by
  cases f with
  | zero => have := h.1; simp at this; omega
  | succ g =>
    refine ⟨g, rfl, ?_, ?_⟩
    · have := h.1; rw [Nat.pow_succ] at this; omega
    · have h2 := h.2
      rw [numBytes, if_pos hu] at h2
      rw [← h2]; simp

theorem NumAt.stop {f : Nat} {l : List UInt8} {u : Nat} {whole : List UInt8} (h : NumAt f l u whole) (hu : ¬ 128 ≤ u) : l ++ [UInt8.ofNat u] = whole := by
  have h2 := h.2
  cases f with
  | zero => exact h2
  | succ g => rw [numBytes, if_neg hu] at h2; exact h2

theorem u8_of (u : Nat) (h : u < 256) : (((UInt8.ofNat u).toNat : Nat) : Int) = (u : Int) := by
  rw [UInt8.toNat_ofNat']; congr 1; exact Nat.mod_eq_of_lt (by omega)
theorem numBytes_length : ∀ f u, (numBytes f u).length ≤ f + 1 ∧ 1 ≤ (numBytes f u).length
  | 0, u => by simp [numBytes]
  | f + 1, u => by
    rw [numBytes]
    split
    · have := numBytes_length f (u / 128); simp; omega
    · simp
theorem putN_length (n : Int) : (putN n).length ≤ 11 ∧ 1 ≤ (putN n).length := numBytes_length 10 _

def putT (t : List UInt8) : List UInt8 := if 8000 < t.length then [] else putN t.length ++ t
theorem putT_big {t : List UInt8} (h : 8000 < t.length) : putT t = [] := by unfold putT; rw [if_pos h]
theorem putT_small {t : List UInt8} (h : ¬ 8000 < t.length) : putT t = putN t.length ++ t := by unfold putT; rw [if_neg h]
end Go.Proofs.YtjcdcaannajnpaaGreatDoor
