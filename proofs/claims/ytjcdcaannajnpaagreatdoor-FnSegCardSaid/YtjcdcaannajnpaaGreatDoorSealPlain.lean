/- Plain mathematics of promise 2: with one byte turned a seal is refused. No program here. -/
import Derived.Test.YtjcdcaannajnpaaGreatDoorCrcPlain
namespace Go.Proofs.YtjcdcaannajnpaaGreatDoor
open Go.RowKit

theorem xor_right {a b k : Nat} (h : a ^^^ k = b ^^^ k) : a = b := by
  have := congrArg (· ^^^ k) h
  simpa [Nat.xor_assoc] using this
theorem poly_top {a b : Nat} (ha : a < 2147483648) (hb : b < 2147483648) : a ^^^ 3988292384 ≠ b := by
  intro h
  have h1 := congrArg (fun n => Nat.testBit n 31) h
  have h2 : Nat.testBit a 31 = false := Nat.testBit_lt_two_pow (by omega)
  have h3 : Nat.testBit b 31 = false := Nat.testBit_lt_two_pow (by omega)
  have h4 : Nat.testBit 3988292384 31 = true := by decide
  simp only [Nat.testBit_xor, h2, h3, h4] at h1
  cases h1
theorem crcStep_inj {a b : Nat} (ha : a < 4294967296) (hb : b < 4294967296) (h : crcStep a = crcStep b) : a = b := by
  unfold crcStep at h
  split at h <;> split at h
  · have := xor_right h; omega
  · exact absurd h (poly_top (by omega) (by omega))
  · exact absurd h.symm (poly_top (by omega) (by omega))
  · omega
theorem crcSteps_inj : ∀ (n : Nat) {a b : Nat}, a < 4294967296 → b < 4294967296 → crcSteps n a = crcSteps n b → a = b
  | 0, _, _, _, _, h => h
  | n + 1, _, _, ha, hb, h => crcStep_inj ha hb (crcSteps_inj n (crcStep_lt ha) (crcStep_lt hb) h)
theorem byte_lt32 (c : UInt8) : c.toNat < 4294967296 := by have := c.toNat_lt; omega
theorem crcByteN_reg {a b : Nat} {c : UInt8} (ha : a < 4294967296) (hb : b < 4294967296) (h : crcByteN a c = crcByteN b c) : a = b :=
  xor_right (crcSteps_inj 8 (xor_lt32 ha (byte_lt32 c)) (xor_lt32 hb (byte_lt32 c)) h)
theorem crcByteN_byte {a : Nat} {c d : UInt8} (ha : a < 4294967296) (h : crcByteN a c = crcByteN a d) : c = d := by
  have h1 := crcSteps_inj 8 (xor_lt32 ha (byte_lt32 c)) (xor_lt32 ha (byte_lt32 d)) h
  rw [Nat.xor_comm a, Nat.xor_comm a] at h1
  exact UInt8.toNat_inj.1 (xor_right h1)
theorem crcFold_inj : ∀ (l : List UInt8) {a b : Nat}, a < 4294967296 → b < 4294967296 → crcFold a l = crcFold b l → a = b
  | [], _, _, _, _, h => h
  | c :: l, _, _, ha, hb, h => crcByteN_reg ha hb (crcFold_inj l (crcByteN_lt ha c) (crcByteN_lt hb c) h)
theorem crcFold_turn {r : Nat} (hr : r < 4294967296) (p q : List UInt8) {c d : UInt8} (hcd : c ≠ d) : crcFold r (p ++ c :: q) ≠ crcFold r (p ++ d :: q) := by
  intro h
  rw [crcFold_append, crcFold_append] at h
  exact hcd (crcByteN_byte (crcFold_lt p hr) (crcFold_inj q (crcByteN_lt (crcFold_lt p hr) c) (crcByteN_lt (crcFold_lt p hr) d) h))
theorem flip_inj {a b : Nat} (ha : a < 4294967296) (hb : b < 4294967296) (h : flip a = flip b) : a = b := by unfold flip at h; omega
theorem crcOn_turn (p q : List UInt8) {c d : UInt8} (hcd : c ≠ d) : crcOn 0 (p ++ c :: q) ≠ crcOn 0 (p ++ d :: q) := by
  intro h
  unfold crcOn at h
  exact crcFold_turn (flip_lt 0) p q hcd (flip_inj (crcFold_lt _ (flip_lt 0)) (crcFold_lt _ (flip_lt 0)) h)

/-- One byte of a text turned. -/
def turned (s : List UInt8) (at' : Nat) (x : UInt8) : List UInt8 := s.set at' ((s.getD at' 0) ^^^ x)
theorem turn_ne {c x : UInt8} (hx : x ≠ 0) : c ^^^ x ≠ c := by
  intro h
  apply hx
  have h2 := congrArg (fun y => c ^^^ y) h
  simpa [← UInt8.xor_assoc] using h2
theorem split_at {s : List UInt8} {k : Nat} (h : k < s.length) : s = s.take k ++ s[k] :: s.drop (k + 1) := by
  rw [← List.drop_eq_getElem_cons h, List.take_append_drop]
theorem set_at_split {s : List UInt8} {k : Nat} (h : k < s.length) (y : UInt8) : s.set k y = s.take k ++ y :: s.drop (k + 1) := List.set_eq_take_append_cons_drop .. |>.trans (by simp [h])
end Go.Proofs.YtjcdcaannajnpaaGreatDoor
