/- Plain mathematics of the CRC: a register of 32 bits as a number. No program here. -/
import Derived.Handy
import Derived.Laws.BitsAllLaws
namespace Go.Proofs.YtjcdcaannajnpaaGreatDoor
open Go.RowKit

def crcStep (r : Nat) : Nat := if r % 2 = 1 then (r / 2) ^^^ 3988292384 else r / 2
def crcSteps : Nat → Nat → Nat
  | 0, r => r
  | n + 1, r => crcSteps n (crcStep r)
def crcByteN (r : Nat) (b : UInt8) : Nat := crcSteps 8 (r ^^^ b.toNat)
def crcFold (r : Nat) (l : List UInt8) : Nat := l.foldl crcByteN r

theorem xor_lt32 {a b : Nat} (ha : a < 4294967296) (hb : b < 4294967296) : a ^^^ b < 4294967296 := Nat.xor_lt_two_pow (n := 32) ha hb
theorem crcStep_lt {r : Nat} (h : r < 4294967296) : crcStep r < 4294967296 := by
  unfold crcStep; split
  · exact xor_lt32 (by omega) (by omega)
  · omega
theorem crcSteps_lt : ∀ (n : Nat) {r : Nat}, r < 4294967296 → crcSteps n r < 4294967296
  | 0, _, h => h
  | n + 1, _, h => crcSteps_lt n (crcStep_lt h)
theorem crcSteps_succ : ∀ (n r : Nat), crcSteps (n + 1) r = crcStep (crcSteps n r)
  | 0, _ => rfl
  | n + 1, r => by rw [crcSteps, crcSteps_succ n]; rfl
theorem crcByteN_lt {r : Nat} (h : r < 4294967296) (b : UInt8) : crcByteN r b < 4294967296 := crcSteps_lt 8 (xor_lt32 h (by have := b.toNat_lt; omega))
theorem crcFold_lt : ∀ (l : List UInt8) {r : Nat}, r < 4294967296 → crcFold r l < 4294967296
  | [], _, h => h
  | b :: l, _, h => crcFold_lt l (crcByteN_lt h b)
theorem crcFold_append (r : Nat) (a b : List UInt8) : crcFold r (a ++ b) = crcFold (crcFold r a) b := by simp [crcFold]
theorem crcFold_take {r : Nat} {l : List UInt8} {k : Nat} (h : k < l.length) : crcFold r (l.take (k + 1)) = crcByteN (crcFold r (l.take k)) l[k] := by
  rw [List.take_succ_eq_append_getElem h, crcFold_append]; rfl

/-- A register with all bits turned. -/
def flip (r : Nat) : Nat := 4294967295 - r
theorem flip_lt (r : Nat) : flip r < 4294967296 := by unfold flip; omega
theorem flip_flip {r : Nat} (h : r < 4294967296) : flip (flip r) = r := by unfold flip; omega
theorem xor_ones {r : Nat} (h : r < 4294967296) : r ^^^ 4294967295 = flip r := by
  have e := BitVec.xor_allOnes (w := 32) (x := BitVec.ofNat 32 r)
  have e2 := congrArg BitVec.toNat e
  rw [BitVec.toNat_xor, BitVec.toNat_not, BitVec.toNat_ofNat, Nat.mod_eq_of_lt (by omega)] at e2
  unfold flip
  simpa using e2

/-- The CRC that goes on. -/
def crcOn (crc : Nat) (t : List UInt8) : Nat := flip (crcFold (flip crc) t)
theorem crcOn_lt (crc : Nat) (t : List UInt8) : crcOn crc t < 4294967296 := flip_lt _
theorem crcOn_append {crc : Nat} (a b : List UInt8) : crcOn (crcOn crc a) b = crcOn crc (a ++ b) := by
  unfold crcOn
  rw [flip_flip (crcFold_lt _ (flip_lt _)), crcFold_append]
/-- CrcMore, of whatever number. -/
def crcMoreN (crc : Int) (t : List UInt8) : Nat := if 8000 < t.length ∨ crc < 0 ∨ 4294967295 < crc then 0 else crcOn crc.toNat t
def crcN (t : List UInt8) : Nat := if 8000 < t.length then 0 else crcOn 0 t
theorem crcN_more (t : List UInt8) : crcMoreN 0 t = crcN t := by unfold crcMoreN crcN; simp
theorem crcMoreN_no {crc : Int} {t : List UInt8} (h : 8000 < t.length ∨ crc < 0 ∨ 4294967295 < crc) : crcMoreN crc t = 0 := by unfold crcMoreN; rw [if_pos h]
theorem crcMoreN_yes {crc : Nat} {t : List UInt8} (h1 : t.length ≤ 8000) (h2 : crc < 4294967296) : crcMoreN crc t = crcOn crc t := by
  unfold crcMoreN; rw [if_neg (by omega)]; simp

/-! In the walk's own spelling. -/
theorem and_one_odd {r : Nat} (h : r < 4294967296) (ho : r % 2 = 1) : bits .and .u32 (r : Int) 1 = 1 := by
  have := u32_and_nat r 1 h (by omega)
  rw [nat_mask1, ho] at this; exact this
theorem and_one_even {r : Nat} (h : r < 4294967296) (ho : r % 2 = 0) : bits .and .u32 (r : Int) 1 = 0 := by
  have := u32_and_nat r 1 h (by omega)
  rw [nat_mask1, ho] at this; exact this
theorem step_odd {r : Nat} (h : r < 4294967296) (ho : r % 2 = 1) : bits .xor .u32 ((r : Int) / 2) 3988292384 = (crcStep r : Int) := by
  have := u32_xor_nat (r / 2) 3988292384 (by omega) (by omega)
  unfold crcStep; rw [if_pos ho, ← this]; rfl
theorem step_even {r : Nat} (ho : r % 2 = 0) : (r : Int) / 2 = (crcStep r : Int) := by
  unfold crcStep; rw [if_neg (by omega)]; omega
theorem byte_in {r : Nat} (h : r < 4294967296) (b : UInt8) : bits .xor .u32 (r : Int) (b.toNat : Int) = ((r ^^^ b.toNat : Nat) : Int) := u32_xor_nat r b.toNat h (by have := b.toNat_lt; omega)
theorem ones_in {r : Nat} (h : r < 4294967296) : bits .xor .u32 (r : Int) 4294967295 = (flip r : Int) := by
  have := u32_xor_nat r 4294967295 h (by omega)
  rw [xor_ones h] at this; exact this
end Go.Proofs.YtjcdcaannajnpaaGreatDoor
