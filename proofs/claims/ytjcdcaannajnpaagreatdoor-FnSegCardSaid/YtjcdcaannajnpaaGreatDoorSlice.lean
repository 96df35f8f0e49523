/- Cuts of a text. -/
import Derived.Test.YtjcdcaannajnpaaGreatDoorBase
namespace Go.Proofs.YtjcdcaannajnpaaGreatDoor
open Go.RowKit

theorem extract_gs (t : List UInt8) (b n : Nat) : (⟨t.toArray⟩ : ByteArray).extract b (b + n) = ⟨((t.drop b).take n).toArray⟩ := by
  apply ByteArray.ext
  simp [ByteArray.extract, ByteArray.copySlice]
/-- 't[b:b+n]' of a text. -/
theorem slice_text {P : Program} {T : TypeId} (hT : P.underlying T = some .string) (t : List UInt8) (b n : Nat) (h : b + n ≤ t.length) (W : World) :
    (Instr.slice T (gs t) (some (.int .i64 (b : Int))) (some (.int .i64 ((b : Int) + (n : Int)))) none).run P W = .ok (gs ((t.drop b).take n)) W := by
  have hz : ((⟨t.toArray⟩ : ByteArray).size : Int) = t.length := by simp [ByteArray.size]
  rw [run_slice_string (P := P) (w := W) T ⟨t.toArray⟩ .i64 .i64 b ((b : Int) + (n : Int)) hT (by omega) (by omega) (by rw [hz]; omega)]
  have e : ((b : Int) + (n : Int)).toNat = b + n := by omega
  rw [e, Int.toNat_natCast, extract_gs]
/-- 't[:n]' of a text. -/
theorem slice_head {P : Program} {T : TypeId} (hT : P.underlying T = some .string) (t : List UInt8) (n : Nat) (L : Int) (hL : L = (n : Int)) (h : n ≤ t.length) (W : World) :
    (Instr.slice T (gs t) none (some (.int .i64 L)) none).run P W = .ok (gs (t.take n)) W := by
  subst hL
  have hz : ((⟨t.toArray⟩ : ByteArray).size : Int) = t.length := by simp [ByteArray.size]
  rw [run_slice_string_h W T ⟨t.toArray⟩ hT .i64 n (by omega) (by rw [hz]; omega)]
  have := extract_gs t 0 n
  simp at this
  simp [this]
/-- 't[n:]' of a text. -/
theorem slice_tail {P : Program} {T : TypeId} (hT : P.underlying T = some .string) (t : List UInt8) (n : Nat) (L : Int) (hL : L = (n : Int)) (h : n ≤ t.length) (W : World) :
    (Instr.slice T (gs t) (some (.int .i64 L)) none none).run P W = .ok (gs (t.drop n)) W := by
  subst hL
  have hz : (⟨t.toArray⟩ : ByteArray).size = t.length := by simp [ByteArray.size]
  rw [run_slice_string_l W T ⟨t.toArray⟩ hT .i64 n (by omega) (by rw [hz]; omega)]
  have := extract_gs t n (t.length - n)
  rw [show n + (t.length - n) = t.length by omega] at this
  rw [Int.toNat_natCast, hz, this]
  rw [List.take_of_length_le (by rw [List.length_drop]; exact Nat.le_refl _)]

end Go.Proofs.YtjcdcaannajnpaaGreatDoor
