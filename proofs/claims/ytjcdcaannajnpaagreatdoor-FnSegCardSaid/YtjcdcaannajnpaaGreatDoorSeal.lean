/- Seal, the program's and the model's. -/
import Derived.Test.YtjcdcaannajnpaaGreatDoorCrc
import Derived.Test.YtjcdcaannajnpaaGreatDoorText
namespace Go.Proofs.YtjcdcaannajnpaaGreatDoor
open Go.RowKit

/-- The four bytes of a CRC. -/
def sumB (c : Nat) : List UInt8 := [UInt8.ofNat c, UInt8.ofNat (c / 256), UInt8.ofNat (c / 65536), UInt8.ofNat (c / 16777216)]
def sealN (t : List UInt8) : List UInt8 := if 7996 < t.length then [] else t ++ sumB (crcOn 0 t)
theorem sealN_big {t : List UInt8} (h : 7996 < t.length) : sealN t = [] := by unfold sealN; rw [if_pos h]
theorem sealN_small {t : List UInt8} (h : ¬ 7996 < t.length) : sealN t = t ++ sumB (crcOn 0 t) := by unfold sealN; rw [if_neg h]
theorem u8_mod (n : Nat) : Value.int .u8 (((UInt8.ofNat n).toNat : Nat) : Int) = .int .u8 ((n : Int) % 256) := by
  rw [UInt8.toNat_ofNat']; rfl
theorem brow_sum (c : Nat) (hc : c < 4294967296) : (#[.int .u8 ((c : Int) % 256), .int .u8 ((c : Int) / 256 % 256), .int .u8 ((c : Int) / 65536 % 256), .int .u8 ((c : Int) / 16777216)] : Array Value) = brow (sumB c) := by
  simp only [brow, sumB, u8s, List.map, u8_mod]
  congr 1
  simp; omega

theorem brow_sum2 (c : Nat) : (#[.int .u8 ((c : Int) % 256), .int .u8 ((c : Int) / 256 % 256), .int .u8 ((c : Int) / 256 / 256 % 256), .int .u8 ((c : Int) / 256 / 256 / 256 % 256)] : Array Value) = brow (sumB c) := by
  simp only [brow, sumB, u8s, List.map, u8_mod]
  congr 1
  simp; omega

set_option maxHeartbeats 400000 in
set_option maxRecDepth 100000 in
theorem four_calls (c : Nat) (w : World) (hc : c < 4294967296) :
    Calls Tryz.prog 61 #[.int .i64 (c : Int)] w fun e w' => e = .returned (gs (sumB c)) ∧ Below w.heap.size w w' := by
  have hcv := run_string_bytes (P := Tryz.prog) (dst := 9) Tryz.underlying22 Tryz.underlying5 Tryz.underlying9 w (sumB c) 4 4 _ rfl rfl
  rw [← brow_sum c hc] at hcv
  go_enter Tryz.func61, Tryz.ntmps61
  go_wp2
  go_ret
  exact ⟨rfl, (Below.refl _ _).alloc (Nat.le_refl _) _⟩

set_option maxHeartbeats 400000 in
set_option maxRecDepth 100000 in
theorem sealS_calls (t : List UInt8) (w : World) (hl : t.length ≤ 9223372036854775807) :
    Calls Tryz.prog 36 #[gs t] w fun e w' => e = .returned (gs (sealN t)) ∧ Below w.heap.size w w' := by
  by_cases h : 7996 < t.length
  · have HN := Lib.hid (sealN_big h)
    go_enter Tryz.func36, Tryz.ntmps36
    go_wp2_with fail
    go_ret
    exact ⟨by rw [HN.out]; rfl, Below.refl _ _⟩
  · have HN := Lib.hid (sealN_small h)
    have hlt := crcOn_lt 0 t
    have hs4 : (sumB (crcOn 0 t)).length ≤ 4 := by simp [sumB]
    go_enter Tryz.func36, Tryz.ntmps36
    go_wp2_with fail
    refine (crcS_calls 0 _ _ hl (by omega)).mono ?_
    rintro e w1 ⟨rfl, rfl⟩
    go_wp2_with fail
    refine (four_calls _ _ hlt).mono ?_
    rintro e w1 ⟨rfl, hb1⟩
    go_wp2_with fail
    go_ret
    exact ⟨by rw [HN.out]; exact cat_gs _ _, hb1⟩

theorem make4 (w : World) : (Instr.makeSlice 22 (.int .i64 4) (.int .i64 4)).run Tryz.prog w = .ok (.slice (some ⟨w.heap.size, 0, none⟩) 4 4) (w.alloc (.cells #[.int .u8 0, .int .u8 0, .int .u8 0, .int .u8 0] 5)) := by kernel_rfl

set_option maxHeartbeats 1000000 in
set_option maxRecDepth 100000 in
theorem sumOf_calls (t : List UInt8) (w : World) (h : t.length ≤ 8000) :
    Calls Tryz.prog 59 #[gs t] w fun e w' => e = .returned (gs (sumB (crcN t))) ∧ Below w.heap.size w w' := by
  have hmk := make4
  have hlt : crcN t < 4294967296 := by rw [crcN_small (by omega)]; exact crcOn_lt _ _
  have hcv := run_string_bytes (P := Tryz.prog) (dst := 9) Tryz.underlying22 Tryz.underlying5 Tryz.underlying9 w (sumB (crcN t)) 4 4 _ rfl rfl
  rw [← brow_sum2] at hcv
  go_enter Tryz.func59, Tryz.ntmps59
  go_wp2_with (go_at_call 75; refine (crcTextI_calls _ _ (by omega)).mono ?_; rintro e w1 ⟨rfl, rfl⟩)
  refine wp_loop_rounds 5 ?_
  rw [rounds_succ]
  go_wp2
  rw [rounds_succ]
  go_wp2
  rw [rounds_succ]
  go_wp2
  rw [rounds_succ]
  go_wp2
  rw [rounds_succ]
  go_wp2
  go_ret
  exact ⟨rfl, (Below.refl _ _).alloc (Nat.le_refl _) _⟩

set_option maxHeartbeats 400000 in
set_option maxRecDepth 100000 in
theorem sealI_calls (t : List UInt8) (w : World) (hl : t.length ≤ 9223372036854775807) :
    Calls Tryz.prog 28 #[gs t] w fun e w' => e = .returned (gs (sealN t)) ∧ Below w.heap.size w w' := by
  by_cases h : 7996 < t.length
  · have HN := Lib.hid (sealN_big h)
    go_enter Tryz.func28, Tryz.ntmps28
    go_wp2_with fail
    go_ret
    exact ⟨by rw [HN.out]; rfl, Below.refl _ _⟩
  · have hn := sealN_small h
    rw [← crcN_small (by omega)] at hn
    have HN := Lib.hid hn; clear hn
    have hs4 : (sumB (crcN t)).length ≤ 4 := by simp [sumB]
    go_enter Tryz.func28, Tryz.ntmps28
    go_wp2_with fail
    refine (sumOf_calls _ _ (by omega)).mono ?_
    rintro e w1 ⟨rfl, hb1⟩
    go_wp2_with fail
    refine (join_calls _ _ _ (by omega)).mono ?_
    rintro e w2 ⟨rfl, hb2⟩
    have hs := hb1.size
    go_wp2_with fail
    go_ret
    exact ⟨by rw [HN.out]; rfl, hb1.trans (hb2.mono hs)⟩
end Go.Proofs.YtjcdcaannajnpaaGreatDoor
