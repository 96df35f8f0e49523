/- PutNum, the program's and the model's: both give 'putN'. -/
import Derived.Test.YtjcdcaannajnpaaGreatDoorRows
import Derived.Test.YtjcdcaannajnpaaGreatDoorBase
import Derived.Test.YtjcdcaannajnpaaGreatDoorNumPlain
namespace Go.Proofs.YtjcdcaannajnpaaGreatDoor
open Go.RowKit

theorem Tryz.infoU8 : (Tryz.prog.info? 5).map (fun i => (i.zero, i.size, i.bytes)) = some (some (.int .u8 0), 1, 1) := by kernel_rfl

theorem foldS_calls (n : Int) (w : World) (h1 : -9223372036854775808 ≤ n) (h2 : n ≤ 9223372036854775807) :
    Calls Tryz.prog 83 #[.int .i64 n] w fun e w' => e = .returned (.int .u64 (foldN n : Int)) ∧ w = w' := by
  by_cases hn : n < 0
  · have hf : 2 * -(n + 1) + 1 = (foldN n : Int) := by unfold foldN; rw [if_pos hn]; omega
    have HF := Lib.hid hf; clear hf
    go_enter Tryz.func83, Tryz.ntmps83
    go_wp2
    go_ret
    exact ⟨ret_int HF.out, rfl⟩
  · have hf : 2 * n = (foldN n : Int) := by unfold foldN; rw [if_neg hn]; omega
    have HF := Lib.hid hf; clear hf
    go_enter Tryz.func83, Tryz.ntmps83
    go_wp2
    go_ret
    exact ⟨ret_int HF.out, rfl⟩

theorem foldI_calls (n : Int) (w : World) (h1 : -9223372036854775808 ≤ n) (h2 : n ≤ 9223372036854775807) :
    Calls Tryz.prog 74 #[.int .i64 n] w fun e w' => e = .returned (.int .u64 (foldN n : Int)) ∧ w = w' := by
  by_cases hn : n < 0
  · go_enter Tryz.func74, Tryz.ntmps74
    go_wp2
    go_ret
    refine ⟨ret_int ?_, rfl⟩
    rw [not_u64]
    · unfold foldN; rw [if_pos hn]; go_arith
    · go_arith
    · go_arith
  · have hf : n * 2 = (foldN n : Int) := by unfold foldN; rw [if_neg hn]; omega
    have HF := Lib.hid hf; clear hf
    go_enter Tryz.func74, Tryz.ntmps74
    go_wp2
    go_ret
    exact ⟨ret_int HF.out, rfl⟩

set_option maxHeartbeats 400000 in
set_option maxRecDepth 100000 in
theorem putS_calls (n : Int) (w : World) (h1 : -9223372036854775808 ≤ n) (h2 : n ≤ 9223372036854775807) :
    Calls Tryz.prog 69 #[.int .i64 n] w fun e w' => e = .returned (gs (putN n)) ∧ Below w.heap.size w w' := by
  obtain ⟨i0, hi, hz0, hz1, hz2⟩ := info_parts Tryz.infoU8
  have hlt := foldN_lt n h1 h2
  go_enter Tryz.func69, Tryz.ntmps69
  go_wp2_with (go_at_call 83; refine (foldS_calls _ _ h1 h2).mono ?_; rintro e w' ⟨rfl, rfl⟩)
  go_loopw [3, 4] (fun u b wr => ∃ (f k : Nat) (l : List UInt8), u = .int .u64 (k : Int) ∧ l.length + f = 10 ∧ NumAt f l k (putN n) ∧ k < 18446744073709551616 ∧ wr.ownsRow w.heap.size 5 1 b l.length (u8s l) ∧ Below w.heap.size w wr)
    (fun u _ _ => (intOf u).toNat)
  case atStart =>
    refine ⟨10, _, [], rfl, rfl, ⟨by omega, rfl⟩, hlt, ?_, ?_⟩
    · exact World.ownsRow_lit (base := w.heap.size) (size := 1) w #[] 0 (Nat.le_refl _) (by unfold maxLen; omega) rfl
    · exact (Below.refl _ _).alloc (Nat.le_refl _) _
  case round =>
    obtain ⟨f, k, l, rfl, hfl, hna, hk, hown, hbel⟩ := hrel
    have hws := hbel.size
    by_cases hc : 128 ≤ k
    · obtain ⟨g, rfl, hna'⟩ := hna.step hc
      go_wp2_with (at_builtin; refine wpList_append_own _ rfl _ _ 22 rfl w.heap.size 5 i0 (.int .u8 0) 1 1 Tryz.underlying22 hi hz0 hz1 hz2 rfl (by decide) _ _ _ rfl (hown.alloc _) ⟨wr.heap.size, 0, none⟩ 1 1 [.int .u8 ((k : Int) % 128 + 128)] rfl rfl (byte_new _ _ _) (one_cell _ _) (by unfold maxLen; omega) (by omega) (by simp; omega) ?_)
      intro v' w1 hown' hgrow _
      have R := byte_step (b := UInt8.ofNat (k % 128 + 128)) hbel hws hown (by rw [u8_of _ (by omega)]; omega) hown' hgrow
      clear hown' hgrow hown hbel hna
      go_wp2
      go_roundw
      case rel => exact ⟨g, k / 128, _, rfl, by simp; omega, hna', by omega, R.1, R.2⟩
      case measure => simp [intOf]; omega
    · have hst := hna.stop hc
      have HST := Lib.hid hst; clear hst
      go_wp2_with (at_builtin; refine wpList_append_own _ rfl _ _ 22 rfl w.heap.size 5 i0 (.int .u8 0) 1 1 Tryz.underlying22 hi hz0 hz1 hz2 rfl (by decide) _ _ _ rfl (hown.alloc _) ⟨wr.heap.size, 0, none⟩ 1 1 [.int .u8 (k : Int)] rfl rfl (byte_new _ _ _) (one_cell _ _) (by unfold maxLen; omega) (by omega) (by simp; omega) ?_)
      intro v' w1 hown' hgrow _
      have R := byte_step (b := UInt8.ofNat k) hbel hws hown (u8_of _ (by omega)) hown' hgrow
      clear hown' hgrow hown hbel hna
      have hcv := run_own_string (P := Tryz.prog) (dst := 9) Tryz.underlying22 Tryz.underlying5 Tryz.underlying9 R.1
      rw [HST.out] at hcv
      go_wp2
      go_ret
      exact ⟨rfl, R.2⟩

theorem make10 (w : World) : (Instr.makeSlice 22 (.int .i64 0) (.int .i64 10)).run Tryz.prog w = .ok (.slice (some ⟨w.heap.size, 0, none⟩) 0 10) (w.alloc (.cells #[.int .u8 0, .int .u8 0, .int .u8 0, .int .u8 0, .int .u8 0, .int .u8 0, .int .u8 0, .int .u8 0, .int .u8 0, .int .u8 0] 5)) := by kernel_rfl

set_option maxHeartbeats 400000 in
set_option maxRecDepth 100000 in
theorem putI_calls (n : Int) (w : World) (h1 : -9223372036854775808 ≤ n) (h2 : n ≤ 9223372036854775807) :
    Calls Tryz.prog 58 #[.int .i64 n] w fun e w' => e = .returned (gs (putN n)) ∧ Below w.heap.size w w' := by
  obtain ⟨i0, hi, hz0, hz1, hz2⟩ := info_parts Tryz.infoU8
  have hlt := foldN_lt n h1 h2
  have hmk := make10
  go_enter Tryz.func58, Tryz.ntmps58
  go_wp2_with (go_at_call 74; refine (foldI_calls _ _ h1 h2).mono ?_; rintro e w' ⟨rfl, rfl⟩)
  go_loopw [3, 4] (fun b u wr => ∃ (f k : Nat) (l : List UInt8), u = .int .u64 (k : Int) ∧ l.length + f = 10 ∧ NumAt f l k (putN n) ∧ k < 18446744073709551616 ∧ wr.ownsRow w.heap.size 5 1 b l.length (u8s l) ∧ Below w.heap.size w wr)
    (fun _ u _ => (intOf u).toNat)
  case atStart =>
    refine ⟨10, _, [], rfl, rfl, ⟨by omega, rfl⟩, hlt, ?_, ?_⟩
    · exact World.ownsRow_made (base := w.heap.size) (size := 1) w _ 10 (Nat.le_refl _) (by unfold maxLen; omega) rfl
    · exact (Below.refl _ _).alloc (Nat.le_refl _) _
  case round =>
    obtain ⟨f, k, l, rfl, hfl, hna, hk, hown, hbel⟩ := hrel
    have hws := hbel.size
    by_cases hc : 128 ≤ k
    · obtain ⟨g, rfl, hna'⟩ := hna.step hc
      go_wp2_with (at_builtin; refine wpList_append_own _ rfl _ _ 22 rfl w.heap.size 5 i0 (.int .u8 0) 1 1 Tryz.underlying22 hi hz0 hz1 hz2 rfl (by decide) _ _ _ rfl (hown.alloc _) ⟨wr.heap.size, 0, none⟩ 1 1 [.int .u8 ((k : Int) % 128 + 128)] rfl rfl (byte_new _ _ _) (one_cell _ _) (by unfold maxLen; omega) (by omega) (by simp; omega) ?_)
      intro v' w1 hown' hgrow _
      have R := byte_step (b := UInt8.ofNat (k % 128 + 128)) hbel hws hown (by rw [u8_of _ (by omega)]; omega) hown' hgrow
      clear hown' hgrow hown hbel hna
      go_wp2
      go_roundw
      case rel => exact ⟨g, k / 128, _, rfl, by simp; omega, hna', by omega, R.1, R.2⟩
      case measure => simp [intOf]; omega
    · have hst := hna.stop hc
      have HST := Lib.hid hst; clear hst
      go_wp2_with (at_builtin; refine wpList_append_own _ rfl _ _ 22 rfl w.heap.size 5 i0 (.int .u8 0) 1 1 Tryz.underlying22 hi hz0 hz1 hz2 rfl (by decide) _ _ _ rfl (hown.alloc _) ⟨wr.heap.size, 0, none⟩ 1 1 [.int .u8 (k : Int)] rfl rfl (byte_new _ _ _) (one_cell _ _) (by unfold maxLen; omega) (by omega) (by simp; omega) ?_)
      intro v' w1 hown' hgrow _
      have R := byte_step (b := UInt8.ofNat k) hbel hws hown (u8_of _ (by omega)) hown' hgrow
      clear hown' hgrow hown hbel hna
      have hcv := run_own_string (P := Tryz.prog) (dst := 9) Tryz.underlying22 Tryz.underlying5 Tryz.underlying9 R.1
      rw [HST.out] at hcv
      go_wp2
      go_ret
      exact ⟨rfl, R.2⟩
end Go.Proofs.YtjcdcaannajnpaaGreatDoor
