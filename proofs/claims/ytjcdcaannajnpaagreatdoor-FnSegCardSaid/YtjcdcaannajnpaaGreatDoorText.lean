/- join: two texts put together with copy. -/
import Derived.Test.YtjcdcaannajnpaaGreatDoorNum
import Derived.Test.YtjcdcaannajnpaaGreatDoorBytes
namespace Go.Proofs.YtjcdcaannajnpaaGreatDoor
open Go.RowKit

set_option maxHeartbeats 400000 in
set_option maxRecDepth 100000 in
theorem join_calls (a b : List UInt8) (w : World) (hl : a.length + b.length ≤ 100000000) :
    Calls Tryz.prog 25 #[gs a, gs b] w fun e w' => e = .returned (gs (a ++ b)) ∧ Below w.heap.size w w' := by
  obtain ⟨i0, hi, hz0, hz1, hz2⟩ := info_parts Tryz.infoU8
  cases hb : b with
  | nil =>
    subst hb
    have hmk := run_make_bytes Tryz.underlying22 hi hz0 hz1 hz2 a.length (a.length : Int) rfl (by simp at hl; omega) w
    have hc1 := run_copy_bytes (sT := 9) (ty := 3) Tryz.underlying22 (size_info Tryz.infoU8) w (List.replicate a.length 0) a 0 a.length a.length _ rfl (Nat.le_refl _) (by simp)
    rw [show List.take 0 (List.replicate a.length (0 : UInt8)) ++ a ++ List.drop (0 + a.length) (List.replicate a.length 0) = a by simp] at hc1
    have hc2 := fun d l c => run_copy_none_bytes (sT := 9) (ty := 3) Tryz.underlying22 (size_info Tryz.infoU8) (w.alloc (.cells (brow a) 5)) d l c
    have hcv := run_string_bytes (P := Tryz.prog) (dst := 9) Tryz.underlying22 Tryz.underlying5 Tryz.underlying9 w a a.length a.length _ rfl rfl
    clear hi hz0 hz1 hz2
    go_enter Tryz.func25, Tryz.ntmps25
    go_wp2
    go_ret
    exact ⟨by simp, (Below.refl _ _).alloc (Nat.le_refl _) _⟩
  | cons b0 b1 =>
    rw [← hb]
    have hpos : 0 < b.length := by rw [hb]; simp
    have hnb : ¬ b = [] := by rw [hb]; simp
    clear hb
    have hmk := run_make_bytes Tryz.underlying22 hi hz0 hz1 hz2 (a.length + b.length) ((a.length : Int) + (b.length : Int)) (by omega) (by omega) w
    have hc1 := run_copy_bytes (sT := 9) (ty := 3) Tryz.underlying22 (size_info Tryz.infoU8) w (List.replicate (a.length + b.length) 0) a 0 (a.length + b.length) (a.length + b.length) _ rfl (by omega) (by simp)
    rw [show List.take 0 (List.replicate (a.length + b.length) (0 : UInt8)) ++ a ++ List.drop (0 + a.length) (List.replicate (a.length + b.length) 0) = a ++ List.replicate b.length 0 by simp] at hc1
    have hc2 := run_copy_bytes (sT := 9) (ty := 3) Tryz.underlying22 (size_info Tryz.infoU8) w (a ++ List.replicate b.length 0) b a.length b.length b.length _ rfl (Nat.le_refl _) (by simp)
    rw [show List.take a.length (a ++ List.replicate b.length (0 : UInt8)) ++ b ++ List.drop (a.length + b.length) (a ++ List.replicate b.length 0) = a ++ b by simp] at hc2
    have hcv := run_string_bytes (P := Tryz.prog) (dst := 9) Tryz.underlying22 Tryz.underlying5 Tryz.underlying9 w (a ++ b) (a.length + b.length) (a.length + b.length) _ rfl (by simp)
    clear hi hz0 hz1 hz2
    go_enter Tryz.func25, Tryz.ntmps25
    go_wp2
    go_ret
    exact ⟨rfl, (Below.refl _ _).alloc (Nat.le_refl _) _⟩

set_option maxHeartbeats 400000 in
set_option maxRecDepth 100000 in
theorem putTextS_calls (t : List UInt8) (w : World) (hl : t.length ≤ 9223372036854775807) :
    Calls Tryz.prog 70 #[gs t] w fun e w' => e = .returned (gs (putT t)) ∧ Below w.heap.size w w' := by
  by_cases h : 8000 < t.length
  · have HT := Lib.hid (putT_big h)
    go_enter Tryz.func70, Tryz.ntmps70
    go_wp2
    go_ret
    exact ⟨by rw [HT.out]; rfl, Below.refl _ _⟩
  · have HT := Lib.hid (putT_small h)
    have hn := putN_length t.length
    go_enter Tryz.func70, Tryz.ntmps70
    go_wp2_with (go_at_call 69; refine (putS_calls _ _ (by omega) (by omega)).mono ?_; rintro e w1 ⟨rfl, hb1⟩)
    go_ret
    exact ⟨by rw [HT.out]; exact cat_gs _ _, hb1⟩

set_option maxHeartbeats 400000 in
set_option maxRecDepth 100000 in
theorem putTextI_calls (t : List UInt8) (w : World) (hl : t.length ≤ 9223372036854775807) :
    Calls Tryz.prog 26 #[gs t] w fun e w' => e = .returned (gs (putT t)) ∧ Below w.heap.size w w' := by
  by_cases h : 8000 < t.length
  · have HT := Lib.hid (putT_big h)
    go_enter Tryz.func26, Tryz.ntmps26
    go_wp2
    go_ret
    exact ⟨by rw [HT.out]; rfl, Below.refl _ _⟩
  · have HT := Lib.hid (putT_small h)
    have hn := putN_length t.length
    go_enter Tryz.func26, Tryz.ntmps26
    go_wp2_with fail
    refine (putI_calls _ _ (by omega) (by omega)).mono ?_
    rintro e w1 ⟨rfl, hb1⟩
    go_wp2_with fail
    refine (join_calls _ _ _ (by omega)).mono ?_
    rintro e w2 ⟨rfl, hb2⟩
    have hs := hb1.size
    go_wp2
    go_ret
    exact ⟨by rw [HT.out]; rfl, hb1.trans (hb2.mono hs)⟩
end Go.Proofs.YtjcdcaannajnpaaGreatDoor
