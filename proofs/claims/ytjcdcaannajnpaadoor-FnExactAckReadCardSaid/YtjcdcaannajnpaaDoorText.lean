/- join: two texts put together with copy. -/
import Derived.Test.YtjcdcaannajnpaaDoorNum
import Derived.Test.YtjcdcaannajnpaaDoorBytes
namespace Go.Proofs.YtjcdcaannajnpaaDoor
open Go.RowKit

set_option maxHeartbeats 400000 in
set_option maxRecDepth 100000 in
theorem join_calls (a b : List UInt8) (w : World) (hl : a.length + b.length ≤ 100000000) :
    Calls Tryd.prog 51 #[gs a, gs b] w fun e w' => e = .returned (gs (a ++ b)) ∧ Below w.heap.size w w' := by
  obtain ⟨i0, hi, hz0, hz1, hz2⟩ := info_parts Tryd.infoU8
  cases hb : b with
  | nil =>
    subst hb
    have hmk := run_make_bytes Tryd.underlying104 hi hz0 hz1 hz2 a.length (a.length : Int) rfl (by simp at hl; omega) w
    have hc1 := run_copy_bytes (sT := 9) (ty := 3) Tryd.underlying104 (size_info Tryd.infoU8) w (List.replicate a.length 0) a 0 a.length a.length _ rfl (Nat.le_refl _) (by simp)
    rw [show List.take 0 (List.replicate a.length (0 : UInt8)) ++ a ++ List.drop (0 + a.length) (List.replicate a.length 0) = a by simp] at hc1
    have hc2 := fun d l c => run_copy_none_bytes (sT := 9) (ty := 3) Tryd.underlying104 (size_info Tryd.infoU8) (w.alloc (.cells (brow a) 5)) d l c
    have hcv := run_string_bytes (P := Tryd.prog) (dst := 9) Tryd.underlying104 Tryd.underlying5 Tryd.underlying9 w a a.length a.length _ rfl rfl
    clear hi hz0 hz1 hz2
    go_enter Tryd.func51, Tryd.ntmps51
    go_wp2
    go_ret
    exact ⟨by simp, (Below.refl _ _).alloc (Nat.le_refl _) _⟩
  | cons b0 b1 =>
    rw [← hb]
    have hpos : 0 < b.length := by rw [hb]; simp
    have hnb : ¬ b = [] := by rw [hb]; simp
    clear hb
    have hmk := run_make_bytes Tryd.underlying104 hi hz0 hz1 hz2 (a.length + b.length) ((a.length : Int) + (b.length : Int)) (by omega) (by omega) w
    have hc1 := run_copy_bytes (sT := 9) (ty := 3) Tryd.underlying104 (size_info Tryd.infoU8) w (List.replicate (a.length + b.length) 0) a 0 (a.length + b.length) (a.length + b.length) _ rfl (by omega) (by simp)
    rw [show List.take 0 (List.replicate (a.length + b.length) (0 : UInt8)) ++ a ++ List.drop (0 + a.length) (List.replicate (a.length + b.length) 0) = a ++ List.replicate b.length 0 by simp] at hc1
    have hc2 := run_copy_bytes (sT := 9) (ty := 3) Tryd.underlying104 (size_info Tryd.infoU8) w (a ++ List.replicate b.length 0) b a.length b.length b.length _ rfl (Nat.le_refl _) (by simp)
    rw [show List.take a.length (a ++ List.replicate b.length (0 : UInt8)) ++ b ++ List.drop (a.length + b.length) (a ++ List.replicate b.length 0) = a ++ b by simp] at hc2
    have hcv := run_string_bytes (P := Tryd.prog) (dst := 9) Tryd.underlying104 Tryd.underlying5 Tryd.underlying9 w (a ++ b) (a.length + b.length) (a.length + b.length) _ rfl (by simp)
    clear hi hz0 hz1 hz2
    go_enter Tryd.func51, Tryd.ntmps51
    go_wp2
    go_ret
    exact ⟨rfl, (Below.refl _ _).alloc (Nat.le_refl _) _⟩


end Go.Proofs.YtjcdcaannajnpaaDoor
