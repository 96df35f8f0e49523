/- lwAt: a number out of a code. -/
import Derived.Test.YtjcdcaannajnpaaGreatDoorRow
namespace Go.Proofs.YtjcdcaannajnpaaGreatDoor
open Go.RowKit

/-- What lwAt hands back: a number below most, or 0; nothing turned. -/
def SomeAt (most : Int) (w : World) (e : Ending) (w' : World) : Prop := ∃ r : Int, e = .returned (.int .i64 r) ∧ 0 ≤ r ∧ (r < most ∨ r = 0) ∧ w = w'

set_option maxHeartbeats 1000000 in
set_option maxRecDepth 100000 in
theorem lwAt_calls {a : Option Addr} {len cap : Nat} {z : List Int} {w : World} (h : InRow w a len z) (k : Nat) (hk : k ≤ 1000000) (most : Int) (hm1 : most ≤ 9223372036854775807) (hm0 : -9223372036854775808 ≤ most) :
    Calls Tryz.prog 20 #[.slice a len cap, .int .i64 (k : Int), .int .i64 most] w (SomeAt most w) := by
  have hsm := h.small
  by_cases hm : most ≤ 1
  · go_enter Tryz.func20, Tryz.ntmps20
    go_wp2
    go_ret
    exact ⟨0, rfl, by omega, .inr rfl, rfl⟩
  · by_cases hl : len = 0
    · subst hl
      go_enter Tryz.func20, Tryz.ntmps20
      go_wp2
      go_ret
      exact ⟨0, rfl, by omega, .inr rfl, rfl⟩
    · have hlt : k % len < len := Nat.mod_lt _ (by omega)
      obtain ⟨b, o, rfl⟩ := h.some (by omega)
      have cz := h.cell _ rfl (k % len) hlt
      obtain ⟨fz0, fz1⟩ := h.fit (k % len) hlt
      rw [Addr.add_lit] at cz
      generalize z.getD (k % len) 0 = y at cz fz0 fz1
      have hne : ((len : Int) == 0) = false := by simp; omega
      have hl1 : 1 ≤ (len : Int) := by omega
      clear h hl
      go_enter Tryz.func20, Tryz.ntmps20
      go_wp2
      go_ret
      have h1 : 0 ≤ y % most := Int.emod_nonneg _ (by omega)
      have h2 : y % most < most := Int.emod_lt_of_pos _ (by omega)
      have hw : wrap64 (y % most) = y % most := IntWalk.wrap64_in _ (by omega)
      exact ⟨y % most, by first | rfl | (rw [hw]; rfl) | (rw [← hw]; rfl), h1, .inl h2, rfl⟩
end Go.Proofs.YtjcdcaannajnpaaGreatDoor
