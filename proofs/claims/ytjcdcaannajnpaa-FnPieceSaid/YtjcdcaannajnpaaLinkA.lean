/- The program's small steps on links: what each leaves, cell by cell. -/
import Derived.Test.YtjcdcaannajnpaaPieces
import Derived.Test.YtjcdcaannajnpaaBytes
import Derived.Deep.LoopGhost
import Derived.BigRegion
namespace Go.Proofs.Ytjcdcaannajnpaa
open Go.RowKit

abbrev ptr (g : Nat) : Value := .pointer (some ⟨g, 0, none⟩)

set_option maxHeartbeats 1000000 in
set_option maxRecDepth 100000 in
theorem putAhead_cells {w : World} {k q pg n cap : Nat} {a : Option Addr} {u2 u3 u : Value} (h1 : w.cell? ⟨pg, 1, none⟩ = some (.slice a n cap)) (hn : 0 < n) (hn2 : n ≤ 100000000)
    (hk : w.cell? ⟨k, 2, none⟩ = some (ptr q)) (hp2 : w.cell? ⟨pg, 2, none⟩ = some u2) (hp3 : w.cell? ⟨pg, 3, none⟩ = some u3) (hq : w.cell? ⟨q, 3, none⟩ = some u)
    (fk : w.frozen? ⟨k, 2, none⟩ = false) (fp2 : w.frozen? ⟨pg, 2, none⟩ = false) (fp3 : w.frozen? ⟨pg, 3, none⟩ = false) (fq : w.frozen? ⟨q, 3, none⟩ = false) (ne1 : pg ≠ k) (ne2 : pg ≠ q) :
    Calls Try.prog 50 #[ptr k, ptr pg] w fun e w' => e = .returned (.tuple #[]) ∧ w' = (((w.setCell ⟨pg, 2, none⟩ (ptr q)).setCell ⟨pg, 3, none⟩ (ptr k)).setCell ⟨q, 3, none⟩ (ptr pg)).setCell ⟨k, 2, none⟩ (ptr pg) := by
  have hz : ((n : Int) == 0) = false := by simp; omega
  go_enter Try.func50, Try.ntmps50
  go_wp2_with fail
  go_end0
  exact ⟨rfl, rfl⟩
theorem putAhead_none {w : World} {k pg cap : Nat} {a : Option Addr} (h1 : w.cell? ⟨pg, 1, none⟩ = some (.slice a 0 cap)) :
    Calls Try.prog 50 #[ptr k, ptr pg] w fun e w' => e = .returned (.tuple #[]) ∧ w' = w := by
  go_enter Try.func50, Try.ntmps50
  go_wp2_with fail
  exact bodyPost_ret (v := .tuple #[]) (by simp [results, Try.results50, go_sem]) rfl ⟨rfl, rfl⟩
set_option maxHeartbeats 1000000 in
theorem newChain_cells (w : World) :
    Calls Try.prog 49 #[] w fun e w' => e = .returned (ptr w.heap.size) ∧ w' = w.alloc (.cells #[.int .i64 0, .slice none 0 0, ptr w.heap.size, ptr w.heap.size] 65) := by
  go_enter Try.func49, Try.ntmps49
  go_wp2_with fail
  go_ret
  exact ⟨rfl, rfl⟩
theorem endOf_calls (p : Pc) (w : World) : Calls Try.prog 53 #[pcv p] w fun e w' => e = .returned (.int .i64 (wrap64 (pcEnd p))) ∧ Below w.heap.size w w' := by
  obtain ⟨a, t⟩ := p
  go_enter Try.func53, Try.ntmps53
  go_wp2
  go_ret
  exact ⟨rfl, (Below.refl _ _).alloc (Nat.le_refl _) _⟩
theorem isTime_calls (n : Int) (w : World) : Calls Try.prog 42 #[.int .i64 n] w fun e w' => e = .returned (.bool (decide (0 ≤ n ∧ n ≤ 1000000))) ∧ w' = w := by
  go_enter Try.func42, Try.ntmps42
  go_wp2
  all_goals go_ret
  all_goals refine ⟨ret_bool ?_, rfl⟩
  all_goals simp <;> omega
theorem end_calls {w : World} {g n cap : Nat} {x : Int} {a : Option Addr} (h0 : w.cell? ⟨g, 0, none⟩ = some (.int .i64 x)) (h1 : w.cell? ⟨g, 1, none⟩ = some (.slice a n cap)) (hx : 0 ≤ x) (hx2 : x ≤ 2000000) (hn : n ≤ 100000000) :
    Calls Try.prog 72 #[ptr g] w fun e w' => e = .returned (.int .i64 (x + (n : Int))) ∧ ∃ m, w' = w.drewN m := by
  go_enter Try.func72, Try.ntmps72
  go_wp2_with fail
  have hw : IntKind.i64.wrap (x + (n : Int)) = x + (n : Int) := IntWalk.i64_in _ (by omega)
  go_quiet (fail)
  go_wp2_with fail
  go_ret
  exact ⟨rfl, _, rfl⟩
set_option maxHeartbeats 1000000 in
set_option maxRecDepth 100000 in
theorem takeOut_cells {w : World} {k p n : Nat} {u v : Value} (h2 : w.cell? ⟨k, 2, none⟩ = some (ptr p)) (h3 : w.cell? ⟨k, 3, none⟩ = some (ptr n)) (hp : w.cell? ⟨p, 3, none⟩ = some u) (hn : w.cell? ⟨n, 2, none⟩ = some v)
    (fp : w.frozen? ⟨p, 3, none⟩ = false) (fn : w.frozen? ⟨n, 2, none⟩ = false) :
    Calls Try.prog 73 #[ptr k] w fun e w' => e = .returned (.tuple #[]) ∧ ∃ m, w' = (((w.setCell ⟨p, 3, none⟩ (ptr n)).setCell ⟨n, 2, none⟩ (ptr p)).drewN m) := by
  go_enter Try.func73, Try.ntmps73
  go_wp2_with fail
  go_region
  all_goals go_wp2_with fail
  all_goals go_end0
  all_goals exact ⟨rfl, _, rfl⟩
end Go.Proofs.Ytjcdcaannajnpaa
