/- The model's RcvNew. -/
import Derived.Test.YtmgefmjfefmaoaaDoorRcvPlain
import Derived.Test.YtmgefmjfefmaoaaDoorRcvR
import Derived.Deep.RegionLawGrows
namespace Go.Proofs.YtmgefmjfefmaoaaDoor
open Go.RowKit

theorem made_froms (k i : Nat) (h : i < k) : (madeCells #[.int .i64 0, .slice none 0 0] (k * 2)).toList[i * 2]? = some (.int .i64 0) ∧ (madeCells #[.int .i64 0, .slice none 0 0] (k * 2)).toList[i * 2 + 1]? = some (.slice none 0 0) := by
  have h1 : i * 2 < k * 2 := by omega
  have h2 : i * 2 + 1 < k * 2 := by omega
  have m1 : i * 2 % 2 = 0 := by omega
  have m2 : (i * 2 + 1) % 2 = 1 := by omega
  constructor
  · simp [madeCells, h1]
  · simp [madeCells, h2, m2]
theorem frAt_rep (k i : Nat) (h : i < k) : frAt (List.replicate k (0, [])) i = (0, []) := by simp [frAt, List.getD, h]
/-- A row of Froms that is made new. -/
theorem made_own {w : World} {base : Nat} {k : Nat} {e : TypeId} (hb : base ≤ w.heap.size) (hk : k ≤ 2000000) :
    FrsOwn (fun b => b = w.heap.size) (w.alloc (.cells (madeCells #[.int .i64 0, .slice none 0 0] (k * 2)) e)) (some ⟨w.heap.size, 0, none⟩) k (List.replicate k (0, [])) (fun _ => none) (fun _ => 0) := by
  have ho := World.ownsRow_lit (size := 2) (base := base) (e := e) w (madeCells #[.int .i64 0, .slice none 0 0] (k * 2)) k hb (by simp [maxLen]; omega) (size_madeCells _ _)
  generalize w.alloc (.cells (madeCells #[.int .i64 0, .slice none 0 0] (k * 2)) e) = W at *
  generalize w.heap.size = g at *
  refine ⟨by simp, hk, fun _ => ⟨g, 0, rfl⟩, fun b o e i hi => ?_, fun b o e i hi => ?_, fun b hl => ?_, fun i hi => ?_, fun i hi b hl => ?_, fun i j hi hj hij b hl => ?_, fun i hi => ?_, fun i hi => ?_⟩
  · cases e
    rw [Nat.zero_add, frAt_rep k i hi]
    obtain ⟨e0, e1⟩ := made_froms k i hi
    exact ⟨(ho.cellAt (i * 2) (by omega)).trans e0, (ho.cellAt (i * 2 + 1) (by omega)).trans e1⟩
  · cases e
    rw [Nat.zero_add]
    exact ho.frozenAt i
  · obtain ⟨_, o, e⟩ := hl
    cases e
    rfl
  · rw [frAt_rep k i hi]; exact ⟨inLg_nil, lgFree_nil⟩
  · rw [frAt_rep k i hi] at hl; exact absurd hl.1 (by simp)
  · rw [frAt_rep k i hi] at hl; exact absurd hl.1 (by simp)
  · rw [frAt_rep k i hi]; exact ⟨by simp, by simp⟩
  · rw [frAt_rep k i hi]; simp

end Go.Proofs.YtmgefmjfefmaoaaDoor
