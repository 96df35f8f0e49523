/- The model's l02Put: the walk. -/
import Derived.Test.YtmgefmjfefmaoaaDoorPutS
import Derived.Deep.LoopGhost
import Derived.Deep.DeepCutAuto
namespace Go.Proofs.YtmgefmjfefmaoaaDoor
open Go.RowKit

theorem pcAt_fits {L : List Pc} (h : ∀ p ∈ L, -9223372036854775808 ≤ p.1 ∧ p.1 ≤ 9223372036854775807 ∧ p.2.length ≤ 2000000) : ∀ i, i < L.length → -9223372036854775808 ≤ (pcAt L i).1 ∧ (pcAt L i).1 ≤ 9223372036854775807 ∧ (pcAt L i).2.length ≤ 2000000 :=
  fun _ hi => h _ (pcAt_mem' hi)
theorem mem_bytes {L : List Pc} {p : Pc} (h : p ∈ L) : p.2.length ≤ bytesN L := by
  induction L with
  | nil => cases h
  | cons q L ih =>
    simp only [bytesN]
    rcases List.mem_cons.1 h with rfl | h
    · omega
    · have := ih h; omega
/-- A row of the call's own, full of pieces, as a list of pieces in memory. -/
theorem inPcs_row {w : World} {B : Nat} {e : TypeId} {v : Value} {L : List Pc} (ho : w.ownsRow B e 2 v L.length (pv L)) (hm : L.length ≤ 2000000) (hf : ∀ p ∈ L, -9223372036854775808 ≤ p.1 ∧ p.1 ≤ 9223372036854775807 ∧ p.2.length ≤ 2000000) :
    ∃ a c, v = .slice a L.length c ∧ InPcs w a L.length L := by
  rcases ho.2 with ⟨rfl, h0⟩ | ⟨g, cap, cur, rfl, hb, hh, hn, hc, hcs, ht⟩
  · rw [h0]
    refine ⟨none, 0, rfl, ⟨h0, by omega, (fun h => by omega), (fun b o h => by cases h), (fun i hi => by omega)⟩⟩
  · refine ⟨some ⟨g, 0, none⟩, cap, rfl, ⟨rfl, hm, fun _ => ⟨g, 0, rfl⟩, fun b o hbo i hi => ?_, pcAt_fits hf⟩⟩
    cases hbo
    have hp : ∀ (l : List Pc) (i : Nat), i < l.length → (pv l)[i * 2]? = some (.int .i64 (pcAt l i).1) ∧ (pv l)[i * 2 + 1]? = some (gs (pcAt l i).2) := by
      intro l
      induction l with
      | nil => intro i hi; simp at hi
      | cons p l ih =>
        intro i hi
        cases i with
        | zero => exact ⟨rfl, rfl⟩
        | succ i =>
          obtain ⟨h1, h2⟩ := ih i (by simpa using hi)
          rw [show (i + 1) * 2 = i * 2 + 2 by omega]
          exact ⟨h1, h2⟩
    obtain ⟨h1, h2⟩ := hp L i hi
    rw [Nat.zero_add]
    exact ⟨(ho.cellAt (i * 2) (by omega)).trans h1, (ho.cellAt (i * 2 + 1) (by omega)).trans h2⟩

end Go.Proofs.YtmgefmjfefmaoaaDoor
