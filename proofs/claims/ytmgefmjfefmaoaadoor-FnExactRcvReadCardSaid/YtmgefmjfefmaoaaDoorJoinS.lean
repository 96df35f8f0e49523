/- The model's l02Join: pieces that rise, those that stand side by side are one. -/
import Derived.Test.YtmgefmjfefmaoaaDoorCutI
import Derived.Test.YtmgefmjfefmaoaaDoorPackC
import Derived.Deep.LoopGhost
namespace Go.Proofs.YtmgefmjfefmaoaaDoor
open Go.RowKit

theorem pv_get (a : List Pc) (q : Pc) : (pv (a ++ [q]))[a.length * 2]? = some (.int .i64 q.1) ∧ (pv (a ++ [q]))[a.length * 2 + 1]? = some (gs q.2) := by
  rw [pv_append]
  constructor
  · rw [List.getElem?_append_right (by rw [pv_length]; omega), pv_length, Nat.sub_self]; rfl
  · rw [List.getElem?_append_right (by rw [pv_length]; omega), pv_length, show a.length * 2 + 1 - a.length * 2 = 1 by omega]; rfl
theorem pv_set (a : List Pc) (q : Pc) (s : List UInt8) : (pv (a ++ [q])).set (a.length * 2 + 1) (gs s) = pv (a ++ [(q.1, s)]) := by
  rw [pv_append, pv_append, List.set_append_right _ _ (by rw [pv_length]; omega), pv_length, show a.length * 2 + 1 - a.length * 2 = 1 by omega]; rfl
theorem joinS_empty (acc : List Pc) (q : Pc) (l : List Pc) (h : q.2 = []) : joinS acc (q :: l) = joinS acc l := by rw [joinS.eq_2, if_pos h]
theorem joinS_first (q : Pc) (l : List Pc) (h : q.2 ≠ []) : joinS [] (q :: l) = joinS [q] l := by rw [joinS.eq_2, if_neg h]; rfl
theorem joinS_last (acc : List Pc) (p q : Pc) (l : List Pc) (h : q.2 ≠ []) : joinS (acc ++ [p]) (q :: l) = if pcEnd p = q.1 then joinS (acc ++ [(p.1, p.2 ++ q.2)]) l else joinS (acc ++ [p] ++ [q]) l := by
  rw [joinS.eq_2, if_neg h]
  have hla : (acc ++ [p]).getLast? = some p := by simp
  rw [hla]
  simp only [List.dropLast_concat]
theorem bytesN_app (a b : List Pc) : bytesN (a ++ b) = bytesN a + bytesN b := by
  induction a with
  | nil => simp [bytesN]
  | cons p a ih => simp [bytesN, ih]; omega
/-- The last piece of a row of the call's own. -/
theorem own_last {w : World} {B g c : Nat} {e : TypeId} {acc : List Pc} {q : Pc} (h : w.ownsRow B e 2 (.slice (some ⟨g, 0, none⟩) (acc ++ [q]).length c) (acc ++ [q]).length (pv (acc ++ [q]))) :
    w.cell? ⟨g, acc.length * 2, none⟩ = some (.int .i64 q.1) ∧ w.cell? ⟨g, acc.length * 2 + 1, none⟩ = some (gs q.2) ∧ w.frozen? ⟨g, acc.length * 2 + 1, none⟩ = false := by
  obtain ⟨h1, h2⟩ := pv_get acc q
  have hl : (acc ++ [q]).length = acc.length + 1 := by simp
  exact ⟨(h.cellAt (acc.length * 2) (by rw [hl]; omega)).trans h1, (h.cellAt (acc.length * 2 + 1) (by rw [hl]; omega)).trans h2, h.frozenAt _⟩

structure JoinAt (w : World) (L : List Pc) (wr : World) (k : Nat) (acc : List Pc) (v : Value) : Prop where
  row : wr.ownsRow w.heap.size 77 2 v acc.length (pv acc)
  le : acc.length ≤ k
  out : joinS [] L = joinS acc (L.drop k)
  time : ∀ p ∈ acc, 0 ≤ p.1 ∧ p.1 ≤ 3000000
  sum : bytesN acc + bytesN (L.drop k) ≤ 50000000
  below : Below w.heap.size w wr

end Go.Proofs.YtmgefmjfefmaoaaDoor
