/- The model's l06Sub where the number is another than the one that is wanted. -/
import Derived.Test.YtmgefmjfefmaoaaDoorSubA
namespace Go.Proofs.YtmgefmjfefmaoaaDoor
open Go.RowKit

theorem inLg_take {w : World} {a : Option Addr} {len : Nat} {l : Lg} (h : InLg w a len l) (p : Nat) (hp : p ≤ len) : InLg w a p (l.take p) := by
  have hl := h.long
  have hs := h.small
  have hat : ∀ i, i < p → lgAt (l.take p) i = lgAt l i := fun i hi => by simp [lgAt, List.getD, hi]
  refine ⟨⟨by simp; omega, by omega, fun h0 => h.there (by omega), fun b o e i hi => ?_, fun i hi => ?_⟩, by omega⟩
  · rw [hat i hi]; exact h.cell b o e i (by omega)
  · rw [hat i hi]; exact h.fit i (by omega)
theorem inLg_drop {w : World} {b o len : Nat} {l : Lg} (h : InLg w (some ⟨b, o, none⟩) len l) (p : Nat) (hp : p ≤ len) : InLg w (some ⟨b, o + p, none⟩) (len - p) (l.drop p) := by
  have hl := h.long
  have hs := h.small
  have hat : ∀ i, lgAt (l.drop p) i = lgAt l (p + i) := fun i => by simp [lgAt, List.getD]
  refine ⟨⟨by simp; omega, by omega, fun h0 => ⟨b, o + p, rfl⟩, fun b' o' e i hi => ?_, fun i hi => ?_⟩, by omega⟩
  · cases e
    rw [hat, show o + p + i = o + (p + i) by omega]
    exact h.cell b o rfl (p + i) (by omega)
  · rw [hat]; exact h.fit (p + i) (by omega)
theorem cell_one {W : World} {b : Nat} {v : Value} {T : TypeId} (h : W.heap[b]? = some (.cells #[v] T (0, 0))) (hv : v.oneCell' = true) : CellRow W 1 (some ⟨b, 0, none⟩) 1 [v] :=
  ⟨rfl, by omega, fun _ => ⟨b, 0, rfl⟩, fun b' o e j u hj => by
    cases e
    have := World.news_of_block h j u hj
    rwa [Addr.add_lit] at this, fun u hu => by simp at hu; rw [hu]; exact hv⟩
theorem cellRow_nil {W : World} {s : Nat} {a : Option Addr} : CellRow W s a 0 [] := ⟨by simp, by omega, fun h => by omega, fun b o e j u hj => by simp at hj, fun u hu => by cases hu⟩
theorem lgv_app (l m : Lg) : lgv (l ++ m) = lgv l ++ lgv m := by simp [lgv]

end Go.Proofs.YtmgefmjfefmaoaaDoor
