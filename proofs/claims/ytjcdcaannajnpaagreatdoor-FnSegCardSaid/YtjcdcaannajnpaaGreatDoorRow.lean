/- A slice of bytes that came in, as the row's step hands it to a walk. -/
import Derived.Test.YtjcdcaannajnpaaGreatDoorSrc
namespace Go.Proofs.YtjcdcaannajnpaaGreatDoor
open Go.RowKit

/-- It is nil; or it leads to a row of cap cells, the numbers zs. -/
def IsRow (k : IntKind) (w : World) (a : Option Addr) (len cap : Nat) (zs : List Int) : Prop :=
  (a = none ∧ len = 0 ∧ cap = 0 ∧ zs = []) ∨
  ∃ x, a = some x ∧ len ≤ cap ∧ cap ≤ maxLen ∧ zs.length = cap ∧ (∀ i, i < zs.length → w.cell? (x.add i) = some (.int k (zs.getD i 0))) ∧ ∀ n ∈ zs, (Lit.int k n).wf = true

theorem u8_bounds {n : Int} (h : (Lit.int .u8 n).wf = true) : 0 ≤ n ∧ n < 256 := by
  simp only [Lit.wf, Bool.and_eq_true, decide_eq_true_eq] at h
  have h1 : IntKind.u8.min = 0 := by decide
  have h2 : IntKind.u8.max = 255 := by decide
  rw [h1, h2] at h
  omega

theorem inRow_of {w : World} {a : Option Addr} {len cap : Nat} {zs : List Int} (h : IsRow .u8 w a len cap zs) (hl : len ≤ 1048576) : InRow w a len zs := by
  rcases h with ⟨rfl, rfl, rfl, rfl⟩ | ⟨x, rfl, hlc, hcm, hz, hc, hw⟩
  · exact ⟨(fun x hx => by cases hx), (fun i hi => by omega), (fun h => by omega), hl⟩
  · refine ⟨fun y hy i hi => ?_, fun i hi => ?_, fun h0 => ?_, hl⟩
    · cases hy; exact hc i (by omega)
    · have hm : zs.getD i 0 ∈ zs := by
        have hi' : i < zs.length := by omega
        simp [List.getD, hi']
      exact u8_bounds (hw _ hm)
    · obtain ⟨b, off, spot⟩ := x
      have h1 := hc 0 (by omega)
      have hspot : spot = none := by simpa [Addr.add] using World.cell?_spot h1
      subst hspot
      exact ⟨b, off, rfl⟩

theorem inRow_below {w w' : World} {a : Option Addr} {len : Nat} {zs : List Int} (h : InRow w a len zs) (hb : Below w.heap.size w w') : InRow w' a len zs :=
  ⟨fun x hx i hi => by
    have hc := h.cell x hx i hi
    exact (hb.cell (World.block_lt_of_cell? w _ hc)).trans hc, h.fit, h.some, h.small⟩
end Go.Proofs.YtjcdcaannajnpaaGreatDoor
