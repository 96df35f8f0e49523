/- A slice of pieces that came in, as the row's step hands it to a walk. -/
import Derived.Test.YtnfnghcajhmnpaaPieceLaw
import Derived.Deep.SlicePairs
namespace Go.Proofs.Ytnfnghcajhmnpaa
open Go.RowKit Go.ChangeShapes Go.WideShapes

theorem ba_length (s : ByteArray) {n : Nat} (h : s.size ≤ n) : s.data.toList.length ≤ n := by
  have e : s.data.toList.length = s.size := Array.length_toList
  omega
theorem open_pieces {H : Type} {enc : TypeId × Value → H} {W : World} {base : Nat} {spare : Nat → Bool} {held : Bool} {fuel : Nat} {cs : List Value} {a : Option Addr} {len cap : Nat} {x : DataW H × List MemPlace} (hc : cs = [.slice a len cap])
    (h : DataW.trod enc Try.prog W base spare held fuel 22 cs = some x) : ∃ l, RawPcs W a len l := by
  rcases Go.Deep.open_slice_pairs Try.underlying22 Try.underlying50 (by kernel_rfl) rfl rfl (by kernel_rfl) (by kernel_rfl) h with ⟨hcs, _⟩ | ⟨y, len', cap', m, n, V0, V1, D0, D1, P0, P1, hcs, _, hl, hm, hmm, _, hx⟩
  · rw [hc] at hcs
    simp at hcs
    obtain ⟨rfl, rfl, rfl⟩ := hcs
    exact ⟨[], rfl, by omega, fun h => absurd h (by omega), (fun _ _ h => by cases h), (fun i hi => absurd hi (by omega))⟩
  · rw [hc] at hcs
    simp at hcs
    obtain ⟨rfl, rfl, rfl⟩ := hcs
    have hlm : len ≤ m := by rw [hmm]; split <;> omega
    have each : ∀ i, i < len → ∃ p : Pc, W.cell? (y.add (i * 2)) = some (.int .i64 p.1) ∧ W.cell? (y.add (i * 2 + 1)) = some (gs p.2) ∧ (Lit.int .i64 p.1).wf = true ∧ p.2.length ≤ maxLen := by
      intro i hi
      obtain ⟨e0, e1, t0, t1⟩ := hx i (by omega)
      obtain ⟨z, hz, _, hw⟩ := DataW.trod_int Try.underlying2 t0
      obtain ⟨s, hs, _, hsz⟩ := DataW.trod_string Try.underlying9 t1
      simp at hz hs
      exact ⟨(z, s.data.toList), by rw [e0, hz], by rw [e1, hs], hw, ba_length s hsz⟩
    obtain ⟨f, hf⟩ := Go.Deep.choose_lt each
    have hat : ∀ i, i < len → pcAt ((List.range len).map f) i = f i := fun i hi => by simp [pcAt, List.getD, hi]
    refine ⟨(List.range len).map f, by simp, by simp [maxLen] at hm; omega, fun h0 => ?_, fun b o hy i hi => ?_, fun i hi => ?_⟩
    · obtain ⟨b, off, spot⟩ := y
      have h1 := (hf 0 h0).1
      have hspot : spot = none := by simpa [Addr.add] using World.cell?_spot h1
      subst hspot
      exact ⟨b, off, rfl⟩
    · cases hy
      rw [hat i hi]
      obtain ⟨e0, e1, _, _⟩ := hf i hi
      rw [Addr.add_lit] at e0 e1
      exact ⟨e0, by rw [Nat.add_assoc]; exact e1⟩
    · rw [hat i hi]
      obtain ⟨_, _, hw, hl⟩ := hf i hi
      have := i64_bounds hw
      exact ⟨this.1, this.2, by simpa [maxLen] using hl⟩
end Go.Proofs.Ytnfnghcajhmnpaa
