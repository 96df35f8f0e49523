/- A slice of ways that came in, as the row's step hands it to a walk. -/
import Derived.Test.YthimndilobadeaaDoorNet
import Derived.Deep.SlicePairs
import Derived.Deep.Strs
namespace Go.Proofs.YthimndilobadeaaDoor
open Go.RowKit Go.ChangeShapes Go.WideShapes

theorem ba_len (s : ByteArray) {n : Nat} (h : s.size ≤ n) : s.data.toList.length ≤ n := by
  have e : s.data.toList.length = s.size := Array.length_toList
  omega
theorem open_texts {H : Type} {enc : TypeId × Value → H} {W : World} {base : Nat} {spare : Nat → Bool} {held : Bool} {fuel : Nat} {cs : List Value} {x : DataW H × List MemPlace}
    (h : DataW.trod enc Tryd.prog W base spare held fuel 35 cs = some x) : ∃ a len cap l, cs = [.slice a len cap] ∧ RawTx W a len l := by
  rcases Go.Deep.open_strs Tryd.underlying35 Tryd.underlying9 (by kernel_rfl) h with ⟨hcs, _⟩ | ⟨y, len, cap, m, Sx, hcs, _, hl, hm, hmm, _, hx⟩
  · exact ⟨none, 0, 0, [], hcs, rfl, by omega, (fun h => absurd h (by omega)), (fun _ _ h => by cases h), (fun i hi => absurd hi (by omega))⟩
  · have hlm : len ≤ m := by rw [hmm]; split <;> omega
    have hat : ∀ i, i < len → txAt ((List.range len).map fun i => (Sx i).data.toList) i = (Sx i).data.toList := fun i hi => by simp [txAt, List.getD, hi]
    refine ⟨some y, len, cap, (List.range len).map fun i => (Sx i).data.toList, hcs, by simp, by simp [maxLen] at hm; omega, fun h0 => ?_, fun b o hy i hi => ?_, fun i hi => ?_⟩
    · obtain ⟨b, off, spot⟩ := y
      have h1 := (hx 0 (by omega)).1
      have hspot : spot = none := by simpa [Addr.add] using World.cell?_spot h1
      subst hspot
      exact ⟨b, off, rfl⟩
    · cases hy
      rw [hat i hi]
      have h1 := (hx i (by omega)).1
      rw [Addr.add_lit] at h1
      rw [h1]
    · rw [hat i hi]
      exact Nat.le_trans (ba_len _ (hx i (by omega)).2) (by simp [maxLen])
theorem open_net {H : Type} {enc : TypeId × Value → H} {W : World} {base : Nat} {spare : Nat → Bool} {held : Bool} {fuel : Nat} {cs : List Value} {a : Option Addr} {len cap : Nat} {x : DataW H × List MemPlace} (hc : cs = [.slice a len cap])
    (h : DataW.trod enc Tryd.prog W base spare held fuel 22 cs = some x) : ∃ n, RawNet W a len n := by
  rcases Go.Deep.open_slice_pairs Tryd.underlying22 Tryd.underlying37 (by kernel_rfl) rfl rfl (by kernel_rfl) (by kernel_rfl) h with ⟨hcs, _⟩ | ⟨y, len', cap', m, n, V0, V1, D0, D1, P0, P1, hcs, _, hl, hm, hmm, _, hx⟩
  · rw [hc] at hcs
    simp at hcs
    obtain ⟨rfl, rfl, rfl⟩ := hcs
    exact ⟨[], rfl, by omega, fun h => absurd h (by omega), (fun _ _ h => by cases h)⟩
  · rw [hc] at hcs
    simp at hcs
    obtain ⟨rfl, rfl, rfl⟩ := hcs
    have hlm : len ≤ m := by rw [hmm]; split <;> omega
    have each : ∀ i, i < len → ∃ p : Wy, ∃ x cx y' cy, W.cell? (y.add (i * 2)) = some (.slice x p.1.length cx) ∧ W.cell? (y.add (i * 2 + 1)) = some (.slice y' p.2.length cy) ∧ RawTx W x p.1.length p.1 ∧ RawTx W y' p.2.length p.2 := by
      intro i hi
      obtain ⟨e0, e1, t0, t1⟩ := hx i (by omega)
      obtain ⟨a0, l0, k0, p0, hc0, r0⟩ := open_texts t0
      obtain ⟨a1, l1, k1, p1, hc1, r1⟩ := open_texts t1
      simp at hc0 hc1
      obtain rfl := r0.long
      obtain rfl := r1.long
      exact ⟨(p0, p1), a0, k0, a1, k1, by rw [e0, hc0], by rw [e1, hc1], r0, r1⟩
    obtain ⟨f, hf⟩ := Go.Deep.choose_lt each
    have hat : ∀ i, i < len → wyAt ((List.range len).map f) i = f i := fun i hi => by simp [wyAt, List.getD, hi]
    refine ⟨(List.range len).map f, by simp, by simp [maxLen] at hm; omega, fun h0 => ?_, fun b o hy i hi => ?_⟩
    · obtain ⟨b, off, spot⟩ := y
      obtain ⟨_, _, _, _, h1, _⟩ := hf 0 h0
      have hspot : spot = none := by simpa [Addr.add] using World.cell?_spot h1
      subst hspot
      exact ⟨b, off, rfl⟩
    · cases hy
      rw [hat i hi]
      obtain ⟨x, cx, y', cy, e0, e1, r0, r1⟩ := hf i hi
      rw [Addr.add_lit] at e0 e1
      exact ⟨x, cx, y', cy, e0, by rw [Nat.add_assoc]; exact e1, r0, r1⟩
end Go.Proofs.YthimndilobadeaaDoor
