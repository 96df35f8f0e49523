/- A Rcv as it comes in: its fields. -/
import Derived.Test.YtdcahilfmhkmiaaGreatDoorRcv
import Derived.Test.YtdcahilfmhkmiaaGreatDoorOpenSeg
import Derived.Test.YtdcahilfmhkmiaaGreatDoorPackB
import Derived.Deep.SlicePairs
namespace Go.Proofs.YtdcahilfmhkmiaaGreatDoor
open Go.RowKit Go.ChangeShapes Go.WideShapes Go.ChangeAt

theorem open_longs {H : Type} {enc : TypeId × Value → H} {W : World} {base : Nat} {spare : Nat → Bool} {held : Bool} {fuel : Nat} {cs : List Value} {x : DataW H × List MemPlace}
    (h : DataW.trod enc Tryz.prog W base spare held fuel 130 cs = some x) : ∃ a len cap l, cs = [.slice a len cap] ∧ RawLg W a len l := by
  rcases open_ints Tryz.underlying130 Tryz.underlying2 (by kernel_rfl) h with ⟨hcs, _⟩ | ⟨y, len, cap, zs, hcs, _, hl, hm, hz, _, hcell, hwz⟩
  · exact ⟨none, 0, 0, [], hcs, rfl, by omega, (fun h => absurd h (by omega)), (fun _ _ h => by cases h), (fun i hi => absurd hi (by omega))⟩
  · have hlz : len ≤ zs.length := by rw [hz]; split <;> omega
    have hat : ∀ i, i < len → lgAt (zs.take len) i = zs.getD i 0 := fun i hi => by simp [lgAt, List.getD, hi]
    refine ⟨some y, len, cap, zs.take len, hcs, by simp; omega, by simp [maxLen] at hm; omega, fun h0 => ?_, fun b o hy i hi => ?_, fun i hi => ?_⟩
    · obtain ⟨b, off, spot⟩ := y
      have h1 := hcell 0 (by omega)
      have hspot : spot = none := by simpa [Addr.add] using World.cell?_spot h1
      subst hspot
      exact ⟨b, off, rfl⟩
    · cases hy
      rw [hat i hi]
      have h1 := hcell i (by omega)
      rw [Addr.add_lit] at h1
      exact h1
    · rw [hat i hi]
      have hi' : i < zs.length := by omega
      have := i64_bounds (hwz (zs.getD i 0) (by simp [List.getD, hi']))
      exact this
theorem open_froms {H : Type} {enc : TypeId × Value → H} {W : World} {base : Nat} {spare : Nat → Bool} {held : Bool} {fuel : Nat} {cs : List Value} {x : DataW H × List MemPlace}
    (h : DataW.trod enc Tryz.prog W base spare held fuel 79 cs = some x) : ∃ a len cap n, cs = [.slice a len cap] ∧ RawFrs W a len n := by
  rcases Go.Deep.open_slice_pairs Tryz.underlying79 Tryz.underlying202 (by kernel_rfl) rfl rfl (by kernel_rfl) (by kernel_rfl) h with ⟨hcs, _⟩ | ⟨y, len, cap, m, n, V0, V1, D0, D1, P0, P1, hcs, _, hl, hm, hmm, _, hx⟩
  · exact ⟨none, 0, 0, [], hcs, rfl, by omega, (fun h => absurd h (by omega)), (fun _ _ h => by cases h), (fun i hi => absurd hi (by omega))⟩
  · have hlm : len ≤ m := by rw [hmm]; split <;> omega
    have each : ∀ i, i < len → ∃ p : Fr, ∃ x cx, W.cell? (y.add (i * 2)) = some (.int .i64 p.1) ∧ W.cell? (y.add (i * 2 + 1)) = some (.slice x p.2.length cx) ∧ RawLg W x p.2.length p.2 ∧ I64 p.1 := by
      intro i hi
      obtain ⟨e0, e1, t0, t1⟩ := hx i (by omega)
      obtain ⟨z, hz, hzw⟩ := int_field t0
      obtain ⟨a1, l1, k1, p1, hc1, r1⟩ := open_longs t1
      simp at hc1
      obtain rfl := r1.long
      exact ⟨(z, p1), a1, k1, by rw [e0, hz], by rw [e1, hc1], r1, hzw⟩
    obtain ⟨f, hf⟩ := Go.Deep.choose_lt each
    have hat : ∀ i, i < len → frAt ((List.range len).map f) i = f i := fun i hi => by simp [frAt, List.getD, hi]
    refine ⟨some y, len, cap, (List.range len).map f, hcs, by simp, by simp [maxLen] at hm; omega, fun h0 => ?_, fun b o hy i hi => ?_, fun i hi => ?_⟩
    · obtain ⟨b, off, spot⟩ := y
      obtain ⟨_, _, h1, _⟩ := hf 0 h0
      have hspot : spot = none := by simpa [Addr.add] using World.cell?_spot h1
      subst hspot
      exact ⟨b, off, rfl⟩
    · cases hy
      rw [hat i hi]
      obtain ⟨x, cx, e0, e1, r0, _⟩ := hf i hi
      rw [Addr.add_lit] at e0 e1
      exact ⟨x, cx, e0, by rw [Nat.add_assoc]; exact e1, r0⟩
    · rw [hat i hi]
      obtain ⟨_, _, _, _, _, hw⟩ := hf i hi
      exact hw
theorem open_pcs {H : Type} {enc : TypeId × Value → H} {W : World} {base : Nat} {spare : Nat → Bool} {held : Bool} {fuel : Nat} {v : Value} {x : DataW H × List MemPlace}
    (h : DataW.trod enc Tryz.prog W base spare held fuel 78 [v] = some x) : ∃ a len cap l, v = .slice a len cap ∧ RawPcs W a len l := by
  have hs : ∃ a len cap, v = .slice a len cap := by
    rcases Go.Deep.open_slice_pairs Tryz.underlying78 Tryz.underlying200 (by kernel_rfl) rfl rfl (by kernel_rfl) (by kernel_rfl) h with ⟨hcs, _⟩ | ⟨y, len, cap, m, n, V0, V1, D0, D1, P0, P1, hcs, _⟩
    · simp at hcs; exact ⟨_, _, _, hcs⟩
    · simp at hcs; exact ⟨_, _, _, hcs⟩
  obtain ⟨a, len, cap, rfl⟩ := hs
  obtain ⟨l, hl⟩ := open_pieces rfl h
  exact ⟨a, len, cap, l, rfl, hl⟩
theorem list_seven {l : List Value} (h : l.length = 7) : ∃ a b c d e f g, l = [a, b, c, d, e, f, g] := by
  match l, h with
  | [a, b, c, d, e, f, g], _ => exact ⟨a, b, c, d, e, f, g, rfl⟩
set_option maxRecDepth 100000 in
theorem open_rcv {H : Type} {enc : TypeId × Value → H} {w : World} {base : Nat} {spare : Nat → Bool} {held : Bool} {r : Reach} {b0 : Nat} {v : Value} {d : DataW H} {qs : List MemPlace} (hv : Value.okWide Tryz.prog w r b0 81 v) (h : DataW.Trod enc Tryz.prog w base spare held 81 v d qs) :
    ∃ (rd : Int) (pa : Option Addr) (pl pc : Nat) (ps : List Pc) (ed sz cp en : Int) (fa : Option Addr) (fl fc : Nat) (n : Frs), v = rcvV rd pa pl pc ed sz cp en fa fl fc ∧ (I64 rd ∧ I64 ed ∧ I64 sz ∧ I64 cp ∧ I64 en) ∧ RawPcs w pa pl ps ∧ RawFrs w fa fl n := by
  obtain ⟨cs, rfl, hsz⟩ := okWide_struct Tryz.underlying81 hv
  have hC : Tryz.prog.cellsOf 81 = 7 := by kernel_rfl
  obtain ⟨l⟩ := cs
  obtain ⟨v0, v1, v2, v3, v4, v5, v6, rfl⟩ := list_seven (hsz.trans hC)
  obtain ⟨fuel, hf⟩ := h
  obtain ⟨xs, n, _, _, _, hlen, hg⟩ := DataW.trod_struct Tryz.underlying81 hf
  have hl7 : xs.length = 7 := hlen
  obtain ⟨_, g0⟩ := field_at (by kernel_rfl) hg 0 _ rfl v0 rfl (by omega)
  obtain ⟨_, g1⟩ := field_at (by kernel_rfl) hg 1 _ rfl v1 rfl (by omega)
  obtain ⟨_, g2⟩ := field_at (by kernel_rfl) hg 2 _ rfl v2 rfl (by omega)
  obtain ⟨_, g3⟩ := field_at (by kernel_rfl) hg 3 _ rfl v3 rfl (by omega)
  obtain ⟨_, g4⟩ := field_at (by kernel_rfl) hg 4 _ rfl v4 rfl (by omega)
  obtain ⟨_, g5⟩ := field_at (by kernel_rfl) hg 5 _ rfl v5 rfl (by omega)
  obtain ⟨_, g6⟩ := field_at (by kernel_rfl) hg 6 _ rfl v6 rfl (by omega)
  obtain ⟨rd, rfl, h0⟩ := int_field g0
  obtain ⟨pa, pl, pc, ps, rfl, hp⟩ := open_pcs g1
  obtain ⟨ed, rfl, h2⟩ := int_field g2
  obtain ⟨sz, rfl, h3⟩ := int_field g3
  obtain ⟨cp, rfl, h4⟩ := int_field g4
  obtain ⟨en, rfl, h5⟩ := int_field g5
  obtain ⟨fa, fl, fc, n, e6, hfr⟩ := open_froms g6
  simp at e6
  subst e6
  exact ⟨rd, pa, pl, pc, ps, ed, sz, cp, en, fa, fl, fc, n, rfl, ⟨h0, h2, h3, h4, h5⟩, hp, hfr⟩
end Go.Proofs.YtdcahilfmhkmiaaGreatDoor
