/- slices.Clone of a row of pieces, and of a row of Froms (each one's row stays shared). -/
import Derived.Test.YtdcahilfmhkmiaaGreatDoorClone
import Derived.Test.YtdcahilfmhkmiaaGreatDoorRcvPlain
import Derived.Test.YtdcahilfmhkmiaaGreatDoorRcvCopy
namespace Go.Proofs.YtdcahilfmhkmiaaGreatDoor
open Go.RowKit

set_option maxHeartbeats 1000000 in
set_option maxRecDepth 100000 in
theorem clonePs_calls {a : Option Addr} {len cap : Nat} {l : List Pc} {w : World} (h : InPcs w a len l) :
    Calls Tryz.prog 186 #[.slice a len cap] w fun e w' => ∃ x c, e = .returned (.slice x len c) ∧ PcsOwn (fun b => w.heap.size ≤ b ∧ b < w'.heap.size) w' x len l ∧ Below w.heap.size w w' := by
  have hs := h.most
  have hl := h.long
  have q22 : ∀ (w : World) (a : Option Addr) (n c n' c' : Nat), (binOp .eql 23 (.slice a n c) (.slice none n' c')).run Tryz.prog w = .ok (.bool a.isNone) w := fun w a n c n' c' => Lib.run_eql_slice_nil w _ _ a n c n' c' Tryz.underlying23
  cases a with
  | none =>
    have h0 : len = 0 := by
      rcases Nat.eq_zero_or_pos len with e | e
      · exact e
      · obtain ⟨_, _, e⟩ := h.there e
        cases e
    subst h0
    have hn : l = [] := List.eq_nil_of_length_eq_zero hl
    subst hn
    clear h
    go_enter Tryz.func186, Tryz.ntmps186
    go_wp2_with fail
    go_ret
    exact ⟨none, 0, rfl, ⟨inPcs_none, fun _ _ _ i hi => by omega, fun b hb => absurd hb.1 (by omega)⟩, Below.refl _ _⟩
  | some p =>
    have hyy : (Tryz.prog.info? 121).map (fun i => (i.zero, i.size, i.bytes)) = some (some (.agg #[.int .i64 0, gs []]), 2, 24) := by kernel_rfl
    obtain ⟨i1, hi1, hy0, hy1, hy2⟩ := info_parts hyy
    have HJ := Lib.hid (And.intro hi1 (And.intro hy0 (And.intro hy1 hy2)))
    have hft := h.fit
    have HFT := Lib.hid hft
    have B8 := Lib.hid ((Below.refl w.heap.size w).alloc (Nat.le_refl _) (.cells #[] 121))
    have E8 := Lib.hid (heap_alloc_new w (.cells #[] 121))
    have HH := Lib.hid (h.below B8.out).cells
    clear h hyy hi1 hy0 hy1 hy2 hft
    go_enter Tryz.func186, Tryz.ntmps186
    go_wp2_with (at_builtin; refine wpList_copy_cells _ rfl _ _ 23 rfl w.heap.size 121 i1 _ 2 24 Tryz.underlying23 HJ.out.1 HJ.out.2.1 HJ.out.2.2.1 HJ.out.2.2.2 rfl (by decide) (by decide) rfl (cells_empty E8.out (Nat.le_refl _)) cap rfl HH.out B8.out.size ?_; intro g cp w1 own gr _; have OWN := Lib.hid own; have GR := Lib.hid (B8.out.grown gr B8.out.size (fun k e => by cases e; exact Nat.le_refl _)); clear own gr)
    go_ret
    obtain ⟨po, g1, g2⟩ := pcs_own OWN.out hl hs (fun i hi => HFT.out i hi)
    exact ⟨some ⟨g, 0, none⟩, cp, rfl, ⟨po.in', po.free, fun b hb => by have := po.blk b hb; subst this; exact ⟨g1, g2⟩⟩, GR.out⟩

/-- The cells of a row of Froms, whatever each one's row. -/
def FrCells (S : Nat → Prop) (w : World) (len : Nat) (n : Frs) (xs : List Value) : Prop :=
  xs.length = len * 2 ∧ ∀ i, i < len → ∃ x cx, xs[i * 2]? = some (.int .i64 (frAt n i).1) ∧ xs[i * 2 + 1]? = some (.slice x (frAt n i).2.length cx) ∧ InLg w x (frAt n i).2.length (frAt n i).2 ∧ LgS S x (frAt n i).2.length
theorem InFrs.cells {S : Nat → Prop} {w : World} {a : Option Addr} {len : Nat} {n : Frs} (h : InFrs S w a len n) : ∃ xs, FrCells S w len n xs ∧ CellRow w 2 a len xs := by
  rcases Nat.eq_zero_or_pos len with e | e
  · subst e
    exact ⟨[], ⟨rfl, fun i hi => by omega⟩, by simp, by omega, fun h => by omega, fun b o e j u hj => by simp at hj, fun u hu => by cases hu⟩
  obtain ⟨b, o, rfl⟩ := h.there e
  refine ⟨(List.range (len * 2)).map fun j => (w.cell? ⟨b, o + j, none⟩).getD (.int .i64 0), ⟨by simp, fun i hi => ?_⟩, by simp, h.most, fun _ => ⟨b, o, rfl⟩, fun b' o' e j u hj => ?_, fun u hu => ?_⟩
  · obtain ⟨_, x, cx, c0, c1, r, s⟩ := h.cell b o rfl i hi
    have h0 : i * 2 < len * 2 := by omega
    have h1 : i * 2 + 1 < len * 2 := by omega
    refine ⟨x, cx, ?_, ?_, r, s⟩
    · simp [h0, c0]
    · simp [h1, ← Nat.add_assoc, c1]
  · cases e
    have hl := (List.getElem?_eq_some_iff.1 hj).1
    simp at hl
    simp [hl] at hj
    obtain ⟨_, x, cx, c0, c1, r, s⟩ := h.cell b o rfl (j / 2) (by omega)
    by_cases hp : j % 2 = 0
    · rw [show o + j / 2 * 2 = o + j by omega] at c0
      rw [c0] at hj ⊢
      simpa using hj
    · rw [show o + j / 2 * 2 + 1 = o + j by omega] at c1
      rw [c1] at hj ⊢
      simpa using hj
  · obtain ⟨j, hj, rfl⟩ := List.mem_map.1 hu
    have hl : j < len * 2 := by simpa using hj
    obtain ⟨_, x, cx, c0, c1, r, s⟩ := h.cell b o rfl (j / 2) (by omega)
    by_cases hp : j % 2 = 0
    · rw [show o + j / 2 * 2 = o + j by omega] at c0
      rw [c0]; rfl
    · rw [show o + j / 2 * 2 + 1 = o + j by omega] at c1
      rw [c1]; rfl

set_option maxHeartbeats 1000000 in
set_option maxRecDepth 100000 in
theorem cloneFr_calls {a : Option Addr} {len cap : Nat} {xs : List Value} {w : World} (h : CellRow w 2 a len xs) (h0 : 0 < len) :
    Calls Tryz.prog 187 #[.slice a len cap] w fun e w' => ∃ g c, e = .returned (.slice (some ⟨g, 0, none⟩) len c) ∧ w'.ownsRow w.heap.size 159 2 (.slice (some ⟨g, 0, none⟩) len c) len xs ∧ Below w.heap.size w w' := by
  have q22 : ∀ (w : World) (a : Option Addr) (n c n' c' : Nat), (binOp .eql 24 (.slice a n c) (.slice none n' c')).run Tryz.prog w = .ok (.bool a.isNone) w := fun w a n c n' c' => Lib.run_eql_slice_nil w _ _ a n c n' c' Tryz.underlying24
  obtain ⟨b, o, rfl⟩ := h.there h0
  have hyy : (Tryz.prog.info? 159).map (fun i => (i.zero, i.size, i.bytes)) = some (some (.agg #[.int .i64 0, .slice none 0 0]), 2, 32) := by kernel_rfl
  obtain ⟨i1, hi1, hy0, hy1, hy2⟩ := info_parts hyy
  have HJ := Lib.hid (And.intro hi1 (And.intro hy0 (And.intro hy1 hy2)))
  have B8 := Lib.hid ((Below.refl w.heap.size w).alloc (Nat.le_refl _) (.cells #[] 159))
  have E8 := Lib.hid (heap_alloc_new w (.cells #[] 159))
  have HH := Lib.hid (h.below B8.out)
  clear h hyy hi1 hy0 hy1 hy2
  go_enter Tryz.func187, Tryz.ntmps187
  go_wp2_with (at_builtin; refine wpList_copy_cells _ rfl _ _ 24 rfl w.heap.size 159 i1 _ 2 32 Tryz.underlying24 HJ.out.1 HJ.out.2.1 HJ.out.2.2.1 HJ.out.2.2.2 rfl (by decide) (by decide) rfl (cells_empty E8.out (Nat.le_refl _)) cap rfl HH.out B8.out.size ?_; intro g cp w1 own gr _; have OWN := Lib.hid own; have GR := Lib.hid (B8.out.grown gr B8.out.size (fun k e => by cases e; exact Nat.le_refl _)); clear own gr)
  go_ret
  exact ⟨g, cp, rfl, OWN.out, GR.out⟩
end Go.Proofs.YtdcahilfmhkmiaaGreatDoor
