/- slices.Clone of a row of numbers. -/
import Derived.Test.YtdcahilfmhkmiaaGreatDoorSubB
import Derived.Lib.SliceRun
namespace Go.Proofs.YtdcahilfmhkmiaaGreatDoor
open Go.RowKit

set_option maxHeartbeats 1000000 in
set_option maxRecDepth 100000 in
theorem clone_calls {a : Option Addr} {len cap : Nat} {l : Lg} {w : World} (h : InLg w a len l) :
    Calls Tryz.prog 188 #[.slice a len cap] w fun e w' => ∃ x c, e = .returned (.slice x len c) ∧ InLg w' x len l ∧ LgFree w' x len ∧ (∀ b, LgB x len b → w.heap.size ≤ b ∧ b < w'.heap.size) ∧ len ≤ c ∧ Below w.heap.size w w' := by
  have hs := h.small
  have hl := h.long
  have q22 : ∀ (w : World) (a : Option Addr) (n c n' c' : Nat), (binOp .eql 130 (.slice a n c) (.slice none n' c')).run Tryz.prog w = .ok (.bool a.isNone) w := fun w a n c n' c' => Lib.run_eql_slice_nil w _ _ a n c n' c' Tryz.underlying130
  cases a with
  | none =>
    have h0 : len = 0 := by
      rcases Nat.eq_zero_or_pos len with e | e
      · exact e
      · obtain ⟨_, _, e⟩ := h.there e
        cases e
    subst h0
    have hn : l = [] := List.eq_nil_of_length_eq_zero hl
    subst hn
    clear h
    go_enter Tryz.func188, Tryz.ntmps188
    go_wp2_with fail
    go_ret
    exact ⟨none, 0, rfl, inLg_nil, lgFree_nil, fun b hb => absurd hb.1 (by omega), Nat.le_refl _, Below.refl _ _⟩
  | some p =>
    have hyy : (Tryz.prog.info? 2).map (fun i => (i.zero, i.size, i.bytes)) = some (some (.int .i64 0), 1, 8) := by kernel_rfl
    obtain ⟨i1, hi1, hy0, hy1, hy2⟩ := info_parts hyy
    have HJ := Lib.hid (And.intro hi1 (And.intro hy0 (And.intro hy1 hy2)))
    have hft := h.fit
    have HFT := Lib.hid hft
    have B8 := Lib.hid ((Below.refl w.heap.size w).alloc (Nat.le_refl _) (.cells #[] 2))
    have E8 := Lib.hid (heap_alloc_new w (.cells #[] 2))
    have HH := Lib.hid (h.below B8.out).cells
    clear h hyy hi1 hy0 hy1 hy2 hft
    go_enter Tryz.func188, Tryz.ntmps188
    go_wp2_with (at_builtin; refine wpList_copy_cells _ rfl _ _ 130 rfl w.heap.size 2 i1 _ 1 8 Tryz.underlying130 HJ.out.1 HJ.out.2.1 HJ.out.2.2.1 HJ.out.2.2.2 rfl (by decide) (by decide) rfl (cells_empty E8.out (Nat.le_refl _)) cap rfl HH.out B8.out.size ?_; intro g cp w1 own gr _; have OWN := Lib.hid own; have GR := Lib.hid (B8.out.grown gr B8.out.size (fun k e => by cases e; exact Nat.le_refl _)); clear own gr)
    go_ret
    obtain ⟨i2, f2, g1, g2⟩ := lg_own OWN.out hs (fun i hi => HFT.out i hi)
    exact ⟨some ⟨g, 0, none⟩, cp, rfl, i2, f2, fun b hb => by obtain ⟨_, o, e⟩ := hb; cases e; exact ⟨g1, g2⟩, own_room OWN.out, GR.out⟩
end Go.Proofs.YtdcahilfmhkmiaaGreatDoor
