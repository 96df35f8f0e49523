/- The program's ring: what flies in one direction, in ten cells of a block. -/
import Derived.Test.YthimndilobadeaaDoorFly
import Derived.Test.YthimndilobadeaaDoorTxMark
import Derived.Deep.QuietTactic
import Derived.BigQuiet
namespace Go.Proofs.YthimndilobadeaaDoor
open Go.RowKit

/-- The ring of l stands in block b from o on; its first thing is at f. -/
structure RingAt (w : World) (b o f : Nat) (l : Tx) : Prop where
  first : f < 8
  most : l.length ≤ 8
  slot : ∀ j, j < 8 → ∃ t, w.cell? ⟨b, o + j, none⟩ = some (gs t)
  at8 : w.cell? ⟨b, o + 8, none⟩ = some (.int .i64 (f : Int))
  at9 : w.cell? ⟨b, o + 9, none⟩ = some (.int .i64 (l.length : Int))
  item : ∀ j, j < l.length → w.cell? ⟨b, o + (f + j) % 8, none⟩ = some (gs (txAt l j))
  free : ∀ j, j < 10 → w.frozen? ⟨b, o + j, none⟩ = false
theorem RingAt.lt {w : World} {b o f : Nat} {l : Tx} (h : RingAt w b o f l) : b < w.heap.size := World.block_lt_of_cell? w _ h.at8
theorem RingAt.below {w w' : World} {b o f : Nat} {l : Tx} (h : RingAt w b o f l) (hb : Below w.heap.size w w') : RingAt w' b o f l :=
  have c : ∀ {p : Addr} {x : Value}, w.cell? p = some x → w'.cell? p = some x := fun h => (hb.cell (World.block_lt_of_cell? w _ h)).trans h
  ⟨h.first, h.most, fun j hj => by obtain ⟨t, ht⟩ := h.slot j hj; exact ⟨t, c ht⟩, c h.at8, c h.at9, fun j hj => c (h.item j hj), fun j hj => (hb.frozen (p := ⟨b, o + j, none⟩) h.lt).trans (h.free j hj)⟩
/-- Nothing has turned but ten cells of block b, from o on. -/
structure Ten (w w' : World) (b o : Nat) : Prop where
  grown : w.grownBy w' (some b)
  same : w'.heap.size = w.heap.size
  cell : ∀ x, x < o ∨ o + 10 ≤ x → w'.cell? ⟨b, x, none⟩ = w.cell? ⟨b, x, none⟩
  frozen : ∀ x, w'.frozen? ⟨b, x, none⟩ = w.frozen? ⟨b, x, none⟩
theorem Ten.refl (w : World) (b o : Nat) : Ten w w b o := ⟨tgrown_below (Below.refl _ _) _, rfl, fun _ _ => rfl, fun _ => rfl⟩
theorem Ten.trans {x y z : World} {b o : Nat} (h : Ten x y b o) (k : Ten y z b o) : Ten x z b o :=
  ⟨tgrown_trans h.grown k.grown, k.same.trans h.same, fun i hi => (k.cell i hi).trans (h.cell i hi), fun i => (k.frozen i).trans (h.frozen i)⟩
theorem ten_set (w : World) (b o j : Nat) (hj : j < 10) (v : Value) : Ten w (w.setCell ⟨b, o + j, none⟩ v) b o :=
  ⟨tgrown_set _ _ _ _, by simp, fun x hx => World.cell?_setCell_other _ _ _ _ (fun e => by injection e; omega), fun x => World.frozen?_setCell _ _ _ _⟩
theorem ten_drewN (w : World) (b o n : Nat) : Ten w (w.drewN n) b o := ⟨⟨rfl, rfl, rfl, Nat.le_refl _, fun _ _ _ => rfl⟩, rfl, fun _ _ => rfl, fun _ => rfl⟩
theorem RingAt.drewN {w : World} {b o f : Nat} {l : Tx} (h : RingAt w b o f l) (n : Nat) : RingAt (w.drewN n) b o f l := h.below (tx_drewN (Below.refl _ _) n)
theorem txAt_app {l : Tx} {t : List UInt8} {j : Nat} : txAt (l ++ [t]) j = if j < l.length then txAt l j else if j = l.length then t else [] := by
  unfold txAt
  simp only [List.getD_eq_getElem?_getD]
  split
  · rename_i h; rw [List.getElem?_append_left h]
  · rename_i h
    split
    · rename_i e; subst e; simp
    · rename_i e; rw [List.getElem?_eq_none (by simp; omega)]; rfl
theorem ring_push {w : World} {b o f : Nat} {l : Tx} (h : RingAt w b o f l) (t : List UInt8) (hl : l.length < 8) :
    RingAt ((w.setCell ⟨b, o + (f + l.length) % 8, none⟩ (gs t)).setCell ⟨b, o + 9, none⟩ (.int .i64 ((l.length : Int) + 1))) b o f (l ++ [t]) := by
  have hf := h.first
  obtain ⟨u, hu⟩ := h.slot ((f + l.length) % 8) (by omega)
  have other : ∀ x, x ≠ (f + l.length) % 8 → x ≠ 9 → ((w.setCell ⟨b, o + (f + l.length) % 8, none⟩ (gs t)).setCell ⟨b, o + 9, none⟩ (.int .i64 ((l.length : Int) + 1))).cell? ⟨b, o + x, none⟩ = w.cell? ⟨b, o + x, none⟩ := fun x h1 h2 =>
    (World.cell?_setCell_other _ _ _ _ (fun e => by injection e; omega)).trans (World.cell?_setCell_other _ _ _ _ (fun e => by injection e; omega))
  have self : ((w.setCell ⟨b, o + (f + l.length) % 8, none⟩ (gs t)).setCell ⟨b, o + 9, none⟩ (.int .i64 ((l.length : Int) + 1))).cell? ⟨b, o + (f + l.length) % 8, none⟩ = some (gs t) :=
    (World.cell?_setCell_other _ _ _ _ (fun e => by injection e; omega)).trans (World.cell?_setCell_same _ _ _ hu)
  refine ⟨hf, by simp; omega, fun j hj => ?_, (other 8 (by omega) (by omega)).trans h.at8, ?_, fun j hj => ?_, fun j hj => ?_⟩
  · by_cases e : j = (f + l.length) % 8
    · subst e; exact ⟨t, self⟩
    · obtain ⟨x, hx⟩ := h.slot j hj
      exact ⟨x, (other j e (by omega)).trans hx⟩
  · rw [World.cell?_setCell_same _ _ _ ((World.cell?_setCell_other _ _ _ _ (fun e => by injection e; omega)).trans h.at9)]
    simp
  · rw [txAt_app]
    by_cases e : j < l.length
    · rw [if_pos e]
      exact (other _ (by omega) (by omega)).trans (h.item j e)
    · have e2 : j = l.length := by simp at hj; omega
      subst e2
      rw [if_neg e, if_pos rfl]
      exact self
  · rw [World.frozen?_setCell, World.frozen?_setCell]; exact h.free j hj
theorem ring_pop {w : World} {b o f : Nat} {l : Tx} (h : RingAt w b o f l) (hl : 0 < l.length) :
    RingAt ((w.setCell ⟨b, o + 8, none⟩ (.int .i64 (((f : Int) + 1) % 8))).setCell ⟨b, o + 9, none⟩ (.int .i64 ((l.length : Int) - 1))) b o ((f + 1) % 8) (l.drop 1) := by
  have hf := h.first
  have hm := h.most
  have other : ∀ x, x ≠ 8 → x ≠ 9 → ((w.setCell ⟨b, o + 8, none⟩ (.int .i64 (((f : Int) + 1) % 8))).setCell ⟨b, o + 9, none⟩ (.int .i64 ((l.length : Int) - 1))).cell? ⟨b, o + x, none⟩ = w.cell? ⟨b, o + x, none⟩ := fun x h1 h2 =>
    (World.cell?_setCell_other _ _ _ _ (fun e => by injection e; omega)).trans (World.cell?_setCell_other _ _ _ _ (fun e => by injection e; omega))
  refine ⟨by omega, by simp; omega, fun j hj => ?_, ?_, ?_, fun j hj => ?_, fun j hj => ?_⟩
  · obtain ⟨x, hx⟩ := h.slot j hj
    exact ⟨x, (other j (by omega) (by omega)).trans hx⟩
  · rw [show (((f + 1) % 8 : Nat) : Int) = ((f : Int) + 1) % 8 by omega]
    exact (World.cell?_setCell_other _ _ _ _ (fun e => by injection e; omega)).trans (World.cell?_setCell_same _ _ _ h.at8)
  · rw [World.cell?_setCell_same _ _ _ ((World.cell?_setCell_other _ _ _ _ (fun e => by injection e; omega)).trans h.at9)]
    simp; omega
  · have e : txAt (l.drop 1) j = txAt l (j + 1) := by simp [txAt, List.getD_eq_getElem?_getD]
    have e2 : ((f + 1) % 8 + j) % 8 = (f + (j + 1)) % 8 := by omega
    rw [e, e2]
    exact (other _ (by omega) (by omega)).trans (h.item (j + 1) (by simp at hj; omega))
  · rw [World.frozen?_setCell, World.frozen?_setCell]; exact h.free j hj

set_option maxHeartbeats 1000000 in
set_option maxRecDepth 100000 in
theorem ringSlot_calls {w : World} {b o f : Nat} {l : Tx} (h : RingAt w b o f l) (n : Nat) (hn : n ≤ 1000) :
    Calls Tryd.prog 30 #[.pointer (some ⟨b, o, none⟩), .int .i64 (n : Int)] w fun e w' => e = .returned (.pointer (some ⟨b, o + (f + n) % 8, none⟩)) ∧ ∃ k, w' = w.drewN k := by
  have h8 := h.at8
  have hf := h.first
  clear h
  go_enter Tryd.func30, Tryd.ntmps30
  go_wp2_with fail
  go_quiet (fail)
  go_wp2_with fail
  go_ret
  exact ⟨rfl, _, rfl⟩

set_option maxHeartbeats 1000000 in
set_option maxRecDepth 100000 in
theorem ringPush_calls {w : World} {b o f : Nat} {l : Tx} (h : RingAt w b o f l) (t : List UInt8) :
    Calls Tryd.prog 29 #[.pointer (some ⟨b, o, none⟩), gs t] w fun e w' => e = .returned (.tuple #[]) ∧ RingAt w' b o f (if l.length < 8 then l ++ [t] else l) ∧ Ten w w' b o := by
  have h8 := h.at8
  have h9 := h.at9
  have hm := h.most
  have hf := h.first
  by_cases hl : l.length < 8
  · rw [if_pos hl]
    have hcall := ringSlot_calls h l.length (by omega)
    obtain ⟨u, hu⟩ := h.slot ((f + l.length) % 8) (by omega)
    have fr := h.free ((f + l.length) % 8) (by omega)
    have fr9 := h.free 9 (by omega)
    have hpu := fun k => ring_push (h.drewN k) t hl
    have hne : ((l.length : Int) == 8) = false := by simp; omega
    generalize hq : (f + l.length) % 8 = q at *
    have hq8 : q < 8 := by omega
    have HC := Lib.hid hcall
    have HP := Lib.hid hpu
    clear hcall hpu h hq
    go_enter Tryd.func29, Tryd.ntmps29
    go_wp2_with fail
    refine HC.out.mono ?_
    rintro e w1 ⟨rfl, k, rfl⟩
    have HT := Lib.hid (((ten_drewN w b o k).trans (ten_set _ b o q (by omega) (gs t))).trans (ten_set _ b o 9 (by omega) (.int .i64 ((l.length : Int) + 1))))
    go_wp2_with fail
    go_end0
    exact ⟨rfl, HP.out k, HT.out⟩
  · rw [if_neg hl]
    have hne : (l.length : Int) = 8 := by omega
    have H := Lib.hid h
    clear h
    go_enter Tryd.func29, Tryd.ntmps29
    go_wp2_with fail
    exact bodyPost_ret (results_none rfl _ _ _) rfl ⟨rfl, H.out, Ten.refl _ _ _⟩

set_option maxHeartbeats 1000000 in
set_option maxRecDepth 100000 in
theorem ringPop_calls {w : World} {b o f : Nat} {l : Tx} (h : RingAt w b o f l) (hl : 0 < l.length) :
    Calls Tryd.prog 38 #[.pointer (some ⟨b, o, none⟩)] w fun e w' => e = .returned (gs (txAt l 0)) ∧ RingAt w' b o ((f + 1) % 8) (l.drop 1) ∧ Ten w w' b o := by
  have h8 := h.at8
  have h9 := h.at9
  have hm := h.most
  have hf := h.first
  have hcall := ringSlot_calls h 0 (by omega)
  have hit := h.item 0 hl
  have fr8 := h.free 8 (by omega)
  have fr9 := h.free 9 (by omega)
  have hpo := fun k => ring_pop (h.drewN k) hl
  rw [Nat.add_zero] at hcall hit
  generalize hq : f % 8 = q at *
  have HC := Lib.hid hcall
  have HP := Lib.hid hpo
  clear hcall hpo h hq
  go_enter Tryd.func38, Tryd.ntmps38
  go_wp2_with fail
  refine HC.out.mono ?_
  rintro e w1 ⟨rfl, k, rfl⟩
  have HT := Lib.hid (((ten_drewN w b o k).trans (ten_set _ b o 8 (by omega) (.int .i64 (((f : Int) + 1) % 8)))).trans (ten_set _ b o 9 (by omega) (.int .i64 ((l.length : Int) - 1))))
  go_wp2_with fail
  go_ret
  exact ⟨rfl, HP.out k, HT.out⟩
end Go.Proofs.YthimndilobadeaaDoor
