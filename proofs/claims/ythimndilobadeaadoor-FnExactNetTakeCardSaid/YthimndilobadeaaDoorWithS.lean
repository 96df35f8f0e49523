/- The model's l04List, l04With, l04Bad. -/
import Derived.Test.YthimndilobadeaaDoorCopyS
import Derived.Test.YthimndilobadeaaDoorNetR
import Derived.Test.YthimndilobadeaaDoorNetDef
namespace Go.Proofs.YthimndilobadeaaDoor
open Go.RowKit

theorem listS_calls (a b : Option Addr) (la ca lb cb : Nat) (back : Bool) (w : World) :
    Calls Tryd.prog 28 #[wayV a la ca b lb cb, .bool back] w fun e w' => e = .returned (if back then .slice b lb cb else .slice a la ca) ∧ Below w.heap.size w w' := by
  unfold wayV
  cases back <;> (go_enter Tryd.func28, Tryd.ntmps28; go_wp2; go_ret; exact ⟨rfl, (Below.refl _ _).alloc (Nat.le_refl _) _⟩)
theorem isS_calls (x lo hi : Int) (w : World) : Calls Tryd.prog 33 #[.int .i64 x, .int .i64 lo, .int .i64 hi] w fun e w' => e = .returned (.bool (decide (lo ≤ x) && decide (x ≤ hi))) ∧ w' = w := by
  by_cases h : x ≥ lo
  · go_enter Tryd.func33, Tryd.ntmps33
    go_wp2
    go_ret
    exact ⟨ret_bool (by rw [decide_eq_true h]; simp), rfl⟩
  · have HD := Lib.hid (decide_eq_false h)
    go_enter Tryd.func33, Tryd.ntmps33
    go_wp2
    go_ret
    exact ⟨ret_bool (by rw [HD.out]; simp), rfl⟩
/-- A copy with one list of its own stored into it. -/
theorem cp_set {w : World} {B g cap k p q : Nat} {xs : List Value} {n : Nt} {back : Bool} {y : Option Addr} {l : Tx} {cy : Nat} (h : CpRow w B g cap k xs n) (hl : n.length = k) (hm : k ≤ 2000000) (hp : p < k) (hq : q = p * 2 + (if back then 1 else 0)) (hy : InTx w y l.length l) (hyg : ∀ b o, y = some ⟨b, o, none⟩ → b < g) :
    InNet (fun x => B ≤ x ∨ ∃ o, y = some ⟨x, o, none⟩) (w.setCell ⟨g, q, none⟩ (.slice y l.length cy)) (some ⟨g, 0, none⟩) k (withN n p back l) := by
  have hxl : xs.length = k * 2 := h.own.1
  have hcell : ∀ j, j < k * 2 → w.cell? ⟨g, j, none⟩ = xs[j]? := fun j hj => h.own.cellAt j hj
  have hset : ∀ j, j < k * 2 → (w.setCell ⟨g, q, none⟩ (.slice y l.length cy)).cell? ⟨g, j, none⟩ = if j = q then some (.slice y l.length cy) else xs[j]? := fun j hj => by
    by_cases e : j = q
    · rw [if_pos e, ← e]
      exact World.cell?_setCell_same _ _ _ ((hcell j hj).trans (List.getElem?_eq_getElem (by omega)))
    · rw [if_neg e]
      exact (World.cell?_setCell_other _ _ _ _ (fun e' => by injection e'; omega)).trans (hcell j hj)
  have keep : ∀ {z len : Nat} {t : Tx}, z ≠ g → InTx w (some ⟨z, 0, none⟩) len t → InTx (w.setCell ⟨g, q, none⟩ (.slice y l.length cy)) (some ⟨z, 0, none⟩) len t := fun hz ht => ht.store hz _
  have keepY : InTx (w.setCell ⟨g, q, none⟩ (.slice y l.length cy)) y l.length l := hy.kept fun b o e _ => Below.heap_setCell _ _ _ _ (by have := hyg b o e; show b ≠ g; omega)
  refine ⟨by rw [withN_len]; exact hl, hm, fun _ => ⟨g, 0, rfl⟩, fun b o e i hi => ?_⟩
  cases e
  obtain ⟨x, cx, z, cz, e0, e1, i0, i1, hx, hz, -, -, bx, bz⟩ := h.each i hi
  rw [Nat.zero_add]
  have hat : wyAt (withN n p back l) i = if i = p then (if back then ((wyAt n p).1, l) else (l, (wyAt n p).2)) else wyAt n i := by
    unfold withN wyAt
    by_cases e : i = p
    · subst e; rw [if_pos rfl]; simp [List.getD, hl, hp]
    · rw [if_neg e]; simp [List.getD, List.getElem?_set_ne (Ne.symm e)]
  have sx : TxS (fun x => B ≤ x ∨ ∃ o, y = some ⟨x, o, none⟩) (some ⟨x, 0, none⟩) (wyAt n i).1.length := fun b o e _ => by cases e; exact .inl bx
  have sz : TxS (fun x => B ≤ x ∨ ∃ o, y = some ⟨x, o, none⟩) (some ⟨z, 0, none⟩) (wyAt n i).2.length := fun b o e _ => by cases e; exact .inl bz
  have sy : TxS (fun x => B ≤ x ∨ ∃ o, y = some ⟨x, o, none⟩) y l.length := fun b o e _ => .inr ⟨o, e⟩
  refine ⟨.inl h.low.1, ?_⟩
  by_cases e : i = p
  · subst e
    cases back
    · have hq' : q = i * 2 := by simpa using hq
      have hat' : wyAt (withN n i false l) i = (l, (wyAt n i).2) := by rw [hat]; simp
      rw [hat']
      exact ⟨y, cy, _, cz, by rw [hset _ (by omega), if_pos hq'.symm], by rw [hset _ (by omega), if_neg (by omega)]; exact e1, keepY, keep hz i1, sy, sz⟩
    · have hq' : q = i * 2 + 1 := by simpa using hq
      have hat' : wyAt (withN n i true l) i = ((wyAt n i).1, l) := by rw [hat]; simp
      rw [hat']
      exact ⟨_, cx, y, cy, by rw [hset _ (by omega), if_neg (by omega)]; exact e0, by rw [hset _ (by omega), if_pos hq'.symm], keep hx i0, keepY, sx, sy⟩
  · have hq2 : q < p * 2 + 2 := by rw [hq]; split <;> omega
    have hq3 : p * 2 ≤ q := by omega
    rw [hat, if_neg e]
    exact ⟨_, cx, _, cz, by rw [hset _ (by omega), if_neg (by omega)]; exact e0, by rw [hset _ (by omega), if_neg (by omega)]; exact e1, keep hx i0, keep hz i1, sx, sz⟩

set_option maxHeartbeats 1000000 in
set_option maxRecDepth 100000 in
theorem withS_calls {S : Nat → Prop} {a : Option Addr} {len cap : Nat} {n : Nt} {w : World} (h : InNet S w a len n) (p : Nat) (hp : p < len) (back : Bool) {y : Option Addr} {l : Tx} (cy : Nat) (hy : InTx w y l.length l) (hyl : ∀ b o, y = some ⟨b, o, none⟩ → b < w.heap.size) :
    Calls Tryd.prog 34 #[.slice a len cap, .int .i64 (p : Int), .bool back, .slice y l.length cy] w fun e w' => ∃ g cap', e = .returned (.slice (some ⟨g, 0, none⟩) len cap') ∧ InNet (fun x => w.heap.size ≤ x ∨ ∃ o, y = some ⟨x, o, none⟩) w' (some ⟨g, 0, none⟩) len (withN n p back l) ∧ Below w.heap.size w w' := by
  have hm := h.most
  have hlen := h.long
  have hcall := copyS_calls (cap := cap) h
  have HC := Lib.hid hcall
  have HY := Lib.hid hy
  have HL := Lib.hid hyl
  clear hcall h hy hyl
  go_enter Tryd.func34, Tryd.ntmps34
  go_wp2_with fail
  refine HC.out.mono ?_
  rintro e w1 ⟨g, cap', xs, rfl, hcp, hb1⟩
  have hlow := hcp.low
  have hxl : xs.length = len * 2 := hcp.own.1
  have hset := fun (q : Nat) (hq : q = p * 2 + (if back then 1 else 0)) => cp_set (cy := cy) hcp hlen hm hp hq (HY.out.below hb1) (fun b o e => Nat.lt_of_lt_of_le (HL.out b o e) hlow.1)
  have e0 := (hcp.own.cellAt (p * 2) (by omega)).trans (List.getElem?_eq_getElem (by omega))
  have e1 := (hcp.own.cellAt (p * 2 + 1) (by omega)).trans (List.getElem?_eq_getElem (by omega))
  have f0 := hcp.own.frozenAt (p * 2)
  have f1 := hcp.own.frozenAt (p * 2 + 1)
  have HS := Lib.hid hset
  have HB := Lib.hid hb1
  generalize xs[p * 2] = v0 at *
  generalize xs[p * 2 + 1] = v1 at *
  clear hcp hset hb1 HC HY HL
  cases back
  · go_wp2_with fail
    go_ret
    exact ⟨g, cap', rfl, HS.out (p * 2) (by simp), HB.out.setCell hlow.1 _⟩
  · go_wp2_with fail
    go_ret
    exact ⟨g, cap', rfl, HS.out (p * 2 + 1) (by simp), HB.out.setCell hlow.1 _⟩
end Go.Proofs.YthimndilobadeaaDoor
