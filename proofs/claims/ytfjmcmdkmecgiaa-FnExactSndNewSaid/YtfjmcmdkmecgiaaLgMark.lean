/- The laws' marks on rows of numbers. -/
import Derived.Test.YtfjmcmdkmecgiaaLgTo
import Derived.Test.YtfjmcmdkmecgiaaKept
import Derived.Deep.RegionHeld3
namespace Go.Proofs.Ytfjmcmdkmecgiaa
open Go.RowKit

theorem lgAt_set {l : Lg} {i j : Nat} {x : Int} (hi : i < l.length) : lgAt (l.set i x) j = if j = i then x else lgAt l j := by
  unfold lgAt
  by_cases e : j = i
  · subst e; simp [List.getD, hi]
  · rw [if_neg e]; simp [List.getD, List.getElem?_set_ne (Ne.symm e)]
theorem lg_ext {n m : Lg} (hl : n.length = m.length) (h : ∀ i, i < n.length → lgAt n i = lgAt m i) : n = m := by
  apply List.ext_getElem hl
  intro i h1 h2
  have := h i h1
  rwa [lgAt_get h1, lgAt_get h2] at this
/-- The block of a row that is not empty. -/
def LgB (a : Option Addr) (len b : Nat) : Prop := 0 < len ∧ ∃ o, a = some ⟨b, o, none⟩
/-- A row's cells may be written. -/
def LgFree (w : World) (a : Option Addr) (len : Nat) : Prop := ∀ b o, a = some ⟨b, o, none⟩ → ∀ i, i < len → w.frozen? ⟨b, o + i, none⟩ = false
theorem InLg.lt {w : World} {a : Option Addr} {len : Nat} {l : Lg} (h : InLg w a len l) {b : Nat} (hb : LgB a len b) : b < w.heap.size := by
  obtain ⟨hl, o, e⟩ := hb
  exact World.block_lt_of_cell? w _ (h.cell b o e 0 hl)
theorem InLg.blk {w w' : World} {a : Option Addr} {len : Nat} {l : Lg} (h : InLg w a len l) (hb : ∀ b, LgB a len b → w'.heap[b]? = w.heap[b]?) : InLg w' a len l :=
  ⟨⟨h.long, h.most, h.there, fun b o ha i hi => (World.cell?_of_block (w := w) (a := ⟨b, o + i, none⟩) (hb b ⟨by omega, o, ha⟩)).trans (h.cell b o ha i hi), h.fit⟩, h.small⟩
theorem LgFree.blk {w w' : World} {a : Option Addr} {len : Nat} (h : LgFree w a len) (hb : ∀ b, LgB a len b → w'.heap[b]? = w.heap[b]?) : LgFree w' a len :=
  fun b o e i hi => (World.frozen?_of_block (w := w) (a := ⟨b, o + i, none⟩) (hb b ⟨by omega, o, e⟩)).trans (h b o e i hi)
theorem LgFree.set {w : World} {a : Option Addr} {len : Nat} (h : LgFree w a len) (p : Addr) (v : Value) : LgFree (w.setCell p v) a len :=
  fun b o e i hi => (World.frozen?_setCell _ _ _ _).trans (h b o e i hi)
theorem InLg.put {w : World} {b o len j : Nat} {l : Lg} (h : InLg w (some ⟨b, o, none⟩) len l) (hj : j < len) {x : Int} (hx : -9223372036854775808 ≤ x ∧ x ≤ 9223372036854775807) : InLg (w.setCell ⟨b, o + j, none⟩ (.int .i64 x)) (some ⟨b, o, none⟩) len (l.set j x) := by
  have hl := h.long
  refine ⟨⟨by simpa using h.long, h.most, h.there, fun b' o' e i hi => ?_, fun i hi => ?_⟩, h.small⟩
  · cases e
    rw [lgAt_set (by omega)]
    by_cases e : i = j
    · subst e
      rw [if_pos rfl]
      exact World.cell?_setCell_same _ _ _ (h.cell b o rfl i hi)
    · rw [if_neg e]
      exact (World.cell?_setCell_other _ _ _ _ (fun e' => by injection e'; omega)).trans (h.cell b o rfl i hi)
  · rw [lgAt_set (by omega)]
    split
    · exact hx
    · exact h.fit i hi
theorem kept_set {S : Nat → Prop} (w : World) (g o : Nat) (v : Value) (hg : S g) : Kept S w (w.setCell ⟨g, o, none⟩ v) :=
  ⟨rfl, rfl, rfl, by simp, fun k _ hk => Below.heap_setCell _ _ _ _ (fun e => hk (by subst e; exact hg))⟩
theorem Kept.mono {S T : Nat → Prop} {w w' : World} (h : Kept S w w') (hm : ∀ b, S b → T b) : Kept T w w' := ⟨h.os, h.tape, h.output, h.size, fun b hb hs => h.block b hb (fun e => hs (hm b e))⟩
def lmarks (k len : Nat) : Lg := (List.range len).map fun i => ((k + i : Nat) : Int)
theorem lmarks_len (k len : Nat) : (lmarks k len).length = len := by simp [lmarks]
theorem lmarks_at {k len i : Nat} (h : i < len) : lgAt (lmarks k len) i = ((k + i : Nat) : Int) := by simp [lgAt, lmarks, List.getD, h]


end Go.Proofs.Ytfjmcmdkmecgiaa
