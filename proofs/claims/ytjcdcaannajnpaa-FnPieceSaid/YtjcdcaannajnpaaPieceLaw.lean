/- The laws' own words on pieces: how many bytes a list has, a copy of it, whether two lists are the same. -/
import Derived.Test.YtjcdcaannajnpaaPieces
namespace Go.Proofs.Ytjcdcaannajnpaa
open Go.RowKit

/-- What is left of a budget behind a piece's bytes. -/
def szOne (p : Pc) (n : Int) : Int := if n < (p.2.length : Int) then -1 else n - (p.2.length : Int)

/-- The pieces l in memory, of whatever lengths. -/
structure RawPcs (w : World) (a : Option Addr) (len : Nat) (l : List Pc) : Prop where
  long : l.length = len
  most : len ≤ 9223372036854775807
  there : 0 < len → ∃ b o, a = some ⟨b, o, none⟩
  cell : ∀ b o, a = some ⟨b, o, none⟩ → ∀ i, i < len → w.cell? ⟨b, o + i * 2, none⟩ = some (.int .i64 (pcAt l i).1) ∧ w.cell? ⟨b, o + i * 2 + 1, none⟩ = some (gs (pcAt l i).2)
  fit : ∀ i, i < len → -9223372036854775808 ≤ (pcAt l i).1 ∧ (pcAt l i).1 ≤ 9223372036854775807 ∧ (pcAt l i).2.length ≤ 9223372036854775807
theorem RawPcs.below {w w' : World} {a : Option Addr} {len : Nat} {l : List Pc} (h : RawPcs w a len l) (hb : Below w.heap.size w w') : RawPcs w' a len l :=
  ⟨h.long, h.most, h.there, fun b o ha i hi => by
    obtain ⟨c0, c1⟩ := h.cell b o ha i hi
    exact ⟨(hb.cell (World.block_lt_of_cell? w _ c0)).trans c0, (hb.cell (World.block_lt_of_cell? w _ c1)).trans c1⟩, h.fit⟩

def szGo : List Pc → Int → Int
  | [], n => n
  | p :: l, n => if szOne p n < 0 then -1 else szGo l (szOne p n)
def szAll (l : List Pc) (n : Int) : Int := if n < (l.length : Int) then -1 else szGo l (n - (l.length : Int))
theorem szOne_le (p : Pc) (n : Int) (h : 0 ≤ n) : szOne p n ≤ n := by unfold szOne; split <;> omega
theorem szGo_small : ∀ (l : List Pc) (n : Int), 0 ≤ n → 0 ≤ szGo l n → ∀ p ∈ l, (p.2.length : Int) ≤ n
  | [], _, _, _ => fun p hp => by cases hp
  | q :: l, n, h0, h => by
    unfold szGo at h
    split at h
    · omega
    · rename_i hq
      have hs := szOne_le q n h0
      intro p hp
      rcases List.mem_cons.1 hp with rfl | hp
      · unfold szOne at hq; split at hq <;> omega
      · have := szGo_small l _ (by omega) h p hp; omega
theorem pcAt_drop {l : List Pc} {k : Nat} (h : k < l.length) : l.drop k = pcAt l k :: l.drop (k + 1) := by
  rw [List.drop_eq_getElem_cons h]; simp [pcAt, List.getD, h]
theorem pcAt_mem {l : List Pc} {k : Nat} (h : k < l.length) : pcAt l k ∈ l := by simp [pcAt, List.getD, h]
/-- A list that the budget lets by is a small one. -/
theorem inPcs_of {w : World} {a : Option Addr} {len : Nat} {l : List Pc} (h : RawPcs w a len l) (hs : 0 ≤ szAll l 1048576) : InPcs w a len l := by
  have hl := h.long
  unfold szAll at hs
  split at hs
  · omega
  · exact ⟨h.long, by omega, h.there, h.cell, fun i hi => by
      obtain ⟨f0, f1, _⟩ := h.fit i hi
      have := szGo_small l _ (by omega) hs (pcAt l i) (pcAt_mem (by omega))
      exact ⟨f0, f1, by omega⟩⟩

end Go.Proofs.Ytjcdcaannajnpaa
