/- Rows of Lines in memory: each five numbers and a row of Sents. -/
import Derived.Test.YtfjmcmdkmecgiaaLn
import Derived.Test.YtfjmcmdkmecgiaaKept
namespace Go.Proofs.Ytfjmcmdkmecgiaa
open Go.RowKit

abbrev Lns := List Ln
/-- The i-th Line. -/
def lnAt (n : Lns) (i : Nat) : Ln := n.getD i ((0, 0, 0, 0, 0), [])
theorem lnAt_get {n : Lns} {i : Nat} (h : i < n.length) : lnAt n i = n[i] := by simp [lnAt, List.getD, h]
theorem lnAt_mem {n : Lns} {i : Nat} (h : i < n.length) : lnAt n i ∈ n := by rw [lnAt_get h]; exact List.getElem_mem h
theorem lns_drop {n : Lns} {k : Nat} (h : k < n.length) : n.drop k = lnAt n k :: n.drop (k + 1) := by
  rw [List.drop_eq_getElem_cons h, lnAt_get h]
/-- A row's block is one of S. -/
def SnS (S : Nat → Prop) (a : Option Addr) (len : Nat) : Prop := ∀ b o, a = some ⟨b, o, none⟩ → 0 < len → S b
/-- The Lines n in memory, of whatever lengths. -/
structure RawLns (w : World) (a : Option Addr) (len : Nat) (n : Lns) : Prop where
  long : n.length = len
  most : len ≤ 9223372036854775807
  there : 0 < len → ∃ b o, a = some ⟨b, o, none⟩
  cell : ∀ b o, a = some ⟨b, o, none⟩ → ∀ i, i < len → At5 w b (o + i * 6) (lnAt n i).1 ∧ ∃ x cx, w.cell? ⟨b, o + i * 6 + 5, none⟩ = some (.slice x (lnAt n i).2.length cx) ∧ RawSn w x (lnAt n i).2.length (lnAt n i).2
  fit : ∀ i, i < len → Fit5 (lnAt n i).1
/-- The same, small, in blocks of S. -/
structure InLns (S : Nat → Prop) (w : World) (a : Option Addr) (len : Nat) (n : Lns) : Prop where
  long : n.length = len
  most : len ≤ 2000000
  there : 0 < len → ∃ b o, a = some ⟨b, o, none⟩
  cell : ∀ b o, a = some ⟨b, o, none⟩ → ∀ i, i < len → S b ∧ At5 w b (o + i * 6) (lnAt n i).1 ∧ ∃ x cx, w.cell? ⟨b, o + i * 6 + 5, none⟩ = some (.slice x (lnAt n i).2.length cx) ∧ InSn w x (lnAt n i).2.length (lnAt n i).2 ∧ SnS S x (lnAt n i).2.length
  fit : ∀ i, i < len → Fit5 (lnAt n i).1
theorem RawLns.below {w w' : World} {a : Option Addr} {len : Nat} {n : Lns} (h : RawLns w a len n) (hb : Below w.heap.size w w') : RawLns w' a len n :=
  ⟨h.long, h.most, h.there, fun b o e i hi => by
    obtain ⟨c0, x, cx, c1, r⟩ := h.cell b o e i hi
    exact ⟨c0.below hb, x, cx, (hb.cell (World.block_lt_of_cell? w _ c1)).trans c1, r.below hb⟩, h.fit⟩
theorem InLns.below {S : Nat → Prop} {w w' : World} {a : Option Addr} {len : Nat} {n : Lns} (h : InLns S w a len n) (hb : Below w.heap.size w w') : InLns S w' a len n :=
  ⟨h.long, h.most, h.there, fun b o e i hi => by
    obtain ⟨hs, c0, x, cx, c1, r, s⟩ := h.cell b o e i hi
    exact ⟨hs, c0.below hb, x, cx, (hb.cell (World.block_lt_of_cell? w _ c1)).trans c1, r.below hb, s⟩, h.fit⟩
theorem InSn.keptS {S T : Nat → Prop} {w w' : World} {a : Option Addr} {len : Nat} {l : Sns} (h : InSn w a len l) (hs : SnS S a len) (hk : Kept T w w') (hd : ∀ b, S b → ¬ T b) : InSn w' a len l :=
  h.blk fun b hb => hk.block b (h.lt hb) (hd b (by obtain ⟨hl, o, e⟩ := hb; exact hs b o e hl))
theorem InLns.kept {S T : Nat → Prop} {w w' : World} {a : Option Addr} {len : Nat} {n : Lns} (h : InLns S w a len n) (hk : Kept T w w') (hd : ∀ b, S b → ¬ T b) : InLns S w' a len n :=
  ⟨h.long, h.most, h.there, fun b o e i hi => by
    obtain ⟨hs, c0, x, cx, c1, r, s⟩ := h.cell b o e i hi
    have hb := hk.block b c0.lt (hd b hs)
    exact ⟨hs, c0.blk hb, x, cx, (World.cell?_of_block (a := ⟨b, o + i * 6 + 5, none⟩) hb).trans c1, r.keptS s hk hd, s⟩, h.fit⟩
theorem InLns.mono {S T : Nat → Prop} {w : World} {a : Option Addr} {len : Nat} {n : Lns} (h : InLns S w a len n) (hm : ∀ b, S b → T b) : InLns T w a len n :=
  ⟨h.long, h.most, h.there, fun b o e i hi => by
    obtain ⟨hs, c0, x, cx, c1, r, s⟩ := h.cell b o e i hi
    exact ⟨hm b hs, c0, x, cx, c1, r, fun b o e hl => hm b (s b o e hl)⟩, h.fit⟩
theorem inLns_nil {S : Nat → Prop} {w : World} {a : Option Addr} : InLns S w a 0 [] := ⟨rfl, by omega, (fun h => by omega), (fun _ _ _ i hi => by omega), (fun i hi => by omega)⟩

/-- What is left of a budget behind a row of Lines. -/
def szLnsGo : Lns → Int → Int
  | [], n => n
  | p :: l, n => if szSn p.2 n < 0 then -1 else szLnsGo l (szSn p.2 n)
theorem szLnsGo_cons (p : Ln) (l : Lns) (n : Int) : szLnsGo (p :: l) n = if szSn p.2 n < 0 then -1 else szLnsGo l (szSn p.2 n) := rfl
def szLns (l : Lns) (n : Int) : Int := if n < (l.length : Int) then -1 else szLnsGo l (n - (l.length : Int))
theorem szLnsGo_le : ∀ (l : Lns) (n : Int), 0 ≤ n → -1 ≤ szLnsGo l n ∧ szLnsGo l n ≤ n
  | [], n, h => by simp [szLnsGo]; omega
  | p :: l, n, h => by
    have h1 := szSn_le p.2 n h
    rw [szLnsGo_cons]
    split
    · omega
    · have := szLnsGo_le l (szSn p.2 n) (by omega); omega
theorem szLns_le (l : Lns) (n : Int) (h : 0 ≤ n) : -1 ≤ szLns l n ∧ szLns l n ≤ n := by
  unfold szLns
  split
  · omega
  · have := szLnsGo_le l (n - (l.length : Int)) (by omega); omega
theorem szLnsGo_each : ∀ (l : Lns) (n : Int), 0 ≤ n → n ≤ 1048576 → 0 ≤ szLnsGo l n → ∀ p ∈ l, ∃ m, 0 ≤ m ∧ m ≤ 1048576 ∧ 0 ≤ szSn p.2 m
  | [], _, _, _, _ => fun p hp => by cases hp
  | q :: l, n, h0, h1, h => by
    rw [szLnsGo_cons] at h
    have := szSn_le q.2 n h0
    split at h
    · omega
    · intro p hp
      rcases List.mem_cons.1 hp with rfl | hp
      · exact ⟨n, h0, h1, by omega⟩
      · exact szLnsGo_each l _ (by omega) (by omega) h p hp
/-- A row that the budget lets by is a small one. -/
theorem inLns_of {w : World} {a : Option Addr} {len : Nat} {n : Lns} {m : Int} (h : RawLns w a len n) (h0 : 0 ≤ m) (h1 : m ≤ 1048576) (hs : 0 ≤ szLns n m) : InLns (fun _ => True) w a len n := by
  have hl := h.long
  unfold szLns at hs
  split at hs
  · omega
  · refine ⟨h.long, by omega, h.there, fun b o e i hi => ?_, h.fit⟩
    obtain ⟨c0, x, cx, c1, r⟩ := h.cell b o e i hi
    obtain ⟨m, m0, m1, hm⟩ := szLnsGo_each n _ (by omega) (by omega) hs (lnAt n i) (lnAt_mem (by omega))
    exact ⟨trivial, c0, x, cx, c1, inSn_of r m1 hm, fun _ _ _ _ => trivial⟩
/-- A row of Lines that may be written: its own cells, and those of each one's row; no two rows lie in one block. A i, C i: where the i-th one's row lies, and its room. -/
structure LnsOwn (S : Nat → Prop) (w : World) (a : Option Addr) (len : Nat) (n : Lns) (A : Nat → Option Addr) (C : Nat → Nat) : Prop where
  long : n.length = len
  most : len ≤ 2000000
  there : 0 < len → ∃ b o, a = some ⟨b, o, none⟩
  cell : ∀ b o, a = some ⟨b, o, none⟩ → ∀ i, i < len → At5 w b (o + i * 6) (lnAt n i).1 ∧ w.cell? ⟨b, o + i * 6 + 5, none⟩ = some (.slice (A i) (lnAt n i).2.length (C i))
  free : LgFree w a (len * 6)
  blk : ∀ b, LgB a len b → S b
  outs : ∀ i, i < len → InSn w (A i) (lnAt n i).2.length (lnAt n i).2 ∧ LgFree w (A i) ((lnAt n i).2.length * 5)
  lblk : ∀ i, i < len → ∀ b, LgB (A i) (lnAt n i).2.length b → S b ∧ ¬ LgB a len b
  apart : ∀ i j, i < len → j < len → i ≠ j → ∀ b, LgB (A i) (lnAt n i).2.length b → ¬ LgB (A j) (lnAt n j).2.length b
  fit : ∀ i, i < len → Fit5 (lnAt n i).1
  room : ∀ i, i < len → (lnAt n i).2.length ≤ C i
theorem LnsOwn.in' {S : Nat → Prop} {w : World} {a : Option Addr} {len : Nat} {n : Lns} {A : Nat → Option Addr} {C : Nat → Nat} (h : LnsOwn S w a len n A C) : InLns S w a len n :=
  ⟨h.long, h.most, h.there, fun b o e i hi => ⟨h.blk b ⟨by omega, o, e⟩, (h.cell b o e i hi).1, _, _, (h.cell b o e i hi).2, (h.outs i hi).1, fun b' o' e' hl => (h.lblk i hi b' ⟨hl, o', e'⟩).1⟩, h.fit⟩
theorem LnsOwn.lt {S : Nat → Prop} {w : World} {a : Option Addr} {len : Nat} {n : Lns} {A : Nat → Option Addr} {C : Nat → Nat} (h : LnsOwn S w a len n A C) {b : Nat} (hb : LgB a len b) : b < w.heap.size := by
  obtain ⟨hl, o, e⟩ := hb
  exact (h.cell b o e 0 hl).1.lt
/-- What keeps each block of the row keeps the row. -/
theorem LnsOwn.blks {S : Nat → Prop} {w w' : World} {a : Option Addr} {len : Nat} {n : Lns} {A : Nat → Option Addr} {C : Nat → Nat} (h : LnsOwn S w a len n A C)
    (hb : ∀ b, b < w.heap.size → S b → w'.heap[b]? = w.heap[b]?) : LnsOwn S w' a len n A C := by
  have hg : ∀ b, LgB a len b → w'.heap[b]? = w.heap[b]? := fun b hl => hb b (h.lt hl) (h.blk b hl)
  refine ⟨h.long, h.most, h.there, fun b o e i hi => ?_, ?_, h.blk, fun i hi => ?_, h.lblk, h.apart, h.fit, h.room⟩
  · obtain ⟨c0, c1⟩ := h.cell b o e i hi
    have := hg b ⟨by omega, o, e⟩
    exact ⟨c0.blk this, (World.cell?_of_block (a := ⟨b, o + i * 6 + 5, none⟩) this).trans c1⟩
  · exact h.free.blk fun b hl => hg b ⟨by have := hl.1; omega, hl.2⟩
  · have hl : ∀ b, LgB (A i) (lnAt n i).2.length b → w'.heap[b]? = w.heap[b]? := fun b hl => hb b ((h.outs i hi).1.lt hl) (h.lblk i hi b hl).1
    exact ⟨(h.outs i hi).1.blk hl, (h.outs i hi).2.blk (fun b hb => hl b ⟨by have := hb.1; omega, hb.2⟩)⟩
theorem LnsOwn.below {S : Nat → Prop} {w w' : World} {a : Option Addr} {len : Nat} {n : Lns} {A : Nat → Option Addr} {C : Nat → Nat} (h : LnsOwn S w a len n A C) (hb : Below w.heap.size w w') : LnsOwn S w' a len n A C :=
  h.blks fun b hl _ => hb.block b hl
theorem LnsOwn.kept {S T : Nat → Prop} {w w' : World} {a : Option Addr} {len : Nat} {n : Lns} {A : Nat → Option Addr} {C : Nat → Nat} (h : LnsOwn S w a len n A C) (hk : Kept T w w') (hd : ∀ b, S b → ¬ T b) : LnsOwn S w' a len n A C :=
  h.blks fun b hl hs => hk.block b hl (hd b hs)
theorem LnsOwn.mono {S T : Nat → Prop} {w : World} {a : Option Addr} {len : Nat} {n : Lns} {A : Nat → Option Addr} {C : Nat → Nat} (h : LnsOwn S w a len n A C) (hm : ∀ b, S b → T b) : LnsOwn T w a len n A C :=
  ⟨h.long, h.most, h.there, h.cell, h.free, fun b hb => hm b (h.blk b hb), h.outs, fun i hi b hb => ⟨hm b (h.lblk i hi b hb).1, (h.lblk i hi b hb).2⟩, h.apart, h.fit, h.room⟩
end Go.Proofs.Ytfjmcmdkmecgiaa
