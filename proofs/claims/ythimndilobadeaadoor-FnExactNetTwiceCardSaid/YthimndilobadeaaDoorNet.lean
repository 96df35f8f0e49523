/- Nets in memory: a row of ways, each two rows of texts. -/
import Derived.Test.YthimndilobadeaaDoorTx
import Derived.Test.YthimndilobadeaaDoorTxTo
import Derived.Test.YthimndilobadeaaDoorWay
namespace Go.Proofs.YthimndilobadeaaDoor
open Go.RowKit

abbrev Wy := Tx × Tx
abbrev Nt := List Wy
/-- The i-th way. -/
def wyAt (n : Nt) (i : Nat) : Wy := n.getD i ([], [])
theorem wyAt_get {n : Nt} {i : Nat} (h : i < n.length) : wyAt n i = n[i] := by simp [wyAt, List.getD, h]
theorem wyAt_mem {n : Nt} {i : Nat} (h : i < n.length) : wyAt n i ∈ n := by rw [wyAt_get h]; exact List.getElem_mem h
theorem nt_drop {n : Nt} {k : Nat} (h : k < n.length) : n.drop k = wyAt n k :: n.drop (k + 1) := by
  rw [List.drop_eq_getElem_cons h, wyAt_get h]

/-- A row's block is one of S. -/
def TxS (S : Nat → Prop) (a : Option Addr) (len : Nat) : Prop := ∀ b o, a = some ⟨b, o, none⟩ → 0 < len → S b
/-- The ways n in memory, of whatever lengths. -/
structure RawNet (w : World) (a : Option Addr) (len : Nat) (n : Nt) : Prop where
  long : n.length = len
  most : len ≤ 9223372036854775807
  there : 0 < len → ∃ b o, a = some ⟨b, o, none⟩
  cell : ∀ b o, a = some ⟨b, o, none⟩ → ∀ i, i < len → ∃ x cx y cy, w.cell? ⟨b, o + i * 2, none⟩ = some (.slice x (wyAt n i).1.length cx) ∧ w.cell? ⟨b, o + i * 2 + 1, none⟩ = some (.slice y (wyAt n i).2.length cy) ∧
    RawTx w x (wyAt n i).1.length (wyAt n i).1 ∧ RawTx w y (wyAt n i).2.length (wyAt n i).2
/-- The same, small, in blocks of S. -/
structure InNet (S : Nat → Prop) (w : World) (a : Option Addr) (len : Nat) (n : Nt) : Prop where
  long : n.length = len
  most : len ≤ 2000000
  there : 0 < len → ∃ b o, a = some ⟨b, o, none⟩
  cell : ∀ b o, a = some ⟨b, o, none⟩ → ∀ i, i < len → S b ∧ ∃ x cx y cy, w.cell? ⟨b, o + i * 2, none⟩ = some (.slice x (wyAt n i).1.length cx) ∧ w.cell? ⟨b, o + i * 2 + 1, none⟩ = some (.slice y (wyAt n i).2.length cy) ∧
    InTx w x (wyAt n i).1.length (wyAt n i).1 ∧ InTx w y (wyAt n i).2.length (wyAt n i).2 ∧ TxS S x (wyAt n i).1.length ∧ TxS S y (wyAt n i).2.length
/-- What is kept: all blocks that there were, but those of S. -/
structure Kept (S : Nat → Prop) (w w' : World) : Prop where
  os : w'.os = w.os
  tape : w'.tape = w.tape
  output : w'.output = w.output
  size : w.heap.size ≤ w'.heap.size
  block : ∀ b, b < w.heap.size → ¬ S b → w'.heap[b]? = w.heap[b]?
theorem Kept.refl (S : Nat → Prop) (w : World) : Kept S w w := ⟨rfl, rfl, rfl, Nat.le_refl _, fun _ _ _ => rfl⟩
theorem Kept.trans {S : Nat → Prop} {a b c : World} (h : Kept S a b) (k : Kept S b c) : Kept S a c :=
  ⟨k.os.trans h.os, k.tape.trans h.tape, k.output.trans h.output, Nat.le_trans h.size k.size, fun i hi hs => (k.block i (Nat.lt_of_lt_of_le hi h.size) hs).trans (h.block i hi hs)⟩
theorem kept_below {S : Nat → Prop} {w w' : World} (h : Below w.heap.size w w') : Kept S w w' := ⟨h.os, h.tape, h.output, h.size, fun b hb _ => h.block b hb⟩
theorem Kept.toBelow {S : Nat → Prop} {w w' : World} {B : Nat} (h : Kept S w w') (hB : B ≤ w.heap.size) (hS : ∀ b, b < B → ¬ S b) : Below B w w' := ⟨h.os, h.tape, h.output, h.size, fun b hb => h.block b (by omega) (hS b hb)⟩
theorem kept_grown {S : Nat → Prop} {w w' : World} {g : Nat} (h : w.grownBy w' (some g)) (hg : S g) : Kept S w w' :=
  ⟨h.os, h.tape, h.output, h.size, fun b hb hs => h.block b hb (fun e => hs (by cases e; exact hg))⟩

theorem RawNet.below {w w' : World} {a : Option Addr} {len : Nat} {n : Nt} (h : RawNet w a len n) (hb : Below w.heap.size w w') : RawNet w' a len n :=
  ⟨h.long, h.most, h.there, fun b o e i hi => by
    obtain ⟨x, cx, y, cy, c0, c1, r0, r1⟩ := h.cell b o e i hi
    exact ⟨x, cx, y, cy, (hb.cell (World.block_lt_of_cell? w _ c0)).trans c0, (hb.cell (World.block_lt_of_cell? w _ c1)).trans c1, r0.below hb, r1.below hb⟩⟩
theorem InNet.below {S : Nat → Prop} {w w' : World} {a : Option Addr} {len : Nat} {n : Nt} (h : InNet S w a len n) (hb : Below w.heap.size w w') : InNet S w' a len n :=
  ⟨h.long, h.most, h.there, fun b o e i hi => by
    obtain ⟨hs, x, cx, y, cy, c0, c1, r0, r1, s0, s1⟩ := h.cell b o e i hi
    exact ⟨hs, x, cx, y, cy, (hb.cell (World.block_lt_of_cell? w _ c0)).trans c0, (hb.cell (World.block_lt_of_cell? w _ c1)).trans c1, r0.below hb, r1.below hb, s0, s1⟩⟩
theorem InTx.pos {w : World} {a : Option Addr} {len : Nat} {l : Tx} {b o : Nat} (h : InTx w a len l) (e : a = some ⟨b, o, none⟩) (hl : 0 < len) : b < w.heap.size :=
  World.block_lt_of_cell? w _ (h.cell b o e 0 hl)
theorem InTx.keptS {S T : Nat → Prop} {w w' : World} {a : Option Addr} {len : Nat} {l : Tx} (h : InTx w a len l) (hs : TxS S a len) (hk : Kept T w w') (hd : ∀ b, S b → ¬ T b) : InTx w' a len l :=
  ⟨h.long, h.most, h.there, fun b o ha i hi => (World.cell?_of_block (w := w) (a := ⟨b, o + i, none⟩) (hk.block b (h.pos ha (by omega)) (hd b (hs b o ha (by omega))))).trans (h.cell b o ha i hi), h.fit⟩
theorem InNet.kept {S T : Nat → Prop} {w w' : World} {a : Option Addr} {len : Nat} {n : Nt} (h : InNet S w a len n) (hk : Kept T w w') (hd : ∀ b, S b → ¬ T b) : InNet S w' a len n :=
  ⟨h.long, h.most, h.there, fun b o e i hi => by
    obtain ⟨hs, x, cx, y, cy, c0, c1, r0, r1, s0, s1⟩ := h.cell b o e i hi
    have hb := hk.block b (World.block_lt_of_cell? w _ c0) (hd b hs)
    exact ⟨hs, x, cx, y, cy, (World.cell?_of_block (a := ⟨b, o + i * 2, none⟩) hb).trans c0, (World.cell?_of_block (a := ⟨b, o + i * 2 + 1, none⟩) hb).trans c1, r0.keptS s0 hk hd, r1.keptS s1 hk hd, s0, s1⟩⟩
theorem TxS.mono {S T : Nat → Prop} {a : Option Addr} {len : Nat} (h : TxS S a len) (hm : ∀ b, S b → T b) : TxS T a len := fun b o e hl => hm b (h b o e hl)
theorem InNet.mono {S T : Nat → Prop} {w : World} {a : Option Addr} {len : Nat} {n : Nt} (h : InNet S w a len n) (hm : ∀ b, S b → T b) : InNet T w a len n :=
  ⟨h.long, h.most, h.there, fun b o e i hi => by
    obtain ⟨hs, x, cx, y, cy, c0, c1, r0, r1, s0, s1⟩ := h.cell b o e i hi
    exact ⟨hm b hs, x, cx, y, cy, c0, c1, r0, r1, s0.mono hm, s1.mono hm⟩⟩
/-- All of a net in memory lies below its world's size. -/
theorem InNet.lt {S : Nat → Prop} {w : World} {a : Option Addr} {len : Nat} {n : Nt} (h : InNet S w a len n) : InNet (fun b => b < w.heap.size) w a len n :=
  ⟨h.long, h.most, h.there, fun b o e i hi => by
    obtain ⟨_, x, cx, y, cy, c0, c1, r0, r1, s0, s1⟩ := h.cell b o e i hi
    exact ⟨World.block_lt_of_cell? w _ c0, x, cx, y, cy, c0, c1, r0, r1, fun b o e hl => r0.pos e hl, fun b o e hl => r1.pos e hl⟩⟩
theorem inNet_nil {S : Nat → Prop} {w : World} {a : Option Addr} : InNet S w a 0 [] := ⟨rfl, by omega, (fun h => by omega), (fun _ _ _ i hi => by omega)⟩

/-- What is left of a budget behind a net. -/
def szNetGo : Nt → Int → Int
  | [], n => n
  | p :: l, n => if szWy p n < 0 then -1 else szNetGo l (szWy p n)
theorem szNetGo_cons (p : Wy) (l : Nt) (n : Int) : szNetGo (p :: l) n = if szWy p n < 0 then -1 else szNetGo l (szWy p n) := rfl
def szNet (l : Nt) (n : Int) : Int := if n < (l.length : Int) then -1 else szNetGo l (n - (l.length : Int))
theorem szNetGo_le : ∀ (l : Nt) (n : Int), 0 ≤ n → -1 ≤ szNetGo l n ∧ szNetGo l n ≤ n
  | [], n, h => by simp [szNetGo]; omega
  | p :: l, n, h => by
    have h1 := szWy_le p n h
    rw [szNetGo_cons]
    split
    · omega
    · have := szNetGo_le l (szWy p n) (by omega); omega
theorem szNet_le (l : Nt) (n : Int) (h : 0 ≤ n) : -1 ≤ szNet l n ∧ szNet l n ≤ n := by
  unfold szNet
  split
  · omega
  · have := szNetGo_le l (n - (l.length : Int)) (by omega); omega
/-- How many texts there are. -/
def netSum : Nt → Nat
  | [] => 0
  | p :: l => p.1.length + p.2.length + netSum l
theorem szTx_len (l : Tx) (n : Int) (h : 0 ≤ szTx l n) : szTx l n ≤ n - (l.length : Int) := by
  unfold szTx at h ⊢
  split at h
  · omega
  · rename_i hn
    rw [if_neg hn]
    exact (szTxGo_le l _ (by omega)).2
theorem szWy_len (p : Wy) (n : Int) (h : 0 ≤ szWy p n) : szWy p n ≤ n - ((p.1.length + p.2.length : Nat) : Int) := by
  unfold szWy at h ⊢
  split at h
  · omega
  · rename_i hn
    rw [if_neg hn]
    have h1 := szTx_len p.1 n (by omega)
    have h2 := szTx_len p.2 _ h
    omega
theorem szNetGo_sum : ∀ (l : Nt) (n : Int), 0 ≤ n → 0 ≤ szNetGo l n → (netSum l : Int) ≤ n
  | [], n, h, _ => by simpa [netSum] using h
  | p :: l, n, _, h => by
    rw [szNetGo_cons] at h
    split at h
    · omega
    · have h1 := szWy_len p n (by omega)
      have := szNetGo_sum l _ (by omega) h
      simp only [netSum]
      omega
theorem szNet_sum {l : Nt} {n : Int} (h : 0 ≤ szNet l n) : (netSum l : Int) ≤ n := by
  unfold szNet at h
  split at h
  · omega
  · have := szNetGo_sum l _ (by omega) h; omega
theorem szNetGo_each : ∀ (l : Nt) (n : Int), 0 ≤ n → n ≤ 1048576 → 0 ≤ szNetGo l n → ∀ p ∈ l, ∃ m, 0 ≤ m ∧ m ≤ 1048576 ∧ 0 ≤ szWy p m
  | [], _, _, _, _ => fun p hp => by cases hp
  | q :: l, n, h0, h1, h => by
    rw [szNetGo_cons] at h
    have := szWy_le q n h0
    split at h
    · omega
    · intro p hp
      rcases List.mem_cons.1 hp with rfl | hp
      · exact ⟨n, h0, h1, by omega⟩
      · exact szNetGo_each l _ (by omega) (by omega) h p hp
/-- A net that the budget lets by is a small one. -/
theorem inNet_of {w : World} {a : Option Addr} {len : Nat} {n : Nt} (h : RawNet w a len n) (hs : 0 ≤ szNet n 1048576) : InNet (fun _ => True) w a len n := by
  have hl := h.long
  unfold szNet at hs
  split at hs
  · omega
  · refine ⟨h.long, by omega, h.there, fun b o e i hi => ?_⟩
    obtain ⟨x, cx, y, cy, c0, c1, r0, r1⟩ := h.cell b o e i hi
    obtain ⟨m, m0, m1, hm⟩ := szNetGo_each n _ (by omega) (by omega) hs (wyAt n i) (wyAt_mem (by omega))
    unfold szWy at hm
    split at hm
    · omega
    · have := szTx_le (wyAt n i).1 m m0
      exact ⟨trivial, x, cx, y, cy, c0, c1, inTx_of r0 m0 m1 (by omega), inTx_of r1 (n := szTx (wyAt n i).1 m) (by omega) (by omega) hm, fun _ _ _ _ => trivial, fun _ _ _ _ => trivial⟩

/-- The first k ways of two nets are the same. -/
def eqNtTo (l m : Nt) (k : Nat) : Prop := ∀ j, j < k → wyAt l j = wyAt m j
theorem eqNtTo_zero (l m : Nt) : eqNtTo l m 0 := fun j h => by omega
theorem eqNtTo_succ {l m : Nt} {k : Nat} (h : eqNtTo l m k) (hk : wyAt l k = wyAt m k) : eqNtTo l m (k + 1) := fun j hj => by
  by_cases e : j = k
  · subst e; exact hk
  · exact h j (by omega)
theorem eqNtTo_all {l m : Nt} (hl : l.length = m.length) (h : eqNtTo l m l.length) : l = m := by
  apply List.ext_getElem hl
  intro i h1 h2
  have := h i h1
  rwa [wyAt_get h1, wyAt_get h2] at this

/-- A net that the call owns: g the block of its ways, P i and Q i the blocks of the i-th way's rows, each behind those ahead of it; all of it from lo on, below hi. -/
structure NetOwn (w : World) (lo hi g len : Nat) (n : Nt) (P Q : Nat → Nat) : Prop where
  long : n.length = len
  most : len ≤ 2000000
  low : lo ≤ g ∧ g < hi
  top : hi ≤ w.heap.size
  cell : ∀ i, i < len → w.cell? ⟨g, i * 2, none⟩ = some (.slice (some ⟨P i, 0, none⟩) (wyAt n i).1.length (wyAt n i).1.length) ∧ w.cell? ⟨g, i * 2 + 1, none⟩ = some (.slice (some ⟨Q i, 0, none⟩) (wyAt n i).2.length (wyAt n i).2.length)
  there : ∀ i, i < len → InTx w (some ⟨P i, 0, none⟩) (wyAt n i).1.length (wyAt n i).1 ∧ OpenTx w (P i) (wyAt n i).1.length
  back : ∀ i, i < len → InTx w (some ⟨Q i, 0, none⟩) (wyAt n i).2.length (wyAt n i).2 ∧ OpenTx w (Q i) (wyAt n i).2.length
  order : ∀ i, i < len → g < P i ∧ P i < Q i ∧ Q i < hi
  chain : ∀ i j, i < j → j < len → Q i < P j
theorem NetOwn.in' {w : World} {lo hi g len : Nat} {n : Nt} {P Q : Nat → Nat} (h : NetOwn w lo hi g len n P Q) : InNet (fun b => lo ≤ b ∧ b < hi) w (some ⟨g, 0, none⟩) len n := by
  refine ⟨h.long, h.most, fun _ => ⟨g, 0, rfl⟩, fun b o e i hi => ?_⟩
  cases e
  have hl := h.low
  have ho := h.order i hi
  rw [Nat.zero_add]
  exact ⟨hl, _, _, _, _, (h.cell i hi).1, (h.cell i hi).2, (h.there i hi).1, (h.back i hi).1, (fun b o e _ => by cases e; omega), (fun b o e _ => by cases e; omega)⟩
theorem NetOwn.below {w w' : World} {lo hi g len : Nat} {n : Nt} {P Q : Nat → Nat} (h : NetOwn w lo hi g len n P Q) (hb : Below w.heap.size w w') : NetOwn w' lo hi g len n P Q := by
  have ht := h.top
  refine ⟨h.long, h.most, h.low, Nat.le_trans h.top hb.size, fun i hi => ?_, fun i hi => ?_, fun i hi => ?_, h.order, h.chain⟩
  · obtain ⟨c0, c1⟩ := h.cell i hi
    exact ⟨(hb.cell (World.block_lt_of_cell? w _ c0)).trans c0, (hb.cell (World.block_lt_of_cell? w _ c1)).trans c1⟩
  · have ho := h.order i hi
    exact ⟨(h.there i hi).1.below hb, (h.there i hi).2.below (by omega) hb⟩
  · have ho := h.order i hi
    exact ⟨(h.back i hi).1.below hb, (h.back i hi).2.below (by omega) hb⟩
theorem NetOwn.kept {T : Nat → Prop} {w w' : World} {lo hi g len : Nat} {n : Nt} {P Q : Nat → Nat} (h : NetOwn w lo hi g len n P Q) (hk : Kept T w w') (hd : ∀ b, lo ≤ b → b < hi → ¬ T b) : NetOwn w' lo hi g len n P Q := by
  have ht := h.top
  have hl := h.low
  refine ⟨h.long, h.most, h.low, Nat.le_trans h.top hk.size, fun i hi => ?_, fun i hi => ?_, fun i hi => ?_, h.order, h.chain⟩
  · obtain ⟨c0, c1⟩ := h.cell i hi
    have hb := hk.block g (by omega) (hd g hl.1 hl.2)
    exact ⟨(World.cell?_of_block (a := ⟨g, i * 2, none⟩) hb).trans c0, (World.cell?_of_block (a := ⟨g, i * 2 + 1, none⟩) hb).trans c1⟩
  · have ho := h.order i hi
    have hb := hk.block (P i) (by omega) (hd _ (by omega) (by omega))
    exact ⟨(h.there i hi).1.kept (fun b o e _ => by cases e; exact hb), (h.there i hi).2.kept hb⟩
  · have ho := h.order i hi
    have hb := hk.block (Q i) (by omega) (hd _ (by omega) (by omega))
    exact ⟨(h.back i hi).1.kept (fun b o e _ => by cases e; exact hb), (h.back i hi).2.kept hb⟩
end Go.Proofs.YthimndilobadeaaDoor
