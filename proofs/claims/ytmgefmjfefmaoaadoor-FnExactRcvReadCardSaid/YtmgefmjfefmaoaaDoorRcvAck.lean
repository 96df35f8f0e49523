/- The model's l06Ack, RcvAck, RcvHeld. -/
import Derived.Test.YtmgefmjfefmaoaaDoorRcvR
import Derived.Test.YtmgefmjfefmaoaaDoorPackB
import Derived.Test.YtmgefmjfefmaoaaDoorSegR
namespace Go.Proofs.YtmgefmjfefmaoaaDoor
open Go.RowKit

/-- A block of n cells that may be written. -/
def OutBox (V : World) (g n : Nat) : Prop := ∃ vs : List Value, vs.length = n ∧ Box V g vs
theorem OutBox.below {V V' : World} {g n : Nat} (h : OutBox V g n) (hb : Below V.heap.size V V') : OutBox V' g n := by
  obtain ⟨vs, hl, h⟩ := h
  exact ⟨vs, hl, h.below hb⟩
theorem OutBox.set {V : World} {g n : Nat} (h : OutBox V g n) (i : Nat) (v : Value) : OutBox (V.setCell ⟨g, i, none⟩ v) g n := by
  obtain ⟨vs, hl, h⟩ := h
  exact ⟨vs.set i v, by simpa using hl, h.set i v⟩
theorem OutBox.drew {V : World} {g n : Nat} (h : OutBox V g n) : OutBox V.drew g n := by
  obtain ⟨vs, hl, h⟩ := h
  exact ⟨vs, hl, h.cell, h.free, h.pos⟩
theorem OutBox.four {V : World} {g : Nat} (h : OutBox V g 4) : ∃ a b c d, Box V g [a, b, c, d] := by
  obtain ⟨vs, hl, h⟩ := h
  match vs, hl with
  | [a, b, c, d], _ => exact ⟨a, b, c, d, h⟩
theorem Box.four {w : World} {g : Nat} {a b c d : Value} (k : Box w g [a, b, c, d]) :
    w.cell? ⟨g, 0, none⟩ = some a ∧ w.cell? ⟨g, 1, none⟩ = some b ∧ w.cell? ⟨g, 2, none⟩ = some c ∧ w.cell? ⟨g, 3, none⟩ = some d ∧
    w.frozen? ⟨g, 0, none⟩ = false ∧ w.frozen? ⟨g, 1, none⟩ = false ∧ w.frozen? ⟨g, 2, none⟩ = false ∧ w.frozen? ⟨g, 3, none⟩ = false :=
  ⟨k.cell 0 _ rfl, k.cell 1 _ rfl, k.cell 2 _ rfl, k.cell 3 _ rfl, k.free 0 (by simp), k.free 1 (by simp), k.free 2 (by simp), k.free 3 (by simp)⟩
theorem keepA {w V V' : World} {g n : Nat} {p0 p1 p2 p3 p4 : Addr} {x0 x1 x2 x3 x4 : Value} (hb : Below V.heap.size V V')
    (h : Below w.heap.size w V ∧ OutBox V g n ∧ V.cell? p0 = some x0 ∧ V.cell? p1 = some x1 ∧ V.cell? p2 = some x2 ∧ V.cell? p3 = some x3 ∧ V.cell? p4 = some x4) :
    Below w.heap.size w V' ∧ OutBox V' g n ∧ V'.cell? p0 = some x0 ∧ V'.cell? p1 = some x1 ∧ V'.cell? p2 = some x2 ∧ V'.cell? p3 = some x3 ∧ V'.cell? p4 = some x4 :=
  have c {p : Addr} {x : Value} (h : V.cell? p = some x) : V'.cell? p = some x := (hb.cell (World.block_lt_of_cell? V _ h)).trans h
  ⟨h.1.trans (hb.mono h.1.size), h.2.1.below hb, c h.2.2.1, c h.2.2.2.1, c h.2.2.2.2.1, c h.2.2.2.2.2.1, c h.2.2.2.2.2.2⟩
theorem keepA_set {w V : World} {g n : Nat} {p0 p1 p2 p3 p4 : Addr} {x0 x1 x2 x3 x4 : Value} (i : Nat) (v : Value) (hg : w.heap.size ≤ g) (h0 : g ≠ p0.block) (h1 : g ≠ p1.block) (h2 : g ≠ p2.block) (h3 : g ≠ p3.block) (h4 : g ≠ p4.block)
    (h : Below w.heap.size w V ∧ OutBox V g n ∧ V.cell? p0 = some x0 ∧ V.cell? p1 = some x1 ∧ V.cell? p2 = some x2 ∧ V.cell? p3 = some x3 ∧ V.cell? p4 = some x4) :
    Below w.heap.size w (V.setCell ⟨g, i, none⟩ v) ∧ OutBox (V.setCell ⟨g, i, none⟩ v) g n ∧ (V.setCell ⟨g, i, none⟩ v).cell? p0 = some x0 ∧ (V.setCell ⟨g, i, none⟩ v).cell? p1 = some x1 ∧ (V.setCell ⟨g, i, none⟩ v).cell? p2 = some x2 ∧ (V.setCell ⟨g, i, none⟩ v).cell? p3 = some x3 ∧ (V.setCell ⟨g, i, none⟩ v).cell? p4 = some x4 :=
  have c {p : Addr} {x : Value} (hp : g ≠ p.block) (h : V.cell? p = some x) : (V.setCell ⟨g, i, none⟩ v).cell? p = some x := (World.cell?_setCell_other _ _ _ _ (fun e => hp (by rw [← e]))).trans h
  ⟨h.1.setCell hg v, h.2.1.set i v, c h0 h.2.2.1, c h1 h.2.2.2.1, c h2 h.2.2.2.2.1, c h3 h.2.2.2.2.2.1, c h4 h.2.2.2.2.2.2⟩
theorem fromN_len : ∀ (l : List Pc) (n : Int), (∀ p ∈ l, p.2.length ≤ 2000000) → (fromN l n).length ≤ 2000000
  | [], n, _ => by simp [fromN]
  | p :: l, n, h => by
    rw [fromN_cons]
    split
    · have := h p (by simp); simp; omega
    · exact fromN_len l n (fun q hq => h q (List.mem_cons_of_mem _ hq))
theorem inPcs_small {w : World} {a : Option Addr} {len : Nat} {l : List Pc} (h : InPcs w a len l) : ∀ p ∈ l, p.2.length ≤ 2000000 := fun p hp => by
  obtain ⟨k, hk, he⟩ := mem_pcAt hp
  have := (h.fit k (by have := h.long; omega)).2.2
  rw [he] at this
  exact this


/-- The answer on a path. -/
def ackN (rd : Int) (ps : List Pc) (ed : Int) (n : Frs) (k : Nat) : Value := ackV k (frAt n k).1 (rd + ((fromN ps rd).length : Int)) ed

end Go.Proofs.YtmgefmjfefmaoaaDoor
