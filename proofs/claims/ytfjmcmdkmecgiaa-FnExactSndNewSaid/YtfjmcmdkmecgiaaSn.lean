/- Rows of Sents in memory: five numbers each; the laws' words on them. -/
import Derived.Test.YtfjmcmdkmecgiaaRows
import Derived.Test.YtfjmcmdkmecgiaaBase
import Derived.Test.YtfjmcmdkmecgiaaBox
import Derived.Test.YtfjmcmdkmecgiaaLgMark
import Derived.Test.YtfjmcmdkmecgiaaBytes
import Derived.Deep.QuietTactic
import Derived.BigQuiet
import Derived.Deep.RegionHeld3
namespace Go.Proofs.Ytfjmcmdkmecgiaa
open Go.RowKit

/-- Five numbers. -/
abbrev F5 := Int × Int × Int × Int × Int
abbrev f5L (p : F5) : List Value := [.int .i64 p.1, .int .i64 p.2.1, .int .i64 p.2.2.1, .int .i64 p.2.2.2.1, .int .i64 p.2.2.2.2]
abbrev f5V (p : F5) : Value := .agg #[.int .i64 p.1, .int .i64 p.2.1, .int .i64 p.2.2.1, .int .i64 p.2.2.2.1, .int .i64 p.2.2.2.2]
/-- Numbers of 64 bits. -/
def Fit5 (p : F5) : Prop := (-9223372036854775808 ≤ p.1 ∧ p.1 ≤ 9223372036854775807) ∧ (-9223372036854775808 ≤ p.2.1 ∧ p.2.1 ≤ 9223372036854775807) ∧ (-9223372036854775808 ≤ p.2.2.1 ∧ p.2.2.1 ≤ 9223372036854775807) ∧ (-9223372036854775808 ≤ p.2.2.2.1 ∧ p.2.2.2.1 ≤ 9223372036854775807) ∧ (-9223372036854775808 ≤ p.2.2.2.2 ∧ p.2.2.2.2 ≤ 9223372036854775807)
/-- They stand in the cells from o on. -/
def At5 (w : World) (b o : Nat) (p : F5) : Prop := w.cell? ⟨b, o, none⟩ = some (.int .i64 p.1) ∧ w.cell? ⟨b, o + 1, none⟩ = some (.int .i64 p.2.1) ∧ w.cell? ⟨b, o + 2, none⟩ = some (.int .i64 p.2.2.1) ∧ w.cell? ⟨b, o + 3, none⟩ = some (.int .i64 p.2.2.2.1) ∧ w.cell? ⟨b, o + 4, none⟩ = some (.int .i64 p.2.2.2.2)
theorem At5.lt {w : World} {b o : Nat} {p : F5} (h : At5 w b o p) : b < w.heap.size := World.block_lt_of_cell? w _ h.1
theorem At5.blk {w w' : World} {b o : Nat} {p : F5} (h : At5 w b o p) (hb : w'.heap[b]? = w.heap[b]?) : At5 w' b o p :=
  have c {i : Nat} {x : Value} (h : w.cell? ⟨b, i, none⟩ = some x) : w'.cell? ⟨b, i, none⟩ = some x := (World.cell?_of_block (a := ⟨b, i, none⟩) hb).trans h
  ⟨c h.1, c h.2.1, c h.2.2.1, c h.2.2.2.1, c h.2.2.2.2⟩
theorem At5.below {w w' : World} {b o : Nat} {p : F5} (h : At5 w b o p) (hb : Below w.heap.size w w') : At5 w' b o p := h.blk (hb.block b h.lt)
theorem At5.other {w : World} {b o q : Nat} {p : F5} (h : At5 w b o p) (hq : q < o ∨ o + 5 ≤ q) (v : Value) : At5 (w.setCell ⟨b, q, none⟩ v) b o p :=
  have c {i : Nat} {x : Value} (hi : q ≠ i) (h : w.cell? ⟨b, i, none⟩ = some x) : (w.setCell ⟨b, q, none⟩ v).cell? ⟨b, i, none⟩ = some x := (World.cell?_setCell_other _ _ _ _ (fun e => by injection e; omega)).trans h
  ⟨c (by omega) h.1, c (by omega) h.2.1, c (by omega) h.2.2.1, c (by omega) h.2.2.2.1, c (by omega) h.2.2.2.2⟩

abbrev Sns := List F5
/-- The i-th one. -/
def snAt (l : Sns) (i : Nat) : F5 := l.getD i (0, 0, 0, 0, 0)
theorem snAt_get {l : Sns} {i : Nat} (h : i < l.length) : snAt l i = l[i] := by simp [snAt, List.getD, h]
theorem snAt_mem {l : Sns} {i : Nat} (h : i < l.length) : snAt l i ∈ l := by rw [snAt_get h]; exact List.getElem_mem h
/-- The Sents l in memory. -/
structure RawSn (w : World) (a : Option Addr) (len : Nat) (l : Sns) : Prop where
  long : l.length = len
  most : len ≤ 9223372036854775807
  there : 0 < len → ∃ b o, a = some ⟨b, o, none⟩
  cell : ∀ b o, a = some ⟨b, o, none⟩ → ∀ i, i < len → At5 w b (o + i * 5) (snAt l i)
  fit : ∀ i, i < len → Fit5 (snAt l i)
/-- The same, small. -/
structure InSn (w : World) (a : Option Addr) (len : Nat) (l : Sns) : Prop extends RawSn w a len l where
  small : len ≤ 2000000
theorem RawSn.below {w w' : World} {a : Option Addr} {len : Nat} {l : Sns} (h : RawSn w a len l) (hb : Below w.heap.size w w') : RawSn w' a len l :=
  ⟨h.long, h.most, h.there, fun b o ha i hi => (h.cell b o ha i hi).below hb, h.fit⟩
theorem InSn.below {w w' : World} {a : Option Addr} {len : Nat} {l : Sns} (h : InSn w a len l) (hb : Below w.heap.size w w') : InSn w' a len l := ⟨h.toRawSn.below hb, h.small⟩
theorem InSn.blk {w w' : World} {a : Option Addr} {len : Nat} {l : Sns} (h : InSn w a len l) (hb : ∀ b, LgB a len b → w'.heap[b]? = w.heap[b]?) : InSn w' a len l :=
  ⟨⟨h.long, h.most, h.there, fun b o ha i hi => (h.cell b o ha i hi).blk (hb b ⟨by omega, o, ha⟩), h.fit⟩, h.small⟩
theorem InSn.lt {w : World} {a : Option Addr} {len : Nat} {l : Sns} (h : InSn w a len l) {b : Nat} (hb : LgB a len b) : b < w.heap.size := by
  obtain ⟨hl, o, e⟩ := hb
  exact (h.cell b o e 0 hl).lt
/-- A row whose block is another than the one that is written. -/
theorem InSn.store {w : World} {g o len : Nat} {l : Sns} (h : InSn w (some ⟨g, o, none⟩) len l) {p : Addr} (hp : g ≠ p.block) (v : Value) : InSn (w.setCell p v) (some ⟨g, o, none⟩) len l :=
  h.blk fun b hb => by obtain ⟨_, o', e⟩ := hb; cases e; exact Below.heap_setCell _ _ _ _ hp
theorem inSn_nil {w : World} {a : Option Addr} : InSn w a 0 [] := ⟨⟨rfl, by omega, (fun h => by omega), (fun _ _ _ i hi => by omega), (fun i hi => by omega)⟩, by omega⟩
/-- What is left of a budget behind some Sents. -/
def szSn (l : Sns) (n : Int) : Int := if n < (l.length : Int) then -1 else n - (l.length : Int)
theorem szSn_le (l : Sns) (n : Int) (h : 0 ≤ n) : -1 ≤ szSn l n ∧ szSn l n ≤ n := by unfold szSn; split <;> omega
theorem inSn_of {w : World} {a : Option Addr} {len : Nat} {l : Sns} {n : Int} (h : RawSn w a len l) (h1 : n ≤ 1048576) (hs : 0 ≤ szSn l n) : InSn w a len l := by
  have hl := h.long
  unfold szSn at hs
  split at hs
  · omega
  · exact ⟨h, by omega⟩
/-- The first k of two rows are the same. -/
def eqSnTo (l m : Sns) (k : Nat) : Prop := ∀ j, j < k → snAt l j = snAt m j
theorem eqSnTo_zero (l m : Sns) : eqSnTo l m 0 := fun j h => by omega
theorem eqSnTo_succ {l m : Sns} {k : Nat} (h : eqSnTo l m k) (hk : snAt l k = snAt m k) : eqSnTo l m (k + 1) := fun j hj => by
  by_cases e : j = k
  · subst e; exact hk
  · exact h j (by omega)
theorem eqSnTo_all {l m : Sns} (hl : l.length = m.length) (h : eqSnTo l m l.length) : l = m := by
  apply List.ext_getElem hl
  intro i h1 h2
  have := h i h1
  rwa [snAt_get h1, snAt_get h2] at this

set_option maxHeartbeats 1000000 in
set_option maxRecDepth 100000 in
theorem szSentS_calls {a : Option Addr} {len cap : Nat} {l : Sns} {w : World} (h : RawSn w a len l) (n : Int) (hn0 : 0 ≤ n) (hn1 : n ≤ 1048576) :
    Calls Try.prog 54 #[.slice a len cap, .int .i64 n] w fun e w' => e = .returned (.int .i64 (szSn l n)) ∧ Below w.heap.size w w' := by
  have hm := h.most
  have hlen := h.long
  by_cases hbig : n < (len : Int)
  · have hs : szSn l n = -1 := by unfold szSn; rw [if_pos (by omega)]
    have HS := Lib.hid hs; clear hs
    go_enter Try.func54, Try.ntmps54
    go_wp2_with fail
    all_goals first
      | (go_ret; exact ⟨ret_int (by rw [HS.out]), Below.refl _ _⟩)
      | (exfalso; omega)
  · have hs : szSn l n = n - (len : Int) := by unfold szSn; rw [if_neg (by omega), hlen]
    have HS := Lib.hid hs; clear hs
    go_enter Try.func54, Try.ntmps54
    go_wp2_with fail
    all_goals first
      | (go_ret; exact ⟨ret_int (by rw [HS.out]), Below.refl _ _⟩)
      | (exfalso; omega)

theorem eqSent_calls (p q : F5) (w : World) : Calls Try.prog 64 #[f5V p, f5V q] w fun e w' => e = .returned (.bool (decide (p = q))) ∧ Below w.heap.size w w' := by
  obtain ⟨p0, p1, p2, p3, p4⟩ := p
  obtain ⟨q0, q1, q2, q3, q4⟩ := q
  have hv : decide ((p0, p1, p2, p3, p4) = (q0, q1, q2, q3, q4)) = (decide (p0 = q0) && decide (p1 = q1) && decide (p2 = q2) && decide (p3 = q3) && decide (p4 = q4)) := by
    rw [Bool.eq_iff_iff]; simp [and_assoc]
  have HV := Lib.hid hv; clear hv
  go_enter Try.func64, Try.ntmps64
  go_wp2
  all_goals go_ret
  all_goals refine ⟨ret_bool ?_, ((Below.refl _ _).alloc (Nat.le_refl _) _).alloc (by simp) _⟩
  all_goals rw [HV.out]
  all_goals simp_all
theorem toSent_calls (p : F5) (w : World) : Calls Try.prog 17 #[f5V p] w fun e w' => e = .returned (f5V p) ∧ Below w.heap.size w w' := by
  obtain ⟨p0, p1, p2, p3, p4⟩ := p
  go_enter Try.func17, Try.ntmps17
  go_wp2
  refine bodyPost_ret (v := f5V (p0, p1, p2, p3, p4)) (by simp [results, Try.results17, go_sem]) rfl ⟨rfl, ?_⟩
  go_grown

/-- Ten cells that a region reads, behind a call that makes memory. -/
theorem keepS10 {a w w' : World} {b1 o1 b2 o2 : Nat} {p q : F5} (hb : Below w.heap.size w w') (h : Below a.heap.size a w ∧ At5 w b1 o1 p ∧ At5 w b2 o2 q) : Below a.heap.size a w' ∧ At5 w' b1 o1 p ∧ At5 w' b2 o2 q :=
  ⟨h.1.trans (hb.mono h.1.size), h.2.1.below hb, h.2.2.below hb⟩
end Go.Proofs.Ytfjmcmdkmecgiaa
