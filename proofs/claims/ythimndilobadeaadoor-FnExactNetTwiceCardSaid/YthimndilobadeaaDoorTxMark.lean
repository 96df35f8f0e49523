/- The laws' marks on rows of texts. -/
import Derived.Test.YthimndilobadeaaDoorTxTo
import Derived.Test.YthimndilobadeaaDoorMark
import Derived.StillTailTactics
import Derived.Deep.RegionHeld3
namespace Go.Proofs.YthimndilobadeaaDoor
open Go.RowKit

theorem tgrown_trans {a b c : World} {r : Option Nat} (h : a.grownBy b r) (k : b.grownBy c r) : a.grownBy c r :=
  ⟨k.os.trans h.os, k.tape.trans h.tape, k.output.trans h.output, Nat.le_trans h.size k.size, fun i hi hne => (k.block i (Nat.lt_of_lt_of_le hi h.size) hne).trans (h.block i hi hne)⟩
theorem tgrown_set (w : World) (g o : Nat) (v : Value) : w.grownBy (w.setCell ⟨g, o, none⟩ v) (some g) :=
  ⟨rfl, rfl, rfl, by simp, fun k _ hk => Below.heap_setCell _ _ _ _ (fun e => hk (by simp [e]))⟩
theorem tgrown_below {w w' : World} (h : Below w.heap.size w w') (r : Option Nat) : w.grownBy w' r := ⟨h.os, h.tape, h.output, h.size, fun k hk _ => h.block k hk⟩

def tmarks (k len : Nat) : Tx := (List.range len).map fun i => mText (k + i)
theorem tmarks_len (k len : Nat) : (tmarks k len).length = len := by simp [tmarks]
theorem tmarks_at {k len i : Nat} (h : i < len) : txAt (tmarks k len) i = mText (k + i) := by simp [txAt, tmarks, List.getD, h]
theorem mtGo_len : ∀ (f k : Nat) (l : List UInt8), (mGo f k l).length ≤ f + l.length
  | 0, _, l => by simp [mGo]
  | f + 1, k, l => by
    unfold mGo
    split
    · omega
    · have := mtGo_len f (k / 10) (UInt8.ofNat (48 + k % 10) :: l); rw [List.length_cons] at this; omega
theorem mtText_len (k : Nat) : (mText k).length ≤ 21 := by
  unfold mText
  split
  · simp
  · have := mtGo_len 20 k []; simp at this ⊢; omega
/-- The first j texts are marked. -/
def TxMarked (w : World) (g k j : Nat) : Prop := ∀ i, i < j → w.cell? ⟨g, i, none⟩ = some (gs (mText (k + i)))
theorem TxMarked.below {w w' : World} {g k j : Nat} (h : TxMarked w g k j) (hb : Below w.heap.size w w') : TxMarked w' g k j := fun i hi =>
  (hb.cell (World.block_lt_of_cell? w _ (h i hi))).trans (h i hi)
theorem TxMarked.succ {w : World} {g k j len : Nat} (h : TxMarked w g k j) (ho : OpenTx w g len) (hj : j < len) : TxMarked (w.setCell ⟨g, j, none⟩ (gs (mText (k + j)))) g k (j + 1) := fun i hi => by
  by_cases e : i = j
  · subst e
    obtain ⟨u, hu⟩ := ho.there i hj
    exact World.cell?_setCell_same _ _ _ hu
  · exact (World.cell?_setCell_other _ _ _ _ (fun e' => by injection e'; omega)).trans (h i (by omega))
theorem OpenTx.put {w : World} {g len o : Nat} (h : OpenTx w g len) (v : Value) : OpenTx (w.setCell ⟨g, o, none⟩ v) g len := by
  refine ⟨fun i hi => ?_, fun i hi => (World.frozen?_setCell _ _ _ _).trans (h.free i hi)⟩
  obtain ⟨u, hu⟩ := h.there i hi
  exact cell?_setCell_some hu
theorem txMarked_in {w : World} {g k len : Nat} (h : TxMarked w g k len) (hm : len ≤ 2000000) : InTx w (some ⟨g, 0, none⟩) len (tmarks k len) := by
  refine ⟨tmarks_len _ _, hm, fun _ => ⟨g, 0, rfl⟩, fun b o hb i hi => ?_, fun i hi => ?_⟩
  · cases hb; rw [tmarks_at hi, Nat.zero_add]; exact h i hi
  · rw [tmarks_at hi]
    have := mtText_len (k + i)
    omega

set_option maxHeartbeats 1000000 in
set_option maxRecDepth 100000 in
theorem markStringS_calls {g len cap k : Nat} {w : World} (ho : OpenTx w g len) (hm : len ≤ 2000000) (hk : k ≤ 100000000) :
    Calls Tryd.prog 25 #[.slice (some ⟨g, 0, none⟩) len cap, .int .i64 (k : Int)] w fun e w' => e = .returned (.int .i64 ((k + len : Nat) : Int)) ∧ InTx w' (some ⟨g, 0, none⟩) len (tmarks k len) ∧ OpenTx w' g len ∧ w.grownBy w' (some g) := by
  go_enter Tryd.func25, Tryd.ntmps25
  go_wp2_with fail
  go_loopw [1, 5] (fun v i wr => ∃ j : Nat, i = .int .i64 (j : Int) ∧ v = .int .i64 ((k + j : Nat) : Int) ∧ j ≤ len ∧ OpenTx wr g len ∧ TxMarked wr g k j ∧ w.grownBy wr (some g)) (fun _ i _ => len - (intOf i).toNat)
  case atStart => exact ⟨0, rfl, rfl, Nat.zero_le _, ho, (fun i hi => absurd hi (by omega)), tgrown_below (Below.refl _ _) _⟩
  case round =>
    clear ho
    obtain ⟨j, rfl, rfl, hj, ho, hmk, hgr⟩ := hrel
    by_cases hjl : j < len
    · have hcall := markText_calls (k + j) wr (by omega)
      have hlt : g < wr.heap.size := by obtain ⟨v, hv⟩ := ho.there j hjl; exact World.block_lt_of_cell? wr _ hv
      have hs1 : k + j + 1 ≤ 200000000 := by omega
      have HC := Lib.hid hcall
      have HO := Lib.hid ho
      have HM := Lib.hid hmk
      have HG := Lib.hid hgr
      clear hcall ho hmk hgr
      go_wp2_with fail
      refine HC.out.mono ?_
      rintro e w2 ⟨rfl, hb2⟩
      have ho2 := HO.out.below hlt hb2
      obtain ⟨v0, e0⟩ := ho2.there j hjl
      have z0 := ho2.free j hjl
      have HM2 := Lib.hid ((HM.out.below hb2).succ ho2 hjl)
      have HO2 := Lib.hid (ho2.put (o := j) (gs (mText (k + j))))
      have HG2 := Lib.hid (tgrown_trans (tgrown_trans HG.out (tgrown_below hb2 _)) (tgrown_set w2 g j (gs (mText (k + j)))))
      clear ho2 hb2 HC HO HM HG
      go_wp2_with fail
      exact ⟨⟨j + 1, by go_num, by go_num, by omega, HO2.out, HM2.out, HG2.out⟩, by simp [intOf]; omega⟩
    · have hjl' : j = len := by omega
      subst hjl'
      have hin := txMarked_in hmk hm
      have HI := Lib.hid hin
      have HO := Lib.hid ho
      have HG := Lib.hid hgr
      clear ho hmk hgr hin
      go_wp2_with fail
      go_ret
      exact ⟨rfl, HI.out, HO.out, HG.out⟩

/-- One cell that a region reads, behind a call that makes memory. -/
theorem keepW1 {a w w' : World} {p : Addr} {x : Value} (hb : Below w.heap.size w w') (h : Below a.heap.size a w ∧ w.cell? p = some x) : Below a.heap.size a w' ∧ w'.cell? p = some x :=
  ⟨h.1.trans (hb.mono h.1.size), (hb.cell (World.block_lt_of_cell? w _ h.2)).trans h.2⟩

set_option maxHeartbeats 1000000 in
set_option maxRecDepth 100000 in
theorem heldStringS_calls {a : Option Addr} {len cap k : Nat} {w : World} (h : InTx w a len (tmarks k len)) (hk : k ≤ 100000000) :
    Calls Tryd.prog 42 #[.slice a len cap, .int .i64 (k : Int)] w fun e w' => e = .returned (.int .i64 ((k + len : Nat) : Int)) ∧ Below w.heap.size w w' := by
  have hm := h.most
  go_enter Tryd.func42, Tryd.ntmps42
  go_wp2_with fail
  go_loopw [1, 5] (fun v i wr => ∃ j : Nat, i = .int .i64 (j : Int) ∧ v = .int .i64 ((k + j : Nat) : Int) ∧ j ≤ len ∧ Below w.heap.size w wr) (fun _ i _ => len - (intOf i).toNat)
  case atStart => exact ⟨0, rfl, rfl, Nat.zero_le _, Below.refl _ _⟩
  case round =>
    obtain ⟨j, rfl, rfl, hj, hbl⟩ := hrel
    by_cases hjl : j < len
    · have hh := h.below hbl
      obtain ⟨b, o, rfl⟩ := hh.there (by omega)
      have c0 := hh.cell b o rfl j hjl
      rw [tmarks_at hjl] at c0
      have hcall := fun w => markText_calls (k + j) w (by omega)
      have hs1 : k + j + 1 ≤ 200000000 := by omega
      generalize mText (k + j) = t at *
      generalize hn : k + j = n at *
      have HN := Lib.hid hn
      have HC := Lib.hid hcall
      have HBL := Lib.hid hbl
      clear hh h hcall hbl hn
      go_wp2_with fail
      first | (go_region_held3 (fun W => Below wr.heap.size wr W ∧ W.cell? ⟨b, o + j, none⟩ = some (gs t)) (first | exact ⟨(Below.refl _ _).drew, c0⟩ | assumption | (refine keepW1 (by assumption) (by assumption))) (first | (go_at_call 41; (with_reducible refine (HC.out _).mono ?_); rintro e w2 ⟨rfl, hb2⟩))) | fail
      have HB2 : Below w.heap.size w w2 := HBL.out.trans ((by assumption : Below wr.heap.size wr w2 ∧ _).1.mono HBL.out.size)
      have HB3 := Lib.hid HB2
      clear HB2
      go_wp2_with fail
      go_roundw
      case rel => exact ⟨j + 1, by go_num, by have := HN.out; exact val_int (by omega), by omega, HB3.out⟩
      case measure => simp [intOf]; omega
    · have hjl' : j = len := by omega
      subst hjl'
      clear h
      go_wp2_with fail
      go_ret
      exact ⟨rfl, hbl⟩
end Go.Proofs.YthimndilobadeaaDoor
