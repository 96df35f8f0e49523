/- The laws' heldPieceS: of a list that holds its marks. -/
import Derived.Test.YtnfnghcajhmnpaaPieces
import Derived.Test.YtnfnghcajhmnpaaMark
namespace Go.Proofs.Ytnfnghcajhmnpaa
open Go.RowKit

/-- The marks from k on. -/
def marks (k len : Nat) : List Pc := (List.range len).map fun i => (((k + 2 * i : Nat) : Int), mText (k + 2 * i + 1))
theorem marks_at {k len i : Nat} (h : i < len) : pcAt (marks k len) i = (((k + 2 * i : Nat) : Int), mText (k + 2 * i + 1)) := by simp [pcAt, marks, List.getD, h]

/-- Two cells' keep, as keep2. -/
theorem keepH {a w w' : World} {p q : Addr} {x y : Value} (hb : Below w.heap.size w w') (h : Below a.heap.size a w ∧ w.cell? p = some x ∧ w.cell? q = some y) :
    Below a.heap.size a w' ∧ w'.cell? p = some x ∧ w'.cell? q = some y :=
  have c {p : Addr} {x : Value} (h : w.cell? p = some x) : w'.cell? p = some x := (hb.cell (World.block_lt_of_cell? w _ h)).trans h
  ⟨h.1.trans (hb.mono h.1.size), c h.2.1, c h.2.2⟩

set_option maxHeartbeats 1000000 in
set_option maxRecDepth 100000 in
theorem held_calls {a : Option Addr} {len cap k : Nat} {w : World} (h : InPcs w a len (marks k len)) (hk : k ≤ 100000000) :
    Calls Try.prog 46 #[.slice a len cap, .int .i64 (k : Int)] w fun e w' => e = .returned (.int .i64 ((k + 2 * len : Nat) : Int)) ∧ Below w.heap.size w w' := by
  have hm := h.most
  go_enter Try.func46, Try.ntmps46
  go_wp2_with fail
  go_loopw [1, 5] (fun v i wr => ∃ j : Nat, i = .int .i64 (j : Int) ∧ v = .int .i64 ((k + 2 * j : Nat) : Int) ∧ j ≤ len ∧ Below w.heap.size w wr) (fun _ i _ => len - (intOf i).toNat)
  case atStart => exact ⟨0, rfl, rfl, Nat.zero_le _, Below.refl _ _⟩
  case round =>
    obtain ⟨j, rfl, rfl, hj, hbl⟩ := hrel
    by_cases hjl : j < len
    · have hh := h.below hbl
      obtain ⟨b, o, rfl⟩ := hh.there (by omega)
      obtain ⟨c0, c1⟩ := hh.cell b o rfl j hjl
      rw [marks_at hjl] at c0 c1
      dsimp only at c0 c1
      have hcall := fun w => markText_calls (k + 2 * j + 1) w (by omega)
      have hs1 : ((k + 2 * j : Nat) : Int) + 1 = ((k + 2 * j + 1 : Nat) : Int) := by omega
      have hs2 : ((k + 2 * j + 1 : Nat) : Int) + 1 = ((k + 2 * (j + 1) : Nat) : Int) := by omega
      have hw1 : IntKind.i64.wrap (((k + 2 * j : Nat) : Int) + 1) = ((k + 2 * j + 1 : Nat) : Int) := by rw [IntWalk.i64_in _ (by omega)]; omega
      have hb1 : k + 2 * j + 2 ≤ 200000000 := by omega
      have hb2 : k + 2 * (j + 1) = k + 2 * j + 1 + 1 := by omega
      rw [hb2] at hs2
      generalize mText (k + 2 * j + 1) = t at *
      generalize hn : k + 2 * j = n at *
      have hcast : ((n + 1 : Nat) : Int) = (n : Int) + 1 := by omega
      rw [hcast] at hcall
      have HC := Lib.hid hcall
      have HBL := Lib.hid hbl
      have HN := Lib.hid hn
      clear hh h hcall hbl hn hs1 hs2 hw1 hb2
      go_wp2_with fail
      first | (go_region_held3 (fun W => Below w.heap.size w W ∧ W.cell? ⟨b, o + j * 2, none⟩ = some (.int .i64 (n : Int)) ∧ W.cell? ⟨b, o + j * 2 + 1, none⟩ = some (gs t)) (first | exact ⟨HBL.out.drew, c0, c1⟩ | assumption | (refine keepH (by assumption) (by assumption))) (first | (go_at_call 45; refine (HC.out _).mono ?_; rintro e w2 ⟨rfl, hb2⟩))) | fail
      all_goals
        have HB2 : Below w.heap.size w w2 := (by assumption : Below w.heap.size w w2 ∧ _).1
        go_wp2_with fail
        go_roundw
        case rel => exact ⟨j + 1, by go_num, by have := HN.out; exact val_int (by omega), by omega, HB2⟩
        case measure => simp [intOf]; omega
    · have : j = len := by omega
      subst this
      clear h
      go_wp2_with fail
      go_ret
      exact ⟨rfl, hbl⟩
end Go.Proofs.Ytnfnghcajhmnpaa
