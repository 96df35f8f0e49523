/- The laws' word on whether two lists of pieces are the same. -/
import Derived.Test.YtnfnghcajhmnpaaPieceTo
namespace Go.Proofs.Ytnfnghcajhmnpaa
open Go.RowKit

/-- The first k pieces of two lists are the same. -/
def eqTo (l m : List Pc) (k : Nat) : Prop := ∀ j, j < k → pcAt l j = pcAt m j
theorem eqTo_zero (l m : List Pc) : eqTo l m 0 := fun j h => by omega
theorem eqTo_succ {l m : List Pc} {k : Nat} (h : eqTo l m k) (hk : pcAt l k = pcAt m k) : eqTo l m (k + 1) := fun j hj => by
  by_cases e : j = k
  · subst e; exact hk
  · exact h j (by omega)
theorem eqTo_all {l m : List Pc} (hl : l.length = m.length) (h : eqTo l m l.length) : l = m := by
  apply List.ext_getElem hl
  intro i h1 h2
  have := h i h1
  simpa [pcAt, List.getD, h1, h2] using this

set_option maxHeartbeats 1000000 in
set_option maxRecDepth 100000 in
theorem eqPieceS_calls {a b : Option Addr} {la ca lb cb : Nat} {l m : List Pc} {w : World} (h : InPcs w a la l) (h' : InPcs w b lb m) :
    Calls Try.prog 14 #[.slice a la ca, .slice b lb cb] w fun e w' => e = .returned (.bool (decide (l = m))) ∧ Below w.heap.size w w' := by
  have hm := h.most
  have hm' := h'.most
  have hl := h.long
  have hl' := h'.long
  by_cases hne : la = lb
  · subst hne
    go_enter Try.func14, Try.ntmps14
    go_wp2_with fail
    go_loopw [5] (fun i wr => ∃ k : Nat, i = .int .i64 (k : Int) ∧ k ≤ la ∧ eqTo l m k ∧ Below w.heap.size w wr) (fun i _ => la - (intOf i).toNat)
    case atStart => exact ⟨0, rfl, Nat.zero_le _, eqTo_zero _ _, Below.refl _ _⟩
    case round =>
      obtain ⟨k, rfl, hk, hto, hbl⟩ := hrel
      by_cases hkl : k < la
      · have hh := h.below hbl
        have hh' := h'.below hbl
        obtain ⟨b1, o1, rfl⟩ := hh.there (by omega)
        obtain ⟨b2, o2, rfl⟩ := hh'.there (by omega)
        obtain ⟨c0, c1⟩ := hh.cell b1 o1 rfl k hkl
        obtain ⟨d0, d1⟩ := hh'.cell b2 o2 rfl k hkl
        have hcall := eqPiece_calls (pcAt l k) (pcAt m k)
        by_cases hq : pcAt l k = pcAt m k
        · have hto' := eqTo_succ hto hq
          rw [decide_eq_true hq] at hcall
          generalize pcAt l k = p at *
          generalize pcAt m k = q at *
          obtain ⟨at0, t⟩ := p
          obtain ⟨at1, u⟩ := q
          dsimp only at c0 c1 d0 d1
          have HC := Lib.hid hcall
          have HT := Lib.hid hto'
          have HBL := Lib.hid hbl
          clear hh hh' h h' hcall hto hto' hbl hq
          go_wp2_with fail
          first | (go_region_held3 (fun W => Below w.heap.size w W ∧ W.cell? ⟨b1, o1 + k * 2, none⟩ = some (.int .i64 at0) ∧ W.cell? ⟨b1, o1 + k * 2 + 1, none⟩ = some (gs t) ∧ W.cell? ⟨b2, o2 + k * 2, none⟩ = some (.int .i64 at1) ∧ W.cell? ⟨b2, o2 + k * 2 + 1, none⟩ = some (gs u)) (first | exact ⟨HBL.out.drew, c0, c1, d0, d1⟩ | assumption | (refine keep4 (by assumption) (by assumption))) (first | (go_at_call 37; refine (HC.out _).mono ?_; rintro e w2 ⟨rfl, hb2⟩))) | fail
          have HB2 : Below w.heap.size w w2 := (by assumption : Below w.heap.size w w2 ∧ _).1
          go_wp2_with fail
          go_roundw
          case rel => exact ⟨k + 1, by go_num, by omega, HT.out, HB2⟩
          case measure => simp [intOf]; omega
        · have hto' : ¬ l = m := fun e => hq (by rw [e])
          rw [decide_eq_false hq] at hcall
          generalize pcAt l k = p at *
          generalize pcAt m k = q at *
          obtain ⟨at0, t⟩ := p
          obtain ⟨at1, u⟩ := q
          dsimp only at c0 c1 d0 d1
          have HC := Lib.hid hcall
          have HT := Lib.hid hto'
          have HBL := Lib.hid hbl
          clear hh hh' h h' hcall hto hto' hbl hq
          go_wp2_with fail
          first | (go_region_held3 (fun W => Below w.heap.size w W ∧ W.cell? ⟨b1, o1 + k * 2, none⟩ = some (.int .i64 at0) ∧ W.cell? ⟨b1, o1 + k * 2 + 1, none⟩ = some (gs t) ∧ W.cell? ⟨b2, o2 + k * 2, none⟩ = some (.int .i64 at1) ∧ W.cell? ⟨b2, o2 + k * 2 + 1, none⟩ = some (gs u)) (first | exact ⟨HBL.out.drew, c0, c1, d0, d1⟩ | assumption | (refine keep4 (by assumption) (by assumption))) (first | (go_at_call 37; refine (HC.out _).mono ?_; rintro e w2 ⟨rfl, hb2⟩))) | fail
          have HB2 : Below w.heap.size w w2 := (by assumption : Below w.heap.size w w2 ∧ _).1
          go_wp2_with fail
          go_ret
          exact ⟨ret_bool (by rw [decide_eq_false HT.out]), HB2⟩
      · have hkl' : k = la := by omega
        have he : l = m := eqTo_all (by omega) (by rw [hl, ← hkl']; exact hto)
        have HE := Lib.hid he
        clear h h' hto he hl hl'
        go_wp2_with fail
        go_ret
        exact ⟨ret_bool (by rw [decide_eq_true HE.out]), hbl⟩
  · have he : ¬ l = m := fun e => by subst e; omega
    have HE := Lib.hid he
    have hd : ((la : Int) != (lb : Int)) = true := by simp; omega
    clear h h' he hl hl'
    go_enter Try.func14, Try.ntmps14
    go_wp2_with fail
    go_ret
    exact ⟨ret_bool (by rw [decide_eq_false HE.out]), Below.refl _ _⟩
end Go.Proofs.Ytnfnghcajhmnpaa
