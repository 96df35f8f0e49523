/- The laws' eqPiecesOut, markPiecesOut, heldPiecesOut. -/
import Derived.Test.YtnfnghcajhmnpaaPieceEq
import Derived.Test.YtnfnghcajhmnpaaMarkS
namespace Go.Proofs.Ytnfnghcajhmnpaa
open Go.RowKit

/-- What a function of pieces hands back. -/
abbrev outv (a : Option Addr) (len cap : Nat) (c : Int) : Value := .agg #[.slice a len cap, .int .i64 c]

set_option maxHeartbeats 1000000 in
set_option maxRecDepth 100000 in
theorem eqOut_calls {a b : Option Addr} {la ca lb cb : Nat} {l m : List Pc} {w : World} (c d : Int) (h : InPcs w a la l) (h' : InPcs w b lb m) :
    Calls Try.prog 17 #[outv a la ca c, outv b lb cb d] w fun e w' => e = .returned (.bool (decide (l = m) && decide (c = d))) ∧ Below w.heap.size w w' := by
  have hE : ∀ w', Below w.heap.size w w' → Calls Try.prog 14 #[.slice a la ca, .slice b lb cb] w' fun e w2 => e = .returned (.bool (decide (l = m))) ∧ Below w'.heap.size w' w2 := fun w' hb => eqPieceS_calls (h.below hb) (h'.below hb)
  have HE := Lib.hid hE
  clear hE h h'
  generalize decide (l = m) = q at *
  have hb0 : ∀ x y, Below w.heap.size w ((w.alloc x).alloc y) := fun x y => ((Below.refl _ _).alloc (Nat.le_refl _) x).alloc (by simp) y
  have HB0 := Lib.hid hb0
  clear hb0
  go_enter Try.func17, Try.ntmps17
  go_wp2_with fail
  have hb0 := HB0.out (.cells #[.slice a la ca, .int .i64 c] 30) (.cells #[.slice b lb cb, .int .i64 d] 30)
  have x0 : ((w.alloc (.cells #[.slice a la ca, .int .i64 c] 30)).alloc (.cells #[.slice b lb cb, .int .i64 d] 30)).cell? ⟨w.heap.size, 1, none⟩ = some (.int .i64 c) := by simp [go_sem]
  have x1 : ((w.alloc (.cells #[.slice a la ca, .int .i64 c] 30)).alloc (.cells #[.slice b lb cb, .int .i64 d] 30)).cell? ⟨w.heap.size + 1, 1, none⟩ = some (.int .i64 d) := by simp [go_sem]
  generalize (w.alloc (.cells #[.slice a la ca, .int .i64 c] 30)).alloc (.cells #[.slice b lb cb, .int .i64 d] 30) = w2 at *
  refine (HE.out _ hb0).mono ?_
  rintro e w3 ⟨rfl, hb3⟩
  have y0 := (hb3.cell (World.block_lt_of_cell? w2 _ x0)).trans x0
  have y1 := (hb3.cell (World.block_lt_of_cell? w2 _ x1)).trans x1
  have hb4 := hb0.trans (hb3.mono hb0.size)
  have HB4 := Lib.hid hb4
  clear hb0 hb3 hb4 x0 x1 HE HB0
  cases q with
  | false =>
    go_wp2_with fail
    go_ret
    exact ⟨ret_bool (by simp), HB4.out⟩
  | true =>
    by_cases hcd : c = d
    · subst hcd
      go_wp2_with fail
      go_ret
      exact ⟨ret_bool (by simp), HB4.out⟩
    · have hd : (c != d) = true := by simpa using hcd
      go_wp2_with fail
      go_ret
      exact ⟨ret_bool (by simp [hcd]), HB4.out⟩

theorem markOut_calls {g o len cap k : Nat} {w : World} (c : Int) (ho : Open w g o len) (hm : len ≤ 2000000) (hk : k ≤ 100000000) :
    Calls Try.prog 19 #[outv (some ⟨g, o, none⟩) len cap c, .int .i64 (k : Int)] w fun e w' => e = .returned (.int .i64 ((k + 2 * len : Nat) : Int)) ∧ Open w' g o len ∧ Marked w' g o k len ∧ w.grownBy w' (some g) := by
  have hC : ∀ x, Calls Try.prog 18 #[.slice (some ⟨g, o, none⟩) len cap, .int .i64 (k : Int)] (w.alloc x) fun e w' => e = .returned (.int .i64 ((k + 2 * len : Nat) : Int)) ∧ Open w' g o len ∧ Marked w' g o k len ∧ w.grownBy w' (some g) := fun x =>
    (mark_calls (ho.below ((Below.refl _ _).alloc (Nat.le_refl _) x)) hm hk).mono (fun e w' ⟨h1, h2, h3, h4⟩ => ⟨h1, h2, h3, grown_trans (World.grownBy_alloc w x _) h4⟩)
  have HC := Lib.hid hC
  clear hC ho
  go_enter Try.func19, Try.ntmps19
  go_wp2_with (go_at_call 18; refine (HC.out _).mono ?_; rintro e w2 ⟨rfl, h1, h2, h3⟩)
  go_ret
  exact ⟨rfl, h1, h2, h3⟩

theorem heldOut_calls {a : Option Addr} {len cap k : Nat} {w : World} (c : Int) (h : InPcs w a len (marks k len)) (hk : k ≤ 100000000) :
    Calls Try.prog 20 #[outv a len cap c, .int .i64 (k : Int)] w fun e w' => e = .returned (.int .i64 ((k + 2 * len : Nat) : Int)) ∧ Below w.heap.size w w' := by
  have hm := h.most
  have hC : ∀ x, Calls Try.prog 46 #[.slice a len cap, .int .i64 (k : Int)] (w.alloc x) fun e w' => e = .returned (.int .i64 ((k + 2 * len : Nat) : Int)) ∧ Below w.heap.size w w' := fun x =>
    have hb : Below w.heap.size w (w.alloc x) := (Below.refl _ _).alloc (Nat.le_refl _) x
    (held_calls (h.below hb) hk).mono (fun e w' ⟨h1, h2⟩ => ⟨h1, hb.trans (h2.mono hb.size)⟩)
  have HC := Lib.hid hC
  clear hC h
  go_enter Try.func20, Try.ntmps20
  go_wp2_with (go_at_call 46; refine (HC.out _).mono ?_; rintro e w2 ⟨rfl, h1⟩)
  go_ret
  exact ⟨rfl, h1⟩
end Go.Proofs.Ytnfnghcajhmnpaa
