/- A Line: the laws' words on one. -/
import Derived.Test.YtfjmcmdkmecgiaaSnLaw
import Derived.Test.YtfjmcmdkmecgiaaClk
import Derived.Test.YtfjmcmdkmecgiaaFrom
namespace Go.Proofs.Ytfjmcmdkmecgiaa
open Go.RowKit

/-- A Line: Mean, Var, Rto, Most, Next, and what is out. -/
abbrev Ln := F5 × Sns
/-- A Line as a value. -/
def lineV (p : F5) (a : Option Addr) (la ca : Nat) : Value := .agg #[.int .i64 p.1, .int .i64 p.2.1, .int .i64 p.2.2.1, .int .i64 p.2.2.2.1, .int .i64 p.2.2.2.2, .slice a la ca]
theorem Box.six {w : World} {g : Nat} {a b c d e f : Value} (k : Box w g [a, b, c, d, e, f]) :
    (w.cell? ⟨g, 0, none⟩ = some a ∧ w.cell? ⟨g, 1, none⟩ = some b ∧ w.cell? ⟨g, 2, none⟩ = some c ∧ w.cell? ⟨g, 3, none⟩ = some d ∧ w.cell? ⟨g, 4, none⟩ = some e ∧ w.cell? ⟨g, 5, none⟩ = some f) ∧
    w.frozen? ⟨g, 0, none⟩ = false ∧ w.frozen? ⟨g, 1, none⟩ = false ∧ w.frozen? ⟨g, 2, none⟩ = false ∧ w.frozen? ⟨g, 3, none⟩ = false ∧ w.frozen? ⟨g, 4, none⟩ = false ∧ w.frozen? ⟨g, 5, none⟩ = false :=
  ⟨⟨k.cell 0 _ rfl, k.cell 1 _ rfl, k.cell 2 _ rfl, k.cell 3 _ rfl, k.cell 4 _ rfl, k.cell 5 _ rfl⟩, k.free 0 (by simp), k.free 1 (by simp), k.free 2 (by simp), k.free 3 (by simp), k.free 4 (by simp), k.free 5 (by simp)⟩

set_option maxHeartbeats 1000000 in
set_option maxRecDepth 100000 in
theorem szLine_calls {p : F5} {a : Option Addr} {la ca : Nat} {t : Sns} {w : World} (h : RawSn w a la t) (n : Int) (hn0 : 0 ≤ n) (hn1 : n ≤ 1048576) :
    Calls Try.prog 41 #[lineV p a la ca, .int .i64 n] w fun e w' => e = .returned (.int .i64 (szSn t n)) ∧ Below w.heap.size w w' := by
  obtain ⟨p0, p1, p2, p3, p4⟩ := p
  have c1 := fun (w' : World) (hb : Below w.heap.size w w') => szSentS_calls (cap := ca) (h.below hb) n hn0 hn1
  have b1 := szSn_le t n hn0
  generalize szSn t n = r at *
  have C1 := Lib.hid c1
  clear c1 h
  by_cases hr : r < 0
  · have hr1 : r = -1 := by omega
    have HR := Lib.hid hr1
    clear hr1
    unfold lineV
    go_enter Try.func41, Try.ntmps41
    go_wp2_with (go_at_call 54; refine (C1.out _ ((Below.refl _ _).alloc (Nat.le_refl _) _)).mono ?_; rintro e w1 ⟨rfl, hb1⟩; replace hb1 := below_box hb1)
    all_goals first
      | (go_ret; exact ⟨ret_int (by rw [HR.out]), hb1⟩)
      | (exfalso; omega)
  · unfold lineV
    go_enter Try.func41, Try.ntmps41
    go_wp2_with (go_at_call 54; refine (C1.out _ ((Below.refl _ _).alloc (Nat.le_refl _) _)).mono ?_; rintro e w1 ⟨rfl, hb1⟩; replace hb1 := below_box hb1)
    all_goals first
      | (go_ret; exact ⟨rfl, hb1⟩)
      | (exfalso; omega)
set_option maxHeartbeats 1000000 in
set_option maxRecDepth 100000 in
theorem eqLine_same {p : F5} {a a' : Option Addr} {la ca la' ca' : Nat} {t : Sns} {w : World} (h : InSn w a la t) (h' : InSn w a' la' t) :
    Calls Try.prog 48 #[lineV p a la ca, lineV p a' la' ca'] w fun e w' => e = .returned (.bool true) ∧ Below w.heap.size w w' := by
  obtain ⟨p0, p1, p2, p3, p4⟩ := p
  have H1 := Lib.hid (fun (w' : World) (hb : Below w.heap.size w w') => eqSentS_calls (ca := ca) (cb := ca') (h.below hb) (h'.below hb))
  have H0 := Lib.hid (fun W => eqClock_same p0 p1 p2 W)
  rw [decide_eq_true rfl] at H1
  clear h h'
  unfold lineV
  dsimp only
  have n2 := box_two w [.int .i64 p0, .int .i64 p1, .int .i64 p2, .int .i64 p3, .int .i64 p4, .slice a la ca] [.int .i64 p0, .int .i64 p1, .int .i64 p2, .int .i64 p3, .int .i64 p4, .slice a' la' ca'] 57 57 (by simp) (by simp)
  dsimp only at n2
  go_enter Try.func48, Try.ntmps48
  go_wp2_with fail
  generalize (w.alloc (.cells #[.int .i64 p0, .int .i64 p1, .int .i64 p2, .int .i64 p3, .int .i64 p4, .slice a la ca] 57)).alloc (.cells #[.int .i64 p0, .int .i64 p1, .int .i64 p2, .int .i64 p3, .int .i64 p4, .slice a' la' ca'] 57) = W at *
  obtain ⟨n1, n2, -, hb0⟩ := n2
  (with_reducible refine (H0.out _).mono ?_); rintro e w1 ⟨rfl, hb1⟩
  obtain ⟨⟨-, -, -, c3, c4, c5⟩, -⟩ := (n1.below hb1).six
  obtain ⟨⟨-, -, -, d3, d4, d5⟩, -⟩ := (n2.below hb1).six
  have HB1 := Lib.hid (hb0.trans (hb1.mono hb0.size))
  clear n1 n2 hb0 hb1 H0
  go_wp2_with fail
  (with_reducible refine (H1.out _ HB1.out).mono ?_); rintro e w2 ⟨rfl, hb2⟩
  have HB2 := Lib.hid (HB1.out.trans (hb2.mono HB1.out.size))
  clear hb2 HB1 H1 c3 c4 c5 d3 d4 d5
  go_wp2_with fail
  go_ret
  exact ⟨rfl, HB2.out⟩
end Go.Proofs.Ytfjmcmdkmecgiaa
