/- A SndOut without Segs, of Lines without Out: the laws' words on it. -/
import Derived.Test.YtfjmcmdkmecgiaaSndI
namespace Go.Proofs.Ytfjmcmdkmecgiaa
open Go.RowKit

/-- A SndOut without Segs, as a value. -/
def sndOutV (ed : Int) (op : Bool) (ms : Int) (a : Option Addr) (l c : Nat) (code : Int) : Value := .agg #[.int .i64 0, gs [], .int .i64 0, .int .i64 ed, .bool op, .int .i64 ms, .slice a l c, .slice none 0 0, .int .i64 code]
theorem Box.nine {w : World} {g : Nat} {a b c d e f h i j : Value} (k : Box w g [a, b, c, d, e, f, h, i, j]) :
    (w.cell? ⟨g, 0, none⟩ = some a ∧ w.cell? ⟨g, 1, none⟩ = some b ∧ w.cell? ⟨g, 2, none⟩ = some c ∧ w.cell? ⟨g, 3, none⟩ = some d ∧ w.cell? ⟨g, 4, none⟩ = some e ∧ w.cell? ⟨g, 5, none⟩ = some f ∧ w.cell? ⟨g, 6, none⟩ = some h ∧ w.cell? ⟨g, 7, none⟩ = some i ∧ w.cell? ⟨g, 8, none⟩ = some j) ∧
    w.frozen? ⟨g, 0, none⟩ = false ∧ w.frozen? ⟨g, 1, none⟩ = false ∧ w.frozen? ⟨g, 2, none⟩ = false ∧ w.frozen? ⟨g, 3, none⟩ = false ∧ w.frozen? ⟨g, 4, none⟩ = false ∧ w.frozen? ⟨g, 5, none⟩ = false ∧ w.frozen? ⟨g, 6, none⟩ = false ∧ w.frozen? ⟨g, 7, none⟩ = false ∧ w.frozen? ⟨g, 8, none⟩ = false :=
  ⟨⟨k.cell 0 _ rfl, k.cell 1 _ rfl, k.cell 2 _ rfl, k.cell 3 _ rfl, k.cell 4 _ rfl, k.cell 5 _ rfl, k.cell 6 _ rfl, k.cell 7 _ rfl, k.cell 8 _ rfl⟩, k.free 0 (by simp), k.free 1 (by simp), k.free 2 (by simp), k.free 3 (by simp), k.free 4 (by simp), k.free 5 (by simp), k.free 6 (by simp), k.free 7 (by simp), k.free 8 (by simp)⟩
set_option maxHeartbeats 2000000 in
set_option maxRecDepth 100000 in
theorem eqSnd_bare {ed ms : Int} {op : Bool} {a a' : Option Addr} {l c l' c' : Nat} {n : Sns} {w : World} (h : NLa w a l n) (h' : NLa w a' l' n) :
    Calls Try.prog 10 #[.agg #[.int .i64 0, gs [], .int .i64 0, .int .i64 ed, .bool op, .int .i64 ms, .slice a l c], .agg #[.int .i64 0, gs [], .int .i64 0, .int .i64 ed, .bool op, .int .i64 ms, .slice a' l' c']] w fun e w' => e = .returned (.bool true) ∧ Below w.heap.size w w' := by
  have H1 := Lib.hid (fun (W : World) (hb : Below w.heap.size w W) => eqLineS_same (ca := c) (cb := c') (h.below hb).in' (h'.below hb).in')
  clear h h'
  have n2 := box_two w [.int .i64 0, gs [], .int .i64 0, .int .i64 ed, .bool op, .int .i64 ms, .slice a l c] [.int .i64 0, gs [], .int .i64 0, .int .i64 ed, .bool op, .int .i64 ms, .slice a' l' c'] 29 29 (by simp) (by simp)
  dsimp only at n2
  go_enter Try.func10, Try.ntmps10
  go_wp2_with fail
  generalize (w.alloc (.cells #[.int .i64 0, gs [], .int .i64 0, .int .i64 ed, .bool op, .int .i64 ms, .slice a l c] 29)).alloc (.cells #[.int .i64 0, gs [], .int .i64 0, .int .i64 ed, .bool op, .int .i64 ms, .slice a' l' c'] 29) = W at *
  obtain ⟨-, -, -, hb0⟩ := n2
  (with_reducible refine (H1.out _ hb0).mono ?_); rintro e w1 ⟨rfl, hb1⟩
  have HB1 := Lib.hid (hb0.trans (hb1.mono hb0.size))
  clear hb0 hb1 H1
  go_wp2_with fail
  go_ret
  exact ⟨rfl, HB1.out⟩
theorem eqSegS_none (a b : Option Addr) (c d : Nat) (w : World) : Calls Try.prog 32 #[.slice a 0 c, .slice b 0 d] w fun e w' => e = .returned (.bool true) ∧ Below w.heap.size w w' := by
  go_enter Try.func32, Try.ntmps32
  go_wp2_with fail
  go_loopw [5] (fun i wr => i = .int .i64 0 ∧ Below w.heap.size w wr) (fun _ _ => 0)
  case atStart => exact ⟨rfl, Below.refl _ _⟩
  case round =>
    obtain ⟨rfl, hbl⟩ := hrel
    go_wp2_with fail
    go_ret
    exact ⟨rfl, hbl⟩
theorem markSegS_none (a : Option Addr) (c : Nat) (k : Int) (w : World) : Calls Try.prog 34 #[.slice a 0 c, .int .i64 k] w fun e w' => e = .returned (.int .i64 k) ∧ Below w.heap.size w w' := by
  go_enter Try.func34, Try.ntmps34
  go_wp2_with fail
  go_loopw [1, 5] (fun v i wr => v = .int .i64 k ∧ i = .int .i64 0 ∧ Below w.heap.size w wr) (fun _ _ _ => 0)
  case atStart => exact ⟨rfl, rfl, Below.refl _ _⟩
  case round =>
    obtain ⟨rfl, rfl, hbl⟩ := hrel
    go_wp2_with fail
    go_ret
    exact ⟨rfl, hbl⟩
theorem heldSegS_none (a : Option Addr) (c : Nat) (k : Int) (w : World) : Calls Try.prog 36 #[.slice a 0 c, .int .i64 k] w fun e w' => e = .returned (.int .i64 k) ∧ Below w.heap.size w w' := by
  go_enter Try.func36, Try.ntmps36
  go_wp2_with fail
  go_loopw [1, 5] (fun v i wr => v = .int .i64 k ∧ i = .int .i64 0 ∧ Below w.heap.size w wr) (fun _ _ _ => 0)
  case atStart => exact ⟨rfl, rfl, Below.refl _ _⟩
  case round =>
    obtain ⟨rfl, rfl, hbl⟩ := hrel
    go_wp2_with fail
    go_ret
    exact ⟨rfl, hbl⟩
set_option maxHeartbeats 2000000 in
set_option maxRecDepth 100000 in
theorem eqSndOut_bare {ed ms code : Int} {op : Bool} {a a' : Option Addr} {l c l' c' : Nat} {n : Sns} {w : World} (h : NLa w a l n) (h' : NLa w a' l' n) :
    Calls Try.prog 13 #[sndOutV ed op ms a l c code, sndOutV ed op ms a' l' c' code] w fun e w' => e = .returned (.bool true) ∧ Below w.heap.size w w' := by
  have H1 := Lib.hid (fun (W : World) (hb : Below w.heap.size w W) => eqSnd_bare (ed := ed) (ms := ms) (op := op) (c := c) (c' := c') (h.below hb) (h'.below hb))
  have H2 := Lib.hid (fun W => eqSegS_none none none 0 0 W)
  clear h h'
  unfold sndOutV
  have n2 := box_two w [.int .i64 0, gs [], .int .i64 0, .int .i64 ed, .bool op, .int .i64 ms, .slice a l c, .slice none 0 0, .int .i64 code] [.int .i64 0, gs [], .int .i64 0, .int .i64 ed, .bool op, .int .i64 ms, .slice a' l' c', .slice none 0 0, .int .i64 code] 35 35 (by simp) (by simp)
  dsimp only at n2
  go_enter Try.func13, Try.ntmps13
  go_wp2_with fail
  generalize (w.alloc (.cells #[.int .i64 0, gs [], .int .i64 0, .int .i64 ed, .bool op, .int .i64 ms, .slice a l c, .slice none 0 0, .int .i64 code] 35)).alloc (.cells #[.int .i64 0, gs [], .int .i64 0, .int .i64 ed, .bool op, .int .i64 ms, .slice a' l' c', .slice none 0 0, .int .i64 code] 35) = W at *
  obtain ⟨n1, n2, -, hb0⟩ := n2
  (with_reducible refine (H1.out _ hb0).mono ?_); rintro e w1 ⟨rfl, hb1⟩
  obtain ⟨⟨-, -, -, -, -, -, -, c7, c8⟩, -⟩ := (n1.below hb1).nine
  obtain ⟨⟨-, -, -, -, -, -, -, d7, d8⟩, -⟩ := (n2.below hb1).nine
  have N1 := Lib.hid (n1.below hb1)
  have N2 := Lib.hid (n2.below hb1)
  have HB1 := Lib.hid (hb0.trans (hb1.mono hb0.size))
  clear hb0 hb1 H1 n1 n2
  go_wp2_with fail
  (with_reducible refine (H2.out _).mono ?_); rintro e w2 ⟨rfl, hb2⟩
  clear c7 c8 d7 d8
  obtain ⟨⟨-, -, -, -, -, -, -, -, c8⟩, -⟩ := (N1.out.below hb2).nine
  obtain ⟨⟨-, -, -, -, -, -, -, -, d8⟩, -⟩ := (N2.out.below hb2).nine
  have HB2 := Lib.hid (HB1.out.trans (hb2.mono HB1.out.size))
  clear hb2 HB1 N1 N2
  go_wp2_with fail
  go_ret
  exact ⟨rfl, HB2.out⟩
set_option maxHeartbeats 2000000 in
set_option maxRecDepth 100000 in
theorem markSnd_bare {ed ms : Int} {op : Bool} {a : Option Addr} {l c k : Nat} {n : Sns} {w : World} (h : NLa w a l n) (hk : k ≤ 1000000) :
    Calls Try.prog 33 #[.agg #[.int .i64 0, gs [], .int .i64 0, .int .i64 ed, .bool op, .int .i64 ms, .slice a l c], .int .i64 (k : Int)] w fun e w' => e = .returned (.int .i64 ((k + 5 * l : Nat) : Int)) ∧ NLa w' a l (nlMarks k l) ∧ Kept (LgB a l) w w' := by
  have H1 := Lib.hid (fun (W : World) (hb : Below w.heap.size w W) => markLineS_bare (cap := c) (h.below hb) hk)
  clear h
  generalize k + 5 * l = q at *
  have hb0 : Below w.heap.size w (w.alloc (.cells #[.int .i64 0, gs [], .int .i64 0, .int .i64 ed, .bool op, .int .i64 ms, .slice a l c] 29)) := (Below.refl _ _).alloc (Nat.le_refl _) _
  go_enter Try.func33, Try.ntmps33
  go_wp2_with fail
  (with_reducible refine (H1.out _ hb0).mono ?_); rintro e w1 ⟨rfl, hn, hk1⟩
  have HN := Lib.hid hn
  have HK := Lib.hid ((kept_below (S := LgB a l) hb0).trans hk1)
  clear hb0 hn hk1 H1
  go_wp2_with fail
  go_ret
  exact ⟨rfl, HN.out, HK.out⟩
set_option maxHeartbeats 2000000 in
set_option maxRecDepth 100000 in
theorem heldSnd_bare {ed ms : Int} {op : Bool} {a : Option Addr} {l c k : Nat} {w : World} (h : NLa w a l (nlMarks k l)) (hk : k ≤ 1000000) :
    Calls Try.prog 35 #[.agg #[.int .i64 0, gs [], .int .i64 0, .int .i64 ed, .bool op, .int .i64 ms, .slice a l c], .int .i64 (k : Int)] w fun e w' => e = .returned (.int .i64 ((k + 5 * l : Nat) : Int)) ∧ Below w.heap.size w w' := by
  have H1 := Lib.hid (fun (W : World) (hb : Below w.heap.size w W) => heldLineS_bare (cap := c) (h.below hb) hk)
  clear h
  generalize k + 5 * l = q at *
  have hq : ¬ (q : Int) < 0 := by omega
  have hb0 : Below w.heap.size w (w.alloc (.cells #[.int .i64 0, gs [], .int .i64 0, .int .i64 ed, .bool op, .int .i64 ms, .slice a l c] 29)) := (Below.refl _ _).alloc (Nat.le_refl _) _
  go_enter Try.func35, Try.ntmps35
  go_wp2_with fail
  (with_reducible refine (H1.out _ hb0).mono ?_); rintro e w1 ⟨rfl, hb1⟩
  have HB := Lib.hid (hb0.trans (hb1.mono hb0.size))
  clear hb0 hb1 H1
  go_wp2_with fail
  go_ret
  exact ⟨rfl, HB.out⟩
set_option maxHeartbeats 2000000 in
set_option maxRecDepth 100000 in
theorem markSndOut_bare {ed ms code : Int} {op : Bool} {a : Option Addr} {l c k : Nat} {n : Sns} {w : World} (h : NLa w a l n) (hk : k ≤ 1000000) :
    Calls Try.prog 14 #[sndOutV ed op ms a l c code, .int .i64 (k : Int)] w fun e w' => e = .returned (.int .i64 ((k + 5 * l : Nat) : Int)) ∧ NLa w' a l (nlMarks k l) ∧ Kept (LgB a l) w w' := by
  have hpos : ¬ LgB a l w.heap.size := fun hb => by have := h.lt hb; omega
  have H1 := Lib.hid (fun (W : World) (hb : Below w.heap.size w W) => markSnd_bare (ed := ed) (ms := ms) (op := op) (c := c) (h.below hb) hk)
  have H2 := Lib.hid (fun q W => markSegS_none none 0 q W)
  clear h
  unfold sndOutV
  generalize k + 5 * l = q at *
  have n1 := box_new w [.int .i64 0, gs [], .int .i64 0, .int .i64 ed, .bool op, .int .i64 ms, .slice a l c, .slice none 0 0, .int .i64 code] 35 (by simp)
  have hb0 : Below w.heap.size w (w.alloc (.cells #[.int .i64 0, gs [], .int .i64 0, .int .i64 ed, .bool op, .int .i64 ms, .slice a l c, .slice none 0 0, .int .i64 code] 35)) := (Below.refl _ _).alloc (Nat.le_refl _) _
  go_enter Try.func14, Try.ntmps14
  go_wp2_with fail
  (with_reducible refine (H1.out _ hb0).mono ?_); rintro e w1 ⟨rfl, hn, hk1⟩
  obtain ⟨⟨-, -, -, -, -, -, -, c7, -⟩, -⟩ := (n1.kept (hk1.block _ n1.lt hpos)).nine
  have HN := Lib.hid hn
  have HK := Lib.hid ((kept_below (S := LgB a l) hb0).trans hk1)
  clear hb0 hn hk1 H1 n1 hpos
  go_wp2_with fail
  (with_reducible refine (H2.out _ _).mono ?_); rintro e w2 ⟨rfl, hb2⟩
  have HN2 := Lib.hid (HN.out.below hb2)
  have HK2 := Lib.hid (HK.out.trans (kept_below hb2))
  clear hb2 HN HK H2 c7
  go_wp2_with fail
  go_ret
  exact ⟨rfl, HN2.out, HK2.out⟩
set_option maxHeartbeats 2000000 in
set_option maxRecDepth 100000 in
theorem heldSndOut_bare {ed ms code : Int} {op : Bool} {a : Option Addr} {l c k : Nat} {w : World} (h : NLa w a l (nlMarks k l)) (hk : k ≤ 1000000) :
    Calls Try.prog 15 #[sndOutV ed op ms a l c code, .int .i64 (k : Int)] w fun e w' => e = .returned (.int .i64 ((k + 5 * l : Nat) : Int)) ∧ Below w.heap.size w w' := by
  have H1 := Lib.hid (fun (W : World) (hb : Below w.heap.size w W) => heldSnd_bare (ed := ed) (ms := ms) (op := op) (c := c) (h.below hb) hk)
  have H2 := Lib.hid (fun q W => heldSegS_none none 0 q W)
  clear h
  unfold sndOutV
  generalize k + 5 * l = q at *
  have hq : ¬ (q : Int) < 0 := by omega
  have n1 := box_new w [.int .i64 0, gs [], .int .i64 0, .int .i64 ed, .bool op, .int .i64 ms, .slice a l c, .slice none 0 0, .int .i64 code] 35 (by simp)
  have hb0 : Below w.heap.size w (w.alloc (.cells #[.int .i64 0, gs [], .int .i64 0, .int .i64 ed, .bool op, .int .i64 ms, .slice a l c, .slice none 0 0, .int .i64 code] 35)) := (Below.refl _ _).alloc (Nat.le_refl _) _
  go_enter Try.func15, Try.ntmps15
  go_wp2_with fail
  (with_reducible refine (H1.out _ hb0).mono ?_); rintro e w1 ⟨rfl, hb1⟩
  obtain ⟨⟨-, -, -, -, -, -, -, c7, -⟩, -⟩ := (n1.below hb1).nine
  have HB := Lib.hid (hb0.trans (hb1.mono hb0.size))
  clear hb0 hb1 H1 n1
  go_wp2_with fail
  (with_reducible refine (H2.out _ _).mono ?_); rintro e w2 ⟨rfl, hb2⟩
  have HB2 := Lib.hid (HB.out.trans (hb2.mono HB.out.size))
  clear hb2 HB H2 c7
  go_wp2_with fail
  go_ret
  exact ⟨rfl, HB2.out⟩
end Go.Proofs.Ytfjmcmdkmecgiaa
