/- The laws' words on one way: two rows of texts. -/
import Derived.Test.YthimndilobadeaaDoorTxLaw
namespace Go.Proofs.YthimndilobadeaaDoor
open Go.RowKit

/-- A way as a value: There and Back. -/
def wayV (a : Option Addr) (la ca : Nat) (b : Option Addr) (lb cb : Nat) : Value := .agg #[.slice a la ca, .slice b lb cb]
/-- What is left of a budget behind a way. -/
def szWy (p : Tx × Tx) (n : Int) : Int := if szTx p.1 n < 0 then -1 else szTx p.2 (szTx p.1 n)
theorem szWy_le (p : Tx × Tx) (n : Int) (h : 0 ≤ n) : -1 ≤ szWy p n ∧ szWy p n ≤ n := by
  have h1 := szTx_le p.1 n h
  unfold szWy
  split
  · omega
  · have := szTx_le p.2 (szTx p.1 n) (by omega); omega

/-- What a call over a world with an argument's block keeps. -/
theorem below_arg {w w1 : World} {o : Obj} (hb : Below (w.alloc o).heap.size (w.alloc o) w1) : Below w.heap.size w w1 :=
  ((Below.refl _ _).alloc (Nat.le_refl _) o).trans (hb.mono (by simp))
theorem arg_second {w w1 : World} {x y : Value} {T : TypeId} (hb : Below (w.alloc (.cells #[x, y] T)).heap.size (w.alloc (.cells #[x, y] T)) w1) : w1.cell? ⟨w.heap.size, 1, none⟩ = some y := by
  have h1 := hb.cell (p := ⟨w.heap.size, 1, none⟩) (by simp)
  rw [h1, World.cell?_alloc_at _ _ _ _ (by simp)]
  rfl
theorem below_args {w w1 : World} {o o' : Obj} (hb : Below ((w.alloc o).alloc o').heap.size ((w.alloc o).alloc o') w1) : Below w.heap.size w w1 := below_arg (below_arg hb)
theorem args_second {w w1 : World} {x y x' y' : Value} {T T' : TypeId} (hb : Below ((w.alloc (.cells #[x, y] T)).alloc (.cells #[x', y'] T')).heap.size ((w.alloc (.cells #[x, y] T)).alloc (.cells #[x', y'] T')) w1) :
    w1.cell? ⟨w.heap.size, 1, none⟩ = some y ∧ w1.cell? ⟨w.heap.size + 1, 1, none⟩ = some y' := by
  have h2 := arg_second hb
  have h1 := arg_second (below_arg hb)
  rw [show (w.alloc (.cells #[x, y] T)).heap.size = w.heap.size + 1 from by simp] at h2
  exact ⟨h1, h2⟩

set_option maxHeartbeats 1000000 in
set_option maxRecDepth 100000 in
theorem szWay_calls {a b : Option Addr} {la ca lb cb : Nat} {t u : Tx} {w : World} (h : RawTx w a la t) (h' : RawTx w b lb u) (n : Int) (hn0 : 0 ≤ n) (hn1 : n ≤ 1048576) :
    Calls Tryd.prog 16 #[wayV a la ca b lb cb, .int .i64 n] w fun e w' => e = .returned (.int .i64 (szWy (t, u) n)) ∧ Below w.heap.size w w' := by
  have c1 := fun (w' : World) (hb : Below w.heap.size w w') => szStringS_calls (cap := ca) (h.below hb) n hn0 hn1
  have b1 := szTx_le t n hn0
  have hres : ∃ R, R = szWy (t, u) n := ⟨_, rfl⟩
  obtain ⟨R, hR⟩ := hres
  rw [← hR]
  unfold szWy at hR
  dsimp only at hR
  by_cases hr : szTx t n < 0
  · rw [if_pos hr] at hR
    generalize szTx t n = r at *
    have C1 := Lib.hid c1
    have HR := Lib.hid hR
    clear c1 h h' hR
    unfold wayV
    go_enter Tryd.func16, Tryd.ntmps16
    go_wp2_with (go_at_call 31; refine (C1.out _ ((Below.refl _ _).alloc (Nat.le_refl _) _)).mono ?_; rintro e w1 ⟨rfl, hb1⟩; have d1 := arg_second hb1; replace hb1 := below_arg hb1)
    go_ret
    exact ⟨ret_int (by rw [HR.out]), hb1⟩
  · rw [if_neg hr] at hR
    have c2 := fun (w' : World) (hb : Below w.heap.size w w') => szStringS_calls (cap := cb) (h'.below hb) (szTx t n) (by omega) (by omega)
    have b2 := szTx_le u (szTx t n) (by omega)
    generalize szTx t n = r at *
    generalize szTx u r = s at *
    have C1 := Lib.hid c1
    have C2 := Lib.hid c2
    have HR := Lib.hid hR
    clear c1 c2 h h' hR
    unfold wayV
    go_enter Tryd.func16, Tryd.ntmps16
    go_wp2_with (first
      | (go_at_call 31; refine (C2.out _ hb1).mono ?_; rintro e w2 ⟨rfl, hb2⟩)
      | (go_at_call 31; refine (C1.out _ ((Below.refl _ _).alloc (Nat.le_refl _) _)).mono ?_; rintro e w1 ⟨rfl, hb1⟩; have d1 := arg_second hb1; replace hb1 := below_arg hb1))
    all_goals
      go_ret
      exact ⟨ret_int (by have := HR.out; omega), hb1.trans (hb2.mono hb1.size)⟩

set_option maxHeartbeats 1000000 in
set_option maxRecDepth 100000 in
theorem eqWay_calls {a b a' b' : Option Addr} {la ca lb cb la' ca' lb' cb' : Nat} {t u t' u' : Tx} {w : World} (h : InTx w a la t) (k : InTx w b lb u) (h' : InTx w a' la' t') (k' : InTx w b' lb' u') :
    Calls Tryd.prog 24 #[wayV a la ca b lb cb, wayV a' la' ca' b' lb' cb'] w fun e w' => e = .returned (.bool (decide ((t, u) = (t', u')))) ∧ Below w.heap.size w w' := by
  have c1 := fun (w' : World) (hb : Below w.heap.size w w') => eqStringS_calls (ca := ca) (cb := ca') (h.below hb) (h'.below hb)
  have c2 := fun (w' : World) (hb : Below w.heap.size w w') => eqStringS_calls (ca := cb) (cb := cb') (k.below hb) (k'.below hb)
  have hres : ∃ R, R = decide ((t, u) = (t', u')) := ⟨_, rfl⟩
  obtain ⟨R, hR⟩ := hres
  rw [← hR]
  clear h k h' k'
  by_cases e1 : t = t'
  · simp only [decide_eq_true e1] at c1
    have hR2 : R = decide (u = u') := by rw [hR]; simp [e1]
    clear hR e1
    by_cases e2 : u = u'
    · simp only [decide_eq_true e2] at c2 hR2
      have C1 := Lib.hid c1
      have C2 := Lib.hid c2
      have HR := Lib.hid hR2
      clear c1 c2 hR2 e2
      unfold wayV
      go_enter Tryd.func24, Tryd.ntmps24
      go_wp2_with (first
        | (go_at_call 40; refine (C2.out _ hb1).mono ?_; rintro e w2 ⟨rfl, hb2⟩)
        | (go_at_call 40; refine (C1.out _ (((Below.refl _ _).alloc (Nat.le_refl _) _).alloc (by simp) _)).mono ?_; rintro e w1 ⟨rfl, hb1⟩; obtain ⟨d1, d2⟩ := args_second hb1; replace hb1 := below_args hb1))
      go_ret
      exact ⟨ret_bool (by rw [HR.out]), hb1.trans (hb2.mono hb1.size)⟩
    · simp only [decide_eq_false e2] at c2 hR2
      have C1 := Lib.hid c1
      have C2 := Lib.hid c2
      have HR := Lib.hid hR2
      clear c1 c2 hR2 e2
      unfold wayV
      go_enter Tryd.func24, Tryd.ntmps24
      go_wp2_with (first
        | (go_at_call 40; refine (C2.out _ hb1).mono ?_; rintro e w2 ⟨rfl, hb2⟩)
        | (go_at_call 40; refine (C1.out _ (((Below.refl _ _).alloc (Nat.le_refl _) _).alloc (by simp) _)).mono ?_; rintro e w1 ⟨rfl, hb1⟩; obtain ⟨d1, d2⟩ := args_second hb1; replace hb1 := below_args hb1))
      go_ret
      exact ⟨ret_bool (by rw [HR.out]), hb1.trans (hb2.mono hb1.size)⟩
  · simp only [decide_eq_false e1] at c1
    have hR2 : R = false := by rw [hR]; simp [e1]
    have C1 := Lib.hid c1
    have HR := Lib.hid hR2
    clear c1 c2 hR hR2 e1
    unfold wayV
    go_enter Tryd.func24, Tryd.ntmps24
    go_wp2_with (go_at_call 40; refine (C1.out _ (((Below.refl _ _).alloc (Nat.le_refl _) _).alloc (by simp) _)).mono ?_; rintro e w1 ⟨rfl, hb1⟩; obtain ⟨d1, d2⟩ := args_second hb1; replace hb1 := below_args hb1)
    go_ret
    exact ⟨ret_bool (by rw [HR.out]), hb1⟩
end Go.Proofs.YthimndilobadeaaDoor
