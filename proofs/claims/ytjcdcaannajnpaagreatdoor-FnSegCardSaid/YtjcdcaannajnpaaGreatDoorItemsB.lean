/- The program's reader: what is opened, the head of what is sent, and the fault at the end. -/
import Derived.Test.YtjcdcaannajnpaaGreatDoorItems
import Derived.Test.YtjcdcaannajnpaaGreatDoorUnseal
import Derived.Test.YtjcdcaannajnpaaGreatDoorSlice
namespace Go.Proofs.YtjcdcaannajnpaaGreatDoor
open Go.RowKit

theorem prefix_calls (b : List UInt8) (l : UInt8) (w : World) (hl : b.length ≤ 9223372036854775807) :
    Calls Tryz.prog 76 #[gs b, gs [l]] w fun e w' => e = .returned (.bool (decide (b.head? = some l))) ∧ w = w' := by
  cases b with
  | nil =>
    go_enter Tryz.func76, Tryz.ntmps76
    go_wp2_with fail
    go_ret
    exact ⟨rfl, rfl⟩
  | cons c b =>
    have S := slice_head (P := Tryz.prog) (T := 9) Tryz.underlying9 (c :: b) 1 1 rfl (by simp)
    have hd : decide ((c :: b).head? = some l) = (c == l) := by simp [BEq.beq]
    rw [hd]
    have hb : ([c] == [l]) = (c == l) := by simp
    have S' : ∀ W, (Instr.slice 9 (gs (c :: b)) none (some (.int .i64 1)) none).run Tryz.prog W = .ok (gs [c]) W := S
    have hge : (1 : Int) ≤ ((c :: b).length : Int) := by simp; omega
    clear S hd
    go_enter Tryz.func76, Tryz.ntmps76
    go_wp2_with fail
    go_ret
    exact ⟨rfl, rfl⟩
theorem hasPrefix_calls (b : List UInt8) (l : UInt8) (w : World) (hl : b.length ≤ 9223372036854775807) :
    Calls Tryz.prog 64 #[gs b, gs [l]] w fun e w' => e = .returned (.bool (decide (b.head? = some l))) ∧ w = w' := by
  have H := Lib.hid (prefix_calls b l w hl)
  go_enter Tryz.func64, Tryz.ntmps64
  go_wp2_with fail
  (with_reducible refine H.out.mono ?_)
  rintro e w1 ⟨rfl, rfl⟩
  go_wp2_with fail
  go_ret
  exact ⟨rfl, rfl⟩

theorem alloc_there (w : World) (o : Obj) : (w.alloc o).heap[w.heap.size]? = some o := by
  show (w.heap.push o)[w.heap.size]? = _
  simp
/-- A reader was made. -/
def OpenGot (t : List UInt8) (l : UInt8) (w : World) (e : Ending) (w' : World) : Prop :=
  ∃ (p : Nat) (b : List UInt8) (c : Nat), e = .returned (.pointer (some ⟨p, 0, none⟩)) ∧ openC t l = (b, c) ∧ b.length ≤ t.length ∧ w.heap.size ≤ p ∧ Items p b 1 c w' ∧ Below w.heap.size w w'
theorem open_bad {t : List UInt8} {l : UInt8} {c : Nat} (h : unsN t = ([], 0, c)) (hc : c ≠ 0) : openC t l = ([], c) := by
  unfold openC; rw [h, if_neg hc]
theorem open_no {t b : List UInt8} {l : UInt8} (h : unsN t = (b, 0, 0)) (hh : ¬ b.head? = some l) : openC t l = (b, 3) := by
  unfold openC; rw [h, if_pos rfl, if_neg hh]
theorem open_yes {t b : List UInt8} {l : UInt8} (h : unsN t = (b, 0, 0)) (hh : b.head? = some l) : openC t l = (b, 0) := by
  unfold openC; rw [h, if_pos rfl, if_pos hh]
theorem unsN_short2 {t b : List UInt8} {n : Int} {c : Nat} (h : unsN t = (b, n, c)) : b.length ≤ t.length := by
  unfold unsN at h
  split at h
  · simp at h; rw [h.1]; simp
  · split at h
    · simp at h; rw [h.1]; simp
    · split at h
      · simp at h; rw [← h.1]; simp
      · simp at h; rw [h.1]; simp

set_option maxHeartbeats 1000000 in
set_option maxRecDepth 100000 in
theorem open_calls (t : List UInt8) (l : UInt8) (w : World) (hl : t.length ≤ 9223372036854775807) :
    Calls Tryz.prog 39 #[gs t, gs [l]] w (OpenGot t l w) := by
  have hu := unseal_calls t w hl
  rcases unsN_cases t with ⟨c, hc, hn⟩ | ⟨b, hn⟩
  · have HO := Lib.hid (open_bad (l := l) hn hc)
    have HE := Lib.hid (errV_ne hc)
    rw [hn, unsealOut, if_neg hc] at hu
    have HU := Lib.hid hu
    clear hu hn hc
    go_enter Tryz.func39, Tryz.ntmps39
    go_wp2_with fail
    (with_reducible refine HU.out.mono ?_)
    rintro e w1 ⟨rfl, hb1⟩
    have HB := Lib.hid hb1
    clear hb1
    go_wp2_with fail
    go_ret
    refine ⟨w1.heap.size, [], c, rfl, HO.out, by simp, HB.out.size, ?_, HB.out.alloc HB.out.size _⟩
    unfold Items
    rw [HE.out]
    exact alloc_there _ _
  · rw [hn, unsealOut, if_pos rfl] at hu
    have hbt := unsN_short2 hn
    have HU := Lib.hid hu
    have hp := fun w => hasPrefix_calls b l w (by omega)
    by_cases hh : b.head? = some l
    · have HO := Lib.hid (open_yes hn hh)
      rw [decide_eq_true hh] at hp
      have HP := Lib.hid hp
      have HE := Lib.hid errV_zero
      clear hu hn hp hh
      go_enter Tryz.func39, Tryz.ntmps39
      go_wp2_with fail
      (with_reducible refine HU.out.mono ?_)
      rintro e w1 ⟨rfl, hb1⟩
      have HB := Lib.hid hb1
      clear hb1
      go_wp2_with fail
      (with_reducible refine (HP.out _).mono ?_)
      rintro e w2 ⟨rfl, rfl⟩
      go_wp2_with fail
      go_ret
      refine ⟨w1.heap.size, b, 0, rfl, HO.out, hbt, HB.out.size, ?_, HB.out.alloc HB.out.size _⟩
      unfold Items
      rw [HE.out]
      exact alloc_there _ _
    · have HO := Lib.hid (open_no hn hh)
      rw [decide_eq_false hh] at hp
      have HP := Lib.hid hp
      have HE := Lib.hid (errV_ne (c := 3) (by decide))
      clear hu hn hp hh
      go_enter Tryz.func39, Tryz.ntmps39
      go_wp2_with fail
      (with_reducible refine HU.out.mono ?_)
      rintro e w1 ⟨rfl, hb1⟩
      have HB := Lib.hid hb1
      clear hb1
      go_wp2_with fail
      (with_reducible refine (HP.out _).mono ?_)
      rintro e w2 ⟨rfl, rfl⟩
      go_wp2_with fail
      go_ret
      refine ⟨w1.heap.size, b, 3, rfl, HO.out, hbt, HB.out.size, ?_, HB.out.alloc HB.out.size _⟩
      unfold Items
      rw [HE.out]
      exact alloc_there _ _

theorem grew_far {w v : World} {p q off : Nat} {x : Value} (h : w.grownBy v (some p)) (hq : w.heap.size ≤ q) : w.grownBy (v.setCell ⟨q, off, none⟩ x) (some p) :=
  ⟨h.os, h.tape, h.output, by simpa [World.setCell] using h.size, fun i hi hne => (Below.heap_setCell v ⟨q, off, none⟩ x i (by show i ≠ q; omega)).trans (h.block i hi hne)⟩
theorem grew_alloc {w v : World} {p : Nat} {o : Obj} (h : (w.alloc o).grownBy v (some p)) : w.grownBy v (some p) := grew_trans (World.grownBy_alloc w o (some p)) h
theorem Items.far {p q off : Nat} {t : List UInt8} {a : Int} {c : Nat} {w : World} {x : Value} (h : Items p t a c w) (hq : p ≠ q) : Items p t a c (w.setCell ⟨q, off, none⟩ x) :=
  (Below.heap_setCell w ⟨q, off, none⟩ x p hq).trans h
/-- Another block stays where a reader goes on. -/
theorem other_block {w v : World} {p q : Nat} {o : Obj} (h : w.grownBy v (some p)) (ho : w.heap[q]? = some o) (hne : p ≠ q) : v.heap[q]? = some o :=
  (h.block q (Array.getElem?_eq_some_iff.1 ho).1 (by intro e; exact hne (Option.some.inj e).symm)).trans ho

/-- Three numbers in a row. -/
def HeadGot (p : Nat) (t : List UInt8) (a : Int) (c : Nat) (w : World) (e : Ending) (w' : World) : Prop :=
  ∃ (n1 n2 n3 a1 a2 a3 : Int) (c1 c2 c3 : Nat), e = .returned (.agg #[.int .i64 n1, .int .i64 n2, .int .i64 n3]) ∧ (-9223372036854775808 ≤ a3 ∧ a3 ≤ 9223372036854775807) ∧ Step t a c n1 a1 c1 ∧ Step t a1 c1 n2 a2 c2 ∧ Step t a2 c2 n3 a3 c3 ∧ Items p t a3 c3 w' ∧ w.grownBy w' (some p)
set_option maxHeartbeats 1000000 in
set_option maxRecDepth 100000 in
theorem head_calls {p : Nat} {t : List UInt8} {a : Int} {c : Nat} {w : World} (h : Items p t a c w) (hl : t.length ≤ 9223372036854775807) (ha : -9223372036854775808 ≤ a ∧ a ≤ 9223372036854775807) :
    Calls Tryz.prog 40 #[.pointer (some ⟨p, 0, none⟩)] w (HeadGot p t a c w) := by
  have hlt := h.lt
  have H1 := Lib.hid (fun (o : Obj) => num_calls (h.below ((Below.refl _ _).alloc (Nat.le_refl _) o)) hl ha)
  clear h ha
  go_enter Tryz.func40, Tryz.ntmps40
  go_wp2_with fail
  (with_reducible refine (H1.out _).mono ?_)
  rintro e w1 ⟨n1, a1, c1, rfl, ha1, s1, hi1, hg1⟩
  have b1 := other_block hg1 (alloc_there _ _) (by omega)
  have g1 := grew_alloc hg1
  have HS1 := Lib.hid s1
  have HB1 := Lib.hid b1
  have HG1 := Lib.hid g1
  have H2 := Lib.hid (num_calls hi1 hl ha1)
  clear s1 hi1 hg1 b1 g1 ha1
  go_wp2_with fail
  (with_reducible refine H2.out.mono ?_)
  rintro e w2 ⟨n2, a2, c2, rfl, ha2, s2, hi2, hg2⟩
  have HS2 := Lib.hid s2
  have HB2 := Lib.hid (other_block hg2 HB1.out (by omega))
  have HG2 := Lib.hid (grew_trans HG1.out hg2)
  have H3 := Lib.hid (num_calls hi2 hl ha2)
  clear s2 hi2 hg2 ha2
  go_wp2_with fail
  (with_reducible refine H3.out.mono ?_)
  rintro e w3 ⟨n3, a3, c3, rfl, ha3, s3, hi3, hg3⟩
  have HS3 := Lib.hid s3
  have b3 := other_block hg3 HB2.out (by omega)
  have HG3 := Lib.hid (grew_trans HG2.out hg3)
  have HI3 := Lib.hid hi3
  have HA3 := Lib.hid ha3
  have k0 : w3.cell? ⟨w.heap.size, 0, none⟩ = some (.int .i64 0) := cell_of_row w3 w.heap.size 0 _ _ _ b3
  have k1 : w3.cell? ⟨w.heap.size, 1, none⟩ = some (.int .i64 0) := cell_of_row w3 w.heap.size 1 _ _ _ b3
  have k2 : w3.cell? ⟨w.heap.size, 2, none⟩ = some (.int .i64 0) := cell_of_row w3 w.heap.size 2 _ _ _ b3
  have f0 : w3.frozen? ⟨w.heap.size, 0, none⟩ = false := frozen_of_row w3 w.heap.size 0 _ _ b3
  have f1 : w3.frozen? ⟨w.heap.size, 1, none⟩ = false := frozen_of_row w3 w.heap.size 1 _ _ b3
  have f2 : w3.frozen? ⟨w.heap.size, 2, none⟩ = false := frozen_of_row w3 w.heap.size 2 _ _ b3
  clear s3 hi3 hg3 b3 ha3 H1 H2 H3
  generalize hq : w.heap.size = q at *
  have HQ := Lib.hid hq
  clear hq
  go_wp2_with fail
  refine bodyPost_ret (v := .agg #[.int .i64 n1, .int .i64 n2, .int .i64 n3]) (by simp [results, Tryz.results40, go_sem, k0, k1, k2]) rfl ?_
  have hqw := HQ.out
  exact ⟨n1, n2, n3, a1, a2, a3, c1, c2, c3, rfl, HA3.out, HS1.out, HS2.out, HS3.out, ((HI3.out.far (by omega)).far (by omega)).far (by omega), grew_far (grew_far (grew_far HG3.out (by omega)) (by omega)) (by omega)⟩

theorem end_zero {c : Nat} {a : Int} {n : Nat} (h : c = 0) (h1 : ¬ a < (n : Int)) : endC c a n true = 0 := by unfold endC; rw [if_neg (by omega), if_neg]; simp; omega
theorem end_low {c : Nat} {a : Int} {n : Nat} {ok : Bool} (h : c = 0) (h1 : a < (n : Int)) : endC c a n ok = 3 := by unfold endC; rw [if_neg (by omega), if_pos (.inl h1)]
theorem end_not {c : Nat} {a : Int} {n : Nat} (h : c = 0) : endC c a n false = 3 := by unfold endC; rw [if_neg (by omega), if_pos (.inr rfl)]
theorem end_was {c : Nat} {a : Int} {n : Nat} {ok : Bool} (h : c ≠ 0) : endC c a n ok = c := by unfold endC; rw [if_pos h]

set_option maxHeartbeats 1000000 in
set_option maxRecDepth 100000 in
theorem finish_calls {p : Nat} {t : List UInt8} {a : Int} {c : Nat} {w : World} (h : Items p t a c w) (_hl : t.length ≤ 9223372036854775807) (ok : Bool) :
    Calls Tryz.prog 43 #[.pointer (some ⟨p, 0, none⟩), .bool ok] w fun e w' => e = .returned (errV (endC c a t.length ok)) ∧ Below w.heap.size w w' := by
  have h' : w.heap[p]? = some (.cells #[gs t, .int .i64 a, errV c] 90 (0, 0)) := h
  have k0 : w.cell? ⟨p, 0, none⟩ = some (gs t) := cell_of_row w p 0 _ _ _ h'
  have k1 : w.cell? ⟨p, 1, none⟩ = some (.int .i64 a) := cell_of_row w p 1 _ _ _ h'
  have k2 : w.cell? ⟨p, 2, none⟩ = some (errV c) := cell_of_row w p 2 _ _ _ h'
  clear h h'
  by_cases hc : c = 0
  · subst hc
    rw [errV_zero] at k2
    by_cases h1 : a < (t.length : Int)
    · rw [end_low rfl h1]
      have HE := Lib.hid (errV_ne (c := 3) (by decide))
      go_enter Tryz.func43, Tryz.ntmps43
      go_wp2_with fail
      go_quiet (fail)
      go_wp2_with fail
      go_ret
      exact ⟨by rw [HE.out]; rfl, kept_drewN (Below.refl _ _) _⟩
    · cases ok with
      | false =>
        rw [end_not rfl]
        have HE := Lib.hid (errV_ne (c := 3) (by decide))
        go_enter Tryz.func43, Tryz.ntmps43
        go_wp2_with fail
        go_quiet (fail)
        go_wp2_with fail
        go_ret
        exact ⟨by rw [HE.out]; rfl, kept_drewN (Below.refl _ _) _⟩
      | true =>
        rw [end_zero rfl h1]
        have HE := Lib.hid errV_zero
        go_enter Tryz.func43, Tryz.ntmps43
        go_wp2_with fail
        go_quiet (fail)
        go_wp2_with fail
        go_ret
        exact ⟨by rw [HE.out]; rfl, kept_drewN (Below.refl _ _) _⟩
  · rw [end_was hc]
    have HE := Lib.hid (errV_ne hc)
    rw [errV_ne hc] at k2
    clear hc
    go_enter Tryz.func43, Tryz.ntmps43
    go_wp2_with fail
    go_ret
    exact ⟨by rw [HE.out]; rfl, Below.refl _ _⟩
end Go.Proofs.YtjcdcaannajnpaaGreatDoor
