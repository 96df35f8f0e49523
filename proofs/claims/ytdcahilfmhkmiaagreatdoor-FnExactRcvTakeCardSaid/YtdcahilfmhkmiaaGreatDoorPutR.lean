/- PiecePut, the model's. -/
import Derived.Test.YtdcahilfmhkmiaaGreatDoorPutW
import Derived.Test.YtdcahilfmhkmiaaGreatDoorPackC
namespace Go.Proofs.YtdcahilfmhkmiaaGreatDoor
open Go.RowKit

theorem canon_of : ∀ (l : List Pc) (f : Int), (∀ i, i < l.length → okP l i) → (l ≠ [] → f < (pcAt l 0).1) → canonG f l
  | [], _, _, _ => trivial
  | p :: l, f, h, hf => by
    have h0 := h 0 (by simp)
    refine ⟨hf (by simp), h0.1, canon_of l (pcEnd p) (fun i hi => ?_) (fun hl => ?_)⟩
    · obtain ⟨a, b, c, d⟩ := h (i + 1) (by simpa using hi)
      refine ⟨a, b, c, fun hi0 => ?_⟩
      have := d (by omega)
      have e : i + 1 - 1 = (i - 1) + 1 := by omega
      rw [e] at this
      exact this
    · have hl0 : 0 < l.length := List.length_pos_iff.2 hl
      obtain ⟨_, _, _, d⟩ := h 1 (by simpa using hl0)
      exact d (by omega)
theorem right_canon {l : List Pc} (h : right l) : canonG (-1) l := canon_of l (-1) h.2 (fun hl => by have := (h.2 0 (List.length_pos_iff.2 hl)).2.1; omega)

/-- What is told of pieces that were put together. -/
def fullR (D : List Pc) : List Pc × Int := if right D then (D, 0) else ([], 9)
/-- What PiecePut answers. -/
def putR (l : List Pc) (n : Int) (t : List UInt8) : List Pc × Int :=
  if 400 < l.length ∨ 8000 < t.length then ([], 2)
  else if ¬ right l ∨ ¬ (0 ≤ n ∧ n ≤ 1000000) ∨ 200 < t.length then ([], 1)
  else fullR (putN l n t)

theorem bytesN_nz (p : Pc) : bytesN (nz p) ≤ p.2.length := by
  unfold nz; split
  · simp [bytesN]
  · simp [bytesN]
theorem bytesN_fill : ∀ (l : List Pc) (f : Int) (p : Pc), bytesN (fillN l f p) ≤ bytesN l + (l.length + 1) * p.2.length
  | [], f, p => by
    unfold fillN
    have h1 := bytesN_nz (cutP p f (pcEnd p))
    have h2 := cut_len p f (pcEnd p)
    simp [bytesN]; omega
  | k :: l, f, p => by
    have ih := bytesN_fill l (pcEnd k) p
    have h1 := bytesN_nz (cutP p f k.1)
    have h2 := cut_len p f k.1
    unfold fillN
    rw [bytesN_app]
    have e : (l.length + 1 + 1) * p.2.length = (l.length + 1) * p.2.length + p.2.length := by rw [Nat.add_mul (l.length + 1) 1, Nat.one_mul]
    rw [List.length_cons, e]
    simp only [bytesN]
    omega
theorem bytesN_joinG : ∀ (l : List Pc) (p : Pc), bytesN (joinG p l) = p.2.length + bytesN l
  | [], p => by simp [joinG, bytesN]
  | q :: l, p => by
    unfold joinG
    split
    · simp only [bytesN]; rw [bytesN_joinG l q]
    · rw [bytesN_joinG l]; simp only [bytesN, List.length_append]; omega
theorem bytesN_joinN (l : List Pc) : bytesN (joinN l) = bytesN l := by
  cases l with
  | nil => rfl
  | cons p l => exact bytesN_joinG l p
/-- Where the pieces of 'fill' begin. -/
theorem fill_time : ∀ (l : List Pc) (f : Int) (p : Pc) (b : Int), 0 ≤ p.1 → pcEnd p ≤ b → (∀ q ∈ l, 0 ≤ q.1 ∧ q.1 ≤ b) → ∀ q ∈ fillN l f p, 0 ≤ q.1 ∧ q.1 ≤ b
  | [], f, p, b, h0, hb, _ => fun q hq => by
    unfold fillN at hq
    by_cases h : max f p.1 < min (pcEnd p) (pcEnd p)
    · rw [nz_some (cutP_nz _ _ _ h)] at hq
      have := (cutP_end _ _ _ h).1
      simp at hq; subst hq; omega
    · rw [cutP_none _ _ _ h] at hq; cases hq
  | k :: l, f, p, b, h0, hb, hl => fun q hq => by
    have ih := fill_time l (pcEnd k) p b h0 hb (fun q hq => hl q (List.mem_cons_of_mem _ hq))
    unfold fillN at hq
    rcases List.mem_append.1 hq with hq | hq
    · by_cases h : max f p.1 < min k.1 (pcEnd p)
      · rw [nz_some (cutP_nz _ _ _ h)] at hq
        have := (cutP_end _ _ _ h).1
        simp at hq; subst hq; omega
      · rw [cutP_none _ _ _ h] at hq; cases hq
    · rcases List.mem_cons.1 hq with rfl | hq
      · exact hl _ (by simp)
      · exact ih q hq
theorem join_time : ∀ (l : List Pc) (p : Pc) (b : Int), (0 ≤ p.1 ∧ p.1 ≤ b) → (∀ q ∈ l, 0 ≤ q.1 ∧ q.1 ≤ b) → ∀ q ∈ joinG p l, 0 ≤ q.1 ∧ q.1 ≤ b
  | [], p, b, hp, _ => fun q hq => by simp [joinG] at hq; subst hq; exact hp
  | k :: l, p, b, hp, hl => fun q hq => by
    have hk := hl k (by simp)
    have hl' : ∀ q ∈ l, 0 ≤ q.1 ∧ q.1 ≤ b := fun q hq => hl q (List.mem_cons_of_mem _ hq)
    unfold joinG at hq
    split at hq
    · rcases List.mem_cons.1 hq with rfl | hq
      · exact hp
      · exact join_time l k b hk hl' q hq
    · exact join_time l _ b (by exact hp) hl' q hq
theorem joinN_time (l : List Pc) (b : Int) (hl : ∀ q ∈ l, 0 ≤ q.1 ∧ q.1 ≤ b) : ∀ q ∈ joinN l, 0 ≤ q.1 ∧ q.1 ≤ b := by
  cases l with
  | nil => intro q hq; cases hq
  | cons p l => exact join_time l p b (hl p (by simp)) (fun q hq => hl q (List.mem_cons_of_mem _ hq))
theorem right_time {l : List Pc} (hr : right l) : ∀ p ∈ l, 0 ≤ p.1 ∧ p.1 ≤ 1000000 := fun p hp => by
  obtain ⟨k, hk, rfl⟩ := mem_pcAt hp
  exact ⟨(hr.2 k hk).2.1, (hr.2 k hk).2.2.1⟩
theorem fill_small {l : List Pc} {n : Int} {t : List UInt8} (hr : right l) (h0 : 0 ≤ n) (h1 : n ≤ 1000000) (ht : t.length ≤ 200) (hs : bytesN l ≤ 1900000) :
    (fillN l n (n, t)).length ≤ 81 ∧ bytesN (fillN l n (n, t)) ≤ 1910000 ∧ ∀ q ∈ fillN l n (n, t), 0 ≤ q.1 ∧ q.1 ≤ 1000200 := by
  have h40 := hr.1
  have hl := fill_len l n (n, t)
  have hb := bytesN_fill l n (n, t)
  have hm : (l.length + 1) * t.length ≤ 41 * 200 := Nat.mul_le_mul (by omega) ht
  dsimp only at hb
  refine ⟨by omega, by omega, fill_time l n (n, t) 1000200 h0 (by unfold pcEnd; dsimp only; omega) (fun q hq => ?_)⟩
  have := right_time hr q hq; omega
theorem putN_fits {l : List Pc} {n : Int} {t : List UInt8} (hr : right l) (h0 : 0 ≤ n) (h1 : n ≤ 1000000) (ht : t.length ≤ 200) (hs : bytesN l ≤ 1900000) :
    (putN l n t).length ≤ 81 ∧ ∀ p ∈ putN l n t, -9223372036854775808 ≤ p.1 ∧ p.1 ≤ 9223372036854775807 ∧ p.2.length ≤ 2000000 := by
  obtain ⟨a, b, c⟩ := fill_small hr h0 h1 ht hs
  unfold putN
  have hl := joinN_len (fillN l n (n, t))
  refine ⟨by omega, fun p hp => ?_⟩
  have h1 := joinN_time _ _ c p hp
  have h2 := mem_bytes hp
  rw [bytesN_joinN] at h2
  omega
set_option maxHeartbeats 2000000 in
set_option maxRecDepth 100000 in
theorem putRS_calls {a : Option Addr} {len cap : Nat} {l : List Pc} {w : World} (h : InPcs w a len l) (n : Int) (t : List UInt8) (htl : t.length ≤ 2000000) (hs : bytesN l ≤ 1900000) :
    Calls Tryz.prog 140 #[.slice a len cap, .int .i64 n, gs t] w (OutRow w (putR l n t)) := by
  have hm := h.most
  have hlen := h.long
  have hbz : ∀ x, Below w.heap.size w (w.alloc x) := fun x => (Below.refl _ _).alloc (Nat.le_refl _) x
  have HBZ := Lib.hid hbz
  by_cases h1 : 400 < len
  · have hv : putR l n t = ([], 2) := by unfold putR; rw [if_pos (.inl (by omega))]
    rw [hv]
    have hd1 : decide (400 < len) = true := by simp; omega
    clear hv h hbz hlen
    go_enter Tryz.func140, Tryz.ntmps140
    go_wp2_with fail
    all_goals first
      | (exfalso; omega)
      | exact bodyPost_ret (v := .agg #[.slice none 0 0, .int .i64 2]) (by simp [results, Tryz.results140, go_sem]) rfl (outRow_code (HBZ.out _))
  · have hd1 : decide (400 < len) = false := by simp; omega
    by_cases h2 : 8000 < t.length
    · have hv : putR l n t = ([], 2) := by unfold putR; rw [if_pos (.inr h2)]
      rw [hv]
      have hd2 : decide (8000 < t.length) = true := by simp; omega
      clear hv h hbz hlen
      go_enter Tryz.func140, Tryz.ntmps140
      go_wp2_with fail
      all_goals first
        | (exfalso; omega)
        | exact bodyPost_ret (v := .agg #[.slice none 0 0, .int .i64 2]) (by simp [results, Tryz.results140, go_sem]) rfl (outRow_code (HBZ.out _))
    · have hd2 : decide (8000 < t.length) = false := by simp; omega
      have hc := fun x => rightS_calls (cap := cap) (h.below (hbz x))
      have hR : putR l n t = if ¬ right l ∨ ¬ (0 ≤ n ∧ n ≤ 1000000) ∨ 200 < t.length then ([], 1) else fullR (putN l n t) := by
        unfold putR; rw [if_neg (by omega)]
      by_cases hr : right l
      · rw [decide_eq_true hr] at hc
        have htc := timeS_calls n
        by_cases hti : 0 ≤ n ∧ n ≤ 1000000
        · rw [decide_eq_true hti] at htc
          by_cases h3 : 200 < t.length
          · have hv : putR l n t = ([], 1) := by rw [hR, if_pos (.inr (.inr h3))]
            rw [hv]
            have hd3 : decide (200 < t.length) = true := by simp; omega
            have HC := Lib.hid hc
            have HTC := Lib.hid htc
            clear hc htc hv hR h hr hti hbz hlen
            go_enter Tryz.func140, Tryz.ntmps140
            go_wp2_with fail
            refine (HC.out _).mono ?_
            rintro e w1 ⟨rfl, hb1⟩
            have z0 : w1.cell? ⟨w.heap.size, 0, none⟩ = some (.slice none 0 0) := (cell_kept hb1 0).trans (by simp)
            have z1 : w1.cell? ⟨w.heap.size, 1, none⟩ = some (.int .i64 0) := (cell_kept hb1 1).trans (by simp)
            have y0 : w1.frozen? ⟨w.heap.size, 0, none⟩ = false := (hb1.frozen (p := ⟨w.heap.size, 0, none⟩) (by simp)).trans (by simp)
            have y1 : w1.frozen? ⟨w.heap.size, 1, none⟩ = false := (hb1.frozen (p := ⟨w.heap.size, 1, none⟩) (by simp)).trans (by simp)
            have HB1 := Lib.hid ((HBZ.out _).trans (hb1.mono (by simp)))
            clear hb1 HC HBZ
            go_wp2_with (go_at_call 84; refine (HTC.out _).mono ?_; rintro e w2 ⟨rfl, rfl⟩)
            exact bodyPost_ret (v := .agg #[.slice none 0 0, .int .i64 1]) (by simp [results, Tryz.results140, go_sem, z0, z1]) rfl (outRow_code ((HB1.out.setCell (Nat.le_refl _) _).setCell (Nat.le_refl _) _))
          · have hd3 : decide (200 < t.length) = false := by simp; omega
            have hsame := put_same (t := t) (right_canon hr) hti.1
            have hv : putR l n t = fullR (putN l n t) := by rw [hR, if_neg (fun h => h.elim (fun h => h hr) (fun h => h.elim (fun h => h hti) h3))]
            rw [hv]
            have hput := fun w' (hb : Below w.heap.size w w') => putS_calls (cap := cap) (h.below hb) hr n t hti.1 hti.2 (by omega) hs
            rw [hsame] at hput
            have hfit := putN_fits hr hti.1 hti.2 (show t.length ≤ 200 by omega) hs
            generalize putN l n t = D at *
            have HC := Lib.hid hc
            have HTC := Lib.hid htc
            have HPUT := Lib.hid hput
            have HFIT := Lib.hid hfit
            clear hc htc hput hfit hv hR hsame h hr hti hbz hlen
            go_enter Tryz.func140, Tryz.ntmps140
            go_wp2_with fail
            refine (HC.out _).mono ?_
            rintro e w1 ⟨rfl, hb1⟩
            have z0 : w1.cell? ⟨w.heap.size, 0, none⟩ = some (.slice none 0 0) := (cell_kept hb1 0).trans (by simp)
            have z1 : w1.cell? ⟨w.heap.size, 1, none⟩ = some (.int .i64 0) := (cell_kept hb1 1).trans (by simp)
            have y0 : w1.frozen? ⟨w.heap.size, 0, none⟩ = false := (hb1.frozen (p := ⟨w.heap.size, 0, none⟩) (by simp)).trans (by simp)
            have y1 : w1.frozen? ⟨w.heap.size, 1, none⟩ = false := (hb1.frozen (p := ⟨w.heap.size, 1, none⟩) (by simp)).trans (by simp)
            have hsz : w.heap.size < w1.heap.size := size_kept hb1
            have HB1 := Lib.hid ((HBZ.out _).trans (hb1.mono (by simp)))
            clear hb1 HC HBZ
            go_wp2_with (go_at_call 84; refine (HTC.out _).mono ?_; rintro e w2 ⟨rfl, rfl⟩)
            refine (HPUT.out _ HB1.out).mono ?_
            rintro e w3 ⟨v, rfl, hown, hb3⟩
            obtain ⟨a2, c2, rfl, hin⟩ := inPcs_row hown (by have := HFIT.out.1; omega) HFIT.out.2
            have x0 := (hb3.cell (p := ⟨w.heap.size, 0, none⟩) hsz).trans z0
            have x1 := (hb3.cell (p := ⟨w.heap.size, 1, none⟩) hsz).trans z1
            have v0 := (hb3.frozen (p := ⟨w.heap.size, 0, none⟩) hsz).trans y0
            have v1 := (hb3.frozen (p := ⟨w.heap.size, 1, none⟩) hsz).trans y1
            have hrc := rightS_calls (cap := c2) hin
            have HB3 := Lib.hid (HB1.out.trans (hb3.mono (by omega)))
            have hsz3 : w.heap.size < w3.heap.size := by have := hb3.size; omega
            have HO := Lib.hid (ownsRow_base hown (show w.heap.size + 1 ≤ w2.heap.size by omega))
            have HRC := Lib.hid hrc
            clear hown hin hb3 hrc z0 z1 y0 y1 HPUT HB1 HTC
            go_wp2_with fail
            refine HRC.out.mono ?_
            rintro e w4 ⟨rfl, hb4⟩
            have p0 := (hb4.cell (p := ⟨w.heap.size, 0, none⟩) hsz3).trans x0
            have p1 := (hb4.cell (p := ⟨w.heap.size, 1, none⟩) hsz3).trans x1
            have q0 := (hb4.frozen (p := ⟨w.heap.size, 0, none⟩) hsz3).trans v0
            have q1 := (hb4.frozen (p := ⟨w.heap.size, 1, none⟩) hsz3).trans v1
            have HB4 := Lib.hid (HB3.out.trans (hb4.mono (by omega)))
            have HO4 := Lib.hid (ownsRow_below HO.out hb4)
            clear hb4 x0 x1 v0 v1 HB3 HO
            by_cases hrd : right D
            · rw [decide_eq_true hrd]
              have HRD := Lib.hid hrd
              clear hrd
              go_wp2_with fail
              refine bodyPost_ret (v := .agg #[.slice a2 D.length c2, .int .i64 0]) (by simp [results, Tryz.results140, go_sem, p0, p1]) rfl ?_
              unfold fullR
              rw [if_pos HRD.out]
              refine ⟨_, rfl, ?_, (HB4.out.setCell (Nat.le_refl _) _).setCell (Nat.le_refl _) _⟩
              exact ownsRow_base (ownsRow_setCell_below (ownsRow_setCell_below HO4.out (Nat.lt_succ_self _) _) (Nat.lt_succ_self _) _) (Nat.le_succ _)
            · rw [decide_eq_false hrd]
              have HRD := Lib.hid hrd
              clear hrd
              go_wp2_with fail
              refine bodyPost_ret (v := .agg #[.slice none 0 0, .int .i64 9]) (by simp [results, Tryz.results140, go_sem, p0, p1]) rfl ?_
              unfold fullR
              rw [if_neg HRD.out]
              exact outRow_code ((HB4.out.setCell (Nat.le_refl _) _).setCell (Nat.le_refl _) _)
        · have hv : putR l n t = ([], 1) := by rw [hR, if_pos (.inr (.inl hti))]
          rw [hv]
          rw [decide_eq_false hti] at htc
          have HC := Lib.hid hc
          have HTC := Lib.hid htc
          clear hc htc hv hR h hr hti hbz hlen
          go_enter Tryz.func140, Tryz.ntmps140
          go_wp2_with fail
          refine (HC.out _).mono ?_
          rintro e w1 ⟨rfl, hb1⟩
          have z0 : w1.cell? ⟨w.heap.size, 0, none⟩ = some (.slice none 0 0) := (cell_kept hb1 0).trans (by simp)
          have z1 : w1.cell? ⟨w.heap.size, 1, none⟩ = some (.int .i64 0) := (cell_kept hb1 1).trans (by simp)
          have y0 : w1.frozen? ⟨w.heap.size, 0, none⟩ = false := (hb1.frozen (p := ⟨w.heap.size, 0, none⟩) (by simp)).trans (by simp)
          have y1 : w1.frozen? ⟨w.heap.size, 1, none⟩ = false := (hb1.frozen (p := ⟨w.heap.size, 1, none⟩) (by simp)).trans (by simp)
          have HB1 := Lib.hid ((HBZ.out _).trans (hb1.mono (by simp)))
          clear hb1 HC HBZ
          go_wp2_with (go_at_call 84; refine (HTC.out _).mono ?_; rintro e w2 ⟨rfl, rfl⟩)
          exact bodyPost_ret (v := .agg #[.slice none 0 0, .int .i64 1]) (by simp [results, Tryz.results140, go_sem, z0, z1]) rfl (outRow_code ((HB1.out.setCell (Nat.le_refl _) _).setCell (Nat.le_refl _) _))
      · have hv : putR l n t = ([], 1) := by rw [hR, if_pos (.inl hr)]
        rw [hv]
        rw [decide_eq_false hr] at hc
        have HC := Lib.hid hc
        clear hc hv hR h hr hbz hlen
        go_enter Tryz.func140, Tryz.ntmps140
        go_wp2_with fail
        refine (HC.out _).mono ?_
        rintro e w1 ⟨rfl, hb1⟩
        have z0 : w1.cell? ⟨w.heap.size, 0, none⟩ = some (.slice none 0 0) := (cell_kept hb1 0).trans (by simp)
        have z1 : w1.cell? ⟨w.heap.size, 1, none⟩ = some (.int .i64 0) := (cell_kept hb1 1).trans (by simp)
        have y0 : w1.frozen? ⟨w.heap.size, 0, none⟩ = false := (hb1.frozen (p := ⟨w.heap.size, 0, none⟩) (by simp)).trans (by simp)
        have y1 : w1.frozen? ⟨w.heap.size, 1, none⟩ = false := (hb1.frozen (p := ⟨w.heap.size, 1, none⟩) (by simp)).trans (by simp)
        have HB1 := Lib.hid ((HBZ.out _).trans (hb1.mono (by simp)))
        clear hb1 HC HBZ
        go_wp2_with fail
        exact bodyPost_ret (v := .agg #[.slice none 0 0, .int .i64 1]) (by simp [results, Tryz.results140, go_sem, z0, z1]) rfl (outRow_code ((HB1.out.setCell (Nat.le_refl _) _).setCell (Nat.le_refl _) _))
end Go.Proofs.YtdcahilfmhkmiaaGreatDoor
