/- Small texts laid together: TrkMath, Pop, Ones, Search, Insert, TrkMem, TrackOf, TrackL, TrackS, TrackA, TrackF. -/
import Derived.Test.YtdcahilfmhkmiaaGreatDoorSubDef
import Derived.Lib.TrailingZeros
import Derived.WalkKit
import Derived.Laws.Bits64b
import Derived.Laws.Bits128
import Derived.Shelf.Spec.TrailingZeros
import Derived.Shelf.SlicesG.SearchI
import Derived.Test.YtdcahilfmhkmiaaGreatDoorPackA
import Derived.Test.YtdcahilfmhkmiaaGreatDoorSubB
import Derived.Shelf.Spec.SlicesInsert
import Derived.Lib.AppendZerosOnto
import Derived.Lib.SmallJoins
import Derived.Deep.Upon
import Derived.Test.YtdcahilfmhkmiaaGreatDoorFromsOk

namespace Go.Proofs.YtdcahilfmhkmiaaGreatDoor
open Go.RowKit

/-- Rising. -/
def Up (l : Lg) : Prop := l.Pairwise (· < ·)
theorem up_ext : ∀ {l m : Lg}, Up l → Up m → (∀ x, x ∈ l ↔ x ∈ m) → l = m
  | [], [], _, _, _ => rfl
  | [], y :: m, _, _, h => absurd ((h y).2 (by simp)) (by simp)
  | x :: l, [], _, _, h => absurd ((h x).1 (by simp)) (by simp)
  | x :: l, y :: m, hl, hm, h => by
    obtain ⟨hx, hl'⟩ := List.pairwise_cons.1 hl
    obtain ⟨hy, hm'⟩ := List.pairwise_cons.1 hm
    have e : x = y := by
      rcases List.mem_cons.1 ((h x).1 (by simp)) with e | e
      · exact e
      · rcases List.mem_cons.1 ((h y).2 (by simp)) with e' | e'
        · exact e'.symm
        · have := hy x e
          have := hx y e'
          omega
    subst e
    have ht : ∀ z, z ∈ l ↔ z ∈ m := fun z => by
      constructor
      · intro hz
        rcases List.mem_cons.1 ((h z).1 (List.mem_cons_of_mem _ hz)) with e | e
        · have := hx z hz; omega
        · exact e
      · intro hz
        rcases List.mem_cons.1 ((h z).2 (List.mem_cons_of_mem _ hz)) with e | e
        · have := hy z hz; omega
        · exact e
    rw [up_ext hl' hm' ht]
/-- s among the numbers, at its place. -/
def insN (s : Int) (l : Lg) : Lg := if s ∈ l then l else l.take (posN s l) ++ s :: l.drop (posN s l)
theorem mem_insN {s : Int} {l : Lg} {x : Int} : x ∈ insN s l ↔ x = s ∨ x ∈ l := by
  unfold insN
  split
  · rename_i h
    exact ⟨.inr, fun e => e.elim (fun e => e ▸ h) id⟩
  · constructor
    · intro h
      rcases List.mem_append.1 h with h | h
      · exact .inr (List.mem_of_mem_take h)
      · rcases List.mem_cons.1 h with h | h
        · exact .inl h
        · exact .inr (List.mem_of_mem_drop h)
    · intro h
      rcases h with rfl | h
      · simp
      · rw [← List.take_append_drop (posN s l) l] at h
        rcases List.mem_append.1 h with h | h
        · exact List.mem_append.2 (.inl h)
        · exact List.mem_append.2 (.inr (List.mem_cons_of_mem _ h))
theorem take_posN (s : Int) : ∀ (l : Lg), ∀ x ∈ l.take (posN s l), x < s
  | [], x, h => by simp at h
  | y :: l, x, h => by
    unfold posN at h
    split at h
    · rename_i hy
      rcases List.mem_cons.1 h with rfl | h
      · exact hy
      · exact take_posN s l x h
    · simp at h
theorem drop_posN (s : Int) : ∀ {l : Lg}, Up l → ∀ x ∈ l.drop (posN s l), s ≤ x
  | [], _, x, h => by simp at h
  | y :: l, hu, x, h => by
    obtain ⟨hy, hl⟩ := List.pairwise_cons.1 hu
    unfold posN at h
    split at h
    · exact drop_posN s hl x h
    · rcases List.mem_cons.1 h with rfl | h
      · omega
      · have := hy x h; omega
theorem up_insN {s : Int} {l : Lg} (h : Up l) : Up (insN s l) := by
  unfold insN
  split
  · exact h
  · rename_i hs
    unfold Up
    rw [List.pairwise_append, List.pairwise_cons]
    have hd : Up (l.drop (posN s l)) := h.sublist (List.drop_sublist _ _)
    have hne : ∀ x ∈ l.drop (posN s l), s < x := fun x hx => by
      have h1 := drop_posN s h x hx
      have h2 : s ≠ x := fun e => hs (e ▸ List.mem_of_mem_drop hx)
      omega
    refine ⟨h.sublist (List.take_sublist _ _), ⟨hne, hd⟩, fun a ha b hb => ?_⟩
    have h1 := take_posN s l a ha
    rcases List.mem_cons.1 hb with rfl | hb
    · exact h1
    · have := hne b hb; omega
theorem posN_found {s : Int} {l : Lg} (h : Up l) : (posN s l < l.length ∧ lgAt l (posN s l) = s) ↔ s ∈ l := by
  constructor
  · rintro ⟨h1, h2⟩
    rw [← h2, lgAt_get h1]
    exact List.getElem_mem h1
  · intro hs
    have h1 : posN s l < l.length := by
      rcases Nat.lt_or_ge (posN s l) l.length with h' | h'
      · exact h'
      · have := take_posN s l s (by rw [List.take_of_length_le h']; exact hs)
        omega
    refine ⟨h1, ?_⟩
    have h2 := posN_at s l h1
    rw [lgAt_get h1] at h2 ⊢
    obtain ⟨i, hi, he⟩ := List.getElem_of_mem hs
    rcases Nat.lt_or_ge i (posN s l) with h' | h'
    · have h3 := posN_lt s l i h'
      rw [lgAt_get hi] at h3
      omega
    · rcases Nat.lt_or_eq_of_le h' with h' | h'
      · have := List.pairwise_iff_getElem.1 h (posN s l) i h1 hi h'
        omega
      · subst h'
        exact he

/-- A track: want, its bits, what lies further on; it stands for L. -/
structure Trk (W : Int) (N : Nat) (F : Lg) (L : Lg) : Prop where
  up : Up L
  low : ∀ x ∈ L, W ≤ x
  lt : N < 2 ^ 64
  bit : ∀ k : Nat, k < 64 → (N.testBit k = true ↔ W + (k : Int) ∈ L)
  far : F = L.filter (fun x => decide (W + 64 ≤ x))
theorem trk_nil (W : Int) : Trk W 0 [] [] := ⟨List.Pairwise.nil, fun x h => by simp at h, by omega, fun k _ => by simp, rfl⟩
theorem up_filter {l : Lg} (h : Up l) (p : Int → Bool) : Up (l.filter p) := h.sublist List.filter_sublist
theorem Trk.near {W : Int} {N : Nat} {F L : Lg} (h : Trk W N F L) {s : Int} (k : Nat) (hs : s = W + (k : Int)) (hk : k < 64) : Trk W (N ||| 1 <<< k) F (insN s L) := by
  refine ⟨up_insN h.up, fun x hx => ?_, ?_, fun j hj => ?_, ?_⟩
  · rcases mem_insN.1 hx with e | e
    · omega
    · exact h.low x e
  · refine Nat.or_lt_two_pow h.lt ?_
    rw [Nat.one_shiftLeft]
    exact Nat.pow_lt_pow_right (by omega) hk
  · rw [Nat.testBit_or, Nat.one_shiftLeft, Nat.testBit_two_pow, mem_insN, Bool.or_eq_true, h.bit j hj]
    simp only [decide_eq_true_eq]
    constructor
    · rintro (e | e)
      · exact .inr e
      · left; omega
    · rintro (e | e)
      · right; omega
      · exact .inl e
  · rw [h.far]
    refine up_ext (up_filter h.up _) (up_filter (up_insN h.up) _) (fun x => ?_)
    simp only [List.mem_filter, decide_eq_true_eq, mem_insN]
    constructor
    · rintro ⟨a, b⟩; exact ⟨.inr a, b⟩
    · rintro ⟨a | a, b⟩
      · omega
      · exact ⟨a, b⟩
theorem Trk.further {W : Int} {N : Nat} {F L : Lg} (h : Trk W N F L) {s : Int} (hs : W + 64 ≤ s) : Trk W N (insN s F) (insN s L) := by
  refine ⟨up_insN h.up, fun x hx => ?_, h.lt, fun j hj => ?_, ?_⟩
  · rcases mem_insN.1 hx with e | e
    · omega
    · exact h.low x e
  · rw [mem_insN, h.bit j hj]
    constructor
    · exact .inr
    · rintro (e | e)
      · omega
      · exact e
  · refine up_ext (up_insN (by rw [h.far]; exact up_filter h.up _)) (up_filter (up_insN h.up) _) (fun x => ?_)
    rw [mem_insN, h.far]
    simp only [List.mem_filter, decide_eq_true_eq, mem_insN]
    constructor
    · rintro (e | ⟨a, b⟩)
      · subst e; exact ⟨.inl rfl, hs⟩
      · exact ⟨.inr a, b⟩
    · rintro ⟨a | a, b⟩
      · exact .inl a
      · exact .inr ⟨a, b⟩
theorem Trk.upF {W : Int} {N : Nat} {F L : Lg} (h : Trk W N F L) : Up F := by rw [h.far]; exact up_filter h.up _
/-- What a put leaves of the bits and the row. -/
def putNear (W : Int) (N : Nat) (s : Int) : Nat := if s - W < 64 then N ||| 1 <<< (s - W).toNat else N
def putFar (W : Int) (F : Lg) (s : Int) : Lg := if s - W < 64 then F else insN s F
theorem Trk.put {W : Int} {N : Nat} {F L : Lg} (h : Trk W N F L) {s : Int} (hs : W ≤ s) : Trk W (putNear W N s) (putFar W F s) (insN s L) := by
  unfold putNear putFar
  split
  · exact h.near (s - W).toNat (by omega) (by omega)
  · exact h.further (by omega)

/-- Numbers put one after the other. -/
def insAll (L : Lg) : Lg → Lg
  | [] => L
  | s :: l => insAll (insN s L) l
theorem up_insAll : ∀ {l L : Lg}, Up L → Up (insAll L l)
  | [], _, h => h
  | _ :: _, _, h => by
    unfold insAll
    exact up_insAll (up_insN h)
theorem mem_insAll {x : Int} : ∀ {l L : Lg}, x ∈ insAll L l ↔ x ∈ L ∨ x ∈ l
  | [], L => by simp [insAll]
  | s :: l, L => by
    unfold insAll
    rw [mem_insAll, mem_insN, List.mem_cons]
    constructor
    · rintro ((e | e) | e)
      · exact .inr (.inl e)
      · exact .inl e
      · exact .inr (.inr e)
    · rintro (e | e | e)
      · exact .inl (.inr e)
      · exact .inl (.inl e)
      · exact .inr e
theorem insAll_take_succ (L : Lg) : ∀ (l : Lg) (k : Nat), k < l.length → insAll L (l.take (k + 1)) = insN (lgAt l k) (insAll L (l.take k)) := by
  intro l
  induction l generalizing L with
  | nil => intro k h; simp at h
  | cons s l ih =>
    intro k h
    cases k with
    | zero => simp [insAll, lgAt]
    | succ k =>
      rw [List.take_succ_cons, List.take_succ_cons]
      unfold insAll
      rw [ih _ k (by simpa using h)]
      simp [lgAt, List.getD]
theorem insAll_nil {l : Lg} (h : Up l) : insAll [] l = l := up_ext (up_insAll List.Pairwise.nil) h (fun x => by rw [mem_insAll]; simp)

/-- What the numbers of a track that came side by side leave. -/
theorem runN_le : ∀ (l : Lg) (k : Int), Up l → (∀ x ∈ l, k ≤ x) → ∃ c : Nat, c ≤ l.length ∧ runN k l = (k + (c : Int), l.filter (fun x => decide (k + (c : Int) ≤ x))) ∧ (∀ j : Nat, j < c → k + (j : Int) ∈ l) ∧ k + (c : Int) ∉ l
  | [], k, _, _ => ⟨0, by simp, by simp [runN], fun j h => by omega, by simp⟩
  | x :: l, k, hu, hk => by
    obtain ⟨hx, hl⟩ := List.pairwise_cons.1 hu
    by_cases e : x = k
    · obtain ⟨c, hc, hr, hj, hn⟩ := runN_le l (k + 1) hl (fun y hy => by have := hx y hy; omega)
      refine ⟨c + 1, by simp; omega, ?_, fun j hj' => ?_, ?_⟩
      · unfold runN
        rw [if_pos e, hr]
        have e1 : k + 1 + (c : Int) = k + ((c + 1 : Nat) : Int) := by omega
        rw [e1, List.filter_cons_of_neg (by simp; omega)]
      · cases j with
        | zero => simp [e]
        | succ j =>
          have := hj j (by omega)
          rw [show k + ((j + 1 : Nat) : Int) = k + 1 + (j : Int) by omega]
          exact List.mem_cons_of_mem _ this
      · intro h
        rcases List.mem_cons.1 h with h | h
        · omega
        · exact hn (by rw [show k + 1 + (c : Int) = k + ((c + 1 : Nat) : Int) by omega]; exact h)
    · have hkx := hk x (by simp)
      refine ⟨0, by omega, ?_, fun j h => by omega, fun h => ?_⟩
      · unfold runN
        rw [if_neg e]
        have : (x :: l).filter (fun y => decide (k + ((0 : Nat) : Int) ≤ y)) = x :: l := by
          rw [List.filter_eq_self]
          intro y hy
          have := hk y hy
          simp
          omega
        rw [this]
        simp
      · rcases List.mem_cons.1 h with h | h
        · omega
        · have := hx _ h; omega
theorem ctz_at : ∀ (f x r : Nat), r < f → (∀ j, j < r → x.testBit j = false) → x.testBit r = true → Lib.ctzFrom f x = r
  | 0, _, _, h, _, _ => by omega
  | f + 1, x, r, h, h0, h1 => by
    unfold Lib.ctzFrom
    cases r with
    | zero =>
      rw [if_pos]
      simpa [Nat.testBit_zero] using h1
    | succ r =>
      have hz := h0 0 (by omega)
      rw [if_neg (by simpa [Nat.testBit_zero] using hz), ctz_at f (x / 2) r (by omega) (fun j hj => by rw [← Nat.testBit_succ]; exact h0 (j + 1) (by omega)) (by rw [← Nat.testBit_succ]; exact h1)]
      omega
/-- How many bits stand from the lowest on. -/
theorem ctz_not {N r : Nat} (hN : N < 2 ^ 64) (hr : r < 64) (h0 : ∀ j, j < r → N.testBit j = true) (h1 : N.testBit r = false) : Lib.ctz 64 (2 ^ 64 - 1 - N) = r := by
  have ht : ∀ j, j < 64 → (2 ^ 64 - 1 - N).testBit j = !N.testBit j := fun j hj => by
    rw [show 2 ^ 64 - 1 - N = 2 ^ 64 - (N + 1) by omega, Nat.testBit_two_pow_sub_succ hN]
    simp [hj]
  have hb : (2 ^ 64 - 1 - N).testBit r = true := by rw [ht r hr, h1]; rfl
  unfold Lib.ctz
  rw [if_neg (fun e => by rw [e] at hb; simp at hb)]
  exact ctz_at 64 _ r hr (fun j hj => by rw [ht j (by omega), h0 j hj]; rfl) hb
/-- A track with Want among its numbers, slid: c numbers more came side by side. -/
theorem Trk.slid {W : Int} {N : Nat} {F l : Lg} (h : Trk W N F (W :: l)) (hl : l.length ≤ 60) :
    ∃ c : Nat, c ≤ l.length ∧ runN (W + 1) l = (W + 1 + (c : Int), l.filter (fun x => decide (W + 1 + (c : Int) ≤ x))) ∧ Lib.ctz 64 (2 ^ 64 - 1 - N) = c + 1 ∧
      Trk (W + 1 + (c : Int)) (N >>> (c + 1)) [] ((W :: l).filter (fun x => decide (W + 1 + (c : Int) ≤ x ∧ x < W + 64))) ∧
      insAll ((W :: l).filter (fun x => decide (W + 1 + (c : Int) ≤ x ∧ x < W + 64))) F = l.filter (fun x => decide (W + 1 + (c : Int) ≤ x)) := by
  obtain ⟨hx, hu⟩ := List.pairwise_cons.1 h.up
  obtain ⟨c, hc, hr, hj, hn⟩ := runN_le l (W + 1) hu (fun x hm => by have := hx x hm; omega)
  refine ⟨c, hc, hr, ctz_not h.lt (by omega) (fun j hj' => ?_) ?_, ⟨up_filter h.up _, fun x hm => ?_, ?_, fun k hk => ?_, ?_⟩, ?_⟩
  · rw [h.bit j (by omega)]
    cases j with
    | zero => simp
    | succ j =>
      rw [show W + ((j + 1 : Nat) : Int) = W + 1 + (j : Int) by omega]
      exact List.mem_cons_of_mem _ (hj j (by omega))
  · rw [← Bool.not_eq_true, h.bit (c + 1) (by omega)]
    intro hm
    rcases List.mem_cons.1 hm with hm | hm
    · omega
    · exact hn (by rw [show W + 1 + (c : Int) = W + ((c + 1 : Nat) : Int) by omega]; exact hm)
  · have := (List.mem_filter.1 hm).2
    simp at this
    omega
  · exact Nat.lt_of_le_of_lt (Nat.shiftRight_le _ _) h.lt
  · rw [Nat.testBit_shiftRight, List.mem_filter]
    by_cases hk2 : c + 1 + k < 64
    · rw [h.bit _ hk2, show W + ((c + 1 + k : Nat) : Int) = W + 1 + (c : Int) + (k : Int) by omega]
      constructor
      · intro hm
        exact ⟨hm, by simp; omega⟩
      · exact fun hm => hm.1
    · have hf : N.testBit (c + 1 + k) = false := Nat.testBit_lt_two_pow (Nat.lt_of_lt_of_le h.lt (Nat.pow_le_pow_right (by omega) (by omega)))
      rw [hf]
      constructor
      · intro e; cases e
      · intro hm
        have := hm.2
        simp at this
        omega
  · symm
    rw [List.filter_eq_nil_iff]
    intro x hm
    have := (List.mem_filter.1 hm).2
    simp at this ⊢
    omega
  · refine up_ext (up_insAll (up_filter h.up _)) (up_filter hu _) (fun x => ?_)
    rw [mem_insAll, h.far]
    simp only [List.mem_filter, List.mem_cons, decide_eq_true_eq]
    constructor
    · rintro (⟨a | a, b⟩ | ⟨a | a, b⟩)
      · omega
      · exact ⟨a, b.1⟩
      · omega
      · refine ⟨a, ?_⟩
        omega
    · rintro ⟨a, b⟩
      by_cases hb : x < W + 64
      · exact .inl ⟨.inr a, b, hb⟩
      · exact .inr ⟨.inr a, by omega⟩
/-- The model's word, in this text's words. -/
theorem subN_ins {W : Int} {l : Lg} {s : Int} (hu : Up l) (hne : s ≠ W) : subN (W, l) s = if W < s ∧ l.length < 8 then (W, insN s l) else (W, l) := by
  unfold subN
  rw [if_neg hne]
  dsimp only
  have hp := posN_found (s := s) hu
  unfold insN
  by_cases h1 : s < W
  · rw [if_pos (.inl h1), if_neg (by omega)]
  · by_cases h2 : s ∈ l
    · rw [if_pos (.inr (.inl (hp.2 h2))), if_pos h2]
      split <;> rfl
    · by_cases h3 : 8 ≤ l.length
      · rw [if_pos (.inr (.inr h3)), if_neg (by omega)]
      · rw [if_neg (by rintro (e | e | e) <;> first | omega | exact h2 (hp.1 e)), if_pos ⟨by omega, by omega⟩, if_neg h2]
end Go.Proofs.YtdcahilfmhkmiaaGreatDoor

namespace Go.Proofs.YtdcahilfmhkmiaaGreatDoor
open Go.RowKit

def popN : Nat → Nat → Nat
  | 0, _ => 0
  | n + 1, x => x % 2 + popN n (x / 2)
theorem popN_succ (n x : Nat) : popN (n + 1) x = x % 2 + popN n (x / 2) := rfl
theorem popN_add (a : Nat) : ∀ (b x : Nat), popN (a + b) x = popN a x + popN b (x / 2 ^ a) := by
  induction a with
  | zero => intro b x; simp [popN]
  | succ a ih =>
    intro b x
    rw [show a + 1 + b = (a + b) + 1 by omega, popN_succ, popN_succ, ih b (x / 2), Nat.div_div_eq_div_mul, show 2 * 2 ^ a = 2 ^ (a + 1) by rw [Nat.pow_succ]; omega]
    omega
theorem popN_low : ∀ (n b y : Nat), popN n (b + 2 ^ n * y) = popN n b
  | 0, _, _ => rfl
  | n + 1, b, y => by
    unfold popN
    have h1 : (b + 2 ^ (n + 1) * y) % 2 = b % 2 := by rw [Nat.pow_succ, Nat.mul_comm (2 ^ n) 2, Nat.mul_assoc]; omega
    have h2 : (b + 2 ^ (n + 1) * y) / 2 = b / 2 + 2 ^ n * y := by rw [Nat.pow_succ, Nat.mul_comm (2 ^ n) 2, Nat.mul_assoc]; omega
    rw [h1, h2, popN_low n]
/-- Bytes as a number, the lowest first. -/
def valN : List Nat → Nat
  | [] => 0
  | b :: l => b + 256 * valN l
theorem popN_val : ∀ (l : List Nat), (∀ b ∈ l, b < 256) → popN (8 * l.length) (valN l) = (l.map (popN 8)).sum
  | [], _ => rfl
  | b :: l, h => by
    have hb := h b (by simp)
    rw [List.length_cons, show 8 * (l.length + 1) = 8 + 8 * l.length by omega, popN_add]
    unfold valN
    rw [show (b + 256 * valN l) / 2 ^ 8 = valN l by omega, show b + 256 * valN l = b + 2 ^ 8 * valN l by omega, popN_low, popN_val l (fun c hc => h c (List.mem_cons_of_mem _ hc))]
    simp
theorem val_add : ∀ (l m : List Nat), l.length = m.length → valN l + valN m = valN (List.zipWith (· + ·) l m)
  | [], [], _ => rfl
  | b :: l, c :: m, h => by
    have := val_add l m (by simpa using h)
    simp only [valN, List.zipWith_cons_cons]
    omega
  | [], _ :: _, h => by simp at h
  | _ :: _, [], h => by simp at h
theorem val_and : ∀ (l m : List Nat), l.length = m.length → (∀ b ∈ l, b < 256) → (∀ b ∈ m, b < 256) → valN l &&& valN m = valN (List.zipWith (· &&& ·) l m)
  | [], [], _, _, _ => rfl
  | b :: l, c :: m, h, h1, h2 => by
    have ih := val_and l m (by simpa using h) (fun x hx => h1 x (List.mem_cons_of_mem _ hx)) (fun x hx => h2 x (List.mem_cons_of_mem _ hx))
    have hb := h1 b (by simp)
    have hc := h2 c (by simp)
    simp only [valN, List.zipWith_cons_cons]
    rw [← ih]
    have e1 : (b + 256 * valN l &&& c + 256 * valN m) % 2 ^ 8 = b &&& c := by
      rw [Nat.and_mod_two_pow, show (b + 256 * valN l) % 2 ^ 8 = b by omega, show (c + 256 * valN m) % 2 ^ 8 = c by omega]
    have e2 : (b + 256 * valN l &&& c + 256 * valN m) / 2 ^ 8 = valN l &&& valN m := by
      rw [Nat.and_div_two_pow, show (b + 256 * valN l) / 2 ^ 8 = valN l by omega, show (c + 256 * valN m) / 2 ^ 8 = valN m by omega]
    omega
  | [], _ :: _, h, _, _ => by simp at h
  | _ :: _, [], h, _, _ => by simp at h
/-- The first byte of a list. -/
def hd0 : List Nat → Nat
  | [] => 0
  | b :: _ => b
/-- Bytes shifted down by k bits. -/
def shrL (k : Nat) : List Nat → List Nat
  | [] => []
  | b :: l => (b / 2 ^ k + 2 ^ (8 - k) * (hd0 l % 2 ^ k)) :: shrL k l
theorem shrL_len (k : Nat) : ∀ l : List Nat, (shrL k l).length = l.length
  | [] => rfl
  | b :: l => by simp [shrL, shrL_len k l]
theorem val_hd (l : List Nat) : ∃ q, valN l = hd0 l + 256 * q := by
  cases l with
  | nil => exact ⟨0, rfl⟩
  | cons b l => exact ⟨valN l, rfl⟩
theorem val_shr (k : Nat) (hk : k ≤ 8) : ∀ l : List Nat, valN l / 2 ^ k = valN (shrL k l)
  | [] => by simp [valN, shrL]
  | b :: l => by
    have ih := val_shr k hk l
    obtain ⟨q, hq⟩ := val_hd l
    simp only [valN, shrL]
    rw [← ih]
    have hp : 256 = 2 ^ k * 2 ^ (8 - k) := by rw [← Nat.pow_add, show k + (8 - k) = 8 by omega]
    have h1 : (b + 256 * valN l) / 2 ^ k = b / 2 ^ k + 2 ^ (8 - k) * valN l := by
      rw [hp, Nat.mul_assoc, Nat.add_mul_div_left _ _ (Nat.two_pow_pos k)]
    rw [h1]
    have h2 : valN l = hd0 l % 2 ^ k + 2 ^ k * (valN l / 2 ^ k) := by
      have h3 : valN l % 2 ^ k = hd0 l % 2 ^ k := by
        rw [hq, hp, Nat.mul_assoc, Nat.add_mul_mod_self_left]
      rw [← h3]
      exact (Nat.mod_add_div _ _).symm
    have h4 : 2 ^ (8 - k) * valN l = 2 ^ (8 - k) * (hd0 l % 2 ^ k) + 256 * (valN l / 2 ^ k) := by
      rw [hp, Nat.mul_comm (2 ^ k) (2 ^ (8 - k)), Nat.mul_assoc, ← Nat.mul_add, ← h2]
    omega
def g1 (b : Nat) : Nat := (b / 2 &&& 85) + (b &&& 85)
def g2 (b : Nat) : Nat := (b / 4 &&& 51) + (b &&& 51)
theorem byte1 : ∀ b, b < 256 → ∀ c, c < 2 → ((b / 2 ^ 1 + 2 ^ 7 * c) &&& 85) + (b &&& 85) = g1 b ∧ g1 b < 256 ∧ b / 2 ^ 1 + 2 ^ 7 * c < 256 := by decide +kernel
theorem byte2 : ∀ b, b < 256 → ∀ c, c < 4 → ((b / 2 ^ 2 + 2 ^ 6 * c) &&& 51) + (b &&& 51) = g2 b ∧ g2 b < 256 ∧ b / 2 ^ 2 + 2 ^ 6 * c < 256 := by decide +kernel
theorem byte3 : ∀ b, b < 256 → ∀ c, c < 5 → (g2 (g1 b) / 2 ^ 4 + 2 ^ 4 * c + g2 (g1 b)) &&& 15 = popN 8 b ∧ popN 8 b ≤ 8 ∧ g2 (g1 b) / 2 ^ 4 + 2 ^ 4 * c + g2 (g1 b) < 256 ∧ g2 (g1 b) % 2 ^ 4 < 5 := by decide +kernel
theorem step1 : ∀ l : List Nat, (∀ b ∈ l, b < 256) → List.zipWith (· + ·) (List.zipWith (· &&& ·) (shrL 1 l) (List.replicate l.length 85)) (List.zipWith (· &&& ·) l (List.replicate l.length 85)) = l.map g1 ∧ ∀ b ∈ shrL 1 l, b < 256
  | [], _ => by simp [shrL]
  | b :: l, h => by
    obtain ⟨ih, ih2⟩ := step1 l (fun c hc => h c (List.mem_cons_of_mem _ hc))
    obtain ⟨h1, -, h3⟩ := byte1 b (h b (by simp)) (hd0 l % 2 ^ 1) (by omega)
    refine ⟨?_, ?_⟩
    · simp only [shrL, List.length_cons, List.replicate_succ, List.zipWith_cons_cons, List.map_cons, ih]
      rw [h1]
    · intro x hx
      rcases List.mem_cons.1 hx with rfl | hx
      · exact h3
      · exact ih2 x hx
theorem step2 : ∀ l : List Nat, (∀ b ∈ l, b < 256) → List.zipWith (· + ·) (List.zipWith (· &&& ·) (shrL 2 l) (List.replicate l.length 51)) (List.zipWith (· &&& ·) l (List.replicate l.length 51)) = l.map g2 ∧ ∀ b ∈ shrL 2 l, b < 256
  | [], _ => by simp [shrL]
  | b :: l, h => by
    obtain ⟨ih, ih2⟩ := step2 l (fun c hc => h c (List.mem_cons_of_mem _ hc))
    obtain ⟨h1, -, h3⟩ := byte2 b (h b (by simp)) (hd0 l % 2 ^ 2) (by omega)
    refine ⟨?_, ?_⟩
    · simp only [shrL, List.length_cons, List.replicate_succ, List.zipWith_cons_cons, List.map_cons, ih]
      rw [h1]
    · intro x hx
      rcases List.mem_cons.1 hx with rfl | hx
      · exact h3
      · exact ih2 x hx
theorem hd0_map (f : Nat → Nat) (hf : f 0 = 0) (l : List Nat) : hd0 (l.map f) = f (hd0 l) := by cases l <;> simp [hd0, hf]
theorem step3 : ∀ l : List Nat, (∀ b ∈ l, b < 256) → List.zipWith (· &&& ·) (List.zipWith (· + ·) (shrL 4 ((l.map g1).map g2)) ((l.map g1).map g2)) (List.replicate l.length 15) = l.map (popN 8) ∧ ∀ b ∈ List.zipWith (· + ·) (shrL 4 ((l.map g1).map g2)) ((l.map g1).map g2), b < 256
  | [], _ => by simp [shrL]
  | b :: l, h => by
    obtain ⟨ih, ih2⟩ := step3 l (fun c hc => h c (List.mem_cons_of_mem _ hc))
    have hc : hd0 ((l.map g1).map g2) % 2 ^ 4 < 5 := by
      rw [hd0_map g2 (by decide), hd0_map g1 (by decide)]
      cases l with
      | nil => decide
      | cons c l => exact (byte3 c (h c (by simp)) 0 (by omega)).2.2.2
    obtain ⟨h1, -, h3, -⟩ := byte3 b (h b (by simp)) _ hc
    refine ⟨?_, ?_⟩
    · simp only [shrL, List.length_cons, List.replicate_succ, List.zipWith_cons_cons, List.map_cons, ih]
      rw [show 2 ^ (8 - 4) = 2 ^ 4 from rfl, h1]
    · intro x hx
      simp only [shrL, List.zipWith_cons_cons, List.map_cons] at hx
      rcases List.mem_cons.1 hx with rfl | hx
      · exact h3
      · exact ih2 x hx
/-- A number of 64 bits is eight bytes. -/
theorem val_of (x : Nat) (h : x < 18446744073709551616) : ∃ l : List Nat, l.length = 8 ∧ (∀ b ∈ l, b < 256) ∧ valN l = x := by
  refine ⟨[x % 256, x / 256 % 256, x / 256 / 256 % 256, x / 256 / 256 / 256 % 256, x / 256 / 256 / 256 / 256 % 256, x / 256 / 256 / 256 / 256 / 256 % 256, x / 256 / 256 / 256 / 256 / 256 / 256 % 256, x / 256 / 256 / 256 / 256 / 256 / 256 / 256], rfl, ?_, ?_⟩
  · intro b hb
    simp only [List.mem_cons, List.mem_nil_iff, or_false] at hb
    rcases hb with rfl | rfl | rfl | rfl | rfl | rfl | rfl | rfl <;> omega
  · simp only [valN]
    omega
/-- What OnesCount64 reckons, step by step. -/
def oc1 (x : Nat) : Nat := (x / 2 &&& 6148914691236517205) + (x &&& 6148914691236517205)
def oc2 (x : Nat) : Nat := (x / 4 &&& 3689348814741910323) + (x &&& 3689348814741910323)
def oc3 (x : Nat) : Nat := (x / 16 + x) &&& 1085102592571150095
def oc4 (x : Nat) : Nat := x + x / 256
def oc5 (x : Nat) : Nat := x + x / 65536
def oc6 (x : Nat) : Nat := x + x / 4294967296
theorem mask1 : 6148914691236517205 = valN (List.replicate 8 85) := by decide
theorem mask2 : 3689348814741910323 = valN (List.replicate 8 51) := by decide
theorem mask3 : 1085102592571150095 = valN (List.replicate 8 15) := by decide
theorem ones_steps (x : Nat) (h : x < 18446744073709551616) : ∃ l : List Nat, l.length = 8 ∧ (∀ b ∈ l, b ≤ 8) ∧ oc3 (oc2 (oc1 x)) = valN l ∧ popN 64 x = l.sum ∧ oc1 x < 18446744073709551616 ∧ oc2 (oc1 x) < 9223372036854775808 := by
  obtain ⟨l, hl, hb, rfl⟩ := val_of x h
  have r1 : ∀ c : Nat, c < 256 → ∀ b ∈ List.replicate 8 c, b < 256 := fun c hc b hm => by rw [List.eq_of_mem_replicate hm]; exact hc
  obtain ⟨s1, t1⟩ := step1 l hb
  have e1 : oc1 (valN l) = valN (l.map g1) := by
    unfold oc1
    rw [mask1, show valN l / 2 = valN l / 2 ^ 1 by omega, val_shr 1 (by omega), val_and _ _ (by rw [shrL_len, hl]; rfl) t1 (r1 85 (by omega)), val_and _ _ (by rw [hl]; rfl) hb (r1 85 (by omega)), val_add _ _ (by simp [shrL_len, hl]), ← s1, hl]
  have hb1 : ∀ b ∈ l.map g1, b < 256 := fun b hm => by
    obtain ⟨c, hc, rfl⟩ := List.mem_map.1 hm
    exact (byte1 c (hb c hc) 0 (by omega)).2.1
  obtain ⟨s2, t2⟩ := step2 (l.map g1) hb1
  have e2 : oc2 (valN (l.map g1)) = valN ((l.map g1).map g2) := by
    unfold oc2
    rw [mask2, show valN (l.map g1) / 4 = valN (l.map g1) / 2 ^ 2 by omega, val_shr 2 (by omega), val_and _ _ (by rw [shrL_len]; simp [hl]) t2 (r1 51 (by omega)), val_and _ _ (by simp [hl]) hb1 (r1 51 (by omega)), val_add _ _ (by simp [shrL_len, hl]), ← s2]
    simp [hl]
  obtain ⟨s3, t3⟩ := step3 l hb
  have e3 : oc3 (valN ((l.map g1).map g2)) = valN (l.map (popN 8)) := by
    unfold oc3
    rw [mask3, show valN ((l.map g1).map g2) / 16 = valN ((l.map g1).map g2) / 2 ^ 4 by omega, val_shr 4 (by omega), val_add _ _ (by simp [shrL_len]), val_and _ _ (by simp [shrL_len, hl]) t3 (r1 15 (by omega)), ← s3, hl]
  refine ⟨l.map (popN 8), by simp [hl], fun b hm => ?_, by rw [e1, e2, e3], ?_, ?_, ?_⟩
  · obtain ⟨c, hc, rfl⟩ := List.mem_map.1 hm
    exact (byte3 c (hb c hc) 0 (by omega)).2.1
  · rw [← popN_val l hb, hl]
  · unfold oc1
    have h1 := Nat.and_le_right (n := valN l / 2) (m := 6148914691236517205)
    have h2 := Nat.and_le_right (n := valN l) (m := 6148914691236517205)
    omega
  · unfold oc2
    have h1 := Nat.and_le_right (n := oc1 (valN l) / 4) (m := 3689348814741910323)
    have h2 := Nat.and_le_right (n := oc1 (valN l)) (m := 3689348814741910323)
    omega
theorem dv1 (a Z : Nat) (ha : a < 256) : (a + 256 * Z) / 256 = Z := by omega
theorem dv2 (a b Z : Nat) (ha : a < 256) (hb : b < 256) : (a + 256 * (b + 256 * Z)) / 65536 = Z := by omega
theorem dv4 (a b c d Z : Nat) (ha : a < 256) (hb : b < 256) (hc : c < 256) (hd : d < 256) : (a + 256 * (b + 256 * (c + 256 * (d + 256 * Z)))) / 4294967296 = Z := by omega
def v8 (a b c d e f g h : Nat) : Nat := a + 256 * (b + 256 * (c + 256 * (d + 256 * (e + 256 * (f + 256 * (g + 256 * h))))))
theorem oc4_v {a b c d e f g h : Nat} (ha : a < 256) : oc4 (v8 a b c d e f g h) = v8 (a + b) (b + c) (c + d) (d + e) (e + f) (f + g) (g + h) h := by
  unfold oc4 v8
  rw [dv1 a _ ha]
  omega
theorem oc5_v {a b c d e f g h : Nat} (ha : a < 256) (hb : b < 256) : oc5 (v8 a b c d e f g h) = v8 (a + c) (b + d) (c + e) (d + f) (e + g) (f + h) g h := by
  unfold oc5 v8
  rw [dv2 a b _ ha hb]
  omega
theorem oc6_v {a b c d e f g h : Nat} (ha : a < 256) (hb : b < 256) (hc : c < 256) (hd : d < 256) : oc6 (v8 a b c d e f g h) = v8 (a + e) (b + f) (c + g) (d + h) e f g h := by
  unfold oc6 v8
  rw [dv4 a b c d _ ha hb hc hd]
  omega
theorem v8_mod (a b c d e f g h : Nat) : v8 a b c d e f g h % 128 = a % 128 := by
  unfold v8
  generalize b + 256 * (c + 256 * (d + 256 * (e + 256 * (f + 256 * (g + 256 * h))))) = Z
  omega
theorem v8_lt {a b c d e f g h : Nat} (ha : a ≤ 100) (hb : b ≤ 100) (hc : c ≤ 100) (hd : d ≤ 100) (he : e ≤ 100) (hf : f ≤ 100) (hg : g ≤ 100) (hh : h ≤ 60) : v8 a b c d e f g h < 4611686018427387904 := by
  unfold v8
  omega
theorem ones_end (l : List Nat) (hl : l.length = 8) (hb : ∀ b ∈ l, b ≤ 8) : oc6 (oc5 (oc4 (valN l))) % 128 = l.sum ∧ oc6 (oc5 (oc4 (valN l))) < 4611686018427387904 ∧ oc5 (oc4 (valN l)) < 4611686018427387904 ∧ oc4 (valN l) < 4611686018427387904 ∧ valN l < 4611686018427387904 := by
  match l, hl with
  | [a, b, c, d, e, f, g, h], _ =>
    have ha := hb a (by simp)
    have hb' := hb b (by simp)
    have hc := hb c (by simp)
    have hd := hb d (by simp)
    have he := hb e (by simp)
    have hf := hb f (by simp)
    have hg := hb g (by simp)
    have hh := hb h (by simp)
    clear hb
    have hv : valN [a, b, c, d, e, f, g, h] = v8 a b c d e f g h := rfl
    rw [hv, oc4_v (by omega), oc5_v (by omega) (by omega), oc6_v (by omega) (by omega) (by omega) (by omega), v8_mod]
    simp only [List.sum_cons, List.sum_nil]
    exact ⟨by omega, v8_lt (by omega) (by omega) (by omega) (by omega) (by omega) (by omega) (by omega) (by omega), v8_lt (by omega) (by omega) (by omega) (by omega) (by omega) (by omega) (by omega) (by omega), v8_lt (by omega) (by omega) (by omega) (by omega) (by omega) (by omega) (by omega) (by omega), v8_lt (by omega) (by omega) (by omega) (by omega) (by omega) (by omega) (by omega) (by omega)⟩
/-- How many of a rising row's numbers the bits of a number are. -/
theorem filt_one {W M : Int} (h : W < M) : ∀ {L : Lg}, Up L → (L.filter (fun y => decide (W ≤ y ∧ y < M))).length = (if W ∈ L then 1 else 0) + (L.filter (fun y => decide (W + 1 ≤ y ∧ y < M))).length
  | [], _ => by simp
  | x :: l, hu => by
    obtain ⟨hx, hl⟩ := List.pairwise_cons.1 hu
    have ih := filt_one h hl
    rw [List.filter_cons, List.filter_cons]
    by_cases e : W = x
    · subst e
      have hn : W ∉ l := fun hm => by have := hx W hm; omega
      rw [if_neg hn] at ih
      rw [if_pos (by simp; omega), if_pos (by simp : W ∈ W :: l), if_neg (by simp; omega), List.length_cons, ih]
      omega
    · have hm : W ∈ x :: l ↔ W ∈ l := by simp [e]
      by_cases h2 : W ≤ x ∧ x < M
      · have h3 : decide (W ≤ x ∧ x < M) = true := by simpa using h2
        have h4 : decide (W + 1 ≤ x ∧ x < M) = true := by simp; omega
        simp only [hm, h3, h4, if_true, List.length_cons, ih]
        omega
      · have h3 : decide (W ≤ x ∧ x < M) = false := by simpa using h2
        have h4 : decide (W + 1 ≤ x ∧ x < M) = false := by simp; omega
        simp only [hm, h3, h4, ih, Bool.false_eq_true, if_false]
theorem pop_filter : ∀ (n : Nat) (W : Int) (x : Nat) (L : Lg), Up L → (∀ k : Nat, k < n → (x.testBit k = true ↔ W + (k : Int) ∈ L)) → popN n x = (L.filter (fun y => decide (W ≤ y ∧ y < W + (n : Int)))).length
  | 0, W, x, L, _, _ => by
    have : L.filter (fun y => decide (W ≤ y ∧ y < W + ((0 : Nat) : Int))) = [] := by
      rw [List.filter_eq_nil_iff]
      intro y _
      simp
    rw [this]
    rfl
  | n + 1, W, x, L, hu, hb => by
    unfold popN
    have ih := pop_filter n (W + 1) (x / 2) L hu (fun k hk => by
      have := hb (k + 1) (by omega)
      rw [Nat.testBit_succ] at this
      rw [this, show W + 1 + (k : Int) = W + ((k + 1 : Nat) : Int) by omega])
    have h1 := filt_one (W := W) (M := W + ((n + 1 : Nat) : Int)) (by omega) hu
    rw [ih, h1, show W + 1 + (n : Int) = W + ((n + 1 : Nat) : Int) by omega]
    clear h1
    have h0 := hb 0 (by omega)
    rw [Nat.testBit_zero] at h0
    simp only [decide_eq_true_eq] at h0
    have e0 : W + ((0 : Nat) : Int) = W := by omega
    rw [e0] at h0
    by_cases h1 : x % 2 = 1
    · rw [if_pos (h0.1 h1), h1]
    · rw [if_neg (fun hm => h1 (h0.2 hm))]
      omega
theorem Trk.count {W : Int} {N : Nat} {F L : Lg} (h : Trk W N F L) : popN 64 N + F.length = L.length := by
  have h1 := pop_filter 64 W N L h.up (fun k hk => h.bit k hk)
  rw [h1, h.far]
  have h2 : L.filter (fun y => decide (W + 64 ≤ y)) = L.filter (fun y => !decide (W ≤ y ∧ y < W + ((64 : Nat) : Int))) := by
    refine List.filter_congr (fun y hy => ?_)
    have := h.low y hy
    rw [Bool.eq_iff_iff]
    simp
    omega
  rw [h2, ← List.length_append]
  exact (List.filter_append_perm _ L).length_eq
end Go.Proofs.YtdcahilfmhkmiaaGreatDoor

namespace Go.Proofs.YtdcahilfmhkmiaaGreatDoor
open Go.RowKit

theorem and64 (a b : Nat) (ha : a < 18446744073709551616) (hb : b < 18446744073709551616) : bits BinOp.and IntKind.u64 (a : Int) (b : Int) = ((a &&& b : Nat) : Int) := bits_and_u64_nat a b ha hb
theorem wrap64_nat (a : Nat) (h : a < 18446744073709551616) : IntKind.u64.wrap (a : Int) = (a : Int) := by rw [IntKind.wrap_u64]; omega
theorem key_and (a b c : Nat) (m : Nat) (ha : a < 18446744073709551616) (hb : b < 18446744073709551616) (hm : m < 18446744073709551616) (hc : (a &&& m) + (b &&& m) = c) (hl : c < 18446744073709551616) :
    IntKind.u64.wrap (bits BinOp.and IntKind.u64 (a : Int) (m : Int) + bits BinOp.and IntKind.u64 (b : Int) (m : Int)) = (c : Int) := by
  rw [and64 a m ha hm, and64 b m hb hm, ← Int.natCast_add, hc, wrap64_nat c hl]
theorem key_one (a b m c : Nat) (h1 : a + b < 18446744073709551616) (hm : m < 18446744073709551616) (hc : (a + b) &&& m = c) : bits BinOp.and IntKind.u64 (IntKind.u64.wrap ((a : Int) + (b : Int))) (m : Int) = (c : Int) := by
  rw [← Int.natCast_add, wrap64_nat _ h1, and64 _ m h1 hm, hc]
theorem key_add (a b c : Nat) (h1 : a + b = c) (hc : c < 18446744073709551616) : IntKind.u64.wrap ((a : Int) + (b : Int)) = (c : Int) := by
  rw [← Int.natCast_add, h1, wrap64_nat c hc]
theorem div_nat (x k : Nat) : (x : Int) / (k : Int) = ((x / k : Nat) : Int) := (Int.natCast_ediv x k).symm
set_option maxHeartbeats 2000000 in
set_option maxRecDepth 100000 in
theorem ones_calls (x : Nat) (hx : x < 18446744073709551616) (w : World) : Calls Tryz.prog 242 #[.int .u64 (x : Int)] w fun e w' => e = .returned (.int .i64 (popN 64 x : Int)) ∧ w' = w := by
  obtain ⟨l, hl, hb, h3, hp, h1, h2⟩ := ones_steps x hx
  obtain ⟨e1, e2, e3, e4, e5⟩ := ones_end l hl hb
  rw [hp]
  have k1 : IntKind.u64.wrap (bits BinOp.and IntKind.u64 ((x : Int) / 2) 6148914691236517205 + bits BinOp.and IntKind.u64 (x : Int) 6148914691236517205) = ((oc1 x : Nat) : Int) := by
    have := key_and (x / 2) x (oc1 x) 6148914691236517205 (by omega) hx (by omega) rfl h1
    rwa [← div_nat x 2] at this
  have k2 : IntKind.u64.wrap (bits BinOp.and IntKind.u64 ((oc1 x : Int) / 4) 3689348814741910323 + bits BinOp.and IntKind.u64 (oc1 x : Int) 3689348814741910323) = ((oc2 (oc1 x) : Nat) : Int) := by
    have := key_and (oc1 x / 4) (oc1 x) (oc2 (oc1 x)) 3689348814741910323 (by omega) h1 (by omega) rfl (by omega)
    rwa [← div_nat (oc1 x) 4] at this
  generalize oc1 x = x1 at *
  generalize oc2 x1 = x2 at *
  have k3 : bits BinOp.and IntKind.u64 (IntKind.u64.wrap ((x2 : Int) / 16 + (x2 : Int))) 1085102592571150095 = ((valN l : Nat) : Int) := by
    have := key_one (x2 / 16) x2 1085102592571150095 (valN l) (by omega) (by omega) h3
    rwa [← div_nat x2 16] at this
  generalize valN l = x3 at *
  have k4 : IntKind.u64.wrap ((x3 : Int) + (x3 : Int) / 256) = ((oc4 x3 : Nat) : Int) := by
    have := key_add x3 (x3 / 256) (oc4 x3) rfl (by omega)
    rwa [← div_nat x3 256] at this
  generalize oc4 x3 = x4 at *
  have k5 : IntKind.u64.wrap ((x4 : Int) + (x4 : Int) / 65536) = ((oc5 x4 : Nat) : Int) := by
    have := key_add x4 (x4 / 65536) (oc5 x4) rfl (by omega)
    rwa [← div_nat x4 65536] at this
  generalize oc5 x4 = x5 at *
  have k6 : IntKind.u64.wrap ((x5 : Int) + (x5 : Int) / 4294967296) = ((oc6 x5 : Nat) : Int) := by
    have := key_add x5 (x5 / 4294967296) (oc6 x5) rfl (by omega)
    rwa [← div_nat x5 4294967296] at this
  generalize oc6 x5 = x6 at *
  clear h1 h2 h3 hp e3 e4 e5 hb hl
  go_enter Tryz.func242, Tryz.ntmps242
  go_wp2_with (simp only [k1, k2, k3, k4, k5, k6])
  go_ret
  exact ⟨ret_int (by rw [i64_and127]; omega), rfl⟩
/-- The table that TrailingZeros64 reads. -/
def TzTab (w : World) : Prop := ∀ j, j < 64 → w.cell? ⟨1, j, none⟩ = some (.int .u8 ((Lib.deBruijn64tab.getD j 0 : Nat) : Int))
theorem TzTab.lt {w : World} (h : TzTab w) : 1 < w.heap.size := World.block_lt_of_cell? w _ (h 0 (by omega))
theorem TzTab.below {w w' : World} (h : TzTab w) (hb : Below w.heap.size w w') : TzTab w' := fun j hj => (hb.cell (p := ⟨1, j, none⟩) h.lt).trans (h j hj)
/-- Where the shelf's numbers lie in this program. -/
def tzRen : Go.Shelf.Ren := ⟨fun | 29 => 241 | n => n, fun | 22 => 155 | 25 => 160 | 54 => 281 | n => n, fun | 1 => 1 | n => n⟩
set_option maxRecDepth 100000 in
theorem tzLays : Go.Proofs.Lays7.n29 Tryz.prog tzRen := { mixed := by kernel_rfl, f29 := by kernel_rfl, t0 := by kernel_rfl, a0 := fun _ => by kernel_rfl, z0 := fun _ => by kernel_rfl, v0 := fun _ => by kernel_rfl, i0 := by kernel_rfl, t3 := by kernel_rfl, a3 := fun _ => by kernel_rfl, z3 := fun _ => by kernel_rfl, v3 := fun _ => by kernel_rfl, i3 := by kernel_rfl, t4 := by kernel_rfl, a4 := fun _ => by kernel_rfl, z4 := fun _ => by kernel_rfl, v4 := fun _ => by kernel_rfl, i4 := by kernel_rfl, t5 := by kernel_rfl, a5 := fun _ => by kernel_rfl, z5 := fun _ => by kernel_rfl, v5 := fun _ => by kernel_rfl, i5 := by kernel_rfl, t22 := by kernel_rfl, a22 := fun _ => by kernel_rfl, z22 := fun _ => by kernel_rfl, v22 := fun _ => by kernel_rfl, i22 := by kernel_rfl, t25 := by kernel_rfl, a25 := fun _ => by kernel_rfl, z25 := fun _ => by kernel_rfl, v25 := fun _ => by kernel_rfl, i25 := by kernel_rfl, t54 := by kernel_rfl, a54 := fun _ => by kernel_rfl, z54 := fun _ => by kernel_rfl, g1 := by kernel_rfl }
theorem tz_calls (x : Nat) (hx : x < 18446744073709551616) (w : World) (hT : TzTab w) : Calls Tryz.prog 241 #[.int .u64 (x : Int)] w fun e w' => e = .returned (.int .i64 (Lib.ctz 64 x : Int)) ∧ w' = w :=
  Any7.bits_TrailingZeros64 tzLays x hx w (fun _ => fun j hj => hT j hj)
end Go.Proofs.YtdcahilfmhkmiaaGreatDoor

namespace Go.Proofs.YtdcahilfmhkmiaaGreatDoor
open Go.RowKit

/-- Where the shelf's numbers lie in this program. -/
def bsRen : Go.Shelf.Ren := ⟨fun | 49 => 239 | 59 => 254 | 60 => 255 | 68 => 262 | n => n, fun | 22 => 130 | 23 => 2 | 51 => 160 | n => n, fun n => n⟩
set_option maxRecDepth 100000 in
theorem bsLays : SlLaysN.n49 Tryz.prog bsRen := { mixed := (by kernel_rfl), f49 := ⟨Tryz.f239.name, (by decide), (by kernel_rfl)⟩, f59 := ⟨Tryz.f254.name, (by decide), (by kernel_rfl)⟩, f60 := ⟨Tryz.f255.name, (by decide), (by kernel_rfl)⟩, f68 := ⟨Tryz.f262.name, (by decide), (by kernel_rfl)⟩, t0 := (by kernel_rfl), a0 := fun _ => (by kernel_rfl), z0 := fun _ => (by kernel_rfl), v0 := fun _ => (by kernel_rfl), t3 := (by kernel_rfl), a3 := fun _ => (by kernel_rfl), z3 := fun _ => (by kernel_rfl), v3 := fun _ => (by kernel_rfl), t4 := (by kernel_rfl), a4 := fun _ => (by kernel_rfl), z4 := fun _ => (by kernel_rfl), v4 := fun _ => (by kernel_rfl), t22 := (by kernel_rfl), a22 := fun _ => (by kernel_rfl), z22 := fun _ => (by kernel_rfl), v22 := fun _ => (by kernel_rfl), t23 := (by kernel_rfl), a23 := fun _ => (by kernel_rfl), z23 := fun _ => (by kernel_rfl), v23 := fun _ => (by kernel_rfl), t51 := (by kernel_rfl), a51 := fun _ => (by kernel_rfl), z51 := fun _ => (by kernel_rfl), v51 := fun _ => (by kernel_rfl) }
theorem count_posN (s : Int) : ∀ {l : Lg}, Up l → l.countP (· < s) = posN s l
  | [], _ => rfl
  | x :: l, h => by
    obtain ⟨hx, hl⟩ := List.pairwise_cons.1 h
    unfold posN
    split
    · rename_i hs
      rw [List.countP_cons_of_pos (by simpa using hs), count_posN s hl]
    · rename_i hs
      rw [List.countP_eq_zero]
      intro y hy
      rcases List.mem_cons.1 hy with rfl | hy
      · simpa using hs
      · have := hx y hy
        simp
        omega
/-- What it answers: how many stand ahead, and whether it is there. -/
theorem search_calls {a : Option Addr} {cap : Nat} {l : Lg} {w : World} (h : InLg w a l.length l) (hu : Up l) (s : Int) :
    Calls Tryz.prog 239 #[.slice a l.length cap, .int .i64 s] w fun e w' => e = .returned (.tuple #[.int .i64 (posN s l : Int), .bool (decide (s ∈ l))]) ∧ ∃ q, w' = w.drewN q := by
  have hs := h.small
  by_cases h0 : 0 < l.length
  · obtain ⟨b, o, rfl⟩ := h.there h0
    have hc := AnyG.slices_BinarySearch_int bsLays b o l.length cap l s w (Nat.le_refl _) (by omega) (fun j hj => h.cell b o rfl j hj) (by rw [List.take_length]; exact hu.imp (fun hab => by omega))
    rw [List.take_length, count_posN s hu] at hc
    have e : l.contains s = decide (s ∈ l) := by rw [Bool.eq_iff_iff]; simp
    rw [e] at hc
    exact hc
  · have hn : l = [] := List.eq_nil_of_length_eq_zero (by omega)
    subst hn
    clear h hu hs h0
    have hp : posN s [] = 0 := rfl
    have hd : decide (s ∈ ([] : Lg)) = false := by simp
    rw [hp, hd]
    go_enter Tryz.func239, Tryz.ntmps239
    go_wp2_with fail
    go_loopw [7, 8] (fun i j wr => i = .int .i64 0 ∧ j = .int .i64 0 ∧ wr = w) (fun _ _ _ => 0)
    case atStart => exact ⟨rfl, rfl, rfl⟩
    case round =>
      obtain ⟨rfl, rfl, rfl⟩ := hrel
      go_wp2_with fail
      exact bodyPost_ret (v := .tuple #[.int .i64 0, .bool false]) (by simp [results, Tryz.results239, go_sem]) rfl ⟨by simp, 0, rfl⟩
end Go.Proofs.YtdcahilfmhkmiaaGreatDoor

namespace Go.Proofs.YtdcahilfmhkmiaaGreatDoor
open Go.RowKit Go.Lib

/-- Cells stored side by side: the block behind them. -/
theorem heap_sets {g : Nat} {e : TypeId} : ∀ (vs : List Value) (o : Nat) (w : World) (cur : Array Value), w.heap[g]? = some (.cells cur e (0, 0)) → o + vs.length ≤ cur.size →
    ∃ cur' : Array Value, (w.setCells g o vs).heap[g]? = some (.cells cur' e (0, 0)) ∧ cur'.size = cur.size ∧ ∀ j, cur'[j]? = if o ≤ j ∧ j < o + vs.length then vs[j - o]? else cur[j]?
  | [], o, w, cur, h, _ => ⟨cur, h, rfl, fun j => by rw [if_neg (by simp only [List.length_nil]; omega)]⟩
  | v :: vs, o, w, cur, h, hs => by
    simp only [List.length_cons] at hs
    obtain ⟨cur', h1, h2, h3⟩ := heap_sets vs (o + 1) (w.setCell ⟨g, o, none⟩ v) (cur.setIfInBounds o v) (Go.Joins.block_setCell h v) (by simp; omega)
    refine ⟨cur', h1, by rw [h2]; simp, fun j => ?_⟩
    rw [h3]
    simp only [List.length_cons]
    by_cases e1 : j = o
    · subst e1
      rw [if_neg (by omega), if_pos (by omega), Nat.sub_self, Array.getElem?_setIfInBounds_self_of_lt (by omega)]
      rfl
    · by_cases e2 : o ≤ j ∧ j < o + (vs.length + 1)
      · rw [if_pos (by omega), if_pos e2, show j - o = (j - (o + 1)) + 1 by omega, List.getElem?_cons_succ]
      · rw [if_neg (by omega), if_neg e2, Array.getElem?_setIfInBounds_ne (by omega)]
theorem ins_cells {l : Lg} {p : Nat} {x : Int} {cur : Array Value} (hp : p ≤ l.length) (_hs : l.length + 1 ≤ cur.size)
    (h : ∀ j, j < l.length + 1 → cur[j]? = if j < p then (lgv l)[j]? else if j = p then some (.int .i64 x) else (lgv l)[j - 1]?) :
    cur.toList.take (l.length + 1) = lgv (l.take p ++ x :: l.drop p) := by
  apply List.ext_getElem?
  intro j
  rw [List.getElem?_take]
  by_cases hj : j < l.length + 1
  · rw [if_pos hj, Array.getElem?_toList, h j hj]
    unfold lgv
    rw [List.map_append, List.map_cons]
    by_cases h1 : j < p
    · rw [if_pos h1, List.getElem?_append_left (by simp; omega), List.getElem?_map, List.getElem?_map, List.getElem?_take, if_pos h1]
    · rw [if_neg h1, List.getElem?_append_right (by simp; omega)]
      rw [show (List.map (fun x => Value.int IntKind.i64 x) (List.take p l)).length = p by simp; omega]
      by_cases h2 : j = p
      · subst h2
        rw [if_pos rfl, Nat.sub_self]
        rfl
      · rw [if_neg h2, show j - p = (j - p - 1) + 1 by omega, List.getElem?_cons_succ, List.getElem?_map, List.getElem?_map, List.getElem?_drop, show p + (j - p - 1) = j - 1 by omega]
  · rw [if_neg hj, List.getElem?_eq_none]
    unfold lgv
    simp
    omega
/-- What it answers: the row with x at p, in the same block or in a new one. -/
def InsGot (w : World) (B : Nat) (v : Value) (l : Lg) (p : Nat) (x : Int) (e : Ending) (w' : World) : Prop :=
  ∃ v', e = .returned v' ∧ w'.ownsRow B 2 1 v' (l.length + 1) (lgv (l.take p ++ x :: l.drop p)) ∧ w.grownBy w' v.ownBlock ∧ (v'.ownBlock = v.ownBlock ∨ ∃ b, v'.ownBlock = some b ∧ w.heap.size ≤ b)
theorem grown_sets {w w' : World} {g : Nat} (h : w.grownBy w' (some g)) (o : Nat) (vs : List Value) : w.grownBy (w'.setCells g o vs) (some g) := by
  induction vs generalizing o w' with
  | nil => exact h
  | cons v vs ih =>
    refine ih (w' := w'.setCell ⟨g, o, none⟩ v) ⟨h.os, h.tape, h.output, by simpa [World.setCell] using h.size, fun k hk hne => ?_⟩ _
    exact (Below.heap_setCell w' ⟨g, o, none⟩ v k (fun e => hne (by rw [e]))).trans (h.block k hk hne)

set_option maxHeartbeats 4000000 in
set_option maxRecDepth 100000 in
/-- At the end. -/
theorem insEnd_calls {w : World} {B : Nat} {v : Value} {l : Lg} (h : w.ownsRow B 2 1 v l.length (lgv l)) (hn : l.length ≤ 2000000) (hB : B ≤ w.heap.size) {vb vc : Nat} {x : Int} (hx : w.cell? ⟨vb, 0, none⟩ = some (.int .i64 x)) :
    Calls Tryz.prog 240 #[v, .int .i64 (l.length : Int), .slice (some ⟨vb, 0, none⟩) 1 vc] w fun e w' => InsGot w B v l l.length x e w' := by
  have hyy : (Tryz.prog.info? 2).map (fun i => (i.zero, i.size, i.bytes)) = some (some (.int .i64 0), 1, 8) := by kernel_rfl
  obtain ⟨i1, hi1, hyy⟩ := Option.map_eq_some_iff.1 hyy
  simp only [Prod.mk.injEq] at hyy
  obtain ⟨hy0, hy1, hy2⟩ := hyy
  have hnil : (v = .slice none 0 0 ∧ l = []) ∨ ∃ g cap, v = .slice (some ⟨g, 0, none⟩) l.length cap ∧ l.length ≤ cap ∧ cap ≤ maxLen := by
    rcases h.2 with ⟨e, e0⟩ | ⟨g, cap, cur, e, _, _, h1, h2, _⟩
    · exact .inl ⟨e, List.eq_nil_of_length_eq_zero e0⟩
    · exact .inr ⟨g, cap, e, h1, h2⟩
  have hnews : ∀ j u, [Value.int .i64 x][j]? = some u → w.cell? ((⟨vb, 0, none⟩ : Addr).add j) = some u := fun j u hj => by
    cases j with
    | zero => cases hj; exact hx
    | succ j => simp at hj
  have hr := run_append_own_at (P := Tryz.prog) w B 130 130 2 i1 _ 1 8 (by kernel_rfl) hi1 hy0 hy1 hy2 rfl (by omega) v l.length (lgv l) h ⟨vb, 0, none⟩ 1 vc [.int .i64 x] rfl hnews (by simp [Value.oneCell']) (by simp [maxLen]; omega) (by omega) hB
  obtain ⟨v', w', hr, h2, h3, h4, h5⟩ := hr
  have hgot : InsGot w B v l l.length x (.returned v') w' := by
    refine ⟨v', rfl, ?_, h3, ?_⟩
    · rw [List.take_length, List.drop_length]
      simpa [lgv] using h2
    · rcases h5 with h5 | h5
      · exact .inl h5
      · exact .inr ⟨_, h5, Nat.le_refl _⟩
  have HG := Lib.hid hgot
  clear hgot h2 h3 h4 h5 h hi1 hy0 hy1 hy2 hnews hx
  rcases hnil with ⟨rfl, rfl⟩ | ⟨g, cap, rfl, hc1, hc2⟩
  · go_enter Tryz.func240, Tryz.ntmps240
    go_wp2_with (at_builtin; refine Lib.wpList_append_run _ rfl _ _ _ _ rfl _ _ rfl rfl _ _ hr ?_)
    all_goals exact bodyPost_ret (v := v') (by simp [results, Tryz.results240, go_sem]) rfl HG.out
  · go_enter Tryz.func240, Tryz.ntmps240
    go_wp2_with (at_builtin; refine Lib.wpList_append_run _ rfl _ _ _ _ rfl _ _ rfl rfl _ _ hr ?_)
    all_goals exact bodyPost_ret (v := v') (by simp [results, Tryz.results240, go_sem]) rfl HG.out

/-- What the callee asks: whether the two rows lie in one block. -/
theorem apart_run {w : World} {g vb : Nat} {tA tB : TypeId} {kA kB : Nat} (hvb : vb ≠ g) (hsa : w.shape? vb = some (tA, kA)) (hsb : w.shape? g = some (tB, kB)) (hkB : kB ≠ 0) (hfa : w.frozen? ⟨vb, 0, none⟩ = false) (hfe : w.frozen? ⟨vb, kA, none⟩ = false) (o la ca lb cb : Nat) :
    (callFunc 256 #[.slice (some ⟨vb, 0, none⟩) la ca, .slice (some ⟨g, o, none⟩) lb cb]).run Tryz.prog w = .ok (.value (.bool false)) w := by
  rw [run_callFunc_extern (fn := Tryz.f256) (by kernel_rfl) (by kernel_rfl) (by kernel_rfl) (by kernel_rfl) (e := Extern.SlicesOverlaps.overlaps #[130, 130] #[4]) (by kernel_rfl),
    Lib.run_overlaps_apart w 130 4 2 (by kernel_rfl) 1 (fun w => by kernel_rfl) ⟨vb, 0, none⟩ ⟨g, o, none⟩ la ca lb cb hvb tA tB kA kB hsa hsb hkB hfa hfe]
  rfl
theorem sets_same {g : Nat} : ∀ (vs : List Value) (o : Nat) (w : World), (w.setCells g o vs).os = w.os ∧ (w.setCells g o vs).tape = w.tape ∧ (w.setCells g o vs).output = w.output
  | [], _, _ => ⟨rfl, rfl, rfl⟩
  | v :: vs, o, w => sets_same vs (o + 1) (w.setCell ⟨g, o, none⟩ v)
theorem sets_two {g : Nat} (vs us : List Value) (o q : Nat) (w : World) : ((w.setCells g o vs).setCells g q us).drew.os = w.os ∧ ((w.setCells g o vs).setCells g q us).drew.tape = w.tape ∧ ((w.setCells g o vs).setCells g q us).drew.output = w.output :=
  ⟨(sets_same us q _).1.trans (sets_same vs o w).1, (sets_same us q _).2.1.trans (sets_same vs o w).2.1, (sets_same us q _).2.2.trans (sets_same vs o w).2.2⟩
set_option maxHeartbeats 4000000 in
set_option maxRecDepth 100000 in
/-- In the middle, with room. -/
theorem insRoom_calls {w : World} {B g cap p : Nat} {l : Lg} (h : w.ownsRow B 2 1 (.slice (some ⟨g, 0, none⟩) l.length cap) l.length (lgv l)) (hp : p < l.length) (hn : l.length ≤ 2000000) (hc : l.length + 1 ≤ cap)
    {vb : Nat} {tA : TypeId} {x : Int} (hx : w.heap[vb]? = some (.cells #[.int .i64 x] tA (0, 0))) (hne : vb ≠ g) :
    Calls Tryz.prog 240 #[.slice (some ⟨g, 0, none⟩) l.length cap, .int .i64 (p : Int), .slice (some ⟨vb, 0, none⟩) 1 1] w fun e w' => InsGot w B (.slice (some ⟨g, 0, none⟩) l.length cap) l p x e w' := by
  obtain ⟨cur, hBg, hg, hcm, hcs, hct⟩ : ∃ cur : Array Value, B ≤ g ∧ w.heap[g]? = some (.cells cur 2 (0, 0)) ∧ cap ≤ maxLen ∧ cur.size = cap ∧ cur.toList.take l.length = lgv l := by
    rcases h.2 with ⟨e, _⟩ | ⟨g', cap', cur, e, h1, h2, _, h4, h5, h6⟩
    · cases e
    · injection e with e1 _ e3
      injection e1 with e1
      injection e1 with e1
      subst e1 e3
      exact ⟨cur, h1, h2, h4, by omega, by simpa using h6⟩
  have hcur : ∀ j, j < l.length → cur[j]? = (lgv l)[j]? := fun j hj => by
    rw [← hct, List.getElem?_take, if_pos hj, Array.getElem?_toList]
  have hov := apart_run (w := w) (g := g) (vb := vb) hne (tA := tA) (tB := 2) (kA := 1) (kB := cap) (by simp [World.shape?, hx]) (by simp [World.shape?, hg, hcs]) (by omega) (Joins.unfrozen_of_block hx 0) (Joins.unfrozen_of_block hx 1)
  have hsz : (Tryz.prog.info? 2).map (·.size) = some 1 := by kernel_rfl
  have hll : (lgv l).length = l.length := by simp [lgv]
  have hdl : ((lgv l).drop p).length = l.length - p := by rw [List.length_drop, hll]
  have hcp1 : ∀ (W : World), W.heap = w.heap → ∀ ty dc sc, (Builtin.copy_ #[130, 130] ty #[.slice (some ⟨g, p + 1, none⟩) (l.length - p) dc, .slice (some ⟨g, p, none⟩) (l.length + 1 - p) sc]).run Tryz.prog W = .ok (goInt ((lgv l).drop p).length) (W.setCells g (p + 1) ((lgv l).drop p)) := fun W hW ty dc sc => by
    have hgW : W.heap[g]? = some (.cells cur 2 (0, 0)) := by rw [hW]; exact hg
    exact run_copy_cells W _ _ ty 2 g (p + 1) (l.length - p) dc ⟨g, p, none⟩ (l.length + 1 - p) sc ((lgv l).drop p) (by kernel_rfl) hsz (by rw [hdl]; simp only [Nat.min_def]; split <;> omega)
      (fun j v hj => by
        have hjl := (List.getElem?_eq_some_iff.1 hj).1
        rw [hdl] at hjl
        rw [Addr.add_lit, Joins.cell_of_block hgW, hcur _ (by omega)]
        rwa [List.getElem?_drop] at hj)
      (fun j hj => by rw [hdl] at hj; rw [Joins.cell_of_block hgW, Array.getElem?_eq_getElem (by omega)]; rfl)
      (fun j _ => Joins.unfrozen_of_block hgW _) (fun v hv => lgv_one l v (List.mem_of_mem_drop hv))
  obtain ⟨cur1, hg1, hs1, hc1⟩ := heap_sets ((lgv l).drop p) (p + 1) w cur hg (by rw [hdl]; omega)
  obtain ⟨cur2, hg2, hs2, hc2⟩ := heap_sets [.int .i64 x] p (w.setCells g (p + 1) ((lgv l).drop p)) cur1 hg1 (by simp; omega)
  have hcp2 : ∀ (W : World), W.heap = (w.setCells g (p + 1) ((lgv l).drop p)).heap → ∀ ty dc, (Builtin.copy_ #[130, 130] ty #[.slice (some ⟨g, p, none⟩) (l.length + 1 - p) dc, .slice (some ⟨vb, 0, none⟩) 1 1]).run Tryz.prog W = .ok (goInt 1) (W.setCells g p [.int .i64 x]) := fun W hW ty dc => by
    have hgW : W.heap[g]? = some (.cells cur1 2 (0, 0)) := by rw [hW]; exact hg1
    have hvW : W.heap[vb]? = some (.cells #[.int .i64 x] tA (0, 0)) := by
      rw [hW]
      rw [World.heap_setCells_other w g _ _ (Array.getElem?_eq_some_iff.1 hx).1 hne]
      exact hx
    exact run_copy_cells W _ _ ty 2 g p (l.length + 1 - p) dc ⟨vb, 0, none⟩ 1 1 [.int .i64 x] (by kernel_rfl) hsz (by simp only [List.length_cons, List.length_nil, Nat.min_def]; split <;> omega)
      (fun j v hj => by
        cases j with
        | zero => rw [Addr.add_lit, Joins.cell_of_block hvW]; simpa using hj
        | succ j => simp at hj)
      (fun j hj => by simp at hj; rw [Joins.cell_of_block hgW, Array.getElem?_eq_getElem (by omega)]; rfl)
      (fun j _ => Joins.unfrozen_of_block hgW _) (by simp [Value.oneCell'])
  have hend : ∀ W : World, W.os = w.os → W.tape = w.tape → W.output = w.output → W.heap = ((w.setCells g (p + 1) ((lgv l).drop p)).setCells g p [.int .i64 x]).heap → InsGot w B (.slice (some ⟨g, 0, none⟩) l.length cap) l p x (.returned (.slice (some ⟨g, 0, none⟩) (l.length + 1) cap)) W := fun W e1 e2 e3 e4 => by
    refine ⟨_, rfl, ⟨by simp [lgv]; omega, .inr ⟨g, cap, cur2, rfl, hBg, by rw [e4]; exact hg2, hc, hcm, by omega, ?_⟩⟩, ?_, .inl rfl⟩
    · rw [Nat.mul_one]
      refine ins_cells (by omega) (by omega) (fun j hj => ?_)
      rw [hc2 j]
      by_cases e : j < p
      · rw [if_neg (by simp; omega), hc1 j, if_neg (by omega), if_pos e, hcur j (by omega)]
      · rw [if_neg e]
        by_cases e' : j = p
        · subst e'
          simp
        · rw [if_neg (by simp; omega), hc1 j, if_pos (by rw [hdl]; omega), if_neg e', List.getElem?_drop, show p + (j - (p + 1)) = j - 1 by omega]
    · have hgr := grown_sets (w := w) (g := g) (grown_sets (w := w) (w' := w) (g := g) ⟨rfl, rfl, rfl, Nat.le_refl _, fun _ _ _ => rfl⟩ (p + 1) ((lgv l).drop p)) p [.int .i64 x]
      exact ⟨e1, e2, e3, by rw [e4]; exact hgr.size, fun k hk hn => by rw [e4]; exact hgr.block k hk hn⟩
  have hcp3 := hcp2 (w.drew.setCells g (p + 1) ((lgv l).drop p)) (by rw [← drew_setCells]; rfl)
  have hend2 := hend ((w.drew.setCells g (p + 1) ((lgv l).drop p)).setCells g p [.int .i64 x]) (by rw [← drew_setCells, ← drew_setCells]; exact (sets_two _ _ _ _ _).1) (by rw [← drew_setCells, ← drew_setCells]; exact (sets_two _ _ _ _ _).2.1) (by rw [← drew_setCells, ← drew_setCells]; exact (sets_two _ _ _ _ _).2.2) (by rw [← drew_setCells, ← drew_setCells]; rfl)
  have HE := Lib.hid hend2
  have hz2 : ¬ ((p : Int) = (l.length : Int)) := by omega
  have hw1 : IntKind.i64.wrap ((p : Int) + 1) = (p : Int) + 1 := by rw [IntKind.wrap_i64]; omega
  have hb1 : (0 : Int) ≤ (p : Int) + 1 := by omega
  have htn : ((p : Int) + 1).toNat = p + 1 := by omega
  have hb2 : ¬ (cap = p + 1) := by omega
  have hb3 : (p : Int) ≤ (l.length : Int) + 1 := by omega
  have hb4 : ¬ (cap = p) := by omega
  have hc63 : cap ≤ 9223372036854775807 := by unfold maxLen at hcm; omega
  clear hend hend2 hcp2 hc1 hc2 hg1 hg2 hs1 hs2 hcur hct hcs h hg hx
  generalize l.length = n at *
  have hpn : p ≤ n := by omega
  have mixed : Tryz.prog.follows Departure.mixedOrders = true := by kernel_rfl
  go_enter Tryz.func240, Tryz.ntmps240
  go_wp2_with (simp only [hov])
  go_region_law_o (refine step_copy_runI rfl _ _ 130 130 rfl (.slice (some ⟨g, p + 1, none⟩) (n - p) (cap - (p + 1))) (.slice (some ⟨g, p, none⟩) (n + 1 - p) (cap - p)) (by simp [Act.eval, Act.put]) (by simp [Act.eval, Act.put]) (hcp1 w.drew rfl 3 (cap - (p + 1)) (cap - p)) ?_)
  go_wp2_with (at_builtin; refine wpList_copy_runI _ rfl _ _ 130 130 rfl _ _ rfl rfl (hcp3 _ _) ?_)
  exact bodyPost_ret (v := .slice (some ⟨g, 0, none⟩) (n + 1) cap) (by simp [results, Tryz.results240, go_sem]) rfl HE.out
set_option maxHeartbeats 4000000 in
set_option maxRecDepth 100000 in
/-- In the middle, without room. -/
theorem insGrow_calls {w : World} {B g cap p : Nat} {l : Lg} (h : w.ownsRow B 2 1 (.slice (some ⟨g, 0, none⟩) l.length cap) l.length (lgv l)) (hp : p < l.length) (hn : l.length ≤ 2000000) (hlc : l.length ≤ cap) (hc : cap < l.length + 1) (hB : B ≤ w.heap.size)
    {vb : Nat} {tA : TypeId} {x : Int} (hx : w.heap[vb]? = some (.cells #[.int .i64 x] tA (0, 0))) :
    Calls Tryz.prog 240 #[.slice (some ⟨g, 0, none⟩) l.length cap, .int .i64 (p : Int), .slice (some ⟨vb, 0, none⟩) 1 1] w fun e w' => InsGot w B (.slice (some ⟨g, 0, none⟩) l.length cap) l p x e w' := by
  have hcell : ∀ j v, (lgv l)[j]? = some v → w.cell? ⟨g, j, none⟩ = some v := fun j v hj => by
    have := h.cells (g := g) rfl j v hj
    rw [Addr.add_lit, Nat.zero_add] at this
    exact this
  have hgw : g < w.heap.size := (h.lt g rfl).2
  have hvw : vb < w.heap.size := (Array.getElem?_eq_some_iff.1 hx).1
  have hyy : (Tryz.prog.info? 2).map (fun i => (i.zero, i.size, i.bytes)) = some (some (.int .i64 0), 1, 8) := by kernel_rfl
  obtain ⟨i1, hi1, hyy⟩ := Option.map_eq_some_iff.1 hyy
  simp only [Prod.mk.injEq] at hyy
  obtain ⟨hy0, hy1, hy2⟩ := hyy
  have hsz : (Tryz.prog.info? 2).map (·.size) = some 1 := by kernel_rfl
  have hll : (lgv l).length = l.length := by simp [lgv]
  have hdl : ((lgv l).drop p).length = l.length - p := by rw [List.length_drop, hll]
  have hkk : (l.length : Int) + 1 - (p : Int) = ((l.length + 1 - p : Nat) : Int) := by omega
  have hik : p + (l.length + 1 - p) = l.length + 1 := by omega
  have hold : (Builtin.firstCells i1.size p (.slice (some ⟨g, 0, none⟩) p cap)).run Tryz.prog w.drew = .ok ((lgv l).take p).toArray w.drew := by
    rw [hy1]
    refine run_firstCells_some w.drew 1 p ⟨g, 0, none⟩ p cap ((lgv l).take p) (by rw [List.length_take]; omega) (fun j v hj => ?_)
    rw [List.getElem?_take] at hj
    split at hj
    · have := hcell j v hj
      rw [Addr.add_lit, Nat.zero_add]
      exact this
    · cases hj
  have hfit : Builtin.nextslicecap (p + (l.length + 1 - p)) cap * i1.bytes ≤ 281474976710656 := by
    rw [hy2, hik]
    exact growslice_fits hc (by omega)
  have hrz : ∀ ty, (Builtin.append_ #[130, 3] ty #[.slice (some ⟨g, 0, none⟩) p cap, .int .i64 ((l.length : Int) + 1 - (p : Int))]).run Tryz.prog w = .ok (.slice (some ⟨w.heap.size, 0, none⟩) (l.length + 1) (grownCap w (l.length + 1) cap 2)) (w.drew.alloc (.cells (((lgv l).take p).toArray ++ Builtin.zeroCells (Value.int .i64 0).cells (l.length + 1 - p) ++ Builtin.zeroCells (Value.int .i64 0).cells (grownCap w (l.length + 1) cap 2 - (l.length + 1))) 2)) := fun ty => by
    have := Lib.run_append_grow_zeros (P := Tryz.prog) w 130 3 ty 2 i1 _ .i64 .i64 (by kernel_rfl) (by kernel_rfl) hi1 hy0 (some ⟨g, 0, none⟩) p cap ((lgv l).take p) hold (l.length + 1 - p) (by omega) (by omega) (by omega) (by omega) (by rw [hy2]; omega) hfit
    rw [hik] at this
    rw [hkk]
    exact this
  obtain ⟨G, hG⟩ : ∃ G, G = grownCap w (l.length + 1) cap 2 := ⟨_, rfl⟩
  rw [← hG] at hrz
  have hGn : l.length + 1 ≤ G := by rw [hG]; exact grownCap_ge w _ _ _
  have hGm : G ≤ maxLen := by rw [hG]; exact grownCap_le_maxLen w _ _ _ (by unfold maxLen; omega)
  obtain ⟨ROW, hROW⟩ : ∃ ROW : Array Value, ROW = ((lgv l).take p).toArray ++ Builtin.zeroCells (Value.int .i64 0).cells (l.length + 1 - p) ++ Builtin.zeroCells (Value.int .i64 0).cells (G - (l.length + 1)) := ⟨_, rfl⟩
  rw [← hROW] at hrz
  have hRs : ROW.size = G := by
    rw [hROW]
    simp [Builtin.zeroCells, Value.cells, hll]
    omega
  have hRc : ∀ j, j < p → ROW[j]? = (lgv l)[j]? := fun j hj => by
    rw [hROW, Array.append_assoc, Array.getElem?_append_left (by simp [hll]; omega)]
    simp [hj]
  obtain ⟨W1, hW1⟩ : ∃ W1, W1 = (w.alloc (.cells ROW 2)).drew := ⟨_, rfl⟩
  have hrz2 : ∀ ty, (Builtin.append_ #[130, 3] ty #[.slice (some ⟨g, 0, none⟩) p cap, .int .i64 ((l.length : Int) + 1 - (p : Int))]).run Tryz.prog w = .ok (.slice (some ⟨w.heap.size, 0, none⟩) (l.length + 1) G) W1 := fun ty => by rw [hW1]; exact hrz ty
  have hgW : W1.heap[w.heap.size]? = some (.cells ROW 2 (0, 0)) := by
    rw [hW1]
    show (w.heap.push _)[w.heap.size]? = _
    simp
  have hlow : ∀ k, k < w.heap.size → W1.heap[k]? = w.heap[k]? := fun k hk => by
    rw [hW1]
    exact (World.grownBy_alloc w (.cells ROW 2) none).block k hk (by simp)
  have hWs : ∀ k, k < w.heap.size → k < W1.heap.size := fun k hk => by
    rw [hW1]
    show k < (w.heap.push _).size
    simp
    omega
  obtain ⟨cur1, hg1, hs1, hc1⟩ := heap_sets [.int .i64 x] p W1 ROW hgW (by simp; omega)
  obtain ⟨cur2, hg2, hs2, hc2⟩ := heap_sets ((lgv l).drop p) (p + 1) (W1.setCells w.heap.size p [.int .i64 x]) cur1 hg1 (by rw [hdl]; omega)
  have hcp1 : ∀ ty dc, (Builtin.copy_ #[130, 130] ty #[.slice (some ⟨w.heap.size, p, none⟩) (l.length + 1 - p) dc, .slice (some ⟨vb, 0, none⟩) 1 1]).run Tryz.prog W1 = .ok (goInt 1) (W1.setCells w.heap.size p [.int .i64 x]) := fun ty dc => by
    have hvW : W1.heap[vb]? = some (.cells #[.int .i64 x] tA (0, 0)) := (hlow vb hvw).trans hx
    exact run_copy_cells W1 _ _ ty 2 w.heap.size p (l.length + 1 - p) dc ⟨vb, 0, none⟩ 1 1 [.int .i64 x] (by kernel_rfl) hsz (by simp only [List.length_cons, List.length_nil, Nat.min_def]; split <;> omega)
      (fun j v hj => by
        cases j with
        | zero => rw [Addr.add_lit, Joins.cell_of_block hvW]; simpa using hj
        | succ j => simp at hj)
      (fun j hj => by simp at hj; rw [Joins.cell_of_block hgW, Array.getElem?_eq_getElem (by omega)]; rfl)
      (fun j _ => Joins.unfrozen_of_block hgW _) (by simp [Value.oneCell'])
  have hcp2 : ∀ (W : World), W.heap = (W1.setCells w.heap.size p [.int .i64 x]).heap → ∀ ty dc sc, (Builtin.copy_ #[130, 130] ty #[.slice (some ⟨w.heap.size, p + 1, none⟩) (l.length - p) dc, .slice (some ⟨g, p, none⟩) (l.length - p) sc]).run Tryz.prog W = .ok (goInt ((lgv l).drop p).length) (W.setCells w.heap.size (p + 1) ((lgv l).drop p)) := fun W hW ty dc sc => by
    have hnW : W.heap[w.heap.size]? = some (.cells cur1 2 (0, 0)) := by rw [hW]; exact hg1
    have hgc : ∀ j v, (lgv l)[j]? = some v → W.cell? ⟨g, j, none⟩ = some v := fun j v hj => by
      refine (World.cell?_of_block (a := ⟨g, j, none⟩) ?_).trans (hcell j v hj)
      rw [hW]
      show (W1.setCells w.heap.size p [.int .i64 x]).heap[g]? = w.heap[g]?
      rw [World.heap_setCells_other W1 w.heap.size _ _ (hWs g hgw) (by omega)]
      exact hlow g hgw
    exact run_copy_cells W _ _ ty 2 w.heap.size (p + 1) (l.length - p) dc ⟨g, p, none⟩ (l.length - p) sc ((lgv l).drop p) (by kernel_rfl) hsz (by rw [hdl]; simp only [Nat.min_def]; split <;> omega)
      (fun j v hj => by
        rw [Addr.add_lit]
        exact hgc _ v (by rwa [List.getElem?_drop] at hj))
      (fun j hj => by rw [hdl] at hj; rw [Joins.cell_of_block hnW, Array.getElem?_eq_getElem (by omega)]; rfl)
      (fun j _ => Joins.unfrozen_of_block hnW _) (fun v hv => lgv_one l v (List.mem_of_mem_drop hv))
  have hcp3 := hcp2 (W1.setCells w.heap.size p [.int .i64 x]).drew rfl
  have hend : InsGot w B (.slice (some ⟨g, 0, none⟩) l.length cap) l p x (.returned (.slice (some ⟨w.heap.size, 0, none⟩) (l.length + 1) G)) ((W1.setCells w.heap.size p [.int .i64 x]).drew.setCells w.heap.size (p + 1) ((lgv l).drop p)) := by
    rw [← drew_setCells]
    refine ⟨_, rfl, ⟨by simp [lgv]; omega, .inr ⟨w.heap.size, G, cur2, rfl, hB, hg2, hGn, hGm, by omega, ?_⟩⟩, ?_, .inr ⟨_, rfl, Nat.le_refl _⟩⟩
    · rw [Nat.mul_one]
      refine ins_cells (by omega) (by omega) (fun j hj => ?_)
      rw [hc2 j]
      by_cases e : j < p
      · rw [if_neg (by omega), hc1 j, if_neg (by omega), if_pos e, hRc j e]
      · rw [if_neg e]
        by_cases e' : j = p
        · subst e'
          rw [if_neg (by omega), hc1 j]
          simp
        · rw [if_pos (by rw [hdl]; omega), if_neg e', List.getElem?_drop, show p + (j - (p + 1)) = j - 1 by omega]
    · have h2 := sets_two [.int .i64 x] ((lgv l).drop p) p (p + 1) W1 (g := w.heap.size)
      refine ⟨h2.1.trans (by rw [hW1]; rfl), h2.2.1.trans (by rw [hW1]; rfl), h2.2.2.trans (by rw [hW1]; rfl), ?_, fun k hk _ => ?_⟩
      · have := (Array.getElem?_eq_some_iff.1 hg2).1
        show w.heap.size ≤ ((W1.setCells w.heap.size p [.int .i64 x]).setCells w.heap.size (p + 1) ((lgv l).drop p)).heap.size
        omega
      · have hk1 := hWs k hk
        show ((W1.setCells w.heap.size p [.int .i64 x]).setCells w.heap.size (p + 1) ((lgv l).drop p)).heap[k]? = w.heap[k]?
        have e1 := World.heap_setCells_other W1 w.heap.size p [.int .i64 x] hk1 (by omega)
        have hk2 : k < (W1.setCells w.heap.size p [.int .i64 x]).heap.size := (Array.getElem?_eq_some_iff.1 hg1).1 |> fun h => by omega
        exact (World.heap_setCells_other _ w.heap.size (p + 1) ((lgv l).drop p) hk2 (by omega)).trans (e1.trans (hlow k hk))
  have HE := Lib.hid hend
  have hz2 : ¬ ((p : Int) = (l.length : Int)) := by omega
  have hz3 : (cap : Int) < (l.length : Int) + 1 := by omega
  have hw1 : IntKind.i64.wrap ((p : Int) + 1) = (p : Int) + 1 := by rw [IntKind.wrap_i64]; omega
  have hb1 : (0 : Int) ≤ (p : Int) + 1 := by omega
  have htn : ((p : Int) + 1).toNat = p + 1 := by omega
  have hb3 : (p : Int) ≤ (l.length : Int) := by omega
  have hb5 : (p : Int) ≤ (l.length : Int) + 1 := by omega
  have hb2 : ¬ (cap = p) := by omega
  have hb4 : ¬ (G = p) := by omega
  have hb6 : ¬ (G = p + 1) := by omega
  have hc63 : G ≤ 9223372036854775807 := by unfold maxLen at hGm; omega
  have hpn : p ≤ l.length := by omega
  have mixed : Tryz.prog.follows Departure.mixedOrders = true := by kernel_rfl
  subst hW1
  clear hend hc1 hc2 hg1 hg2 hs1 hs2 hcell h hgW hx hlow hWs hrz hRc hRs hROW hG hfit hold hi1 hy0 hy1 hy2 hik hkk hcp2 hdl hll
  generalize l.length = n at *
  go_enter Tryz.func240, Tryz.ntmps240
  go_wp2_with (first | (at_builtin; refine Lib.wpList_append_run _ rfl _ _ _ _ rfl _ _ rfl rfl _ _ (hrz2 _) ?_) | (at_builtin; refine wpList_copy_runI _ rfl _ _ 130 130 rfl _ _ rfl rfl (hcp1 _ _) ?_))
  go_region_law_o (refine step_copy_runI rfl _ _ 130 130 rfl (.slice (some ⟨w.heap.size, p + 1, none⟩) (n - p) (G - (p + 1))) (.slice (some ⟨g, p, none⟩) (n - p) (cap - p)) (by simp [Act.eval, Act.put]) (by simp [Act.eval, Act.put]) (hcp3 3 (G - (p + 1)) (cap - p)) ?_)
  go_wp2_with fail
  exact bodyPost_ret (v := .slice (some ⟨w.heap.size, 0, none⟩) (n + 1) G) (by simp [results, Tryz.results240, go_sem]) rfl HE.out
/-- slices.Insert of one number. -/
theorem insert_calls {w : World} {B : Nat} {v : Value} {l : Lg} (h : w.ownsRow B 2 1 v l.length (lgv l)) {p : Nat} (hp : p ≤ l.length) (hn : l.length ≤ 2000000) (hB : B ≤ w.heap.size) {vb : Nat} {tA : TypeId} {x : Int}
    (hx : w.heap[vb]? = some (.cells #[.int .i64 x] tA (0, 0))) (hne : v.ownBlock ≠ some vb) :
    Calls Tryz.prog 240 #[v, .int .i64 (p : Int), .slice (some ⟨vb, 0, none⟩) 1 1] w fun e w' => InsGot w B v l p x e w' := by
  by_cases e : p = l.length
  · subst e
    exact insEnd_calls h hn hB (by rw [Joins.cell_of_block hx]; rfl)
  · rcases h.2 with ⟨rfl, h0⟩ | ⟨g, cap, cur, rfl, _, _, hc, _⟩
    · omega
    · by_cases hr : l.length + 1 ≤ cap
      · exact insRoom_calls h (by omega) hn hr hx (fun e => hne (by rw [e]; rfl))
      · exact insGrow_calls h (by omega) hn hc (by omega) hB hx
end Go.Proofs.YtdcahilfmhkmiaaGreatDoor

namespace Go.Proofs.YtdcahilfmhkmiaaGreatDoor
open Go.RowKit

theorem Box.three {w : World} {g : Nat} {a b c : Value} (k : Box w g [a, b, c]) :
    (w.cell? ⟨g, 0, none⟩ = some a ∧ w.cell? ⟨g, 1, none⟩ = some b ∧ w.cell? ⟨g, 2, none⟩ = some c) ∧ w.frozen? ⟨g, 0, none⟩ = false ∧ w.frozen? ⟨g, 1, none⟩ = false ∧ w.frozen? ⟨g, 2, none⟩ = false :=
  ⟨⟨k.cell 0 _ rfl, k.cell 1 _ rfl, k.cell 2 _ rfl⟩, k.free 0 (by simp), k.free 1 (by simp), k.free 2 (by simp)⟩
/-- Numbers that a way may name. -/
def Times (l : Lg) : Prop := ∀ x ∈ l, 0 ≤ x ∧ x ≤ 1000000
theorem Times.ins {l : Lg} {s : Int} (h : Times l) (hs : 0 ≤ s ∧ s ≤ 1000000) : Times (insN s l) := fun x hx => by
  rcases mem_insN.1 hx with e | e
  · rw [e]; exact hs
  · exact h x e
theorem Times.at {l : Lg} (h : Times l) {i : Nat} (hi : i < l.length) : I64 (lgAt l i) := by
  rw [lgAt_get hi]
  have := h _ (List.getElem_mem hi)
  exact ⟨by omega, by omega⟩
/-- A row of numbers that lies at or behind the block B, with room of its own. -/
structure FarM (w : World) (B : Nat) (v : Value) (F : Lg) : Prop where
  own : w.ownsRow B 2 1 v F.length (lgv F)
  num : Times F
  few : F.length ≤ 1000
theorem farM_nil (w : World) (B : Nat) : FarM w B (.slice none 0 0) [] := ⟨World.ownsRow_nil w B _ _, fun x h => by simp at h, by simp⟩
theorem FarM.slice {w : World} {B : Nat} {v : Value} {F : Lg} (h : FarM w B v F) : ∃ a c, v = .slice a F.length c ∧ InLg w a F.length F ∧ (∀ b, v.ownBlock = some b → ∃ o, a = some ⟨b, o, none⟩) := by
  rcases h.own.2 with ⟨e, h0⟩ | ⟨g, cap, cur, e, _⟩
  · have hF : F = [] := List.eq_nil_of_length_eq_zero h0
    subst hF
    exact ⟨none, 0, e, ⟨⟨rfl, Nat.zero_le _, fun h => absurd h (Nat.lt_irrefl 0), fun b o h => (by cases h), fun i h => absurd h (Nat.not_lt_zero i)⟩, Nat.zero_le _⟩, fun b hb => by rw [e] at hb; cases hb⟩
  · have hown := h.own
    subst e
    have := h.few
    exact ⟨_, cap, rfl, (lg_own hown (by omega) (fun i hi => h.num.at hi)).1, fun b hb => ⟨0, by cases hb; rfl⟩⟩
theorem FarM.kept {w w' : World} {B : Nat} {v : Value} {F : Lg} (h : FarM w B v F) (hk : ∀ b, v.ownBlock = some b → w'.heap[b]? = w.heap[b]?) : FarM w' B v F := by
  refine ⟨⟨h.own.1, ?_⟩, h.num, h.few⟩
  rcases h.own.2 with hn | ⟨g, cap, cur, rfl, hbg, hgg, rest⟩
  · exact .inl hn
  · exact .inr ⟨g, cap, cur, rfl, hbg, (hk g rfl).trans hgg, rest⟩
theorem FarM.mono {w : World} {B B' : Nat} {v : Value} {F : Lg} (h : FarM w B v F) (hB : B' ≤ B) : FarM w B' v F := by
  refine ⟨⟨h.own.1, ?_⟩, h.num, h.few⟩
  rcases h.own.2 with hn | ⟨g, cap, cur, rfl, hbg, rest⟩
  · exact .inl hn
  · exact .inr ⟨g, cap, cur, rfl, Nat.le_trans hB hbg, rest⟩
/-- A track in the block t. -/
structure TrkM (w : World) (t B : Nat) (W : Int) (N : Nat) (v : Value) (F : Lg) : Prop where
  box : Box w t [.int .i64 W, .int .u64 (N : Int), v]
  far : FarM w B v F
  apart : v.ownBlock ≠ some t
theorem TrkM.kept {w w' : World} {t B : Nat} {W : Int} {N : Nat} {v : Value} {F : Lg} (h : TrkM w t B W N v F) (h1 : w'.heap[t]? = w.heap[t]?) (hk : ∀ b, v.ownBlock = some b → w'.heap[b]? = w.heap[b]?) : TrkM w' t B W N v F :=
  ⟨h.box.kept h1, h.far.kept hk, h.apart⟩
theorem TrkM.near {w : World} {t B : Nat} {W : Int} {N : Nat} {v : Value} {F : Lg} (h : TrkM w t B W N v F) (N' : Nat) : TrkM (w.setCell ⟨t, 1, none⟩ (.int .u64 (N' : Int))) t B W N' v F :=
  ⟨h.box.set 1 _, h.far.kept (fun b hb => Below.heap_setCell w ⟨t, 1, none⟩ _ b (fun e => h.apart (by rw [hb, e]))), h.apart⟩
theorem TrkM.below {w w' : World} {t B : Nat} {W : Int} {N : Nat} {v : Value} {F : Lg} (h : TrkM w t B W N v F) (hb : Below w.heap.size w w') : TrkM w' t B W N v F :=
  h.kept (hb.block t h.box.lt) (fun b e => hb.block b (h.far.own.lt b e).2)
/-- The row in the track turned to another. -/
theorem TrkM.far_set {w : World} {t B : Nat} {W : Int} {N : Nat} {v v' : Value} {F : Lg} (hb : Box w t [.int .i64 W, .int .u64 (N : Int), v]) (hf : FarM w B v' F) (ha : v'.ownBlock ≠ some t) : TrkM (w.setCell ⟨t, 2, none⟩ v') t B W N v' F :=
  ⟨hb.set 2 _, hf.kept (fun b e => Below.heap_setCell w ⟨t, 2, none⟩ _ b (fun e' => ha (by rw [e, e']))), ha⟩
/-- What a put leaves. -/
def PutDone (w : World) (t B : Nat) (W : Int) (N : Nat) (v : Value) (F : Lg) (w' : World) : Prop := (∃ v', TrkM w' t B W N v' F ∧ (v'.ownBlock = v.ownBlock ∨ ∃ b, v'.ownBlock = some b ∧ w.heap.size ≤ b)) ∧ Kept (fun b => b = t ∨ v.ownBlock = some b) w w'
theorem or_shl {N k : Nat} (hN : N < 18446744073709551616) (hk : k < 64) : bits BinOp.or IntKind.u64 (N : Int) (IntKind.u64.wrap ((2 : Int) ^ k)) = ((N ||| 1 <<< k : Nat) : Int) := by
  have h2 : (2 : Nat) ^ k < 18446744073709551616 := Nat.lt_of_lt_of_le (Nat.pow_lt_pow_right (by omega) hk) (Nat.le_refl _)
  have e : IntKind.u64.wrap ((2 : Int) ^ k) = ((2 ^ k : Nat) : Int) := by
    have : (2 : Int) ^ k = ((2 ^ k : Nat) : Int) := by simp
    rw [this]
    exact wrap64_nat _ h2
  rw [e, bits_or_u64_nat _ _ hN h2, Nat.one_shiftLeft]
theorem trk_dr {S : Nat → Prop} {a w : World} (h : Kept S a w) : Kept S a w.drew := ⟨h.os, h.tape, h.output, h.size, h.block⟩
set_option maxHeartbeats 2000000 in
set_option maxRecDepth 100000 in
theorem putNear_calls {w : World} {t B : Nat} {W : Int} {N : Nat} {v : Value} {F : Lg} (h : TrkM w t B W N v F) (hN : N < 2 ^ 64) (_hW : 0 ≤ W ∧ W ≤ 2000000) {k : Nat} (hk : k < 64) :
    Calls Tryz.prog 196 #[.pointer (some ⟨t, 0, none⟩), .int .i64 (W + (k : Int))] w fun e w' => e = .returned (.tuple #[]) ∧ PutDone w t B W (N ||| 1 <<< k) v F w' := by
  have hor := or_shl (N := N) (k := k) (by omega) hk
  obtain ⟨⟨c0, c1, c2⟩, z0, z1, z2⟩ := h.box.three
  have hsub : IntKind.i64.wrap (W + (k : Int) - W) = (k : Int) := by rw [IntKind.wrap_i64]; omega
  have HEND : PutDone w t B W (N ||| 1 <<< k) v F ((w.setCell ⟨t, 1, none⟩ (.int .u64 ((N ||| 1 <<< k : Nat) : Int))).drew) :=
    ⟨⟨v, (h.near _).kept rfl (fun b _ => rfl), .inl rfl⟩, trk_dr (kept_set (S := fun b => b = t ∨ v.ownBlock = some b) w t 1 _ (.inl rfl))⟩
  have HE := Lib.hid HEND
  have mixed : Tryz.prog.follows Departure.mixedOrders = true := by kernel_rfl
  clear HEND h hN
  generalize N ||| 1 <<< k = M at *
  have hk1 : (k : Int) < 64 := by omega
  have hk2 : ¬ (k : Int) < 0 := by omega
  go_enter Tryz.func196, Tryz.ntmps196
  go_wp2_with (first | go_region | fail)
  all_goals
    exact bodyPost_ret (v := .tuple #[]) (by simp [results, Tryz.results196, go_sem]) rfl ⟨rfl, HE.out⟩
set_option maxHeartbeats 2000000 in
set_option maxRecDepth 100000 in
theorem putFar_calls {w : World} {t B : Nat} {W : Int} {N : Nat} {v : Value} {F : Lg} (h : TrkM w t B W N v F) (hB : B ≤ w.heap.size) (hu : Up F) (hf : F.length ≤ 999) {s : Int} (hW : 0 ≤ W ∧ W ≤ 2000000) (hs : 0 ≤ s ∧ s ≤ 1000000) (hWs : W + 64 ≤ s) :
    Calls Tryz.prog 196 #[.pointer (some ⟨t, 0, none⟩), .int .i64 s] w fun e w' => e = .returned (.tuple #[]) ∧ PutDone w t B W N v (insN s F) w' := by
  obtain ⟨a, c, rfl, hin, hown⟩ := h.far.slice
  obtain ⟨⟨c0, c1, c2⟩, z0, z1, z2⟩ := h.box.three
  have htw := h.box.lt
  have hsub : IntKind.i64.wrap (s - W) = s - W := by rw [IntKind.wrap_i64]; omega
  have hge : ¬ s - W < 64 := by omega
  have H1 := Lib.hid (search_calls (cap := c) hin hu s)
  have hpl := posN_le s F
  have HT := Lib.hid h
  clear hin h
  by_cases hm : s ∈ F
  · have hd : decide (s ∈ F) = true := by simpa using hm
    have he : insN s F = F := by unfold insN; rw [if_pos hm]
    rw [hd] at H1
    rw [he]
    clear hm hd he hown
    generalize posN s F = p at *
    go_enter Tryz.func196, Tryz.ntmps196
    go_wp2_with fail
    (with_reducible refine H1.out.mono ?_); rintro e w1 ⟨rfl, q, rfl⟩
    have HE : PutDone w t B W N (.slice a F.length c) F (w.drewN q) := ⟨⟨_, HT.out.kept rfl (fun b _ => rfl), .inl rfl⟩, ⟨rfl, rfl, rfl, Nat.le_refl _, fun _ _ _ => rfl⟩⟩
    have HE := Lib.hid HE
    generalize w.drewN q = w1 at *
    clear H1 HT
    go_wp2_with fail
    all_goals
      exact bodyPost_end (v := .tuple #[]) (by simp [results, Tryz.results196, go_sem]) rfl ⟨rfl, HE.out⟩
  · have hd : decide (s ∈ F) = false := by simpa using hm
    have he : insN s F = F.take (posN s F) ++ s :: F.drop (posN s F) := by unfold insN; rw [if_neg hm]
    have hnum := HT.out.far.num.ins hs
    rw [he] at hnum ⊢
    rw [hd] at H1
    clear hm hd he
    have HN := Lib.hid hnum
    clear hnum
    generalize posN s F = p at *
    go_enter Tryz.func196, Tryz.ntmps196
    go_wp2_with fail
    (with_reducible refine H1.out.mono ?_); rintro e w1 ⟨rfl, q, rfl⟩
    have T1 : TrkM (w.drewN q) t B W N (.slice a F.length c) F := HT.out.kept rfl (fun b _ => rfl)
    have K1 : Kept (fun b => b = t ∨ (Value.slice a F.length c).ownBlock = some b) w (w.drewN q) := ⟨rfl, rfl, rfl, Nat.le_refl _, fun _ _ _ => rfl⟩
    have s1 : (w.drewN q).heap.size = w.heap.size := rfl
    have T1 := Lib.hid T1
    have K1 := Lib.hid K1
    generalize w.drewN q = w1 at *
    clear H1 HT c0 c1 c2 z0 z1 z2
    obtain ⟨⟨c0, c1, c2⟩, z0, z1, z2⟩ := T1.out.box.three
    go_wp2_with fail
    have HV := T1.out.below ((Below.refl w1.heap.size w1).alloc (Nat.le_refl _) (.cells #[.int .i64 s] 2))
    have KV : Kept (fun b => b = t ∨ (Value.slice a F.length c).ownBlock = some b) w (w1.alloc (.cells #[.int .i64 s] 2)) := K1.out.trans (kept_below ((Below.refl w1.heap.size w1).alloc (Nat.le_refl _) _))
    have XV : (w1.alloc (.cells #[.int .i64 s] 2)).heap[w.heap.size]? = some (.cells #[.int .i64 s] 2 (0, 0)) := by
      rw [← s1]
      show (w1.heap.push _)[w1.heap.size]? = _
      simp
    have sV : (w1.alloc (.cells #[.int .i64 s] 2)).heap.size = w1.heap.size + 1 := by simp
    generalize w1.alloc (.cells #[.int .i64 s] 2) = V at *
    have hne : (Value.slice a F.length c).ownBlock ≠ some w.heap.size := fun e => by
      have := (T1.out.far.own.lt _ e).2
      omega
    have H2 := insert_calls HV.far.own hpl (by omega) (by omega) XV hne
    have HV := Lib.hid HV
    have KV := Lib.hid KV
    clear XV hne T1 K1 c0 c1 c2 z0 z1 z2 hown
    (with_reducible refine H2.mono ?_); rintro e w2 ⟨v', rfl, hown, hgr, halt⟩
    clear H2
    have hlen : (F.take p ++ s :: F.drop p).length = F.length + 1 := by simp; omega
    have hfar : FarM w2 B v' (F.take p ++ s :: F.drop p) := ⟨by rw [hlen]; exact hown, HN.out, by omega⟩
    have hbx : Box w2 t [.int .i64 W, .int .u64 (N : Int), .slice a F.length c] := HV.out.box.kept (hgr.block t HV.out.box.lt (fun e => HV.out.apart e.symm))
    have hap : v'.ownBlock ≠ some t := fun e => by
      rcases halt with e' | ⟨b, e', hb⟩
      · exact HV.out.apart (e'.symm.trans e)
      · rw [e] at e'
        cases e'
        omega
    have K2 : Kept (fun b => b = t ∨ (Value.slice a F.length c).ownBlock = some b) w w2 := KV.out.trans ⟨hgr.os, hgr.tape, hgr.output, hgr.size, fun b hb hn => hgr.block b hb (fun e => hn (.inr e.symm))⟩
    have HE : PutDone w t B W N (.slice a F.length c) (F.take p ++ s :: F.drop p) (w2.setCell ⟨t, 2, none⟩ v') := ⟨⟨v', TrkM.far_set hbx hfar hap, halt.imp id (fun ⟨b, e, hb⟩ => ⟨b, e, by omega⟩)⟩, K2.trans (kept_set (S := fun b => b = t ∨ (Value.slice a F.length c).ownBlock = some b) w2 t 2 v' (.inl rfl))⟩
    obtain ⟨a', c', rfl, -, -⟩ := hfar.slice
    have HE := Lib.hid HE
    obtain ⟨⟨c0, c1, c2⟩, z0, z1, z2⟩ := hbx.three
    clear hfar hbx hap K2 hown hgr halt KV HV HN hlen hpl s1 sV hB hu hf
    generalize hF2 : (F.take p ++ s :: F.drop p) = F2 at *
    go_wp2_with fail
    all_goals
      exact bodyPost_end (v := .tuple #[]) (by simp [results, Tryz.results196, go_sem]) rfl ⟨rfl, by subst hF2; exact HE.out⟩
/-- put, wherever it goes. -/
theorem put_calls {w : World} {t B : Nat} {W : Int} {N : Nat} {v : Value} {F L : Lg} (h : TrkM w t B W N v F) (hB : B ≤ w.heap.size) (hT : Trk W N F L) (hf : F.length ≤ 999) {s : Int} (hW : 0 ≤ W ∧ W ≤ 2000000) (hs : 0 ≤ s ∧ s ≤ 1000000) (hWs : W ≤ s) :
    Calls Tryz.prog 196 #[.pointer (some ⟨t, 0, none⟩), .int .i64 s] w fun e w' => e = .returned (.tuple #[]) ∧ PutDone w t B W (putNear W N s) v (putFar W F s) w' := by
  unfold putNear putFar
  by_cases hk : s - W < 64
  · rw [if_pos hk, if_pos hk]
    have e : s = W + ((s - W).toNat : Int) := by omega
    have := putNear_calls h hT.lt hW (k := (s - W).toNat) (by omega)
    rw [← e] at this
    exact this
  · rw [if_neg hk, if_neg hk]
    exact putFar_calls h hB hT.upF hf hW hs (by omega)
end Go.Proofs.YtdcahilfmhkmiaaGreatDoor

namespace Go.Proofs.YtdcahilfmhkmiaaGreatDoor
open Go.RowKit

theorem PutDone.below {w w' : World} {t B : Nat} {W : Int} {N : Nat} {v : Value} {F F0 : Lg} (h : PutDone w t B W N v F w') (hf : FarM w B v F0) (ht : t ≤ B) (hw : t ≤ w.heap.size) : Below t w w' :=
  ⟨h.2.os, h.2.tape, h.2.output, h.2.size, fun b hb => h.2.block b (by omega) (fun e => by
    rcases e with e | e
    · omega
    · have := (hf.own.lt b e).1
      omega)⟩
theorem ins_take {l : Lg} (hu : Up l) {m : Nat} (hm : m < l.length) : insN (lgAt l m) (l.take m) = l.take (m + 1) := by
  have h1 := insAll_take_succ [] l m hm
  rw [insAll_nil (hu.sublist (List.take_sublist _ _)), insAll_nil (hu.sublist (List.take_sublist _ _))] at h1
  exact h1.symm
theorem Trk.len {W : Int} {N : Nat} {F L : Lg} (h : Trk W N F L) : F.length ≤ L.length := by
  rw [h.far]
  exact List.length_filter_le _ _
/-- What a way's track is. -/
def TrkGot (w : World) (W : Int) (L : Lg) (e : Ending) (w' : World) : Prop :=
  ∃ N v F, e = .returned (.agg #[.int .i64 W, .int .u64 ((N : Nat) : Int), v]) ∧ FarM w' w.heap.size v F ∧ Trk W N F L ∧ Below w.heap.size w w'
set_option maxHeartbeats 2000000 in
set_option maxRecDepth 100000 in
theorem trackOf_calls {w : World} {W : Int} {a : Option Addr} {len c : Nat} {l : Lg} (hin : InLg w a len l) (hu : Up l) (hW : 0 ≤ W ∧ W ≤ 1000000) (hl : Times l) (hlow : ∀ x ∈ l, W < x) (h8 : len ≤ 8) :
    Calls Tryz.prog 132 #[.agg #[.int .i64 W, .slice a len c]] w fun e w' => TrkGot w W l e w' := by
  have hlen := hin.long
  have HIN := Lib.hid hin
  have HU := Lib.hid hu
  have HL := Lib.hid hl
  have HLOW := Lib.hid hlow
  clear hin hu hl hlow
  go_enter Tryz.func132, Tryz.ntmps132
  go_wp2_with fail
  have n3 := box_three w [.int .i64 W, .slice a len c] [.int .i64 0, .int .u64 0, .slice none 0 0] [.int .i64 W, .int .u64 0, .slice none 0 0] 159 171 171 (by simp) (by simp) (by simp)
  dsimp only at n3
  generalize ((w.alloc (.cells #[.int .i64 W, .slice a len c] 159)).alloc (.cells #[.int .i64 0, .int .u64 0, .slice none 0 0] 171)).alloc (.cells #[.int .i64 W, .int .u64 0, .slice none 0 0] 171) = w3 at *
  obtain ⟨-, n2, n3, s3, b3⟩ := n3
  have N2 := Lib.hid n2
  have B3 := Lib.hid b3
  have T0 : TrkM w3 (w.heap.size + 1 + 1) w3.heap.size W 0 (.slice none 0 0) [] := ⟨n3, farM_nil w3 _, by simp [Value.ownBlock]⟩
  have T0 := Lib.hid T0
  clear n2 n3 b3
  go_loopw [12] (fun i wr => ∃ m : Nat, i = .int .i64 (m : Int) ∧ m ≤ len ∧ (∃ N v F, TrkM wr (w.heap.size + 1 + 1) w3.heap.size W N v F ∧ Trk W N F (l.take m)) ∧ Below (w.heap.size + 1 + 1) w3 wr) (fun i _ => len - (intOf i).toNat)
  case atStart => exact ⟨0, rfl, Nat.zero_le _, ⟨0, _, _, T0.out, by rw [List.take_zero]; exact trk_nil W⟩, Below.refl _ _⟩
  case round =>
    obtain ⟨m, rfl, hmp, ⟨N, v, F, hm, ht⟩, hbl⟩ := hrel
    have HM := Lib.hid hm
    have HT := Lib.hid ht
    have HBL := Lib.hid hbl
    have hin2 := HIN.out.below (B3.out.trans (hbl.mono (by omega)))
    have hsz := hbl.size
    clear hm ht hbl
    by_cases hmp2 : m < len
    · obtain ⟨bx, ox, rfl⟩ := hin2.there (by omega)
      have e0 := hin2.cell bx ox rfl m hmp2
      have hnum := HL.out (lgAt l m) (by rw [lgAt_get (by omega)]; exact List.getElem_mem _)
      have hlow := HLOW.out (lgAt l m) (by rw [lgAt_get (by omega)]; exact List.getElem_mem _)
      have HINS := Lib.hid (ins_take HU.out (m := m) (by omega))
      generalize lgAt l m = y at *
      clear hin2
      go_wp2_with fail
      have htl := HT.out.len
      rw [List.length_take] at htl
      (with_reducible refine (put_calls HM.out (by omega) HT.out (by omega) (by omega) hnum (by omega)).mono ?_); rintro e w1 ⟨rfl, hd⟩
      have hb1 := hd.below HM.out.far (by omega) (by omega)
      have HT2 := HT.out.put (s := y) (by omega)
      rw [HINS.out] at HT2
      obtain ⟨v', hv', -⟩ := hd.1
      have HR : (∃ N v F, TrkM w1 (w.heap.size + 1 + 1) w3.heap.size W N v F ∧ Trk W N F (l.take (m + 1))) ∧ Below (w.heap.size + 1 + 1) w3 w1 := ⟨⟨_, _, _, hv', HT2⟩, HBL.out.trans hb1⟩
      have HR := Lib.hid HR
      clear hd hb1 HT2 hv' HINS
      go_wp2_with fail
      exact ⟨⟨m + 1, by go_num, by omega, HR.out.1, HR.out.2⟩, by simp [intOf]; omega⟩
    · obtain rfl : m = len := by omega
      have hfin := HT.out
      rw [List.take_of_length_le (by omega)] at hfin
      have hbx : Box wr (w.heap.size + 1) [.int .i64 0, .int .u64 0, .slice none 0 0] := N2.out.kept (HBL.out.block _ (by omega))
      obtain ⟨⟨c0, c1, c2⟩, -, -, -⟩ := HM.out.box.three
      obtain ⟨⟨d0, d1, d2⟩, z0, z1, z2⟩ := hbx.three
      have hfar := HM.out.far
      have HE : TrkGot w W l (.returned (.agg #[.int .i64 W, .int .u64 (N : Int), v])) (((wr.setCell ⟨w.heap.size + 1, 0, none⟩ (.int .i64 W)).setCell ⟨w.heap.size + 1, 1, none⟩ (.int .u64 (N : Int))).setCell ⟨w.heap.size + 1, 2, none⟩ v) :=
        ⟨N, v, F, rfl, (hfar.kept (fun b e => by
          have := (hfar.own.lt b e).1
          rw [Below.heap_setCell _ _ _ b (by show b ≠ w.heap.size + 1; omega), Below.heap_setCell _ _ _ b (by show b ≠ w.heap.size + 1; omega), Below.heap_setCell _ _ _ b (by show b ≠ w.heap.size + 1; omega)])).mono (by omega), hfin,
          (B3.out.trans (HBL.out.mono (by omega))).trans ⟨rfl, rfl, rfl, by simp, fun b hb => by
            rw [Below.heap_setCell _ _ _ b (by show b ≠ w.heap.size + 1; omega), Below.heap_setCell _ _ _ b (by show b ≠ w.heap.size + 1; omega), Below.heap_setCell _ _ _ b (by show b ≠ w.heap.size + 1; omega)]⟩⟩
      have HX : Box (((wr.setCell ⟨w.heap.size + 1, 0, none⟩ (.int .i64 W)).setCell ⟨w.heap.size + 1, 1, none⟩ (.int .u64 (N : Int))).setCell ⟨w.heap.size + 1, 2, none⟩ v) (w.heap.size + 1) [.int .i64 W, .int .u64 (N : Int), v] := ((hbx.set 0 _).set 1 _).set 2 _
      obtain ⟨ka, kc, rfl, -, -⟩ := hfar.slice
      have HE := Lib.hid HE
      have HX := Lib.hid HX
      clear hfin hbx hfar hin2
      go_wp2_with fail
      generalize ((wr.setCell ⟨w.heap.size + 1, 0, none⟩ (.int .i64 W)).setCell ⟨w.heap.size + 1, 1, none⟩ (.int .u64 (N : Int))).setCell ⟨w.heap.size + 1, 2, none⟩ (.slice ka F.length kc) = wf at *
      clear c0 c1 c2 d0 d1 d2 z0 z1 z2
      obtain ⟨⟨c0, c1, c2⟩, -, -, -⟩ := HX.out.three
      exact bodyPost_ret (v := .agg #[.int .i64 W, .int .u64 (N : Int), .slice ka F.length kc]) (by simp [results, Tryz.results132, go_sem, c0, c1, c2]) rfl HE.out
end Go.Proofs.YtdcahilfmhkmiaaGreatDoor

namespace Go.Proofs.YtdcahilfmhkmiaaGreatDoor
open Go.RowKit

set_option maxHeartbeats 2000000 in
set_option maxRecDepth 100000 in
/-- How many came. -/
theorem count_calls {w : World} {B : Nat} {W : Int} {N : Nat} {v : Value} {F L : Lg} (hf : FarM w B v F) (hT : Trk W N F L) (hL : L.length ≤ 100) :
    Calls Tryz.prog 198 #[.agg #[.int .i64 W, .int .u64 (N : Int), v]] w fun e w' => e = .returned (.int .i64 (L.length : Int)) ∧ Below w.heap.size w w' := by
  obtain ⟨a, c, rfl, -, -⟩ := hf.slice
  have hN := hT.lt
  have H1 := Lib.hid (fun W => ones_calls N (by omega) W)
  have hc := hT.count
  have hadd : IntKind.i64.wrap ((popN 64 N : Int) + (F.length : Int)) = (L.length : Int) := by rw [IntKind.wrap_i64]; omega
  clear hf hT hc
  generalize popN 64 N = P at *
  generalize F.length = fl at *
  generalize L.length = ll at *
  have n1 := box_new w [.int .i64 W, .int .u64 (N : Int), .slice a fl c] 171 (by simp)
  have b1 : Below w.heap.size w (w.alloc (.cells #[.int .i64 W, .int .u64 (N : Int), .slice a fl c] 171)) := (Below.refl _ _).alloc (Nat.le_refl _) _
  go_enter Tryz.func198, Tryz.ntmps198
  go_wp2_with fail
  generalize w.alloc (.cells #[.int .i64 W, .int .u64 (N : Int), .slice a fl c] 171) = w1 at *
  obtain ⟨⟨c0, c1, c2⟩, -, -, -⟩ := n1.three
  have HB := Lib.hid b1
  clear n1 b1 c0
  refine wp_region_held_drew (S := (fun X => (X.cell? ⟨w.heap.size, 1, none⟩ = some (.int .u64 (N : Int)) ∧ X.cell? ⟨w.heap.size, 2, none⟩ = some (.slice a fl c)) ∧ Below w.heap.size w X)) (by kernel_rfl) (⟨⟨c1, c2⟩, HB.out.drew⟩) (fun hHeld => ?_)
  refine wpAnyH_take (i := 0) (oi := _) (v := ?v1x0) rfl (by kernel_rfl) (by kernel_rfl) (by kernel_rfl) (fun _ _ _ h => h) (Or.inl ⟨by kernel_rfl, ?hy1x0⟩) (by with_reducible assumption) ?rest1x0
  case hy1x0 => (intro w hSw; (try dsimp only at hSw); go_simp; (try with_reducible rfl))
  (try simp only [Act.put, List.getElem_toArray, List.getElem_cons_zero, List.setIfInBounds_toArray, List.set_cons_succ, List.set_cons_zero])
  refine wpAnyH_take (i := 1) (oi := _) (v := ?v1x1) rfl (by kernel_rfl) (by kernel_rfl) (by kernel_rfl) (fun _ _ _ h => h) (Or.inl ⟨by kernel_rfl, ?hy1x1⟩) (by with_reducible assumption) ?rest1x1
  case hy1x1 => (intro w hSw; (try dsimp only at hSw); go_simp; (try with_reducible rfl))
  (try simp only [Act.put, List.getElem_toArray, List.getElem_cons_succ, List.getElem_cons_zero, List.setIfInBounds_toArray, List.set_cons_succ, List.set_cons_zero])
  refine wpAnyH_take (i := 3) (oi := _) (v := ?v1x3) rfl (by kernel_rfl) (by kernel_rfl) (by kernel_rfl) (fun _ _ _ h => h) (Or.inl ⟨by kernel_rfl, ?hy1x3⟩) (by with_reducible assumption) ?rest1x3
  case hy1x3 => (intro w hSw; (try dsimp only at hSw); go_simp; (try with_reducible rfl))
  (try simp only [Act.put, List.getElem_toArray, List.getElem_cons_succ, List.getElem_cons_zero, List.setIfInBounds_toArray, List.set_cons_succ, List.set_cons_zero])
  refine wpAnyH_take (i := 4) (oi := _) (v := ?v1x4) rfl (by kernel_rfl) (by kernel_rfl) (by kernel_rfl) (fun _ _ _ h => h) (Or.inl ⟨by kernel_rfl, ?hy1x4⟩) (by with_reducible assumption) ?rest1x4
  case hy1x4 => (intro w hSw; (try dsimp only at hSw); go_simp; (try with_reducible rfl))
  (try simp only [Act.put, List.getElem_toArray, List.getElem_cons_succ, List.getElem_cons_zero, List.setIfInBounds_toArray, List.set_cons_succ, List.set_cons_zero])
  refine wpAnyH_take (i := 5) (oi := _) (v := ?v1x5) rfl (by kernel_rfl) (by kernel_rfl) (by kernel_rfl) (fun _ _ _ h => h) (Or.inl ⟨by kernel_rfl, ?hy1x5⟩) (by with_reducible assumption) ?rest1x5
  case hy1x5 => (intro w hSw; (try dsimp only at hSw); go_simp; (try with_reducible rfl))
  (try simp only [Act.put, List.getElem_toArray, List.getElem_cons_succ, List.getElem_cons_zero, List.setIfInBounds_toArray, List.set_cons_succ, List.set_cons_zero])
  refine wpAnyH_ready (rs := [2]) (by kernel_rfl) (by simp) (AllReadyH.cons (o := _) rfl (fun K hK => ?c1x2) AllReadyH.nil)
  go_simp
  refine (H1.out _).mono ?_
  rintro e w9 ⟨rfl, rfl⟩
  go_simp
  refine hK.out _ _ (hHeld) (fun hHeld2 => ?_)
  clear hHeld
  have hHeld := hHeld2
  clear hK K hHeld2
  (try simp only [Act.put, List.getElem_toArray, List.getElem_cons_succ, List.getElem_cons_zero, List.setIfInBounds_toArray, List.set_cons_succ, List.set_cons_zero])
  refine wpAnyH_take (i := 6) (oi := _) (v := ?v1x6) rfl (by kernel_rfl) (by kernel_rfl) (by kernel_rfl) (fun _ _ _ h => h) (Or.inl ⟨by kernel_rfl, ?hy1x6⟩) (by with_reducible assumption) ?rest1x6
  case hy1x6 => (intro w hSw; (try dsimp only at hSw); go_simp; (try with_reducible rfl))
  (try simp only [Act.put, List.getElem_toArray, List.getElem_cons_succ, List.getElem_cons_zero, List.setIfInBounds_toArray, List.set_cons_succ, List.set_cons_zero])
  refine wpAnyH_take (i := 7) (oi := _) (v := ?v1x7) rfl (by kernel_rfl) (by kernel_rfl) (by kernel_rfl) (fun _ _ _ h => h) (Or.inl ⟨by kernel_rfl, ?hy1x7⟩) (by with_reducible assumption) ?rest1x7
  case hy1x7 => (intro w hSw; (try dsimp only at hSw); go_simp; (try with_reducible rfl))
  (try simp only [Act.put, List.getElem_toArray, List.getElem_cons_succ, List.getElem_cons_zero, List.setIfInBounds_toArray, List.set_cons_succ, List.set_cons_zero])
  refine wpAnyH_done (by kernel_rfl) ?_ _
  go_wp2_with fail
  exact bodyPost_ret (v := .int .i64 (ll : Int)) (by simp [results, Tryz.results198, go_sem]) rfl ⟨rfl, hHeld.2⟩
/-- What is below a place. -/
def lowN (W : Int) (L : Lg) (m : Nat) : Lg := L.filter (fun x => decide (x < W + (m : Int)))
theorem lowN_zero {W : Int} {N : Nat} {F L : Lg} (h : Trk W N F L) : lowN W L 0 = [] := by
  unfold lowN
  rw [List.filter_eq_nil_iff]
  intro x hx
  have := h.low x hx
  simp
  omega
theorem lowN_succ {W : Int} {N : Nat} {F L : Lg} (h : Trk W N F L) {m : Nat} (hm : m < 64) : lowN W L (m + 1) = if N.testBit m = true then lowN W L m ++ [W + (m : Int)] else lowN W L m := by
  have hb := h.bit m hm
  split
  · rename_i ht
    have hin := hb.1 ht
    refine up_ext (up_filter h.up _) ?_ (fun x => ?_)
    · unfold Up
      rw [List.pairwise_append]
      refine ⟨up_filter h.up _, List.pairwise_singleton _ _, fun a ha b hb' => ?_⟩
      have h1 := (List.mem_filter.1 ha).2
      rw [List.mem_singleton] at hb'
      rw [decide_eq_true_eq] at h1
      omega
    · unfold lowN
      simp only [List.mem_append, List.mem_filter, decide_eq_true_eq, List.mem_singleton]
      constructor
      · rintro ⟨a, b⟩
        by_cases e : x = W + (m : Int)
        · exact .inr e
        · exact .inl ⟨a, by omega⟩
      · rintro (⟨a, b⟩ | e)
        · exact ⟨a, by omega⟩
        · subst e
          exact ⟨hin, by omega⟩
  · rename_i ht
    unfold lowN
    refine up_ext (up_filter h.up _) (up_filter h.up _) (fun x => ?_)
    simp only [List.mem_filter, decide_eq_true_eq]
    constructor
    · rintro ⟨a, b⟩
      refine ⟨a, ?_⟩
      have : x ≠ W + (m : Int) := fun e => ht (hb.2 (e ▸ a))
      omega
    · rintro ⟨a, b⟩
      exact ⟨a, by omega⟩
theorem lowN_end {W : Int} {N : Nat} {F L : Lg} (h : Trk W N F L) : lowN W L 64 ++ F = L := by
  refine up_ext ?_ h.up (fun x => ?_)
  · unfold Up
    rw [List.pairwise_append]
    refine ⟨up_filter h.up _, h.upF, fun a ha b hb => ?_⟩
    have h1 := (List.mem_filter.1 ha).2
    rw [h.far] at hb
    have h2 := (List.mem_filter.1 hb).2
    rw [decide_eq_true_eq] at h1 h2
    omega
  · rw [h.far]
    unfold lowN
    simp only [List.mem_append, List.mem_filter, decide_eq_true_eq]
    constructor
    · rintro (⟨a, _⟩ | ⟨a, _⟩) <;> exact a
    · intro a
      by_cases e : x < W + ((64 : Nat) : Int)
      · exact .inl ⟨a, e⟩
      · exact .inr ⟨a, by omega⟩
theorem bit_at (N m : Nat) : (((N : Int) / 2 ^ m).tmod 2 == 1) = N.testBit m := by
  have e : ((N : Int) / 2 ^ m) = ((N / 2 ^ m : Nat) : Int) := by
    rw [Int.natCast_ediv]
    simp
  rw [e, Nat.testBit_eq_decide_div_mod_eq, Int.tmod_eq_emod_of_nonneg (Int.natCast_nonneg _), Bool.eq_iff_iff]
  generalize N / 2 ^ m = q
  simp
  omega
theorem add64 {W : Int} {m : Nat} (hW : 0 ≤ W ∧ W ≤ 2000000) (hm : m < 64) : IntKind.i64.wrap (W + (m : Int)) = W + (m : Int) := by rw [IntKind.wrap_i64]; omega
/-- One row behind another. -/
theorem app_far {w : World} {B : Nat} {u : Value} {A F : Lg} {a : Option Addr} {c : Nat} (h : FarM w B u A) (hin : InLg w a F.length F) (hA : A.length ≤ 100) (hF : F.length ≤ 100) (hB : B ≤ w.heap.size) (hn : Times (A ++ F)) :
    ∃ v' w', (Builtin.append_ #[130, 130] 130 #[u, .slice a F.length c]).run Tryz.prog w = .ok v' w' ∧ FarM w' B v' (A ++ F) ∧ Below B w w' := by
  have hyy : (Tryz.prog.info? 2).map (fun i => (i.zero, i.size, i.bytes)) = some (some (.int .i64 0), 1, 8) := by kernel_rfl
  obtain ⟨i1, hi1, hyy⟩ := Option.map_eq_some_iff.1 hyy
  simp only [Prod.mk.injEq] at hyy
  obtain ⟨hy0, hy1, hy2⟩ := hyy
  have ht : Tryz.prog.underlying 130 = some (.slice 2) := by kernel_rfl
  have hlen : (A ++ F).length = A.length + F.length := by simp
  by_cases h0 : 0 < F.length
  · obtain ⟨b, o, rfl⟩ := hin.there h0
    obtain ⟨v', w', hr, h2, h3, -, -⟩ := run_append_own_at (P := Tryz.prog) w B 130 130 2 i1 _ 1 8 ht hi1 hy0 hy1 hy2 rfl (by omega) u A.length (lgv A) h.own ⟨b, o, none⟩ F.length c (lgv F) (by simp [lgv])
      (fun j x hj => by rw [Addr.add_lit]; exact hin.cells.cell b o rfl j x hj) (lgv_one F) (by simp [maxLen]; omega) (by omega) hB
    exact ⟨v', w', hr, ⟨by rw [hlen, lgv_app]; exact h2, hn, by omega⟩, h3.os, h3.tape, h3.output, h3.size, fun b hb => h3.block b (by omega) (fun e => by have := (h.own.lt b e.symm).1; omega)⟩
  · have hF0 : F = [] := List.eq_nil_of_length_eq_zero (by omega)
    subst hF0
    rw [List.append_nil]
    refine ⟨u, w, ?_, h, Below.refl _ _⟩
    rcases h.own.2 with ⟨rfl, _⟩ | ⟨g, cap, cur, rfl, _, _, hc, _⟩
    · cases a <;> simp [Builtin.append_, run_underlying ht, sizeOf, typeInfo, hi1, Builtin.lenOf, Builtin.firstCells, loadCells, loadCellsFrom]
    · cases a with
      | none => exact run_append_room_src (P := Tryz.prog) w 130 130 130 2 i1 ht hi1 g 0 A.length cap (.slice none 0 c) 0 [] (Src.ofNil w ht c) (by omega) (fun j hj => by simp at hj) (fun j hj => by simp at hj)
      | some ad => exact run_append_room_src (P := Tryz.prog) w 130 130 130 2 i1 ht hi1 g 0 A.length cap (.slice (some ad) 0 c) 0 [] (Src.ofSlice w ht ad 0 c [] (by simp) (fun j x hj => by simp at hj) (by simp)) (by omega) (fun j hj => by simp at hj) (fun j hj => by simp at hj)
/-- What it answers: the row, its own. -/
def LateGot (w : World) (L : Lg) (e : Ending) (w' : World) : Prop := ∃ u, e = .returned u ∧ FarM w' w.heap.size u L ∧ Below w.heap.size w w'
set_option maxHeartbeats 2000000 in
set_option maxRecDepth 100000 in
theorem late_calls {w : World} {B : Nat} {W : Int} {N : Nat} {v : Value} {F L : Lg} (hf : FarM w B v F) (hT : Trk W N F L) (hL : L.length ≤ 100) (hW : 0 ≤ W ∧ W ≤ 2000000) (hn : Times L) :
    Calls Tryz.prog 199 #[.agg #[.int .i64 W, .int .u64 (N : Int), v]] w fun e w' => LateGot w L e w' := by
  obtain ⟨a, c, rfl, hin, -⟩ := hf.slice
  have hN := hT.lt
  have HT := Lib.hid hT
  have HIN := Lib.hid hin
  have HNUM := Lib.hid hn
  have n1 := box_new w [.int .i64 W, .int .u64 (N : Int), .slice a F.length c] 171 (by simp)
  have b1 : Below w.heap.size w (w.alloc (.cells #[.int .i64 W, .int .u64 (N : Int), .slice a F.length c] 171)) := (Below.refl _ _).alloc (Nat.le_refl _) _
  have s1 : (w.alloc (.cells #[.int .i64 W, .int .u64 (N : Int), .slice a F.length c] 171)).heap.size = w.heap.size + 1 := by simp
  clear hf hT hin hn hN
  have hyy : (Tryz.prog.info? 2).map (fun i => (i.zero, i.size, i.bytes)) = some (some (.int .i64 0), 1, 8) := by kernel_rfl
  obtain ⟨i1, hi1, hyy⟩ := Option.map_eq_some_iff.1 hyy
  simp only [Prod.mk.injEq] at hyy
  obtain ⟨hy0, hy1, hy2⟩ := hyy
  have HJ := Lib.hid (And.intro hi1 (And.intro hy0 (And.intro hy1 hy2)))
  clear hi1 hy0 hy1 hy2
  go_enter Tryz.func199, Tryz.ntmps199
  go_wp2_with fail
  generalize w.alloc (.cells #[.int .i64 W, .int .u64 (N : Int), .slice a F.length c] 171) = w1 at *
  have HB := Lib.hid b1
  have HX := Lib.hid n1
  clear n1 b1
  go_loopw [5, 3] (fun i u wr => ∃ m : Nat, i = .int .i64 (m : Int) ∧ m ≤ 64 ∧ FarM wr w1.heap.size u (lowN W L m) ∧ Below w1.heap.size w1 wr) (fun i _ _ => 64 - (intOf i).toNat)
  case atStart => exact ⟨0, rfl, by omega, by rw [lowN_zero HT.out]; exact farM_nil w1 _, Below.refl _ _⟩
  case round =>
    obtain ⟨m, rfl, hmp, hfar, hbl⟩ := hrel
    have hx := HX.out.below (hbl.mono (by omega))
    obtain ⟨⟨c0, c1, c2⟩, -, -, -⟩ := hx.three
    have HFAR := Lib.hid hfar
    have HBL := Lib.hid hbl
    obtain ⟨ua, uc, rfl, -, -⟩ := hfar.slice
    clear hx hbl hfar
    by_cases hm : m < 64
    · have hb := bit_at N m
      have hsucc := lowN_succ HT.out hm
      have hadd := add64 hW hm
      cases ht : N.testBit m with
      | false =>
        rw [ht] at hb hsucc
        rw [if_neg (by simp)] at hsucc
        clear ht
        have HS := Lib.hid hsucc
        clear hsucc
        go_wp2_with fail
        exact ⟨⟨m + 1, by go_num, by omega, by rw [HS.out]; exact HFAR.out, HBL.out⟩, by simp [intOf]; omega⟩
      | true =>
        rw [ht] at hb hsucc
        rw [if_pos rfl] at hsucc
        clear ht
        have hnew := HT.out.bit m hm
        have hfar := HFAR.out
        have hsz := HBL.out.size
        have hbA : Below wr.heap.size wr (wr.alloc (.cells #[.int .i64 (W + (m : Int))] 2)) := (Below.refl _ _).alloc (Nat.le_refl _) _
        have hfV := hfar.kept (w' := wr.alloc (.cells #[.int .i64 (W + (m : Int))] 2)) (fun b e => hbA.block b (hfar.own.lt b e).2)
        have hxV : (wr.alloc (.cells #[.int .i64 (W + (m : Int))] 2)).cell? ⟨wr.heap.size, 0, none⟩ = some (.int .i64 (W + (m : Int))) := (box_new wr [.int .i64 (W + (m : Int))] 2 (by simp)).cell 0 _ rfl
        have hsV : (wr.alloc (.cells #[.int .i64 (W + (m : Int))] 2)).heap.size = wr.heap.size + 1 := by simp
        have hfew : (lowN W L m).length ≤ 100 := Nat.le_trans (List.length_filter_le _ _) hL
        obtain ⟨v', w', hr, h2, h3, -, h5⟩ := run_append_own_at (P := Tryz.prog) (wr.alloc (.cells #[.int .i64 (W + (m : Int))] 2)) w1.heap.size 130 130 2 i1 _ 1 8 (by kernel_rfl) HJ.out.1 HJ.out.2.1 HJ.out.2.2.1 HJ.out.2.2.2 rfl (by omega) _ _ _ hfV.own ⟨wr.heap.size, 0, none⟩ 1 1 [.int .i64 (W + (m : Int))] rfl
          (fun j u hj => by
            cases j with
            | zero => cases hj; exact hxV
            | succ j => simp at hj) (by simp [Value.oneCell']) (by simp [maxLen]; omega) (by omega) (by omega)
        have hlen : (lowN W L m ++ [W + (m : Int)]).length = (lowN W L m).length + 1 := by simp
        have hR : FarM w' w1.heap.size v' (lowN W L (m + 1)) ∧ Below w1.heap.size w1 w' := by
          rw [hsucc]
          refine ⟨⟨by rw [hlen, lgv_app]; exact h2, fun x hx => HNUM.out x ?_, by omega⟩, (HBL.out.trans (hbA.mono hsz)).trans ⟨h3.os, h3.tape, h3.output, h3.size, fun b hb => h3.block b (by omega) (fun e => ?_)⟩⟩
          · rw [← hsucc] at hx
            exact (List.mem_filter.1 hx).1
          · have := (hfar.own.lt b e.symm).1
            omega
        have HR := Lib.hid hR
        clear hR h2 h3 h5 hfV hxV hsV hbA hfar hnew hsucc hfew hlen
        go_wp2_with (at_builtin; refine Lib.wpList_append_run _ rfl _ _ _ _ rfl _ _ rfl rfl _ _ hr ?_)
        exact ⟨⟨m + 1, by go_num, by omega, HR.out.1, HR.out.2⟩, by simp [intOf]; omega⟩
    · obtain rfl : m = 64 := by omega
      have hend := lowN_end HT.out
      have hfew : (lowN W L 64).length ≤ 100 := Nat.le_trans (List.length_filter_le _ _) hL
      have hfl := HT.out.len
      have hsz := HBL.out.size
      obtain ⟨v', w', hr, hf2, hb2⟩ := app_far (c := c) HFAR.out (HIN.out.below (HB.out.trans (HBL.out.mono (by omega)))) hfew (by omega) hsz (by rw [hend]; exact HNUM.out)
      rw [hend] at hf2
      have HE : LateGot w L (.returned v') w' := ⟨v', rfl, hf2.mono (by omega), (HB.out.trans (HBL.out.mono (by omega))).trans (hb2.mono (by omega))⟩
      have HE := Lib.hid HE
      clear hend hfew hfl hsz hf2 hb2
      go_wp2_with (at_builtin; refine Lib.wpList_append_run _ rfl _ _ _ _ rfl _ _ rfl rfl _ _ hr ?_)
      exact bodyPost_ret (v := v') (by simp [results, Tryz.results199, go_sem]) rfl HE.out
end Go.Proofs.YtdcahilfmhkmiaaGreatDoor

namespace Go.Proofs.YtdcahilfmhkmiaaGreatDoor
open Go.RowKit

theorem len_insN (s : Int) (l : Lg) : (insN s l).length ≤ l.length + 1 := by
  unfold insN
  split
  · omega
  · simp
    omega
theorem len_insAll : ∀ (l L : Lg), (insAll L l).length ≤ L.length + l.length
  | [], L => by simp [insAll]
  | s :: l, L => by
    have h1 := len_insAll l (insN s L)
    have h2 := len_insN s L
    unfold insAll
    simp only [List.length_cons]
    omega
set_option maxHeartbeats 2000000 in
set_option maxRecDepth 100000 in
theorem slid_calls {w : World} {B : Nat} {W : Int} {N : Nat} {v : Value} {F l : Lg} (hf : FarM w B v F) (hT : Trk W N F (W :: l)) (hl : l.length ≤ 8) (hW : 0 ≤ W ∧ W ≤ 1000000) (_hn : Times l) (hTab : TzTab w) :
    Calls Tryz.prog 197 #[.agg #[.int .i64 W, .int .u64 (N : Int), v]] w fun e w' => TrkGot w (runN (W + 1) l).1 (runN (W + 1) l).2 e w' := by
  obtain ⟨a, c, rfl, hin, -⟩ := hf.slice
  obtain ⟨k, hk, hrun, hctz, hnear, hall⟩ := hT.slid (by omega)
  rw [hrun]
  dsimp only
  have hN := hT.lt
  have H1 := Lib.hid (fun (V : World) (hb : Below w.heap.size w V) => tz_calls (2 ^ 64 - 1 - N) (by omega) V (hTab.below hb))
  have hnot : ((2 ^ 64 - 1 - N : Nat) : Int) = bits BinOp.xor IntKind.u64 IntKind.u64.max (N : Int) := by
    rw [not_u64 _ (by omega) (by omega)]
    omega
  rw [hctz, hnot] at H1
  have HT := Lib.hid hT
  have HIN := Lib.hid hin
  have HALL := Lib.hid hall
  have HNEAR := Lib.hid hnear
  have hnumF : Times F := hf.num
  have hFl : F.length ≤ 9 := by have := hT.len; simp at this; omega
  have hFlow : ∀ x ∈ F, W + 64 ≤ x := fun x hx => by
    rw [hT.far] at hx
    have := (List.mem_filter.1 hx).2
    simpa using this
  clear hT hin hctz hnear hall hTab hrun
  obtain ⟨W1, hW1⟩ : ∃ x, x = W + 1 + (k : Int) := ⟨_, rfl⟩
  rw [← hW1] at HALL HNEAR ⊢
  have hadd : IntKind.i64.wrap (W + ((k : Int) + 1)) = W1 := by rw [IntKind.wrap_i64]; omega
  obtain ⟨M, hM⟩ : ∃ x, x = N >>> (k + 1) := ⟨_, rfl⟩
  rw [← hM] at HNEAR
  have hshr : (N : Int) / 2 ^ (k + 1) = (M : Int) := by
    rw [hM, Nat.shiftRight_eq_div_pow, Int.natCast_ediv]
    simp
  have hW2 : 0 ≤ W1 ∧ W1 ≤ 2000000 := by omega
  have hW3 : W1 ≤ W + 64 := by omega
  clear hM hW1
  generalize hP : (W :: l).filter (fun x => decide (W1 ≤ x ∧ x < W + 64)) = P at HNEAR HALL
  have hPl : P.length ≤ 9 := by
    rw [← hP]
    exact Nat.le_trans (List.length_filter_le _ _) (by simp; omega)
  generalize l.filter (fun x => decide (W1 ≤ x)) = R at *
  clear hP
  go_enter Tryz.func197, Tryz.ntmps197
  go_wp2_with fail
  have n2 := box_two w [.int .i64 W, .int .u64 (N : Int), .slice a F.length c] [.int .i64 0, .int .u64 0, .slice none 0 0] 171 171 (by simp) (by simp)
  dsimp only at n2
  generalize (w.alloc (.cells #[.int .i64 W, .int .u64 (N : Int), .slice a F.length c] 171)).alloc (.cells #[.int .i64 0, .int .u64 0, .slice none 0 0] 171) = w2 at *
  obtain ⟨n1, n2, s2, b2⟩ := n2
  obtain ⟨⟨c0, c1, c2⟩, -, -, -⟩ := n1.three
  have HB := Lib.hid b2
  have N2 := Lib.hid n2
  (with_reducible refine (H1.out _ HB.out).mono ?_); rintro e w3 ⟨rfl, rfl⟩
  clear n1 n2 b2 H1 hnot
  have mixed : Tryz.prog.follows Departure.mixedOrders = true := by kernel_rfl
  go_wp2_with (first | go_region | fail)
  have b4 : Below w3.heap.size w3 (w3.alloc (.cells #[.int .i64 W1, .int .u64 (M : Int), .slice none 0 0] 171)).drew := ((Below.refl _ _).alloc (Nat.le_refl _) _).drew
  have n4 : Box (w3.alloc (.cells #[.int .i64 W1, .int .u64 (M : Int), .slice none 0 0] 171)).drew w3.heap.size [.int .i64 W1, .int .u64 (M : Int), .slice none 0 0] := (box_new w3 [.int .i64 W1, .int .u64 (M : Int), .slice none 0 0] 171 (by simp)).kept rfl
  have s4 : (w3.alloc (.cells #[.int .i64 W1, .int .u64 (M : Int), .slice none 0 0] 171)).drew.heap.size = w3.heap.size + 1 := by
    show (w3.alloc (.cells #[.int .i64 W1, .int .u64 (M : Int), .slice none 0 0] 171)).heap.size = w3.heap.size + 1
    simp
  generalize (w3.alloc (.cells #[.int .i64 W1, .int .u64 (M : Int), .slice none 0 0] 171)).drew = w4 at *
  rw [s2] at n4 s4
  have N3 := Lib.hid (N2.out.below b4)
  have B4 := Lib.hid (HB.out.trans (b4.mono HB.out.size))
  have T0 : TrkM w4 (w.heap.size + 2) w4.heap.size W1 M (.slice none 0 0) [] := ⟨n4, farM_nil w4 _, by simp [Value.ownBlock]⟩
  have T0 := Lib.hid T0
  clear n4 b4 N2 HB c0 c1 c2
  go_loopw [23] (fun i wr => ∃ m : Nat, i = .int .i64 (m : Int) ∧ m ≤ F.length ∧ (∃ N v F', TrkM wr (w.heap.size + 2) w4.heap.size W1 N v F' ∧ Trk W1 N F' (insAll P (F.take m))) ∧ Below (w.heap.size + 2) w4 wr) (fun i _ => F.length - (intOf i).toNat)
  case atStart => exact ⟨0, rfl, Nat.zero_le _, ⟨M, _, _, T0.out, by rw [List.take_zero]; exact HNEAR.out⟩, Below.refl _ _⟩
  case round =>
    obtain ⟨m, rfl, hmp, ⟨N', v, F', hm, ht⟩, hbl⟩ := hrel
    have HM := Lib.hid hm
    have HT := Lib.hid ht
    have HBL := Lib.hid hbl
    have hin2 := HIN.out.below (B4.out.trans (hbl.mono (by omega)))
    have hsz := hbl.size
    clear hm ht hbl
    by_cases hmp2 : m < F.length
    · obtain ⟨bx, ox, rfl⟩ := hin2.there (by omega)
      have e0 := hin2.cell bx ox rfl m hmp2
      have hnum := hnumF (lgAt F m) (by rw [lgAt_get (by omega)]; exact List.getElem_mem _)
      have hlow := hFlow (lgAt F m) (by rw [lgAt_get (by omega)]; exact List.getElem_mem _)
      have HINS := Lib.hid (insAll_take_succ P F m hmp2)
      generalize lgAt F m = y at *
      clear hin2
      go_wp2_with fail
      have htl := HT.out.len
      have hpl := len_insAll (F.take m) P
      rw [List.length_take] at hpl
      (with_reducible refine (put_calls HM.out (by omega) HT.out (by omega) (by omega) hnum (by omega)).mono ?_); rintro e w1 ⟨rfl, hd⟩
      have hb1 := hd.below HM.out.far (by omega) (by omega)
      have HT2 := HT.out.put (s := y) (by omega)
      rw [← HINS.out] at HT2
      obtain ⟨v', hv', -⟩ := hd.1
      have HR : (∃ N v F', TrkM w1 (w.heap.size + 2) w4.heap.size W1 N v F' ∧ Trk W1 N F' (insAll P (F.take (m + 1)))) ∧ Below (w.heap.size + 2) w4 w1 := ⟨⟨_, _, _, hv', HT2⟩, HBL.out.trans hb1⟩
      have HR := Lib.hid HR
      clear hd hb1 HT2 hv' HINS hpl htl
      go_wp2_with fail
      exact ⟨⟨m + 1, by go_num, by omega, HR.out.1, HR.out.2⟩, by simp [intOf]; omega⟩
    · have hml : m = F.length := by omega
      have hfin := HT.out
      rw [List.take_of_length_le (by omega), HALL.out] at hfin
      have hbx : Box wr (w.heap.size + 1) [.int .i64 0, .int .u64 0, .slice none 0 0] := N3.out.kept (HBL.out.block _ (by omega))
      obtain ⟨⟨c0, c1, c2⟩, -, -, -⟩ := HM.out.box.three
      obtain ⟨⟨d0, d1, d2⟩, z0, z1, z2⟩ := hbx.three
      have hfar := HM.out.far
      have HE : TrkGot w W1 R (.returned (.agg #[.int .i64 W1, .int .u64 (N' : Int), v])) (((wr.setCell ⟨w.heap.size + 1, 0, none⟩ (.int .i64 W1)).setCell ⟨w.heap.size + 1, 1, none⟩ (.int .u64 (N' : Int))).setCell ⟨w.heap.size + 1, 2, none⟩ v) :=
        ⟨N', v, F', rfl, (hfar.kept (fun b e => by
          have := (hfar.own.lt b e).1
          rw [Below.heap_setCell _ _ _ b (by show b ≠ w.heap.size + 1; omega), Below.heap_setCell _ _ _ b (by show b ≠ w.heap.size + 1; omega), Below.heap_setCell _ _ _ b (by show b ≠ w.heap.size + 1; omega)])).mono (by omega), hfin,
          (B4.out.trans (HBL.out.mono (by omega))).trans ⟨rfl, rfl, rfl, by simp, fun b hb => by
            rw [Below.heap_setCell _ _ _ b (by show b ≠ w.heap.size + 1; omega), Below.heap_setCell _ _ _ b (by show b ≠ w.heap.size + 1; omega), Below.heap_setCell _ _ _ b (by show b ≠ w.heap.size + 1; omega)]⟩⟩
      have HX : Box (((wr.setCell ⟨w.heap.size + 1, 0, none⟩ (.int .i64 W1)).setCell ⟨w.heap.size + 1, 1, none⟩ (.int .u64 (N' : Int))).setCell ⟨w.heap.size + 1, 2, none⟩ v) (w.heap.size + 1) [.int .i64 W1, .int .u64 (N' : Int), v] := ((hbx.set 0 _).set 1 _).set 2 _
      obtain ⟨ka, kc, rfl, -, -⟩ := hfar.slice
      have HE := Lib.hid HE
      have HX := Lib.hid HX
      clear hfin hbx hfar hin2
      go_wp2_with fail
      generalize ((wr.setCell ⟨w.heap.size + 1, 0, none⟩ (.int .i64 W1)).setCell ⟨w.heap.size + 1, 1, none⟩ (.int .u64 (N' : Int))).setCell ⟨w.heap.size + 1, 2, none⟩ (.slice ka F'.length kc) = wf at *
      clear c0 c1 c2 d0 d1 d2 z0 z1 z2
      obtain ⟨⟨c0, c1, c2⟩, -, -, -⟩ := HX.out.three
      exact bodyPost_ret (v := .agg #[.int .i64 W1, .int .u64 (N' : Int), .slice ka F'.length kc]) (by simp [results, Tryz.results197, go_sem, c0, c1, c2]) rfl HE.out
end Go.Proofs.YtdcahilfmhkmiaaGreatDoor

namespace Go.Proofs.YtdcahilfmhkmiaaGreatDoor
open Go.RowKit

theorem PutDone.under {w w' : World} {t B q : Nat} {W : Int} {N : Nat} {v : Value} {F F0 : Lg} (h : PutDone w t B W N v F w') (hf : FarM w B v F0) (h1 : q ≤ t) (h2 : q ≤ B) (h3 : q ≤ w.heap.size) : Below q w w' :=
  ⟨h.2.os, h.2.tape, h.2.output, h.2.size, fun b hb => h.2.block b (by omega) (fun e => by
    rcases e with e | e
    · omega
    · have := (hf.own.lt b e).1
      omega)⟩
theorem TzTab.under {w w' : World} {B : Nat} (h : TzTab w) (hg : 1 < B) (hb : Below B w w') : TzTab w' := fun j hj => (hb.cell (p := ⟨1, j, none⟩) hg).trans (h j hj)
theorem posN_zero {s : Int} {l : Lg} (h : ∀ x ∈ l, s < x) : posN s l = 0 := by
  cases l with
  | nil => rfl
  | cons x l =>
    unfold posN
    rw [if_neg (by have := h x (by simp); omega)]
theorem insN_head {s : Int} {l : Lg} (h : ∀ x ∈ l, s < x) : insN s l = s :: l := by
  unfold insN
  rw [if_neg (fun hm => by have := h s hm; omega), posN_zero h, List.take_zero, List.drop_zero, List.nil_append]
/-- What it answers. -/
def AfterGot (w : World) (B : Nat) (f : Fr) (e : Ending) (w' : World) : Prop :=
  ∃ N v F, e = .returned (.agg #[.int .i64 f.1, .int .u64 ((N : Nat) : Int), v]) ∧ FarM w' B v F ∧ Trk f.1 N F f.2 ∧ Below B w w'
/-- The answer stored in its box. -/
theorem after_box {w wr : World} {B g : Nat} {W : Int} {N : Nat} {v : Value} {F L : Lg} (hbx : Box wr g [.int .i64 0, .int .u64 0, .slice none 0 0]) (hfar : FarM wr B v F) (hne : v.ownBlock ≠ some g) (hT : Trk W N F L) (hb : Below B w wr) (hg : B ≤ g) :
    AfterGot w B (W, L) (.returned (.agg #[.int .i64 W, .int .u64 (N : Int), v])) (((wr.setCell ⟨g, 0, none⟩ (.int .i64 W)).setCell ⟨g, 1, none⟩ (.int .u64 (N : Int))).setCell ⟨g, 2, none⟩ v) ∧
    Box (((wr.setCell ⟨g, 0, none⟩ (.int .i64 W)).setCell ⟨g, 1, none⟩ (.int .u64 (N : Int))).setCell ⟨g, 2, none⟩ v) g [.int .i64 W, .int .u64 (N : Int), v] := by
  refine ⟨⟨N, v, F, rfl, hfar.kept (fun b e => ?_), hT, hb.trans ⟨rfl, rfl, rfl, by simp, fun b hb => ?_⟩⟩, ((hbx.set 0 _).set 1 _).set 2 _⟩
  · have hbg : b ≠ g := fun e' => hne (by rw [e, e'])
    rw [Below.heap_setCell _ _ _ b (by show b ≠ g; omega), Below.heap_setCell _ _ _ b (by show b ≠ g; omega), Below.heap_setCell _ _ _ b (by show b ≠ g; omega)]
  · rw [Below.heap_setCell _ _ _ b (by show b ≠ g; omega), Below.heap_setCell _ _ _ b (by show b ≠ g; omega), Below.heap_setCell _ _ _ b (by show b ≠ g; omega)]
set_option maxHeartbeats 2000000 in
set_option maxRecDepth 100000 in
theorem afterEq_calls {w : World} {B : Nat} {W : Int} {N : Nat} {v : Value} {F l : Lg} (hf : FarM w B v F) (hB : B ≤ w.heap.size) (hT : Trk W N F l) (hl : l.length ≤ 8) (hlow : ∀ x ∈ l, W < x) (hW : 0 ≤ W ∧ W ≤ 1000000) (hn : Times l) (hTab : TzTab w) (hG : 1 < B) :
    Calls Tryz.prog 133 #[.agg #[.int .i64 W, .int .u64 (N : Int), v], .int .i64 W] w fun e w' => AfterGot w B (runN (W + 1) l) e w' := by
  obtain ⟨a, c, rfl, -, -⟩ := hf.slice
  have HT2 := hT.put (s := W) (by omega)
  rw [insN_head hlow] at HT2
  have HT := Lib.hid hT
  have HT2 := Lib.hid HT2
  have HTAB := Lib.hid hTab
  have HF := Lib.hid hf
  have hfl := hT.len
  have hlo := fun b e => (hf.own.lt b e).2
  have HLO := Lib.hid hlo
  have HN := Lib.hid hn
  clear hT hf hTab hlow hlo hn
  have n2 := box_two w [.int .i64 W, .int .u64 (N : Int), .slice a F.length c] [.int .i64 0, .int .u64 0, .slice none 0 0] 171 171 (by simp) (by simp)
  dsimp only at n2
  obtain ⟨f, hfr⟩ : ∃ f, f = runN (W + 1) l := ⟨_, rfl⟩
  rw [← hfr]
  have HFR := Lib.hid hfr
  clear hfr
  go_enter Tryz.func133, Tryz.ntmps133
  go_wp2_with fail
  generalize (w.alloc (.cells #[.int .i64 W, .int .u64 (N : Int), .slice a F.length c] 171)).alloc (.cells #[.int .i64 0, .int .u64 0, .slice none 0 0] 171) = w2 at *
  obtain ⟨n1, n2, s2, b2⟩ := n2
  obtain ⟨⟨c0, c1, c2⟩, -, -, -⟩ := n1.three
  have T0 : TrkM w2 w.heap.size B W N (.slice a F.length c) F := ⟨n1, HF.out.kept (fun b e => b2.block b (HLO.out b e)), fun e => by have := HLO.out _ e; omega⟩
  have T0 := Lib.hid T0
  have N2 := Lib.hid n2
  have HB := Lib.hid b2
  clear n1 n2 b2
  go_wp2_with fail
  (with_reducible refine (put_calls T0.out (by omega) HT.out (by omega) (by omega) (by omega) (by omega)).mono ?_); rintro e w3 ⟨rfl, hd⟩
  have hb3 := (HB.out.mono hB).trans (hd.under T0.out.far hB (Nat.le_refl _) (by omega))
  have hx3 : Box w3 (w.heap.size + 1) [.int .i64 0, .int .u64 0, .slice none 0 0] := N2.out.kept (hd.2.block _ N2.out.lt (fun e => by
    rcases e with e | e
    · omega
    · have := HLO.out _ e
      omega))
  obtain ⟨⟨v', hv, -⟩, hk⟩ := hd
  have hs3 := hk.size
  have h2 := slid_calls hv.far HT2.out hl hW HN.out (HTAB.out.under hG hb3)
  rw [← HFR.out] at h2
  have H2 := Lib.hid h2
  clear c0 c1 c2 hk h2 HFR
  obtain ⟨⟨c0, c1, c2⟩, -, -, -⟩ := hv.box.three
  obtain ⟨va, vc, rfl, -, -⟩ := hv.far.slice
  have HX3 := Lib.hid hx3
  have HB3 := Lib.hid hb3
  clear hx3 hb3 hv T0 N2 HB HT HT2 HTAB
  go_wp2_with fail
  (with_reducible refine H2.out.mono ?_); rintro e w4 ⟨N4, v4, F4, rfl, hf4, hT4, hb4⟩
  have hx4 := HX3.out.below hb4
  have hx4l := HX3.out.lt
  have hne : v4.ownBlock ≠ some (w.heap.size + 1) := fun e => by
    have := (hf4.own.lt _ e).1
    omega
  have hE := after_box hx4 (hf4.mono (by omega)) hne hT4 (HB3.out.trans (hb4.mono (by omega))) (by omega)
  obtain ⟨⟨d0, d1, d2⟩, z0, z1, z2⟩ := hx4.three
  obtain ⟨ka, kc, rfl, -, -⟩ := hf4.slice
  have HE := Lib.hid hE.1
  have HX := Lib.hid hE.2
  clear hE hx4 hf4 hT4 hb4 H2 HX3 HB3 c0 c1 c2 hne hx4l hs3
  go_wp2_with fail
  generalize ((w4.setCell ⟨w.heap.size + 1, 0, none⟩ (.int .i64 f.1)).setCell ⟨w.heap.size + 1, 1, none⟩ (.int .u64 (N4 : Int))).setCell ⟨w.heap.size + 1, 2, none⟩ (.slice ka F4.length kc) = wf at *
  clear d0 d1 d2 z0 z1 z2
  obtain ⟨⟨c0, c1, c2⟩, -, -, -⟩ := HX.out.three
  exact bodyPost_ret (v := .agg #[.int .i64 f.1, .int .u64 (N4 : Int), .slice ka F4.length kc]) (by simp [results, Tryz.results133, go_sem, c0, c1, c2]) rfl HE.out
set_option maxHeartbeats 2000000 in
set_option maxRecDepth 100000 in
/-- No place, or behind. -/
theorem afterNot_calls {w : World} {B : Nat} {W : Int} {N : Nat} {v : Value} {F l : Lg} (hf : FarM w B v F) (hB : B ≤ w.heap.size) (hT : Trk W N F l) (hl : l.length ≤ 8) (sub : Int) (hne : sub ≠ W) (hno : ¬ (W < sub ∧ l.length < 8)) :
    Calls Tryz.prog 133 #[.agg #[.int .i64 W, .int .u64 (N : Int), v], .int .i64 sub] w fun e w' => AfterGot w B (W, l) e w' := by
  have H1 := Lib.hid (fun (V : World) (h : FarM V B v F) => count_calls (W := W) h hT (by omega))
  obtain ⟨a, c, rfl, -, -⟩ := hf.slice
  have HT := Lib.hid hT
  have HF := Lib.hid hf
  have hlo := fun b e => (hf.own.lt b e).2
  have HLO := Lib.hid hlo
  clear hT hf hlo
  have n2 := box_two w [.int .i64 W, .int .u64 (N : Int), .slice a F.length c] [.int .i64 0, .int .u64 0, .slice none 0 0] 171 171 (by simp) (by simp)
  dsimp only at n2
  have hq : (sub == W) = false := by simpa using hne
  have hne2 : (Value.slice a F.length c).ownBlock ≠ some (w.heap.size + 1) := fun e => by
    have := HLO.out _ e
    omega
  by_cases hg : W < sub
  · have hd : decide (W < sub) = true := by simpa using hg
    have hd8 : decide ((l.length : Int) < 8) = false := by simp; omega
    go_enter Tryz.func133, Tryz.ntmps133
    go_wp2_with fail
    generalize (w.alloc (.cells #[.int .i64 W, .int .u64 (N : Int), .slice a F.length c] 171)).alloc (.cells #[.int .i64 0, .int .u64 0, .slice none 0 0] 171) = w2 at *
    obtain ⟨n1, n2, s2, b2⟩ := n2
    obtain ⟨⟨c0, c1, c2⟩, -, -, -⟩ := n1.three
    have hfar2 := HF.out.kept (fun b e => b2.block b (HLO.out b e))
    have HF2 := Lib.hid hfar2
    have N1 := Lib.hid n1
    have N2 := Lib.hid n2
    have HB := Lib.hid b2
    clear n1 n2 b2 hfar2
    (with_reducible refine (H1.out _ HF2.out).mono ?_); rintro e w3 ⟨rfl, hb3⟩
    have hx3 := N2.out.below hb3
    have hn3 := N1.out.below hb3
    have hf3 := HF2.out.kept (fun b e => hb3.block b (by have := HLO.out b e; omega))
    have hE := after_box hx3 hf3 hne2 HT.out ((HB.out.mono hB).trans (hb3.mono (by omega))) (by omega)
    clear c0 c1 c2
    obtain ⟨⟨c0, c1, c2⟩, -, -, -⟩ := hn3.three
    obtain ⟨⟨d0, d1, d2⟩, z0, z1, z2⟩ := hx3.three
    have HE := Lib.hid hE.1
    have HX := Lib.hid hE.2
    clear hE hx3 hn3 hf3 hb3 H1 HF2 N1 N2 HB hne2
    go_wp2_with fail
    generalize ((w3.setCell ⟨w.heap.size + 1, 0, none⟩ (.int .i64 W)).setCell ⟨w.heap.size + 1, 1, none⟩ (.int .u64 (N : Int))).setCell ⟨w.heap.size + 1, 2, none⟩ (.slice a F.length c) = wf at *
    clear d0 d1 d2 z0 z1 z2 c0 c1 c2
    obtain ⟨⟨c0, c1, c2⟩, -, -, -⟩ := HX.out.three
    exact bodyPost_ret (v := .agg #[.int .i64 W, .int .u64 (N : Int), .slice a F.length c]) (by simp [results, Tryz.results133, go_sem, c0, c1, c2]) rfl HE.out
  · have hd : decide (W < sub) = false := by simp; omega
    clear n2 H1 hne2
    have n2 := box_two w [.int .i64 W, .int .u64 (N : Int), .slice a F.length c] [.int .i64 W, .int .u64 (N : Int), .slice a F.length c] 171 171 (by simp) (by simp)
    dsimp only at n2
    go_enter Tryz.func133, Tryz.ntmps133
    go_wp2_with fail
    generalize (w.alloc (.cells #[.int .i64 W, .int .u64 (N : Int), .slice a F.length c] 171)).alloc (.cells #[.int .i64 W, .int .u64 (N : Int), .slice a F.length c] 171) = w2 at *
    obtain ⟨n1, n2, s2, b2⟩ := n2
    obtain ⟨⟨c0, c1, c2⟩, -, -, -⟩ := n2.three
    have hE : AfterGot w B (W, l) (.returned (.agg #[.int .i64 W, .int .u64 (N : Int), .slice a F.length c])) w2 := ⟨N, _, F, rfl, HF.out.kept (fun b e => b2.block b (HLO.out b e)), HT.out, b2.mono hB⟩
    exact bodyPost_ret (v := .agg #[.int .i64 W, .int .u64 (N : Int), .slice a F.length c]) (by simp [results, Tryz.results133, go_sem, c0, c1, c2]) rfl hE
set_option maxHeartbeats 2000000 in
set_option maxRecDepth 100000 in
/-- Ahead of it, with a place. -/
theorem afterUp_calls {w : World} {B : Nat} {W : Int} {N : Nat} {v : Value} {F l : Lg} (hf : FarM w B v F) (hB : B ≤ w.heap.size) (hT : Trk W N F l) (hl : l.length < 8) (hW : 0 ≤ W ∧ W ≤ 1000000) {sub : Int} (hs : 0 ≤ sub ∧ sub ≤ 1000000) (hg : W < sub) :
    Calls Tryz.prog 133 #[.agg #[.int .i64 W, .int .u64 (N : Int), v], .int .i64 sub] w fun e w' => AfterGot w B (W, insN sub l) e w' := by
  have H1 := Lib.hid (fun (V : World) (h : FarM V B v F) => count_calls (W := W) h hT (by omega))
  obtain ⟨a, c, rfl, -, -⟩ := hf.slice
  have HT2 := Lib.hid (hT.put (s := sub) (by omega))
  have HT := Lib.hid hT
  have HF := Lib.hid hf
  have hfl := hT.len
  have hlo := fun b e => (hf.own.lt b e).2
  have HLO := Lib.hid hlo
  clear hT hf hlo
  have n2 := box_two w [.int .i64 W, .int .u64 (N : Int), .slice a F.length c] [.int .i64 0, .int .u64 0, .slice none 0 0] 171 171 (by simp) (by simp)
  dsimp only at n2
  have hq : (sub == W) = false := by simp; omega
  go_enter Tryz.func133, Tryz.ntmps133
  go_wp2_with fail
  generalize (w.alloc (.cells #[.int .i64 W, .int .u64 (N : Int), .slice a F.length c] 171)).alloc (.cells #[.int .i64 0, .int .u64 0, .slice none 0 0] 171) = w2 at *
  obtain ⟨n1, n2, s2, b2⟩ := n2
  obtain ⟨⟨c0, c1, c2⟩, -, -, -⟩ := n1.three
  have hfar2 := HF.out.kept (fun b e => b2.block b (HLO.out b e))
  have T0 : TrkM w2 w.heap.size B W N (.slice a F.length c) F := ⟨n1, hfar2, fun e => by have := HLO.out _ e; omega⟩
  have T0 := Lib.hid T0
  have N2 := Lib.hid n2
  have HB := Lib.hid b2
  clear n1 n2 b2 hfar2
  have hd : decide (W < sub) = true := by simpa using hg
  have hd8 : decide ((l.length : Int) < 8) = true := by simp; omega
  go_wp2_with fail
  (with_reducible refine (H1.out _ T0.out.far).mono ?_); rintro e w3 ⟨rfl, hb3⟩
  have T3 := Lib.hid (T0.out.below hb3)
  have N3 := Lib.hid (N2.out.below hb3)
  have B3 := Lib.hid ((HB.out.mono hB).trans (hb3.mono (by omega)))
  have s3 := hb3.size
  clear hb3 T0 N2 HB c0 c1 c2
  go_wp2_with fail
  (with_reducible refine (put_calls T3.out (by omega) HT.out (by omega) (by omega) hs (by omega)).mono ?_); rintro e w4 ⟨rfl, hd4⟩
  have hb4 := B3.out.trans (hd4.under T3.out.far hB (Nat.le_refl _) (by omega))
  have hx4 : Box w4 (w.heap.size + 1) [.int .i64 0, .int .u64 0, .slice none 0 0] := N3.out.kept (hd4.2.block _ N3.out.lt (fun e => by
    rcases e with e | e
    · omega
    · have := HLO.out _ e
      omega))
  obtain ⟨⟨v', hv, hv2⟩, hk⟩ := hd4
  have hne4 : v'.ownBlock ≠ some (w.heap.size + 1) := fun e => by
    rcases hv2 with e' | ⟨b, e', hb⟩
    · have := HLO.out _ (e'.symm.trans e)
      omega
    · rw [e] at e'
      cases e'
      omega
  have hE := after_box hx4 hv.far hne4 HT2.out hb4 (by omega)
  obtain ⟨⟨c0, c1, c2⟩, -, -, -⟩ := hv.box.three
  obtain ⟨va, vc, rfl, -, -⟩ := hv.far.slice
  obtain ⟨⟨d0, d1, d2⟩, z0, z1, z2⟩ := hx4.three
  have HE := Lib.hid hE.1
  have HX := Lib.hid hE.2
  clear hE hx4 hb4 hv H1 T3 N3 B3 HT HT2 hne4 hk
  generalize putNear W N sub = N4 at *
  generalize putFar W F sub = F4 at *
  go_wp2_with fail
  generalize ((w4.setCell ⟨w.heap.size + 1, 0, none⟩ (.int .i64 W)).setCell ⟨w.heap.size + 1, 1, none⟩ (.int .u64 (N4 : Int))).setCell ⟨w.heap.size + 1, 2, none⟩ (.slice va F4.length vc) = wf at *
  clear d0 d1 d2 z0 z1 z2 c0 c1 c2
  obtain ⟨⟨c0, c1, c2⟩, -, -, -⟩ := HX.out.three
  exact bodyPost_ret (v := .agg #[.int .i64 W, .int .u64 (N4 : Int), .slice va F4.length vc]) (by simp [results, Tryz.results133, go_sem, c0, c1, c2]) rfl HE.out
/-- A track when one more came. -/
theorem after_calls {w : World} {B : Nat} {W : Int} {N : Nat} {v : Value} {F l : Lg} (hf : FarM w B v F) (hB : B ≤ w.heap.size) (hT : Trk W N F l) (hl : l.length ≤ 8) (hlow : ∀ x ∈ l, W < x) (hW : 0 ≤ W ∧ W ≤ 1000000) (hn : Times l) {sub : Int} (hs : 0 ≤ sub ∧ sub ≤ 1000000) (hTab : TzTab w) (hG : 1 < B) :
    Calls Tryz.prog 133 #[.agg #[.int .i64 W, .int .u64 (N : Int), v], .int .i64 sub] w fun e w' => AfterGot w B (subN (W, l) sub) e w' := by
  by_cases h1 : sub = W
  · subst h1
    have := afterEq_calls hf hB hT hl hlow hW hn hTab hG
    unfold subN
    rw [if_pos rfl]
    exact this
  · rw [subN_ins hT.up h1]
    by_cases h2 : W < sub ∧ l.length < 8
    · rw [if_pos h2]
      exact afterUp_calls hf hB hT h2.2 hW hs h2.1
    · rw [if_neg h2]
      exact afterNot_calls hf hB hT hl sub h1 h2
end Go.Proofs.YtdcahilfmhkmiaaGreatDoor

namespace Go.Proofs.YtdcahilfmhkmiaaGreatDoor
open Go.RowKit

theorem Box.two {w : World} {g : Nat} {a b : Value} (k : Box w g [a, b]) :
    (w.cell? ⟨g, 0, none⟩ = some a ∧ w.cell? ⟨g, 1, none⟩ = some b) ∧ w.frozen? ⟨g, 0, none⟩ = false ∧ w.frozen? ⟨g, 1, none⟩ = false :=
  ⟨⟨k.cell 0 _ rfl, k.cell 1 _ rfl⟩, k.free 0 (by simp), k.free 1 (by simp)⟩
/-- What it answers: the way as it stands then, its row its own. -/
def FromGot (w : World) (f : Fr) (e : Ending) (w' : World) : Prop := ∃ u, e = .returned (.agg #[.int .i64 f.1, u]) ∧ FarM w' w.heap.size u f.2 ∧ Below w.heap.size w w'
set_option maxHeartbeats 2000000 in
set_option maxRecDepth 100000 in
theorem from_calls {w : World} {B : Nat} {W : Int} {N : Nat} {v : Value} {F L : Lg} (hf : FarM w B v F) (hT : Trk W N F L) (hL : L.length ≤ 100) (hW : 0 ≤ W ∧ W ≤ 2000000) (hn : Times L) :
    Calls Tryz.prog 134 #[.agg #[.int .i64 W, .int .u64 (N : Int), v]] w fun e w' => FromGot w (W, L) e w' := by
  have H1 := Lib.hid (fun (V : World) (h : FarM V B v F) => late_calls h hT hL hW hn)
  obtain ⟨a, c, rfl, -, -⟩ := hf.slice
  have HF := Lib.hid hf
  have hlo := fun b e => (hf.own.lt b e).2
  have HLO := Lib.hid hlo
  clear hf hlo
  have n2 := box_two w [.int .i64 W, .int .u64 (N : Int), .slice a F.length c] [.int .i64 0, .slice none 0 0] 171 159 (by simp) (by simp)
  dsimp only at n2
  go_enter Tryz.func134, Tryz.ntmps134
  go_wp2_with fail
  generalize (w.alloc (.cells #[.int .i64 W, .int .u64 (N : Int), .slice a F.length c] 171)).alloc (.cells #[.int .i64 0, .slice none 0 0] 159) = w2 at *
  obtain ⟨n1, n2, s2, b2⟩ := n2
  obtain ⟨⟨c0, c1, c2⟩, -, -, -⟩ := n1.three
  have hfar2 := HF.out.kept (fun b e => b2.block b (HLO.out b e))
  have HF2 := Lib.hid hfar2
  have N2 := Lib.hid n2
  have HB := Lib.hid b2
  clear n1 n2 b2 hfar2
  refine wp_region_held_drew (S := (fun X => (X.cell? ⟨w.heap.size, 0, none⟩ = some (.int .i64 W) ∧ X.cell? ⟨w.heap.size, 1, none⟩ = some (.int .u64 (N : Int)) ∧ X.cell? ⟨w.heap.size, 2, none⟩ = some (.slice a F.length c)))) (by kernel_rfl) (⟨c0, c1, c2⟩) (fun hHeld => ?_)
  refine wpAnyH_take (i := 0) (oi := _) (v := ?v1x0) rfl (by kernel_rfl) (by kernel_rfl) (by kernel_rfl) (fun _ _ _ h => h) (Or.inl ⟨by kernel_rfl, ?hy1x0⟩) (by with_reducible assumption) ?rest1x0
  case hy1x0 => (intro w hSw; (try dsimp only at hSw); go_simp; (try with_reducible rfl))
  (try simp only [Act.put, List.getElem_toArray, List.getElem_cons_zero, List.setIfInBounds_toArray, List.set_cons_succ, List.set_cons_zero])
  refine wpAnyH_take (i := 1) (oi := _) (v := ?v1x1) rfl (by kernel_rfl) (by kernel_rfl) (by kernel_rfl) (fun _ _ _ h => h) (Or.inl ⟨by kernel_rfl, ?hy1x1⟩) (by with_reducible assumption) ?rest1x1
  case hy1x1 => (intro w hSw; (try dsimp only at hSw); go_simp; (try with_reducible rfl))
  (try simp only [Act.put, List.getElem_toArray, List.getElem_cons_succ, List.getElem_cons_zero, List.setIfInBounds_toArray, List.set_cons_succ, List.set_cons_zero])
  refine wpAnyH_take (i := 2) (oi := _) (v := ?v1x2) rfl (by kernel_rfl) (by kernel_rfl) (by kernel_rfl) (fun _ _ _ h => h) (Or.inl ⟨by kernel_rfl, ?hy1x2⟩) (by with_reducible assumption) ?rest1x2
  case hy1x2 => (intro w hSw; (try dsimp only at hSw); go_simp; (try with_reducible rfl))
  (try simp only [Act.put, List.getElem_toArray, List.getElem_cons_succ, List.getElem_cons_zero, List.setIfInBounds_toArray, List.set_cons_succ, List.set_cons_zero])
  refine wpAnyH_ready (rs := [3]) (by kernel_rfl) (by simp) (AllReadyH.cons (o := _) rfl (fun K hK => ?c1x3) AllReadyH.nil)
  go_simp
  refine (H1.out _ (HF2.out.kept (w' := w2.drew) (fun b e => rfl))).mono ?_
  rintro e w9 ⟨u, rfl, hfu, hb9⟩
  obtain ⟨ua, uc, rfl, -, -⟩ := hfu.slice
  have HFU := Lib.hid hfu
  have HB9 := Lib.hid (((Below.refl w2.heap.size w2).drew).trans hb9)
  clear hfu hb9
  go_simp
  refine hK.out _ _ (⟨(HB9.out.cell (p := ⟨w.heap.size, 0, none⟩) (by show w.heap.size < w2.heap.size; omega)).trans c0, (HB9.out.cell (p := ⟨w.heap.size, 1, none⟩) (by show w.heap.size < w2.heap.size; omega)).trans c1, (HB9.out.cell (p := ⟨w.heap.size, 2, none⟩) (by show w.heap.size < w2.heap.size; omega)).trans c2⟩) (fun hHeld2 => ?_)
  clear hHeld
  have hHeld := hHeld2
  clear hK K hHeld2
  (try simp only [Act.put, List.getElem_toArray, List.getElem_cons_succ, List.getElem_cons_zero, List.setIfInBounds_toArray, List.set_cons_succ, List.set_cons_zero])
  refine wpAnyH_take (i := 4) (oi := _) (v := ?v1x4) rfl (by kernel_rfl) (by kernel_rfl) (by kernel_rfl) (fun _ _ _ h => h) (Or.inl ⟨by kernel_rfl, ?hy1x4⟩) (by with_reducible assumption) ?rest1x4
  case hy1x4 => (intro w hSw; (try dsimp only at hSw); go_simp; (try with_reducible rfl))
  (try simp only [Act.put, List.getElem_toArray, List.getElem_cons_succ, List.getElem_cons_zero, List.setIfInBounds_toArray, List.set_cons_succ, List.set_cons_zero])
  refine wpAnyH_ready (rs := [5]) (by kernel_rfl) (by simp) (AllReadyH.cons (o := _) rfl (fun K hK => ?c1x5) AllReadyH.nil)
  rw [if_pos (by kernel_rfl)]
  have hx9 := N2.out.below HB9.out
  have hx9l := N2.out.lt
  obtain ⟨⟨d0, d1⟩, z0, z1⟩ := hx9.two
  have HX := Lib.hid ((hx9.set 0 (.int .i64 W)).set 1 (.slice ua L.length uc))
  have hbf : Below w.heap.size w ((w9.setCell ⟨w.heap.size + 1, 0, none⟩ (.int .i64 W)).setCell ⟨w.heap.size + 1, 1, none⟩ (.slice ua L.length uc)) := (HB.out.trans (HB9.out.mono (by omega))).trans ⟨rfl, rfl, rfl, by simp, fun b hb => by rw [Below.heap_setCell _ _ _ b (by show b ≠ w.heap.size + 1; omega), Below.heap_setCell _ _ _ b (by show b ≠ w.heap.size + 1; omega)]⟩
  have hff : FarM ((w9.setCell ⟨w.heap.size + 1, 0, none⟩ (.int .i64 W)).setCell ⟨w.heap.size + 1, 1, none⟩ (.slice ua L.length uc)) w.heap.size (.slice ua L.length uc) L := (HFU.out.kept (fun b e => by
    have := (HFU.out.own.lt b e).1
    have hs : w2.drew.heap.size = w2.heap.size := rfl
    rw [Below.heap_setCell _ _ _ b (by show b ≠ w.heap.size + 1; omega), Below.heap_setCell _ _ _ b (by show b ≠ w.heap.size + 1; omega)])).mono (by have hs : w2.drew.heap.size = w2.heap.size := rfl; omega)
  have HE : FromGot w (W, L) (.returned (.agg #[.int .i64 W, .slice ua L.length uc])) ((w9.setCell ⟨w.heap.size + 1, 0, none⟩ (.int .i64 W)).setCell ⟨w.heap.size + 1, 1, none⟩ (.slice ua L.length uc)) := ⟨_, rfl, hff, hbf⟩
  have HE := Lib.hid HE
  have hst : (fun X : World => (X.cell? ⟨w.heap.size, 0, none⟩ = some (.int .i64 W) ∧ X.cell? ⟨w.heap.size, 1, none⟩ = some (.int .u64 (N : Int)) ∧ X.cell? ⟨w.heap.size, 2, none⟩ = some (.slice a F.length c))) ((w9.setCell ⟨w.heap.size + 1, 0, none⟩ (.int .i64 W)).setCell ⟨w.heap.size + 1, 1, none⟩ (.slice ua L.length uc)) := by
    obtain ⟨k0, k1, k2⟩ := hHeld
    refine ⟨?_, ?_, ?_⟩ <;> (rw [World.cell?_of_block (w := w9) (by rw [Below.heap_setCell _ _ _ _ (by show w.heap.size ≠ w.heap.size + 1; omega), Below.heap_setCell _ _ _ _ (by show w.heap.size ≠ w.heap.size + 1; omega)])]; assumption)
  have HST := Lib.hid hst
  clear hst hHeld hx9 hbf hff
  go_simp
  refine hK.out _ _ HST.out (fun _ => ?_)
  clear hK K
  (try simp only [Act.put, List.getElem_toArray, List.getElem_cons_succ, List.getElem_cons_zero, List.setIfInBounds_toArray, List.set_cons_succ, List.set_cons_zero])
  refine wpAnyH_done (by kernel_rfl) ?_ _
  clear HST d0 d1 z0 z1 c0 c1 c2
  generalize (w9.setCell ⟨w.heap.size + 1, 0, none⟩ (.int .i64 W)).setCell ⟨w.heap.size + 1, 1, none⟩ (.slice ua L.length uc) = wf at *
  go_wp2_with fail
  obtain ⟨⟨c0, c1⟩, -, -⟩ := HX.out.two
  exact bodyPost_ret (v := .agg #[.int .i64 W, .slice ua L.length uc]) (by simp [results, Tryz.results134, go_sem, c0, c1]) rfl HE.out
end Go.Proofs.YtdcahilfmhkmiaaGreatDoor
