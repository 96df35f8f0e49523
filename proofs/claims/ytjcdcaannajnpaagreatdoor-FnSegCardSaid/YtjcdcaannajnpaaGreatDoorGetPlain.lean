/- Plain mathematics of a number read back from its bytes. No program here. -/
import Derived.Test.YtjcdcaannajnpaaGreatDoorNumPlain
import Derived.Laws.BitsAllLaws
namespace Go.Proofs.YtjcdcaannajnpaaGreatDoor
open Go.RowKit

/-- What stands at a place: the code (0: read), the folded number, how many bytes it took. -/
def getU : Nat → Nat → Nat → List UInt8 → Nat × Nat × Nat
  | 0, _, _, _ => (3, 0, 0)
  | _ + 1, _, _, [] => (4, 0, 0)
  | f + 1, i, u, c :: l =>
    if i = 9 ∧ 1 < c.toNat then (3, 0, 0)
    else if c.toNat < 128 then (if c.toNat = 0 ∧ 0 < i then (3, 0, 0) else (0, u + c.toNat % 128 * 128 ^ i, i + 1))
    else getU f (i + 1) (u + c.toNat % 128 * 128 ^ i) l

def unfoldN (u : Nat) : Int := if u % 2 = 1 then -((u / 2 : Nat) : Int) - 1 else ((u / 2 : Nat) : Int)
theorem unfoldN_fold (n : Int) : unfoldN (foldN n) = n := by unfold unfoldN foldN; split <;> split <;> omega

/-- GetNum: number, place behind it, code. -/
def getN (t : List UInt8) (a : Int) : Int × Int × Nat :=
  if 8000 < t.length then (0, 0, 2) else if a < 0 then (0, 0, 1)
  else if (getU 10 0 0 (t.drop a.toNat)).1 = 0 then (unfoldN (getU 10 0 0 (t.drop a.toNat)).2.1, a + (getU 10 0 0 (t.drop a.toNat)).2.2, 0) else (0, 0, (getU 10 0 0 (t.drop a.toNat)).1)

/-- A round's head. -/
def GetAt (t : List UInt8) (a i u : Nat) : Prop := i ≤ 10 ∧ u < 128 ^ i ∧ getU (10 - i) i u (t.drop (a + i)) = getU 10 0 0 (t.drop a)
theorem GetAt.start (t : List UInt8) (a : Nat) : GetAt t a 0 0 := ⟨by omega, by decide, by simp⟩
theorem getN_big {t : List UInt8} {a : Int} (h : 8000 < t.length) : getN t a = (0, 0, 2) := by unfold getN; rw [if_pos h]
theorem getN_neg {t : List UInt8} {a : Int} (h : ¬ 8000 < t.length) (ha : a < 0) : getN t a = (0, 0, 1) := by unfold getN; rw [if_neg h, if_pos ha]
theorem getN_bad {t : List UInt8} {a : Nat} {c x y : Nat} (h : ¬ 8000 < t.length) (hu : getU 10 0 0 (t.drop a) = (c, x, y)) (hc : c ≠ 0) : getN t a = (0, 0, c) := by
  unfold getN; rw [if_neg h, if_neg (by omega)]; simp [hu, hc]
theorem getN_ok {t : List UInt8} {a : Nat} {x y : Nat} (h : ¬ 8000 < t.length) (hu : getU 10 0 0 (t.drop a) = (0, x, y)) : getN t a = (unfoldN x, (a : Int) + y, 0) := by
  unfold getN; rw [if_neg h, if_neg (by omega)]; simp [hu]

theorem GetAt.over {t : List UInt8} {a u : Nat} (h : GetAt t a 10 u) (ht : ¬ 8000 < t.length) : getN t a = (0, 0, 3) := getN_bad ht h.2.2.symm (by decide)
theorem GetAt.short {t : List UInt8} {a i u : Nat} (h : GetAt t a i u) (ht : ¬ 8000 < t.length) (hi : i < 10) (hl : t.length ≤ a + i) : getN t a = (0, 0, 4) := by
  have h3 := h.2.2
  obtain ⟨f, hf⟩ : ∃ f, 10 - i = f + 1 := ⟨9 - i, by omega⟩
  rw [hf, List.drop_eq_nil_of_le hl] at h3
  exact getN_bad ht h3.symm (by decide)
theorem GetAt.cons {t : List UInt8} {a i u : Nat} (h : GetAt t a i u) (hi : i < 10) (hl : a + i < t.length) : getU 10 0 0 (t.drop a) =
    (if i = 9 ∧ 1 < t[a + i].toNat then (3, 0, 0)
    else if t[a + i].toNat < 128 then (if t[a + i].toNat = 0 ∧ 0 < i then (3, 0, 0) else (0, u + t[a + i].toNat % 128 * 128 ^ i, i + 1))
    else getU (10 - (i + 1)) (i + 1) (u + t[a + i].toNat % 128 * 128 ^ i) (t.drop (a + (i + 1)))) := by
  have h3 := h.2.2
  obtain ⟨f, hf⟩ : ∃ f, 10 - i = f + 1 := ⟨9 - i, by omega⟩
  have hf2 : 10 - (i + 1) = f := by omega
  rw [hf, List.drop_eq_getElem_cons hl, getU] at h3
  rw [← h3, hf2]
  rfl
/-- The step to the next byte; what is read so far stays small. -/
theorem get_small {i u c : Nat} (hu : u < 128 ^ i) (hi : i < 10) (hc : i = 9 → c ≤ 1) : u + c % 128 * 128 ^ i < 128 ^ (i + 1) ∧ u + c % 128 * 128 ^ i < 18446744073709551616 := by
  have hm : c % 128 < 128 := Nat.mod_lt _ (by decide)
  have h1 : u + c % 128 * 128 ^ i < 128 ^ (i + 1) := by
    have : c % 128 * 128 ^ i ≤ 127 * 128 ^ i := Nat.mul_le_mul_right _ (by omega)
    rw [Nat.pow_succ]; omega
  refine ⟨h1, ?_⟩
  by_cases h9 : i = 9
  · subst h9
    have := hc rfl
    have h2 : c % 128 ≤ 1 := by omega
    have : c % 128 * 128 ^ 9 ≤ 1 * 128 ^ 9 := Nat.mul_le_mul_right _ h2
    have e : (128 : Nat) ^ 9 = 9223372036854775808 := by decide
    rw [e] at *; omega
  · have : 128 ^ (i + 1) ≤ 128 ^ 9 := Nat.pow_le_pow_right (by decide) (by omega)
    have e : (128 : Nat) ^ 9 = 9223372036854775808 := by decide
    omega
theorem GetAt.next {t : List UInt8} {a i u : Nat} (h : GetAt t a i u) (hi : i < 10) (hl : a + i < t.length) (h128 : 128 ≤ t[a + i].toNat) (h9 : i ≠ 9) :
    GetAt t a (i + 1) (u + t[a + i].toNat % 128 * 128 ^ i) := by
  refine ⟨by omega, (get_small h.2.1 hi (by omega)).1, ?_⟩
  rw [h.cons hi hl, if_neg (by omega), if_neg (by omega)]
theorem GetAt.wrong {t : List UInt8} {a i u : Nat} (h : GetAt t a i u) (ht : ¬ 8000 < t.length) (hi : i < 10) (hl : a + i < t.length) (hw : (i = 9 ∧ 1 < t[a + i].toNat) ∨ (t[a + i].toNat = 0 ∧ 0 < i)) : getN t a = (0, 0, 3) := by
  have hc := h.cons hi hl
  by_cases h1 : i = 9 ∧ 1 < t[a + i].toNat
  · rw [if_pos h1] at hc; exact getN_bad ht hc (by decide)
  · have h2 : t[a + i].toNat = 0 ∧ 0 < i := by rcases hw with h | h; exact absurd h h1; exact h
    rw [if_neg h1, if_pos (by omega), if_pos h2] at hc; exact getN_bad ht hc (by decide)
theorem GetAt.last {t : List UInt8} {a i u : Nat} (h : GetAt t a i u) (ht : ¬ 8000 < t.length) (hi : i < 10) (hl : a + i < t.length) (h128 : t[a + i].toNat < 128) (h9 : i = 9 → t[a + i].toNat ≤ 1) (h0 : 0 < i → t[a + i].toNat ≠ 0) :
    getN t a = (unfoldN (u + t[a + i].toNat % 128 * 128 ^ i), (a : Int) + ((i + 1 : Nat) : Int), 0) := by
  have hc := h.cons hi hl
  rw [if_neg (by omega), if_pos h128, if_neg (by omega)] at hc
  exact getN_ok ht hc

/-- The step, in the walk's own spelling. -/
theorem shift_in {q c j : Nat} (h : q + c % 128 * 128 ^ j < 18446744073709551616) : IntKind.u64.wrap ((q : Int) + IntKind.u64.wrap ((c : Int) % 128 * 2 ^ (7 * j))) = ((q + c % 128 * 128 ^ j : Nat) : Int) := by
  have e : ((c : Int) % 128 * 2 ^ (7 * j)) = ((c % 128 * 128 ^ j : Nat) : Int) := by
    rw [Int.natCast_mul, Int.natCast_pow, Int.natCast_emod, Int.pow_mul]; rfl
  rw [e, IntKind.wrap_u64, IntKind.wrap_u64, Int.emod_eq_of_lt (by omega) (by omega), Int.emod_eq_of_lt (by omega) (by omega)]
  omega
theorem shift_nine {q c x : Nat} (h : IntKind.u64.wrap ((q : Int) + IntKind.u64.wrap ((c : Int) % 128 * 2 ^ (7 * 9))) = (x : Int)) (hc : c ≤ 1) : IntKind.u64.wrap ((q : Int) + (c : Int) % 128 * 9223372036854775808) = (x : Int) := by
  rw [← h]
  have e : ((2 : Int) ^ (7 * 9)) = 9223372036854775808 := by decide
  rw [e, IntKind.wrap_u64 ((c : Int) % 128 * 9223372036854775808), Int.emod_eq_of_lt (a := (c : Int) % 128 * 9223372036854775808) (by omega) (by omega)]
theorem unfold_odd {x : Nat} (h : x % 2 = 1) : unfoldN x = -((x : Int) / 2) - 1 := by unfold unfoldN; rw [if_pos h]; omega
theorem unfold_even {x : Nat} (h : x % 2 = 0) : unfoldN x = (x : Int) / 2 := by unfold unfoldN; rw [if_neg (by omega)]; omega

theorem pow_seven (i : Nat) : (128 : Nat) ^ i = 2 ^ (7 * i) := by rw [Nat.pow_mul]
theorem wrap_sh (c i : Nat) : IntKind.u64.wrap ((c : Int) % 128 * 2 ^ (7 * i)) = ((c % 128 * 128 ^ i % 18446744073709551616 : Nat) : Int) := by
  have e : ((c : Int) % 128 * 2 ^ (7 * i)) = ((c % 128 * 128 ^ i : Nat) : Int) := by
    rw [Int.natCast_mul, Int.natCast_pow, Int.natCast_emod, Int.pow_mul]; rfl
  rw [e, IntKind.wrap_u64]; omega
theorem or_bound {q c i : Nat} (hq : q < 18446744073709551616) : 0 ≤ bits .or .u64 (q : Int) (IntKind.u64.wrap ((c : Int) % 128 * 2 ^ (7 * i))) ∧ bits .or .u64 (q : Int) (IntKind.u64.wrap ((c : Int) % 128 * 2 ^ (7 * i))) < 18446744073709551616 := by
  rw [wrap_sh, u64_or_nat _ _ hq (Nat.mod_lt _ (by decide))]
  have : q ||| (c % 128 * 128 ^ i % 18446744073709551616) < 2 ^ 64 := Nat.or_lt_two_pow (by omega) (by have := Nat.mod_lt (c % 128 * 128 ^ i) (show 0 < 18446744073709551616 by decide); omega)
  omega
theorem or_in {q c i : Nat} (hq : q < 128 ^ i) (h : q + c % 128 * 128 ^ i < 18446744073709551616) : bits .or .u64 (q : Int) (IntKind.u64.wrap ((c : Int) % 128 * 2 ^ (7 * i))) = ((q + c % 128 * 128 ^ i : Nat) : Int) := by
  rw [wrap_sh, Nat.mod_eq_of_lt (by omega), u64_or_nat _ _ (by omega) (by omega), Nat.or_comm]
  congr 1
  rw [nat_join (7 * i) (c % 128 * 128 ^ i) q (by rw [pow_seven]; exact Nat.mul_mod_left _ _) (by rw [← pow_seven]; exact hq)]
  omega
theorem small_q {q i : Nat} (hq : q < 128 ^ i) (hi : i < 10) : q < 18446744073709551616 := by
  have : (128 : Nat) ^ i ≤ 128 ^ 9 := Nat.pow_le_pow_right (by decide) (by omega)
  have e : (128 : Nat) ^ 9 = 9223372036854775808 := by decide
  omega

theorem getU_len : ∀ (f i u : Nat) (l : List UInt8) {x y : Nat}, getU f i u l = (0, x, y) → y ≤ i + l.length
  | 0, _, _, _, _, _, h => by simp [getU] at h
  | _ + 1, _, _, [], _, _, h => by simp [getU] at h
  | f + 1, i, u, c :: l, x, y, h => by
    rw [getU] at h
    split at h
    · simp at h
    · split at h
      · split at h
        · simp at h
        · simp at h; simp; omega
      · have := getU_len f (i + 1) _ l h; simp; omega
theorem getN_bounds {t : List UInt8} {a n b : Int} (h : getN t a = (n, b, 0)) : t.length ≤ 8000 ∧ 0 ≤ b ∧ b ≤ t.length ∨ t.length ≤ 8000 ∧ 0 ≤ b ∧ b ≤ a := by
  unfold getN at h
  split at h
  · simp at h
  · split at h
    · simp at h
    · split at h
      · rename_i h1 h2 h3
        simp at h
        obtain ⟨hn, hb⟩ := h
        have hy := getU_len 10 0 0 (t.drop a.toNat) (x := (getU 10 0 0 (t.drop a.toNat)).2.1) (y := (getU 10 0 0 (t.drop a.toNat)).2.2) (Prod.ext h3 rfl)
        simp at hy
        omega
      · rename_i h1 h2 h3
        simp at h
        exact absurd h.2.2 h3
theorem getU_pos : ∀ (f i u : Nat) (l : List UInt8) {x y : Nat}, getU f i u l = (0, x, y) → l ≠ []
  | 0, _, _, _, _, _, h => by simp [getU] at h
  | _ + 1, _, _, [], _, _, h => by simp [getU] at h
  | _ + 1, _, _, _ :: _, _, _, _ => by simp
theorem getN_fit {t : List UInt8} {a n b : Int} (h : getN t a = (n, b, 0)) : t.length ≤ 8000 ∧ 0 ≤ b ∧ b ≤ t.length := by
  rcases getN_bounds h with h1 | ⟨h1, h2, h3⟩
  · exact h1
  · refine ⟨h1, h2, ?_⟩
    have ha : a ≤ t.length := by
      unfold getN at h
      split at h
      · simp at h
      · split at h
        · simp at h
        · split at h
          · rename_i g1 g2 g3
            have := getU_pos 10 0 0 (t.drop a.toNat) (x := (getU 10 0 0 (t.drop a.toNat)).2.1) (y := (getU 10 0 0 (t.drop a.toNat)).2.2) (Prod.ext g3 rfl)
            rcases Nat.lt_or_ge a.toNat t.length with hlt | hge
            · omega
            · exact absurd (List.drop_eq_nil_of_le hge) this
          · rename_i g1 g2 g3
            simp at h
            exact absurd h.2.2 g3
    omega

/-- GetText: text, place behind it, code. -/
def getT (t : List UInt8) (a : Int) : List UInt8 × Int × Nat :=
  if (getN t a).2.2 ≠ 0 then ([], 0, (getN t a).2.2)
  else if (getN t a).1 < 0 ∨ 8000 < (getN t a).1 then ([], 0, 3)
  else if (t.length : Int) < (getN t a).2.1 + (getN t a).1 then ([], 0, 4)
  else ((t.drop (getN t a).2.1.toNat).take (getN t a).1.toNat, (getN t a).2.1 + (getN t a).1, 0)
theorem getT_bad {t : List UInt8} {a : Int} {c : Nat} (h : getN t a = (0, 0, c)) (hc : c ≠ 0) : getT t a = ([], 0, c) := by unfold getT; rw [h]; simp [hc]
theorem getT_form {t : List UInt8} {a n b : Int} (h : getN t a = (n, b, 0)) (hn : n < 0 ∨ 8000 < n) : getT t a = ([], 0, 3) := by unfold getT; rw [h]; simp [hn]
theorem getT_short {t : List UInt8} {a n b : Int} (h : getN t a = (n, b, 0)) (h0 : ¬ n < 0) (h1 : ¬ 8000 < n) (hs : (t.length : Int) < b + n) : getT t a = ([], 0, 4) := by unfold getT; rw [h]; simp [h0, h1, hs]
theorem getT_ok {t : List UInt8} {a n b : Int} (h : getN t a = (n, b, 0)) (h0 : ¬ n < 0) (h1 : ¬ 8000 < n) (hs : ¬ (t.length : Int) < b + n) : getT t a = ((t.drop b.toNat).take n.toNat, b + n, 0) := by unfold getT; rw [h]; simp [h0, h1, hs]
end Go.Proofs.YtjcdcaannajnpaaGreatDoor
