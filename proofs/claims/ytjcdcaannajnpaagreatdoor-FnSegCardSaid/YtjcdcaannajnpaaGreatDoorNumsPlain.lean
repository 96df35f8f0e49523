/- Plain mathematics of promise 1: a number, and a text, come back from their bytes; of bytes that end too early nothing is got. -/
import Derived.Test.YtjcdcaannajnpaaGreatDoorGetPlain
namespace Go.Proofs.YtjcdcaannajnpaaGreatDoor
open Go.RowKit

theorem numBytes_len : ∀ (f k u : Nat), u < 128 ^ k → 1 ≤ k → (numBytes f u).length ≤ k
  | 0, _, _, _, h => by simpa [numBytes] using h
  | f + 1, k, u, hu, hk => by
    rw [numBytes]
    split
    · obtain ⟨j, rfl⟩ : ∃ j, k = j + 1 := ⟨k - 1, by omega⟩
      rw [Nat.pow_succ] at hu
      have hj : 1 ≤ j := by
        rcases Nat.eq_zero_or_pos j with rfl | h
        · simp at hu; omega
        · exact h
      have := numBytes_len f j (u / 128) (by omega) hj
      simp; omega
    · simpa using hk
theorem putN_ten {n : Int} (h1 : -9223372036854775808 ≤ n) (h2 : n ≤ 9223372036854775807) : (putN n).length ≤ 10 := by
  have e : (128 : Nat) ^ 10 = 1180591620717411303424 := by decide
  exact numBytes_len 10 10 _ (by have := foldN_lt n h1 h2; omega) (by omega)

theorem nine_le {u i : Nat} (h : u * 128 ^ i < 18446744073709551616) (hi : i = 9) : u ≤ 1 := by
  subst hi
  have e : (128 : Nat) ^ 9 = 9223372036854775808 := by decide
  omega
theorem step_sum (u i acc : Nat) : acc + (u % 128 + 128) % 128 * 128 ^ i + u / 128 * 128 ^ (i + 1) = acc + u * 128 ^ i := by
  have h1 : (u % 128 + 128) % 128 = u % 128 := by omega
  have h2 : u / 128 * 128 ^ (i + 1) = u / 128 * 128 * 128 ^ i := by rw [Nat.pow_succ, Nat.mul_assoc, Nat.mul_comm (128 ^ i) 128]
  have h3 : u % 128 * 128 ^ i + u / 128 * 128 * 128 ^ i = u * 128 ^ i := by rw [← Nat.add_mul]; congr 1; omega
  rw [h1, h2]; omega
theorem u8_nat {u : Nat} (h : u < 256) : (UInt8.ofNat u).toNat = u := by rw [UInt8.toNat_ofNat']; exact Nat.mod_eq_of_lt (by omega)

theorem getU_put : ∀ (f i acc u : Nat) (rest : List UInt8), f + i = 10 → 1 ≤ f → u * 128 ^ i < 18446744073709551616 → (0 < i → 0 < u) →
    getU f i acc (numBytes f u ++ rest) = (0, acc + u * 128 ^ i, i + (numBytes f u).length)
  | 0, _, _, _, _, _, h, _, _ => by omega
  | f + 1, i, acc, u, rest, hf, _, hu, h0 => by
    by_cases h128 : 128 ≤ u
    · have hi9 : i ≠ 9 := fun e => by have := nine_le hu e; omega
      rw [numBytes, if_pos h128]
      have hb : u % 128 + 128 < 256 := by omega
      rw [List.cons_append, getU, u8_nat hb, if_neg (by omega), if_neg (by omega)]
      have hu' : u / 128 * 128 ^ (i + 1) < 18446744073709551616 := by
        have e : u / 128 * 128 ^ (i + 1) = u / 128 * 128 * 128 ^ i := by rw [Nat.pow_succ, Nat.mul_assoc, Nat.mul_comm (128 ^ i) 128]
        have : u / 128 * 128 * 128 ^ i ≤ u * 128 ^ i := Nat.mul_le_mul_right _ (by omega)
        omega
      rw [getU_put f (i + 1) _ (u / 128) rest (by omega) (by omega) hu' (by omega), step_sum]
      simp; omega
    · rw [numBytes, if_neg h128, List.singleton_append, getU, u8_nat (by omega)]
      rw [if_neg (by intro ⟨e, g⟩; have := nine_le hu e; omega), if_pos (by omega), if_neg (by intro ⟨e, g⟩; have := h0 g; omega), Nat.mod_eq_of_lt (by omega)]
      rfl
theorem getU_cut : ∀ (f i acc u : Nat), f + i = 10 → 1 ≤ f → u * 128 ^ i < 18446744073709551616 →
    getU f i acc (numBytes f u).dropLast = (4, 0, 0)
  | 0, _, _, _, _, h, _ => by omega
  | f + 1, i, acc, u, hf, _, hu => by
    by_cases h128 : 128 ≤ u
    · have hi9 : i ≠ 9 := fun e => by have := nine_le hu e; omega
      rw [numBytes, if_pos h128]
      have hb : u % 128 + 128 < 256 := by omega
      have hne : numBytes f (u / 128) ≠ [] := by have := (numBytes_length f (u / 128)).2; intro e; rw [e] at this; simp at this
      rw [List.dropLast_cons_of_ne_nil hne, getU, u8_nat hb, if_neg (by omega), if_neg (by omega)]
      have hu' : u / 128 * 128 ^ (i + 1) < 18446744073709551616 := by
        have e : u / 128 * 128 ^ (i + 1) = u / 128 * 128 * 128 ^ i := by rw [Nat.pow_succ, Nat.mul_assoc, Nat.mul_comm (128 ^ i) 128]
        have : u / 128 * 128 * 128 ^ i ≤ u * 128 ^ i := Nat.mul_le_mul_right _ (by omega)
        omega
      exact getU_cut f (i + 1) _ (u / 128) (by omega) (by omega) hu'
    · rw [numBytes, if_neg h128]
      simp [getU]

theorem getN_back {n : Int} (h1 : -9223372036854775808 ≤ n) (h2 : n ≤ 9223372036854775807) (pre post : List UInt8) (hl : pre.length + (putN n).length + post.length ≤ 8000) :
    getN (pre ++ (putN n ++ post)) pre.length = (n, (pre.length : Int) + ((putN n).length : Int), 0) := by
  have hu := getU_put 10 0 0 (foldN n) post rfl (by omega) (by have := foldN_lt n h1 h2; omega) (by omega)
  have hx := getN_ok (t := pre ++ (putN n ++ post)) (a := pre.length) (x := 0 + foldN n * 128 ^ 0) (y := 0 + (putN n).length) (by simp; omega) (by rw [List.drop_left]; exact hu)
  rw [hx]
  simp [unfoldN_fold]
theorem getN_cut {n : Int} (h1 : -9223372036854775808 ≤ n) (h2 : n ≤ 9223372036854775807) : getN ((putN n).dropLast) 0 = (0, 0, 4) := by
  have hu := getU_cut 10 0 0 (foldN n) rfl (by omega) (by have := foldN_lt n h1 h2; omega)
  exact getN_bad (t := (putN n).dropLast) (a := 0) (by have := (putN_length n).1; simp; omega) (by simpa [putN] using hu) (by decide)
theorem getT_back (u pre : List UInt8) (hl : pre.length + (putN u.length).length + u.length ≤ 8000) :
    getT (pre ++ (putN u.length ++ u)) pre.length = (u, (pre.length : Int) + ((putN u.length).length : Int) + (u.length : Int), 0) := by
  have hn := getN_back (n := u.length) (by omega) (by omega) pre u hl
  rw [getT_ok hn (by omega) (by omega) (by simp; omega)]
  congr 1
  have e : ((pre.length : Int) + ((putN u.length).length : Int)).toNat = (pre ++ putN u.length).length := by simp; omega
  rw [e, ← List.append_assoc, List.drop_left]
  simp
theorem getT_cut (u : List UInt8) (hl : (putN u.length).length + u.length ≤ 8001) : getT ((putN u.length ++ u).dropLast) 0 = ([], 0, 4) := by
  rcases List.eq_nil_or_concat u with rfl | ⟨v, c, rfl⟩
  · rw [List.append_nil]
    exact getT_bad (getN_cut (by simp) (by simp)) (by decide)
  · rw [List.concat_eq_append] at *
    have hlen : (v ++ [c]).length = v.length + 1 := by simp
    generalize (v ++ [c]).length = L at *
    have e : (putN L ++ (v ++ [c])).dropLast = [] ++ (putN L ++ v) := by
      rw [← List.append_assoc, List.dropLast_concat]; rfl
    have hp := putN_length L
    have hn := getN_back (n := (L : Int)) (by omega) (by omega) [] v (by simp; omega)
    rw [e]
    exact getT_short hn (by omega) (by omega) (by simp; omega)
end Go.Proofs.YtjcdcaannajnpaaGreatDoor
