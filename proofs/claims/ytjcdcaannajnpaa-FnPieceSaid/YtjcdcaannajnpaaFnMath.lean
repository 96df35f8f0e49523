/- What promise 3 says of pieces, in plain lists. -/
import Derived.Test.YtjcdcaannajnpaaDrawP
import Derived.Test.YtjcdcaannajnpaaFromI
namespace Go.Proofs.Ytjcdcaannajnpaa
open Go.RowKit

theorem from_head (l : List Pc) (i : Int) : (fromN l i).head? = byteAt l i := by
  induction l with
  | nil => rfl
  | cons p l ih =>
    rw [fromN_cons]
    by_cases h : p.1 ≤ i ∧ i < pcEnd p
    · rw [if_pos h, byte_in _ h.1 h.2, List.head?_drop]
    · rw [if_neg h, byte_out _ h, ih]
theorem put_idem {L : List Pc} {n : Int} {t : List UInt8} (hc : canonG (-1) L) (h0 : 0 ≤ n) : putN (putN L n t) n t = putN L n t := by
  have hc2 := put_canon (t := t) hc h0
  refine canon_ext _ _ (-1) (put_canon hc2 h0) hc2 (fun i => ?_)
  rw [put_byte hc2 h0, put_byte hc h0]
  unfold wasOr
  rw [put_byte hc h0]
  unfold wasOr
  cases byteAt L i <;> cases byteAt [(n, t)] i <;> rfl
theorem byte_text {T : List UInt8} {i : Nat} {n : Nat} (h : i + n ≤ T.length) (j : Int) : byteAt [((i : Int), (T.drop i).take n)] j = if (i : Int) ≤ j ∧ j < i + n then T[j.toNat]? else none := by
  have he : pcEnd ((i : Int), (T.drop i).take n) = i + n := by unfold pcEnd; simp; omega
  by_cases hj : (i : Int) ≤ j ∧ j < i + n
  · rw [byte_in _ hj.1 (by rw [he]; exact hj.2), if_pos hj]
    simp only
    rw [List.getElem?_take, if_pos (by omega), List.getElem?_drop]
    congr 1; omega
  · rw [byte_out _ (by rw [he]; exact hj), if_neg hj]; rfl
/-- Two texts of one stream come to the same in whichever order. -/
theorem put_two {T : List UInt8} {i k n m : Nat} (hi : i + n ≤ T.length) (hk : k + m ≤ T.length) :
    putN (putN [] i ((T.drop i).take n)) k ((T.drop k).take m) = putN (putN [] k ((T.drop k).take m)) i ((T.drop i).take n) := by
  have c1 := put_canon (l := []) (n := (i : Int)) (t := (T.drop i).take n) trivial (by omega)
  have c2 := put_canon (l := []) (n := (k : Int)) (t := (T.drop k).take m) trivial (by omega)
  refine canon_ext _ _ (-1) (put_canon c1 (by omega)) (put_canon c2 (by omega)) (fun j => ?_)
  rw [put_byte c1 (by omega), put_byte c2 (by omega)]
  unfold wasOr
  rw [put_byte (l := []) trivial (by omega), put_byte (l := []) trivial (by omega)]
  unfold wasOr
  rw [byte_text hi, byte_text hk]
  show (Option.or none _).or _ = (Option.or none _).or _
  rw [Option.none_or, Option.none_or]
  by_cases h1 : (i : Int) ≤ j ∧ j < i + n
  · rw [if_pos h1]
    by_cases h2 : (k : Int) ≤ j ∧ j < k + m
    · rw [if_pos h2]
    · rw [if_neg h2]; cases T[j.toNat]? <;> rfl
  · rw [if_neg h1]
    by_cases h2 : (k : Int) ≤ j ∧ j < k + m
    · rw [if_pos h2]; cases T[j.toNat]? <;> rfl
    · rw [if_neg h2]
/-- What lies without a gap is read as a whole. -/
theorem from_whole : ∀ (M : List Pc) (f i : Int) (s : List UInt8), canonG f M → s ≠ [] → (∀ j : Nat, j < s.length → byteAt M (i + j) = s[j]?) → s.length ≤ (fromN M i).length ∧ (fromN M i).take s.length = s
  | [], _, _, s, _, hs, h => by
    have hl : 0 < s.length := List.length_pos_iff.2 hs
    have := h 0 hl
    rw [List.getElem?_eq_getElem hl] at this
    cases this
  | p :: M, f, i, s, hc, hs, h => by
    have hl : 0 < s.length := List.length_pos_iff.2 hs
    have h0 := h 0 hl
    rw [List.getElem?_eq_getElem hl] at h0
    rw [fromN_cons]
    by_cases hp : p.1 ≤ i ∧ i < pcEnd p
    · rw [if_pos hp]
      have hend : i + s.length ≤ pcEnd p := by
        rcases Int.lt_or_le (pcEnd p) (i + s.length) with hlt | hle
        · exfalso
          have hj := h (pcEnd p - i).toNat (by omega)
          rw [show i + ((pcEnd p - i).toNat : Int) = pcEnd p by omega, byte_out _ (by omega), byte_low' M _ _ hc.2.2 (Int.le_refl _), List.getElem?_eq_getElem (by omega)] at hj
          cases hj
        · exact hle
      have hE : pcEnd p = p.1 + (p.2.length : Int) := rfl
      refine ⟨by rw [List.length_drop]; omega, ?_⟩
      apply List.ext_getElem?
      intro j
      by_cases hj : j < s.length
      · have hh := h j hj
        rw [byte_in _ (by omega) (by omega)] at hh
        rw [List.getElem?_take, if_pos hj, List.getElem?_drop, ← hh]
        congr 1; omega
      · rw [List.getElem?_take, if_neg hj, List.getElem?_eq_none (by omega)]
    · rw [if_neg hp]
      refine from_whole M (pcEnd p) i s hc.2.2 hs (fun j hj => ?_)
      rw [← h j hj]
      by_cases hq : p.1 ≤ i + (j : Int) ∧ i + (j : Int) < pcEnd p
      · exfalso
        -- i lies ahead of p, so a byte is missing between
        have : i < p.1 := by omega
        have hz : byteAt (p :: M) (i + (0 : Nat)) = none := by
          rw [byte_out _ (by have := pcEnd_ge p; omega)]
          exact byte_low' M _ _ hc.2.2 (by have := pcEnd_ge p; omega)
        rw [hz] at h0; cases h0
      · rw [byte_out _ hq]
theorem byte_t (n : Int) (t : List UInt8) (k : Int) : byteAt [(n, t)] k = if n ≤ k ∧ k < n + t.length then t[(k - n).toNat]? else none := by
  by_cases h : n ≤ k ∧ k < n + t.length
  · rw [if_pos h, byte_in _ h.1 (by show k < n + (t.length : Int); exact h.2)]
  · rw [if_neg h, byte_out _ (by show ¬ (n ≤ k ∧ k < n + (t.length : Int)); exact h)]; rfl
theorem tiny_nil (b : Nat) : Tiny b [] := ⟨by simp [bytesN], fun p hp => by cases hp⟩
/-- Putting a small text into right pieces that are small tells OK. -/
theorem putR_ok {L : List Pc} {n : Int} {t : List UInt8} {b : Nat} (hc : canonG (-1) L) (h : Tiny b L) (hl : L.length ≤ 10) (h0 : 0 ≤ n) (h1 : n ≤ 100) (ht : t.length ≤ 20) :
    putR L n t = (putN L n t, 0) ∧ canonG (-1) (putN L n t) ∧ Tiny (b + 220) (putN L n t) ∧ (putN L n t).length ≤ 2 * L.length + 1 := by
  obtain ⟨a, c, d⟩ := tiny_put hc h h0 h1 ht
  have hr := tiny_right hc h (by omega)
  have hr2 := tiny_right a c (by omega)
  refine ⟨?_, a, ⟨by have := c.1; have := Nat.mul_le_mul_right 20 (show L.length + 1 ≤ 11 by omega); omega, c.2⟩, d⟩
  unfold putR
  rw [if_neg (by omega), if_neg (by rintro (h | h | h); exact h hr; exact h ⟨h0, by omega⟩; omega)]
  unfold fullR
  rw [if_pos hr2]
/-- A put that told OK. -/
theorem putR_zero {L : List Pc} {n : Int} {t : List UInt8} (h : (putR L n t).2 = 0) : right L ∧ (0 ≤ n ∧ n ≤ 1000000) ∧ t.length ≤ 200 ∧ right (putN L n t) ∧ (putR L n t).1 = putN L n t ∧ putR (putN L n t) n t = (putN L n t, 0) := by
  unfold putR at h
  split at h
  · cases h
  · rename_i h1
    split at h
    · cases h
    · rename_i h2
      have hr : right L := Classical.byContradiction fun hn => h2 (.inl hn)
      have ht : 0 ≤ n ∧ n ≤ 1000000 := Classical.byContradiction fun hn => h2 (.inr (.inl hn))
      have hl : t.length ≤ 200 := by
        rcases Nat.lt_or_ge 200 t.length with h' | h'
        · exact absurd (.inr (.inr h')) h2
        · exact h'
      unfold fullR at h
      split at h
      · rename_i hr2
        refine ⟨hr, ht, hl, hr2, ?_, ?_⟩
        · unfold putR; rw [if_neg h1, if_neg h2]; unfold fullR; rw [if_pos hr2]
        · unfold putR
          rw [if_neg (by have := hr2.1; omega), if_neg (by rintro (h | h | h); exact h hr2; exact h ht; omega), put_idem (right_canon hr) ht.1]
          unfold fullR
          rw [if_pos hr2]
      · cases h
/-- What stands at a place behind a put. -/
theorem put_head {L : List Pc} {n i : Int} {t : List UInt8} (hr : right L) (h0 : 0 ≤ n) : (fromN (putN L n t) i).head? = ((fromN L i).head?).or (byteAt [(n, t)] i) := by
  rw [from_head, from_head, put_byte (right_canon hr) h0]; rfl
end Go.Proofs.Ytjcdcaannajnpaa
