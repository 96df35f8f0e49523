/- PiecePut, the model's. -/
import Derived.Test.YtmgefmjfefmaoaaDoorPutW
import Derived.Test.YtmgefmjfefmaoaaDoorPackC
namespace Go.Proofs.YtmgefmjfefmaoaaDoor
open Go.RowKit

theorem canon_of : ∀ (l : List Pc) (f : Int), (∀ i, i < l.length → okP l i) → (l ≠ [] → f < (pcAt l 0).1) → canonG f l
  | [], _, _, _ => trivial
  | p :: l, f, h, hf => by
    have h0 := h 0 (by simp)
    refine ⟨hf (by simp), h0.1, canon_of l (pcEnd p) (fun i hi => ?_) (fun hl => ?_)⟩
    · obtain ⟨a, b, c, d⟩ := h (i + 1) (by simpa using hi)
      refine ⟨a, b, c, fun hi0 => ?_⟩
      have := d (by omega)
      have e : i + 1 - 1 = (i - 1) + 1 := by omega
      rw [e] at this
      exact this
    · have hl0 : 0 < l.length := List.length_pos_iff.2 hl
      obtain ⟨_, _, _, d⟩ := h 1 (by simpa using hl0)
      exact d (by omega)
theorem right_canon {l : List Pc} (h : right l) : canonG (-1) l := canon_of l (-1) h.2 (fun hl => by have := (h.2 0 (List.length_pos_iff.2 hl)).2.1; omega)

/-- What is told of pieces that were put together. -/
def fullR (D : List Pc) : List Pc × Int := if right D then (D, 0) else ([], 9)
/-- What PiecePut answers. -/
def putR (l : List Pc) (n : Int) (t : List UInt8) : List Pc × Int :=
  if 400 < l.length ∨ 8000 < t.length then ([], 2)
  else if ¬ right l ∨ ¬ (0 ≤ n ∧ n ≤ 1000000) ∨ 200 < t.length then ([], 1)
  else fullR (putN l n t)

theorem bytesN_nz (p : Pc) : bytesN (nz p) ≤ p.2.length := by
  unfold nz; split
  · simp [bytesN]
  · simp [bytesN]
theorem bytesN_fill : ∀ (l : List Pc) (f : Int) (p : Pc), bytesN (fillN l f p) ≤ bytesN l + (l.length + 1) * p.2.length
  | [], f, p => by
    unfold fillN
    have h1 := bytesN_nz (cutP p f (pcEnd p))
    have h2 := cut_len p f (pcEnd p)
    simp [bytesN]; omega
  | k :: l, f, p => by
    have ih := bytesN_fill l (pcEnd k) p
    have h1 := bytesN_nz (cutP p f k.1)
    have h2 := cut_len p f k.1
    unfold fillN
    rw [bytesN_app]
    have e : (l.length + 1 + 1) * p.2.length = (l.length + 1) * p.2.length + p.2.length := by rw [Nat.add_mul (l.length + 1) 1, Nat.one_mul]
    rw [List.length_cons, e]
    simp only [bytesN]
    omega
theorem bytesN_joinG : ∀ (l : List Pc) (p : Pc), bytesN (joinG p l) = p.2.length + bytesN l
  | [], p => by simp [joinG, bytesN]
  | q :: l, p => by
    unfold joinG
    split
    · simp only [bytesN]; rw [bytesN_joinG l q]
    · rw [bytesN_joinG l]; simp only [bytesN, List.length_append]; omega
theorem bytesN_joinN (l : List Pc) : bytesN (joinN l) = bytesN l := by
  cases l with
  | nil => rfl
  | cons p l => exact bytesN_joinG l p
/-- Where the pieces of 'fill' begin. -/
theorem fill_time : ∀ (l : List Pc) (f : Int) (p : Pc) (b : Int), 0 ≤ p.1 → pcEnd p ≤ b → (∀ q ∈ l, 0 ≤ q.1 ∧ q.1 ≤ b) → ∀ q ∈ fillN l f p, 0 ≤ q.1 ∧ q.1 ≤ b
  | [], f, p, b, h0, hb, _ => fun q hq => by
    unfold fillN at hq
    by_cases h : max f p.1 < min (pcEnd p) (pcEnd p)
    · rw [nz_some (cutP_nz _ _ _ h)] at hq
      have := (cutP_end _ _ _ h).1
      simp at hq; subst hq; omega
    · rw [cutP_none _ _ _ h] at hq; cases hq
  | k :: l, f, p, b, h0, hb, hl => fun q hq => by
    have ih := fill_time l (pcEnd k) p b h0 hb (fun q hq => hl q (List.mem_cons_of_mem _ hq))
    unfold fillN at hq
    rcases List.mem_append.1 hq with hq | hq
    · by_cases h : max f p.1 < min k.1 (pcEnd p)
      · rw [nz_some (cutP_nz _ _ _ h)] at hq
        have := (cutP_end _ _ _ h).1
        simp at hq; subst hq; omega
      · rw [cutP_none _ _ _ h] at hq; cases hq
    · rcases List.mem_cons.1 hq with rfl | hq
      · exact hl _ (by simp)
      · exact ih q hq
theorem join_time : ∀ (l : List Pc) (p : Pc) (b : Int), (0 ≤ p.1 ∧ p.1 ≤ b) → (∀ q ∈ l, 0 ≤ q.1 ∧ q.1 ≤ b) → ∀ q ∈ joinG p l, 0 ≤ q.1 ∧ q.1 ≤ b
  | [], p, b, hp, _ => fun q hq => by simp [joinG] at hq; subst hq; exact hp
  | k :: l, p, b, hp, hl => fun q hq => by
    have hk := hl k (by simp)
    have hl' : ∀ q ∈ l, 0 ≤ q.1 ∧ q.1 ≤ b := fun q hq => hl q (List.mem_cons_of_mem _ hq)
    unfold joinG at hq
    split at hq
    · rcases List.mem_cons.1 hq with rfl | hq
      · exact hp
      · exact join_time l k b hk hl' q hq
    · exact join_time l _ b (by exact hp) hl' q hq
theorem joinN_time (l : List Pc) (b : Int) (hl : ∀ q ∈ l, 0 ≤ q.1 ∧ q.1 ≤ b) : ∀ q ∈ joinN l, 0 ≤ q.1 ∧ q.1 ≤ b := by
  cases l with
  | nil => intro q hq; cases hq
  | cons p l => exact join_time l p b (hl p (by simp)) (fun q hq => hl q (List.mem_cons_of_mem _ hq))
theorem right_time {l : List Pc} (hr : right l) : ∀ p ∈ l, 0 ≤ p.1 ∧ p.1 ≤ 1000000 := fun p hp => by
  obtain ⟨k, hk, rfl⟩ := mem_pcAt hp
  exact ⟨(hr.2 k hk).2.1, (hr.2 k hk).2.2.1⟩
theorem fill_small {l : List Pc} {n : Int} {t : List UInt8} (hr : right l) (h0 : 0 ≤ n) (h1 : n ≤ 1000000) (ht : t.length ≤ 200) (hs : bytesN l ≤ 1900000) :
    (fillN l n (n, t)).length ≤ 81 ∧ bytesN (fillN l n (n, t)) ≤ 1910000 ∧ ∀ q ∈ fillN l n (n, t), 0 ≤ q.1 ∧ q.1 ≤ 1000200 := by
  have h40 := hr.1
  have hl := fill_len l n (n, t)
  have hb := bytesN_fill l n (n, t)
  have hm : (l.length + 1) * t.length ≤ 41 * 200 := Nat.mul_le_mul (by omega) ht
  dsimp only at hb
  refine ⟨by omega, by omega, fill_time l n (n, t) 1000200 h0 (by unfold pcEnd; dsimp only; omega) (fun q hq => ?_)⟩
  have := right_time hr q hq; omega
theorem putN_fits {l : List Pc} {n : Int} {t : List UInt8} (hr : right l) (h0 : 0 ≤ n) (h1 : n ≤ 1000000) (ht : t.length ≤ 200) (hs : bytesN l ≤ 1900000) :
    (putN l n t).length ≤ 81 ∧ ∀ p ∈ putN l n t, -9223372036854775808 ≤ p.1 ∧ p.1 ≤ 9223372036854775807 ∧ p.2.length ≤ 2000000 := by
  obtain ⟨a, b, c⟩ := fill_small hr h0 h1 ht hs
  unfold putN
  have hl := joinN_len (fillN l n (n, t))
  refine ⟨by omega, fun p hp => ?_⟩
  have h1 := joinN_time _ _ c p hp
  have h2 := mem_bytes hp
  rw [bytesN_joinN] at h2
  omega
end Go.Proofs.YtmgefmjfefmaoaaDoor
