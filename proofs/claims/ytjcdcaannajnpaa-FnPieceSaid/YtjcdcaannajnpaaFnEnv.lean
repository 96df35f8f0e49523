/- What the law of promise 3 keeps along its way: rows of pieces, answers in boxes. -/
import Derived.Test.YtjcdcaannajnpaaFnMath
import Derived.Test.YtjcdcaannajnpaaLwPieces
import Derived.Test.YtjcdcaannajnpaaCutP
import Derived.Test.YtjcdcaannajnpaaPutI
import Derived.Test.YtjcdcaannajnpaaDrawQ
import Derived.Test.YtjcdcaannajnpaaLwAt
namespace Go.Proofs.Ytjcdcaannajnpaa
open Go.RowKit

theorem cutN_mem : ∀ (l : List Pc) (n : Int) (q : Pc), q ∈ cutN l n → q ∈ l ∨ (q.1 = n ∧ ∃ p ∈ l, q.2.length ≤ p.2.length)
  | [], _, _, h => by cases h
  | p :: l, n, q, h => by
    rw [cutN_cons] at h
    have ih := cutN_mem l n q
    have lift : (q ∈ l ∨ (q.1 = n ∧ ∃ p ∈ l, q.2.length ≤ p.2.length)) → q ∈ p :: l ∨ (q.1 = n ∧ ∃ p' ∈ p :: l, q.2.length ≤ p'.2.length) := fun h => by
      rcases h with h | ⟨h, p', hp', hl⟩
      · exact .inl (List.mem_cons_of_mem _ h)
      · exact .inr ⟨h, p', List.mem_cons_of_mem _ hp', hl⟩
    split at h
    · rcases List.mem_cons.1 h with rfl | h
      · exact .inl (by simp)
      · exact lift (ih h)
    · split at h
      · rcases List.mem_cons.1 h with rfl | h
        · exact .inr ⟨rfl, p, by simp, by simp⟩
        · exact lift (ih h)
      · exact lift (ih h)
theorem cutN_len : ∀ (l : List Pc) (n : Int), (cutN l n).length ≤ l.length
  | [], _ => Nat.le_refl _
  | p :: l, n => by
    have := cutN_len l n
    rw [cutN_cons]
    split
    · simp; omega
    · split <;> simp <;> omega
theorem cutR_len {l : List Pc} {len : Nat} (h : l.length = len) (hm : len ≤ 2000000) (n : Int) : (cutR l n).1.length ≤ 2000000 := by
  unfold cutR
  split
  · simp
  · split
    · have := cutN_len l n; dsimp only; omega
    · simp
theorem cutR_fits {l : List Pc} (hf : ∀ p ∈ l, -9223372036854775808 ≤ p.1 ∧ p.1 ≤ 9223372036854775807 ∧ p.2.length ≤ 2000000) (n : Int) (n1 : -9223372036854775808 ≤ n) (n2 : n ≤ 9223372036854775807) :
    ∀ p ∈ (cutR l n).1, -9223372036854775808 ≤ p.1 ∧ p.1 ≤ 9223372036854775807 ∧ p.2.length ≤ 2000000 := by
  unfold cutR
  split
  · intro p hp; cases hp
  · split
    · intro p hp
      rcases cutN_mem l n p hp with h | ⟨h, q, hq, hl⟩
      · exact hf p h
      · have := hf q hq; rw [h]; exact ⟨n1, n2, by omega⟩
    · intro p hp; cases hp
theorem putR_len {l : List Pc} (n : Int) (t : List UInt8) (hs : bytesN l ≤ 1900000) : (putR l n t).1.length ≤ 2000000 ∧ ∀ p ∈ (putR l n t).1, -9223372036854775808 ≤ p.1 ∧ p.1 ≤ 9223372036854775807 ∧ p.2.length ≤ 2000000 := by
  unfold putR
  split
  · exact ⟨by simp, fun p hp => by cases hp⟩
  · split
    · exact ⟨by simp, fun p hp => by cases hp⟩
    · rename_i h
      have hr : right l := Classical.byContradiction fun hn => h (.inl hn)
      have ht : 0 ≤ n ∧ n ≤ 1000000 := Classical.byContradiction fun hn => h (.inr (.inl hn))
      have hl : t.length ≤ 200 := by
        rcases Nat.lt_or_ge 200 t.length with h' | h'
        · exact absurd (.inr (.inr h')) h
        · exact h'
      obtain ⟨a, b⟩ := putN_fits hr ht.1 ht.2 hl hs
      unfold fullR
      split
      · exact ⟨by show (putN l n t).length ≤ _; omega, b⟩
      · exact ⟨by simp, fun p hp => by cases hp⟩

theorem outRow_pcs {w w' : World} {r : List Pc × Int} {e : Ending} (h : OutRow w r e w') (hm : r.1.length ≤ 2000000) (hf : ∀ p ∈ r.1, -9223372036854775808 ≤ p.1 ∧ p.1 ≤ 9223372036854775807 ∧ p.2.length ≤ 2000000) :
    ∃ a c, e = .returned (.agg #[.slice a r.1.length c, .int .i64 r.2]) ∧ InPcs w' a r.1.length r.1 ∧ Below w.heap.size w w' := by
  obtain ⟨v, rfl, ho, hb⟩ := h
  obtain ⟨a, c, rfl, hr⟩ := inPcs_row ho hm hf
  exact ⟨a, c, rfl, hr, hb⟩
theorem tiny_bytes {L : List Pc} {n : Int} {t : List UInt8} (h : AnyL L) (ht : t.length ≤ 11) : bytesN (putN L n t) ≤ 1900000 := by
  have h2 := bytesN_fill L n (n, t)
  have h3 : (L.length + 1) * t.length ≤ 61 * 11 := Nat.mul_le_mul (by have := h.2; omega) ht
  have h4 := h.1.1
  unfold putN
  rw [bytesN_joinN]
  dsimp only at h2
  omega
theorem anyL_in {w : World} {B : Nat} {v : Value} {L : List Pc} (ho : w.ownsRow B 69 2 v L.length (pv L)) (h : AnyL L) : ∃ a c, v = .slice a L.length c ∧ InPcs w a L.length L :=
  inPcs_row ho (by have := h.2; omega) (tiny_fits h.1 (by omega))
/-- An answer in a box. -/
structure PB (w : World) (b : Nat) (v : Value) (c : Int) : Prop where
  c0 : w.cell? ⟨b, 0, none⟩ = some v
  c1 : w.cell? ⟨b, 1, none⟩ = some (.int .i64 c)
theorem PB.below {w w' : World} {b : Nat} {v : Value} {c : Int} (h : PB w b v c) (hb : Below w.heap.size w w') : PB w' b v c :=
  ⟨(hb.cell (World.block_lt_of_cell? w _ h.c0)).trans h.c0, (hb.cell (World.block_lt_of_cell? w _ h.c1)).trans h.c1⟩
theorem pb_two (w : World) (v v' : Value) (c c' : Int) : PB ((w.alloc (.cells #[v, .int .i64 c] 27)).alloc (.cells #[v', .int .i64 c'] 27)) w.heap.size v c ∧ PB ((w.alloc (.cells #[v, .int .i64 c] 27)).alloc (.cells #[v', .int .i64 c'] 27)) (w.heap.size + 1) v' c' ∧
    Below w.heap.size w ((w.alloc (.cells #[v, .int .i64 c] 27)).alloc (.cells #[v', .int .i64 c'] 27)) := by
  refine ⟨⟨by simp, by simp⟩, ⟨?_, ?_⟩, ((Below.refl _ _).alloc (Nat.le_refl _) _).alloc (by simp) _⟩
  · simp
  · simp
end Go.Proofs.Ytjcdcaannajnpaa
