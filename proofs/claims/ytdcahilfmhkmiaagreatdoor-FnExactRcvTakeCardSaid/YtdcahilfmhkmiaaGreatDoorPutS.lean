/- The model's l02Put. -/
import Derived.Test.YtdcahilfmhkmiaaGreatDoorJoinS
import Derived.Deep.DeepCutAuto
namespace Go.Proofs.YtdcahilfmhkmiaaGreatDoor
open Go.RowKit

/-- What the model's loop does behind a piece. -/
def putTail (l : List Pc) (p : Pc) (e N : Int) (T : List UInt8) : List Pc :=
  if 0 < min e (pcEnd p) - N ∧ p.1 ≤ N then putGo l (min e (pcEnd p)) (T.drop (min e (pcEnd p) - N).toNat) else putGo l N T
theorem putGo_cons (p : Pc) (l : List Pc) (n : Int) (t : List UInt8) : putGo (p :: l) n t =
    if n < p.1 ∧ 0 < min (n + t.length) p.1 - n then (n, t.take (min (n + t.length) p.1 - n).toNat) :: p :: putTail l p (n + t.length) (min (n + t.length) p.1) (t.drop (min (n + t.length) p.1 - n).toNat)
    else p :: putTail l p (n + t.length) n t := by
  rw [putGo.eq_2]
  unfold putTail
  split
  · rw [List.drop_drop]
    split
    · rename_i h1 h2
      have e : (min (n + (t.length : Int)) p.1 - n).toNat + (min (n + (t.length : Int)) (pcEnd p) - min (n + (t.length : Int)) p.1).toNat = (min (n + (t.length : Int)) (pcEnd p) - n).toNat := by omega
      rw [e]
    · rfl
  · rfl
theorem minS_calls (a b : Int) (w : World) : Calls Tryz.prog 73 #[.int .i64 a, .int .i64 b] w fun e w' => e = .returned (.int .i64 (min a b)) ∧ w' = w := by
  by_cases h : a < b
  · have hm : min a b = a := by omega
    rw [hm]
    go_enter Tryz.func73, Tryz.ntmps73
    go_wp2
    all_goals first
      | (go_ret; exact ⟨rfl, rfl⟩)
      | (exfalso; omega)
  · have hm : min a b = b := by omega
    rw [hm]
    go_enter Tryz.func73, Tryz.ntmps73
    go_wp2
    all_goals first
      | (go_ret; exact ⟨rfl, rfl⟩)
      | (exfalso; omega)

structure PutAt (w : World) (L : List Pc) (n : Int) (t : List UInt8) (wr : World) (k : Nat) (acc : List Pc) (N : Int) (T : List UInt8) (v : Value) : Prop where
  row : wr.ownsRow w.heap.size 121 2 v acc.length (pv acc)
  le : acc.length ≤ 2 * k
  out : putGo L n t = acc ++ putGo (L.drop k) N T
  time : ∀ p ∈ acc, 0 ≤ p.1 ∧ p.1 ≤ 2000000
  end' : N + T.length = n + t.length
  low : n ≤ N
  sum : bytesN acc + bytesN (L.drop k) + T.length ≤ bytesN L + t.length
  below : Below w.heap.size w wr
/-- .. in the middle of a round. -/
structure MidAt (w : World) (L : List Pc) (n : Int) (t : List UInt8) (wr : World) (k : Nat) (p : Pc) (acc : List Pc) (N : Int) (T : List UInt8) (v : Value) : Prop where
  row : wr.ownsRow w.heap.size 121 2 v acc.length (pv acc)
  le : acc.length ≤ 2 * k + 1
  out : putGo L n t = acc ++ p :: putTail (L.drop (k + 1)) p (n + t.length) N T
  time : ∀ p ∈ acc, 0 ≤ p.1 ∧ p.1 ≤ 2000000
  end' : N + T.length = n + t.length
  low : n ≤ N
  sum : bytesN acc + (p.2.length + bytesN (L.drop (k + 1))) + T.length ≤ bytesN L + t.length
  below : Below w.heap.size w wr
theorem PutAt.mid0 {w wr : World} {L : List Pc} {n N : Int} {t T : List UInt8} {k : Nat} {acc : List Pc} {v : Value} {p : Pc} (h : PutAt w L n t wr k acc N T v) (hd : L.drop k = p :: L.drop (k + 1)) (hc : ¬ (N < p.1 ∧ 0 < min (n + t.length) p.1 - N)) :
    MidAt w L n t wr k p acc N T v :=
  ⟨h.row, by have := h.le; omega, by rw [h.out, hd, putGo_cons, h.end', if_neg hc], h.time, h.end', h.low, by have := h.sum; rw [hd] at this; simpa [bytesN] using this, h.below⟩
theorem PutAt.mid1 {w wr w2 : World} {L : List Pc} {n N : Int} {t T : List UInt8} {k : Nat} {acc : List Pc} {v v2 : Value} {p : Pc} (h : PutAt w L n t wr k acc N T v) (hd : L.drop k = p :: L.drop (k + 1)) (hc : N < p.1 ∧ 0 < min (n + t.length) p.1 - N) (hn : 0 ≤ n) (hp : p.1 ≤ 1000000)
    (hrow : w2.ownsRow w.heap.size 121 2 v2 (acc ++ [(N, T.take (min (n + t.length) p.1 - N).toNat)]).length (pv (acc ++ [(N, T.take (min (n + t.length) p.1 - N).toNat)]))) (hb : Below w.heap.size w w2) :
    MidAt w L n t w2 k p (acc ++ [(N, T.take (min (n + t.length) p.1 - N).toNat)]) (min (n + t.length) p.1) (T.drop (min (n + t.length) p.1 - N).toNat) v2 := by
  have he := h.end'
  have hl := h.low
  refine ⟨hrow, by have := h.le; simp; omega, by rw [h.out, hd, putGo_cons, h.end', if_pos hc]; simp, fun q hq => ?_, ?_, by omega, ?_, hb⟩
  · rcases List.mem_append.1 hq with hq | hq
    · exact h.time q hq
    · simp at hq; subst hq; exact ⟨by show 0 ≤ N; omega, by show N ≤ 2000000; omega⟩
  · rw [List.length_drop]; omega
  · have := h.sum
    rw [hd] at this
    rw [bytesN_app]
    simp only [bytesN, List.length_take, List.length_drop] at this ⊢
    omega
/-- Behind the piece: what was told of it goes, or nothing. -/
theorem MidAt.next {w wr w2 : World} {L : List Pc} {n N : Int} {t T : List UInt8} {k : Nat} {acc : List Pc} {v v2 : Value} {p : Pc} (h : MidAt w L n t wr k p acc N T v) (hp0 : 0 ≤ p.1) (hp1 : p.1 ≤ 1000000)
    (hrow : w2.ownsRow w.heap.size 121 2 v2 (acc ++ [p]).length (pv (acc ++ [p]))) (hb : Below w.heap.size w w2) :
    (0 < min (n + t.length) (pcEnd p) - N ∧ p.1 ≤ N → PutAt w L n t w2 (k + 1) (acc ++ [p]) (min (n + t.length) (pcEnd p)) (T.drop (min (n + t.length) (pcEnd p) - N).toNat) v2) ∧
    (¬ (0 < min (n + t.length) (pcEnd p) - N ∧ p.1 ≤ N) → PutAt w L n t w2 (k + 1) (acc ++ [p]) N T v2) := by
  have ht : ∀ q ∈ acc ++ [p], 0 ≤ q.1 ∧ q.1 ≤ 2000000 := fun q hq => by
    rcases List.mem_append.1 hq with hq | hq
    · exact h.time q hq
    · simp at hq; subst hq; exact ⟨hp0, by omega⟩
  have he := h.end'
  have hl := h.low
  have hs := h.sum
  refine ⟨fun hc => ⟨hrow, by have := h.le; simp; omega, ?_, ht, ?_, by omega, ?_, hb⟩, fun hc => ⟨hrow, by have := h.le; simp; omega, ?_, ht, he, hl, ?_, hb⟩⟩
  · rw [h.out]; unfold putTail; rw [if_pos hc]; simp
  · rw [List.length_drop]; omega
  · rw [bytesN_app]; simp only [bytesN, List.length_drop]; omega
  · rw [h.out]; unfold putTail; rw [if_neg hc]; simp
  · rw [bytesN_app]; simp only [bytesN]; omega
end Go.Proofs.YtdcahilfmhkmiaaGreatDoor
