/- Two texts of one stream, put in twice. -/
import Derived.Test.YtjcdcaannajnpaaFnEnv
import Derived.Test.YtjcdcaannajnpaaSlice
namespace Go.Proofs.Ytjcdcaannajnpaa
open Go.RowKit

theorem inPcs_nil {w : World} {a : Option Addr} : InPcs w a 0 [] := ⟨rfl, by omega, (fun h => by omega), (fun _ _ _ i hi => by omega), (fun i hi => by omega)⟩
theorem part_len {T : List UInt8} {i n : Nat} (h : i + n ≤ T.length) : ((T.drop i).take n).length = n := by simp; omega
/-- A put's answer: where its row lies. -/
theorem outRow_new {w w' : World} {r : List Pc × Int} {e : Ending} (h : OutRow w r e w') (hm : r.1.length ≤ 2000000) (hf : ∀ p ∈ r.1, -9223372036854775808 ≤ p.1 ∧ p.1 ≤ 9223372036854775807 ∧ p.2.length ≤ 2000000) :
    ∃ a c, e = .returned (.agg #[.slice a r.1.length c, .int .i64 r.2]) ∧ InPcs w' a r.1.length r.1 ∧ (∀ b o, a = some ⟨b, o, none⟩ → w.heap.size ≤ b ∧ b < w'.heap.size) ∧ Below w.heap.size w w' := by
  obtain ⟨v, rfl, ho, hb⟩ := h
  obtain ⟨a, c, rfl, hr⟩ := inPcs_row ho hm hf
  refine ⟨a, c, rfl, hr, fun b o hab => ?_, hb⟩
  subst hab
  rcases ho.2 with ⟨h, _⟩ | ⟨g, cap, cur, he, hbg, hgg, _⟩
  · cases h
  · injection he with he1 _ _
    injection he1 with he1
    injection he1 with he1 _ _
    subst he1
    exact ⟨hbg, (Array.getElem?_eq_some_iff.1 hgg).1⟩
/-- A row of pieces does not turn where another block is written. -/
theorem InPcs.set {w : World} {a : Option Addr} {len : Nat} {l : List Pc} (h : InPcs w a len l) (x : Addr) (v : Value) (hne : ∀ b o, a = some ⟨b, o, none⟩ → b ≠ x.block) : InPcs (w.setCell x v) a len l :=
  ⟨h.long, h.most, h.there, fun b o hb i hi => by
    obtain ⟨c0, c1⟩ := h.cell b o hb i hi
    have hh : (w.setCell x v).heap[b]? = w.heap[b]? := Below.heap_setCell w x v b (hne b o hb)
    exact ⟨(World.cell?_of_block (a := ⟨b, o + i * 2, none⟩) hh).trans c0, (World.cell?_of_block (a := ⟨b, o + i * 2 + 1, none⟩) hh).trans c1⟩, h.fit⟩
/-- A put of a small text into a small list. -/
theorem putT_calls {a : Option Addr} {len cap b : Nat} {l : List Pc} {w : World} (h : InPcs w a len l) (hc : canonG (-1) l) (ht : Tiny b l) (hb : b ≤ 1000000) (hl : l.length ≤ 10) (n : Int) (t : List UInt8) (h0 : 0 ≤ n) (h1 : n ≤ 100) (htl : t.length ≤ 20) :
    Calls Try.prog 9 #[.slice a len cap, .int .i64 n, gs t] w fun e w' => ∃ a' len' c', e = .returned (.agg #[.slice a' len' c', .int .i64 0]) ∧ InPcs w' a' len' (putN l n t) ∧ (∀ b o, a' = some ⟨b, o, none⟩ → w.heap.size ≤ b ∧ b < w'.heap.size) ∧ Below w.heap.size w w' := by
  obtain ⟨h2, h3, h4, h5⟩ := putR_ok hc ht hl h0 h1 htl
  refine (putRI_calls (cap := cap) h n t (by omega) (by have := ht.1; omega)).mono ?_
  rw [h2]
  intro e w' ho
  obtain ⟨a', c', he, hi, hn, hb'⟩ := outRow_new ho (by show (putN l n t).length ≤ _; omega) (tiny_fits h4 (by omega))
  exact ⟨a', _, c', he, hi, hn, hb'⟩
theorem field_pieces (a : Option Addr) (l c : Nat) (W : World) : (Instr.field 27 (.agg #[.slice a l c, .int .i64 0]) 0).run Try.prog W = .ok (.slice a l c) W := by kernel_rfl
/-- An answer in a box of the call's own, and its row of pieces. -/
def AtBox (w0 w : World) (M : List Pc) (v : Value) : Prop := ∃ b a l c, v = .pointer (some ⟨b, 0, none⟩) ∧ PB w b (.slice a l c) 0 ∧ InPcs w a l M ∧ Below w0.heap.size w0 w
theorem atBox_new {w0 w : World} {a : Option Addr} {l c : Nat} {M : List Pc} (h : InPcs w a l M) (hb : Below w0.heap.size w0 w) : AtBox w0 (w.alloc (.cells #[.slice a l c, .int .i64 0] 27)) M (.pointer (some ⟨w.heap.size, 0, none⟩)) :=
  ⟨_, a, l, c, rfl, ⟨by simp, by simp⟩, h.below ((Below.refl _ _).alloc (Nat.le_refl _) _), hb.alloc hb.size _⟩
theorem atBox_set {w0 w : World} {g : Nat} {u v : Value} {a : Option Addr} {l c : Nat} {M : List Pc} (h0 : w.cell? ⟨g, 0, none⟩ = some u) (h1 : w.cell? ⟨g, 1, none⟩ = some v) (h : InPcs w a l M) (hne : ∀ b o, a = some ⟨b, o, none⟩ → b ≠ g) (hg : w0.heap.size ≤ g) (hb : Below w0.heap.size w0 w) :
    AtBox w0 ((w.setCell ⟨g, 0, none⟩ (.slice a l c)).setCell ⟨g, 1, none⟩ (.int .i64 0)) M (.pointer (some ⟨g, 0, none⟩)) := by
  refine ⟨g, a, l, c, rfl, ⟨?_, ?_⟩, (h.set _ _ hne).set _ _ hne, (hb.setCell hg _).setCell hg _⟩
  · rw [World.cell?_setCell_other _ _ _ _ (by simp)]
    exact World.cell?_setCell_same _ _ _ h0
  · refine World.cell?_setCell_same (u := v) _ _ _ ?_
    rw [World.cell?_setCell_other _ _ _ _ (by simp)]
    exact h1
theorem two_facts {T : List UInt8} {i k n m : Nat} (hi : i + n ≤ T.length) (hk : k + m ≤ T.length) (hT : T.length = 26) (hn : n ≤ 6) (hm : m ≤ 6) (hn1 : 1 ≤ n) :
    let M := putN (putN [] i ((T.drop i).take n)) k ((T.drop k).take m)
    (canonG (-1) (putN [] i ((T.drop i).take n)) ∧ Tiny 220 (putN [] i ((T.drop i).take n)) ∧ (putN [] i ((T.drop i).take n)).length ≤ 10) ∧
    M = putN (putN [] k ((T.drop k).take m)) i ((T.drop i).take n) ∧
    n ≤ (fromR M i).length ∧ (fromR M i).take n = (T.drop i).take n := by
  have li := part_len hi
  have lk := part_len hk
  obtain ⟨_, a1, a2, a3⟩ := putR_ok (L := []) (n := (i : Int)) (t := (T.drop i).take n) (b := 0) trivial (tiny_nil 0) (by simp) (by omega) (by omega) (by omega)
  obtain ⟨_, b1, b2, b3⟩ := putR_ok (n := (k : Int)) (t := (T.drop k).take m) a1 a2 (by simp at a3; omega) (by omega) (by omega) (by omega)
  have hr := tiny_right b1 b2 (by simp at a3; omega)
  refine ⟨⟨a1, a2, by simp at a3; omega⟩, put_two hi hk, ?_⟩
  unfold fromR
  rw [if_pos hr]
  have hw := from_whole _ (-1) i ((T.drop i).take n) b1 (by intro he; rw [he] at li; simp at li; omega) (fun j hj => ?_)
  · rw [li] at hw; exact hw
  · rw [li] at hj
    rw [put_byte a1 (by omega)]
    unfold wasOr
    rw [put_byte (l := []) trivial (by omega)]
    unfold wasOr
    rw [byte_text hi, if_pos (by omega)]
    have e : (T.drop i |>.take n)[j]? = T[i + j]? := by rw [List.getElem?_take, if_pos hj, List.getElem?_drop]
    rw [e]
    have e2 : ((i : Int) + (j : Int)).toNat = i + j := by omega
    rw [e2, List.getElem?_eq_getElem (by omega : i + j < T.length)]
    rfl
theorem slice_text2 {P : Program} {U : TypeId} (hU : P.underlying U = some .string) (t : List UInt8) (v : Value) (hv : v = gs t) (b n : Nat) (e : Int) (he : e = (b : Int) + (n : Int)) (h : b + n ≤ t.length) (W : World) :
    (Instr.slice U v (some (.int .i64 (b : Int))) (some (.int .i64 e)) none).run P W = .ok (gs ((t.drop b).take n)) W := by
  subst he hv
  exact slice_text hU t b n h W
end Go.Proofs.Ytjcdcaannajnpaa
