/- Rows of Lines that have no Out, and the laws' marks on them. -/
import Derived.Test.YtfjmcmdkmecgiaaLnsLaw
namespace Go.Proofs.Ytfjmcmdkmecgiaa
open Go.RowKit

/-- Lines without Out in a row, from a's block's beginning on. -/
structure NL (w : World) (g len : Nat) (n : Sns) : Prop where
  cell : ∀ i, i < len → At5 w g (i * 6) (snAt n i) ∧ w.cell? ⟨g, i * 6 + 5, none⟩ = some (.slice none 0 0)
  op : OpenLg w g (len * 6)
  lt : g < w.heap.size
theorem NL.blk {w w' : World} {g len : Nat} {n : Sns} (h : NL w g len n) (hb : w'.heap[g]? = w.heap[g]?) (hs : w.heap.size ≤ w'.heap.size) : NL w' g len n :=
  ⟨fun i hi => ⟨(h.cell i hi).1.blk hb, (World.cell?_of_block (a := ⟨g, i * 6 + 5, none⟩) hb).trans (h.cell i hi).2⟩, h.op.kept hb, Nat.lt_of_lt_of_le h.lt hs⟩
theorem NL.below {w w' : World} {g len : Nat} {n : Sns} (h : NL w g len n) (hb : Below w.heap.size w w') : NL w' g len n := h.blk (hb.block g h.lt) hb.size
/-- Such a row, wherever it lies, or none. -/
structure NLa (w : World) (a : Option Addr) (len : Nat) (n : Sns) : Prop where
  long : n.length = len
  most : len ≤ 4
  fit : ∀ i, i < len → Fit5 (snAt n i)
  there : 0 < len → ∃ g, a = some ⟨g, 0, none⟩
  row : ∀ b o, a = some ⟨b, o, none⟩ → 0 < len → o = 0 ∧ NL w b len n
theorem NLa.blk {w w' : World} {a : Option Addr} {len : Nat} {n : Sns} (h : NLa w a len n) (hb : ∀ b, LgB a len b → w'.heap[b]? = w.heap[b]?) (hs : w.heap.size ≤ w'.heap.size) : NLa w' a len n :=
  ⟨h.long, h.most, h.fit, h.there, fun b o e hl => ⟨(h.row b o e hl).1, (h.row b o e hl).2.blk (hb b ⟨hl, o, e⟩) hs⟩⟩
theorem NLa.lt {w : World} {a : Option Addr} {len : Nat} {n : Sns} (h : NLa w a len n) {b : Nat} (hb : LgB a len b) : b < w.heap.size := by
  obtain ⟨hl, o, e⟩ := hb
  exact (h.row b o e hl).2.lt
theorem NLa.below {w w' : World} {a : Option Addr} {len : Nat} {n : Sns} (h : NLa w a len n) (hb : Below w.heap.size w w') : NLa w' a len n := h.blk (fun b hl => hb.block b (h.lt hl)) hb.size
theorem nla_nil {w : World} {a : Option Addr} : NLa w a 0 [] := ⟨rfl, by omega, (fun i hi => by omega), (fun h => by omega), (fun _ _ _ h => by omega)⟩
/-- Lines without Out. -/
def bare (n : Sns) : Lns := n.map fun p => (p, [])
theorem bare_len (n : Sns) : (bare n).length = n.length := by simp [bare]
theorem bare_at {n : Sns} {i : Nat} (h : i < n.length) : lnAt (bare n) i = (snAt n i, []) := by
  rw [lnAt_get (by rw [bare_len]; exact h), snAt_get h]; simp [bare]
theorem NLa.in' {w : World} {a : Option Addr} {len : Nat} {n : Sns} (h : NLa w a len n) : InLns (LgB a len) w a len (bare n) := by
  have hl := h.long
  refine ⟨by rw [bare_len]; exact h.long, by have := h.most; omega, fun h0 => by obtain ⟨g, e⟩ := h.there h0; exact ⟨g, 0, e⟩, fun b o e i hi => ?_, fun i hi => by rw [bare_at (by omega)]; exact h.fit i hi⟩
  obtain ⟨rfl, hr⟩ := h.row b o e (by omega)
  rw [bare_at (by omega), Nat.zero_add]
  exact ⟨⟨by omega, 0, e⟩, (hr.cell i hi).1, none, 0, (hr.cell i hi).2, inSn_nil, fun _ _ e _ => by cases e⟩
/-- Five marks from q on. -/
def mark5 (q : Nat) : F5 := ((q : Int), (q : Int) + 1, (q : Int) + 1 + 1, (q : Int) + 1 + 1 + 1, (q : Int) + 1 + 1 + 1 + 1)
def nlMarks (k len : Nat) : Sns := (List.range len).map fun i => mark5 (k + 5 * i)
theorem nlMarks_len (k len : Nat) : (nlMarks k len).length = len := by simp [nlMarks]
theorem nlMarks_at {k len i : Nat} (h : i < len) : snAt (nlMarks k len) i = mark5 (k + 5 * i) := by simp [snAt, nlMarks, List.getD, h]
theorem markSentS_none (a : Option Addr) (c : Nat) (k : Int) (w : World) : Calls Try.prog 61 #[.slice a 0 c, .int .i64 k] w fun e w' => e = .returned (.int .i64 k) ∧ Below w.heap.size w w' := by
  go_enter Try.func61, Try.ntmps61
  go_wp2_with fail
  go_loopw [1, 5] (fun v i wr => v = .int .i64 k ∧ i = .int .i64 0 ∧ Below w.heap.size w wr) (fun _ _ _ => 0)
  case atStart => exact ⟨rfl, rfl, Below.refl _ _⟩
  case round =>
    obtain ⟨rfl, rfl, hbl⟩ := hrel
    go_wp2_with fail
    go_ret
    exact ⟨rfl, hbl⟩
theorem heldSentS_none (a : Option Addr) (c : Nat) (k : Int) (w : World) : Calls Try.prog 62 #[.slice a 0 c, .int .i64 k] w fun e w' => e = .returned (.int .i64 k) ∧ Below w.heap.size w w' := by
  go_enter Try.func62, Try.ntmps62
  go_wp2_with fail
  go_loopw [1, 5] (fun v i wr => v = .int .i64 k ∧ i = .int .i64 0 ∧ Below w.heap.size w wr) (fun _ _ _ => 0)
  case atStart => exact ⟨rfl, rfl, Below.refl _ _⟩
  case round =>
    obtain ⟨rfl, rfl, hbl⟩ := hrel
    go_wp2_with fail
    go_ret
    exact ⟨rfl, hbl⟩
/-- The first j Lines are marked. -/
structure NlUp (w : World) (g len k j : Nat) : Prop where
  done : ∀ i, i < j → At5 w g (i * 6) (mark5 (k + 5 * i))
  out : ∀ i, i < len → w.cell? ⟨g, i * 6 + 5, none⟩ = some (.slice none 0 0)
  op : OpenLg w g (len * 6)
  lt : g < w.heap.size
theorem NlUp.below {w w' : World} {g len k j : Nat} (h : NlUp w g len k j) (hb : Below w.heap.size w w') : NlUp w' g len k j :=
  ⟨fun i hi => (h.done i hi).below hb, fun i hi => (hb.cell h.lt).trans (h.out i hi), h.op.below h.lt hb, Nat.lt_of_lt_of_le h.lt hb.size⟩
theorem nlUp_succ {w : World} {g len k j : Nat} (h : NlUp w g len k j) (hj : j < len) : NlUp (put5 w g (j * 6) (mark5 (k + 5 * j))) g len k (j + 1) := by
  refine ⟨fun i hi => ?_, fun i hi => ?_, h.op.put5 _ _, by simpa [put5] using h.lt⟩
  · by_cases e : i = j
    · subst e
      exact at5_put h.op (by omega) _
    · exact (h.done i (by omega)).put5 (by omega)
  · have c {W : World} {q : Nat} {v x : Value} (hi : q ≠ i * 6 + 5) (h : W.cell? ⟨g, i * 6 + 5, none⟩ = some x) : (W.setCell ⟨g, q, none⟩ v).cell? ⟨g, i * 6 + 5, none⟩ = some x := (World.cell?_setCell_other _ _ _ _ (fun e => by injection e; omega)).trans h
    exact c (by omega) (c (by omega) (c (by omega) (c (by omega) (c (by omega) (h.out i hi)))))
theorem kept_put5 {S : Nat → Prop} {w : World} {g : Nat} (hg : S g) (o : Nat) (p : F5) : Kept S w (put5 w g o p) :=
  ((((kept_set w g o _ hg).trans (kept_set _ g (o + 1) _ hg)).trans (kept_set _ g (o + 2) _ hg)).trans (kept_set _ g (o + 3) _ hg)).trans (kept_set _ g (o + 4) _ hg)
set_option maxHeartbeats 2000000 in
set_option maxRecDepth 100000 in
theorem markLineS_bare {w : World} {a : Option Addr} {len cap k : Nat} {n : Sns} (h : NLa w a len n) (hk : k ≤ 1000000) :
    Calls Try.prog 49 #[.slice a len cap, .int .i64 (k : Int)] w fun e w' => e = .returned (.int .i64 ((k + 5 * len : Nat) : Int)) ∧ NLa w' a len (nlMarks k len) ∧ Kept (LgB a len) w w' := by
  have hm := h.most
  have hlen := h.long
  have HM := Lib.hid (fun q W => markSentS_none none 0 q W)
  by_cases h0 : len = 0
  · subst h0
    have hr : NLa w a 0 (nlMarks k 0) := nla_nil
    clear h HM
    go_enter Try.func49, Try.ntmps49
    go_wp2_with fail
    go_loopw [1, 5] (fun v i wr => v = .int .i64 (k : Int) ∧ i = .int .i64 0 ∧ wr = w) (fun _ _ _ => 0)
    case atStart => exact ⟨rfl, rfl, rfl⟩
    case round =>
      obtain ⟨rfl, rfl, rfl⟩ := hrel
      go_wp2_with fail
      go_ret
      exact ⟨by simp, hr, Kept.refl _ _⟩
  · obtain ⟨g, rfl⟩ := h.there (by omega)
    have hr := (h.row g 0 rfl (by omega)).2
    have HUP := Lib.hid (show NlUp w g len k 0 from ⟨fun i hi => by omega, fun i hi => (hr.cell i hi).2, hr.op, hr.lt⟩)
    clear h hr
    go_enter Try.func49, Try.ntmps49
    go_wp2_with fail
    go_loopw [1, 5] (fun v i wr => ∃ j : Nat, v = .int .i64 ((k + 5 * j : Nat) : Int) ∧ i = .int .i64 (j : Int) ∧ j ≤ len ∧ NlUp wr g len k j ∧ Kept (LgB (some ⟨g, 0, none⟩) len) w wr) (fun _ i _ => len - (intOf i).toNat)
    case atStart => exact ⟨0, rfl, rfl, Nat.zero_le _, HUP.out, Kept.refl _ _⟩
    case round =>
      clear HUP
      obtain ⟨j, rfl, rfl, hj, hup, hkp⟩ := hrel
      by_cases hjl : j < len
      · have hgl := hup.lt
        obtain ⟨u0, e0⟩ := hup.op.there (j * 6) (by omega)
        obtain ⟨u1, e1⟩ := hup.op.there (j * 6 + 1) (by omega)
        obtain ⟨u2, e2⟩ := hup.op.there (j * 6 + 2) (by omega)
        obtain ⟨u3, e3⟩ := hup.op.there (j * 6 + 3) (by omega)
        obtain ⟨u4, e4⟩ := hup.op.there (j * 6 + 4) (by omega)
        have f0 := hup.op.free (j * 6) (by omega)
        have f1 := hup.op.free (j * 6 + 1) (by omega)
        have f2 := hup.op.free (j * 6 + 2) (by omega)
        have f3 := hup.op.free (j * 6 + 3) (by omega)
        have f4 := hup.op.free (j * 6 + 4) (by omega)
        have e5 := hup.out j hjl
        have hN := nlUp_succ hup hjl
        have hK := hkp.trans (kept_put5 (S := LgB (some ⟨g, 0, none⟩) len) ⟨by omega, 0, rfl⟩ (j * 6) (mark5 (k + 5 * j)))
        have hq2 : ((k + 5 * (j + 1) : Nat) : Int) = ((k + 5 * j : Nat) : Int) + 1 + 1 + 1 + 1 + 1 := by omega
        have HQ2 := Lib.hid hq2
        have hq0 : k + 5 * j ≤ 2000000 := by omega
        clear hup hkp hq2
        generalize k + 5 * j = q at *
        have HN := Lib.hid hN
        have HK := Lib.hid hK
        clear hN hK
        go_wp2_with fail
        (with_reducible refine (HM.out _ _).mono ?_); rintro e w1 ⟨rfl, hb1⟩
        have HN1 := Lib.hid (HN.out.below hb1)
        have HK1 := Lib.hid (HK.out.trans (kept_below hb1))
        clear HN HK hb1 e0 e1 e2 e3 e4 e5 f0 f1 f2 f3 f4
        go_wp2_with fail
        go_roundw
        case rel => exact ⟨j + 1, by rw [HQ2.out], by go_num, by omega, HN1.out, HK1.out⟩
        case measure => simp [intOf]; omega
      · obtain rfl : j = len := by omega
        have hr : NLa wr (some ⟨g, 0, none⟩) j (nlMarks k j) := ⟨nlMarks_len _ _, hm, fun i hi => by rw [nlMarks_at hi]; unfold mark5 Fit5; dsimp only; omega, fun _ => ⟨g, rfl⟩, fun b o e _ => by
          cases e
          exact ⟨rfl, fun i hi => by rw [nlMarks_at hi]; exact ⟨hup.done i hi, hup.out i hi⟩, hup.op, hup.lt⟩⟩
        have HRR := Lib.hid hr
        have HK := Lib.hid hkp
        clear hr hkp hup HM
        go_wp2_with fail
        go_ret
        exact ⟨rfl, HRR.out, HK.out⟩
set_option maxHeartbeats 2000000 in
set_option maxRecDepth 100000 in
theorem heldLineS_bare {w : World} {a : Option Addr} {len cap k : Nat} (h : NLa w a len (nlMarks k len)) (hk : k ≤ 1000000) :
    Calls Try.prog 51 #[.slice a len cap, .int .i64 (k : Int)] w fun e w' => e = .returned (.int .i64 ((k + 5 * len : Nat) : Int)) ∧ Below w.heap.size w w' := by
  have hm := h.most
  have HM := Lib.hid (fun q W => heldSentS_none none 0 q W)
  go_enter Try.func51, Try.ntmps51
  go_wp2_with fail
  go_loopw [1, 5] (fun v i wr => ∃ j : Nat, v = .int .i64 ((k + 5 * j : Nat) : Int) ∧ i = .int .i64 (j : Int) ∧ j ≤ len ∧ Below w.heap.size w wr) (fun _ i _ => len - (intOf i).toNat)
  case atStart => exact ⟨0, rfl, rfl, Nat.zero_le _, Below.refl _ _⟩
  case round =>
    obtain ⟨j, rfl, rfl, hj, hbl⟩ := hrel
    by_cases hjl : j < len
    · have hh := h.below hbl
      obtain ⟨g, rfl⟩ := hh.there (by omega)
      obtain ⟨⟨c0, c1, c2, c3, c4⟩, c5⟩ := (hh.row g 0 rfl (by omega)).2.cell j hjl
      rw [nlMarks_at hjl] at c0 c1 c2 c3 c4
      have hq2 : ((k + 5 * (j + 1) : Nat) : Int) = ((k + 5 * j : Nat) : Int) + 1 + 1 + 1 + 1 + 1 := by omega
      have HQ2 := Lib.hid hq2
      have hq0 : k + 5 * j ≤ 2000000 := by omega
      have HBL := Lib.hid hbl
      clear hh h hbl hq2
      generalize k + 5 * j = q at *
      unfold mark5 at c0 c1 c2 c3 c4
      dsimp only at c0 c1 c2 c3 c4
      go_wp2_with fail
      (with_reducible refine (HM.out _ _).mono ?_); rintro e w1 ⟨rfl, hb1⟩
      have HB1 := Lib.hid (HBL.out.trans (hb1.mono HBL.out.size))
      clear hb1 HBL
      go_wp2_with fail
      go_roundw
      case rel => exact ⟨j + 1, by rw [HQ2.out], by go_num, by omega, HB1.out⟩
      case measure => simp [intOf]; omega
    · obtain rfl : j = len := by omega
      clear h HM
      go_wp2_with fail
      go_ret
      exact ⟨rfl, hbl⟩
end Go.Proofs.Ytfjmcmdkmecgiaa
