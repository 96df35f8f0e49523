/- The laws' copy of a net: a net of its own. -/
import Derived.Test.YthimndilobadeaaDoorNet
import Derived.Test.YthimndilobadeaaDoorWayTo
namespace Go.Proofs.YthimndilobadeaaDoor
open Go.RowKit

theorem run_make_ways {P : Program} {t e : TypeId} {i : TypeInfo} (ht : P.underlying t = some (.slice e)) (hi : P.info? e = some i) (hz : i.zero = some (.agg #[.slice none 0 0, .slice none 0 0])) (h1 : i.size = 2) (h2 : i.bytes = 48)
    (n : Nat) (L : Int) (hL : L = (n : Int)) (hn : n ≤ 1000000000) (w : World) :
    (Instr.makeSlice t (.int .i64 L) (.int .i64 L)).run P w = .ok (.slice (some ⟨w.heap.size, 0, none⟩) n n) (w.alloc (.cells (madeCells #[.slice none 0 0, .slice none 0 0] (n * 2)) e)) := by
  subst hL
  have h := run_make (P := P) w t e i (.agg #[.slice none 0 0, .slice none 0 0]) ht hi hz .i64 .i64 n n (by omega) (by omega) (by rw [h2]; omega) (by omega)
  rw [h, h1]
  simp only [Int.toNat_natCast]
  rfl
/-- The first k ways of a net that the call makes. -/
structure NetPart (w : World) (g k : Nat) (n : Nt) (P Q : Nat → Nat) : Prop where
  cell : ∀ i, i < k → w.cell? ⟨g, i * 2, none⟩ = some (.slice (some ⟨P i, 0, none⟩) (wyAt n i).1.length (wyAt n i).1.length) ∧ w.cell? ⟨g, i * 2 + 1, none⟩ = some (.slice (some ⟨Q i, 0, none⟩) (wyAt n i).2.length (wyAt n i).2.length)
  there : ∀ i, i < k → InTx w (some ⟨P i, 0, none⟩) (wyAt n i).1.length (wyAt n i).1 ∧ OpenTx w (P i) (wyAt n i).1.length
  back : ∀ i, i < k → InTx w (some ⟨Q i, 0, none⟩) (wyAt n i).2.length (wyAt n i).2 ∧ OpenTx w (Q i) (wyAt n i).2.length
  order : ∀ i, i < k → g < P i ∧ P i < Q i ∧ Q i < w.heap.size
  chain : ∀ i j, i < j → j < k → Q i < P j
theorem netPart_zero (w : World) (g : Nat) (n : Nt) (P Q : Nat → Nat) : NetPart w g 0 n P Q := ⟨fun i h => by omega, fun i h => by omega, fun i h => by omega, fun i h => by omega, fun i j _ h => by omega⟩
theorem NetPart.below {w w' : World} {g k : Nat} {n : Nt} {P Q : Nat → Nat} (h : NetPart w g k n P Q) (hb : Below w.heap.size w w') : NetPart w' g k n P Q := by
  refine ⟨fun i hi => ?_, fun i hi => ?_, fun i hi => ?_, fun i hi => ?_, h.chain⟩
  · obtain ⟨c0, c1⟩ := h.cell i hi
    exact ⟨(hb.cell (World.block_lt_of_cell? w _ c0)).trans c0, (hb.cell (World.block_lt_of_cell? w _ c1)).trans c1⟩
  · have ho := h.order i hi
    exact ⟨(h.there i hi).1.below hb, (h.there i hi).2.below (by omega) hb⟩
  · have ho := h.order i hi
    exact ⟨(h.back i hi).1.below hb, (h.back i hi).2.below (by omega) hb⟩
  · have ho := h.order i hi
    have := hb.size
    omega
theorem NetPart.store {w : World} {g k o : Nat} {n : Nt} {P Q : Nat → Nat} (h : NetPart w g k n P Q) (hk : k * 2 ≤ o) (v : Value) : NetPart (w.setCell ⟨g, o, none⟩ v) g k n P Q := by
  refine ⟨fun i hi => ?_, fun i hi => ?_, fun i hi => ?_, fun i hi => ?_, h.chain⟩
  · obtain ⟨c0, c1⟩ := h.cell i hi
    exact ⟨(World.cell?_setCell_other _ _ _ _ (fun e => by injection e; omega)).trans c0, (World.cell?_setCell_other _ _ _ _ (fun e => by injection e; omega)).trans c1⟩
  · have ho := h.order i hi
    exact ⟨(h.there i hi).1.store (by show P i ≠ g; omega) v, (h.there i hi).2.store (by show P i ≠ g; omega) v⟩
  · have ho := h.order i hi
    exact ⟨(h.back i hi).1.store (by show Q i ≠ g; omega) v, (h.back i hi).2.store (by show Q i ≠ g; omega) v⟩
  · have ho := h.order i hi
    simpa using ho
theorem OpenTx.set {w : World} {g len o : Nat} (h : OpenTx w g len) (v : Value) : OpenTx (w.setCell ⟨g, o, none⟩ v) g len := by
  refine ⟨fun i hi => ?_, fun i hi => (World.frozen?_setCell _ _ _ _).trans (h.free i hi)⟩
  obtain ⟨u, hu⟩ := h.there i hi
  exact cell?_setCell_some hu
/-- One way more. -/
theorem netPart_succ {w : World} {g k p q len : Nat} {n : Nt} {P Q : Nat → Nat} (h : NetPart w g k n P Q) (hop : OpenTx w g (len * 2)) (hk : k < len) (hgp : g < p) (hpq : p < q) (hq : q < w.heap.size)
    (hold : ∀ i, i < k → Q i < p) (i1 : InTx w (some ⟨p, 0, none⟩) (wyAt n k).1.length (wyAt n k).1) (o1 : OpenTx w p (wyAt n k).1.length) (i2 : InTx w (some ⟨q, 0, none⟩) (wyAt n k).2.length (wyAt n k).2) (o2 : OpenTx w q (wyAt n k).2.length) :
    NetPart ((w.setCell ⟨g, k * 2, none⟩ (.slice (some ⟨p, 0, none⟩) (wyAt n k).1.length (wyAt n k).1.length)).setCell ⟨g, k * 2 + 1, none⟩ (.slice (some ⟨q, 0, none⟩) (wyAt n k).2.length (wyAt n k).2.length)) g (k + 1) n (fun i => if i = k then p else P i) (fun i => if i = k then q else Q i) := by
  obtain ⟨u0, hu0⟩ := hop.there (k * 2) (by omega)
  obtain ⟨u1, hu1⟩ := hop.there (k * 2 + 1) (by omega)
  generalize hv0 : Value.slice (some ⟨p, 0, none⟩) (wyAt n k).1.length (wyAt n k).1.length = v0
  generalize hv1 : Value.slice (some ⟨q, 0, none⟩) (wyAt n k).2.length (wyAt n k).2.length = v1
  have h2 := (h.store (o := k * 2) (Nat.le_refl _) v0).store (o := k * 2 + 1) (by omega) v1
  refine ⟨fun i hi => ?_, fun i hi => ?_, fun i hi => ?_, fun i hi => ?_, fun i j hij hj => ?_⟩
  · by_cases e : i = k
    · subst e
      simp only [↓reduceIte]
      exact ⟨(World.cell?_setCell_other _ _ _ _ (fun e => by injection e; omega)).trans ((World.cell?_setCell_same _ _ _ hu0).trans (by simp [← hv0])),
        (World.cell?_setCell_same _ _ _ ((World.cell?_setCell_other _ _ _ _ (fun e => by injection e; omega)).trans hu1)).trans (by simp [← hv1])⟩
    · simp only [if_neg e]
      exact h2.cell i (by omega)
  · by_cases e : i = k
    · subst e
      simp only [↓reduceIte]
      exact ⟨(i1.store (by show p ≠ g; omega) _).store (by show p ≠ g; omega) _, (o1.store (by show p ≠ g; omega) _).store (by show p ≠ g; omega) _⟩
    · simp only [if_neg e]
      exact h2.there i (by omega)
  · by_cases e : i = k
    · subst e
      simp only [↓reduceIte]
      exact ⟨(i2.store (by show q ≠ g; omega) _).store (by show q ≠ g; omega) _, (o2.store (by show q ≠ g; omega) _).store (by show q ≠ g; omega) _⟩
    · simp only [if_neg e]
      exact h2.back i (by omega)
  · by_cases e : i = k
    · simp only [if_pos e]
      exact ⟨hgp, hpq, by simpa using hq⟩
    · simp only [if_neg e]
      exact h2.order i (by omega)
  · have e1 : i ≠ k := by omega
    simp only [if_neg e1]
    by_cases e : j = k
    · simp only [if_pos e]; exact hold i (by omega)
    · simp only [if_neg e]; exact h.chain i j hij (by omega)
theorem netPart_own {w : World} {lo g len : Nat} {n : Nt} {P Q : Nat → Nat} (h : NetPart w g len n P Q) (hl : n.length = len) (hm : len ≤ 2000000) (h0 : lo ≤ g) (h1 : g < w.heap.size) : NetOwn w lo w.heap.size g len n P Q :=
  ⟨hl, hm, ⟨h0, h1⟩, Nat.le_refl _, h.cell, h.there, h.back, h.order, h.chain⟩

set_option maxHeartbeats 1000000 in
set_option maxRecDepth 100000 in
theorem toWayS_calls {S : Nat → Prop} {a : Option Addr} {len cap : Nat} {n : Nt} {w : World} (h : InNet S w a len n) :
    Calls Tryd.prog 7 #[.slice a len cap] w fun e w' => ∃ g P Q, e = .returned (.slice (some ⟨g, 0, none⟩) len len) ∧ NetOwn w' w.heap.size w'.heap.size g len n P Q ∧ Below w.heap.size w w' := by
  have hm := h.most
  have hlen := h.long
  have hzz : (Tryd.prog.info? 41).map (fun i => (i.zero, i.size, i.bytes)) = some (some (.agg #[.slice none 0 0, .slice none 0 0]), 2, 48) := by kernel_rfl
  cases hi : Tryd.prog.info? 41 with
  | none => rw [hi] at hzz; cases hzz
  | some i =>
    rw [hi] at hzz
    simp at hzz
    have hmk := run_make_ways (P := Tryd.prog) Tryd.underlying24 hi hzz.1 hzz.2.1 hzz.2.2 len (len : Int) rfl (by omega) w
    clear hzz hi
    have ho := World.ownsRow_lit (size := 2) (base := w.heap.size) (e := 41) w (madeCells #[.slice none 0 0, .slice none 0 0] (len * 2)) len (Nat.le_refl _) (by simp [maxLen]; omega) (size_madeCells _ _)
    generalize hg : w.heap.size = g at ho hmk
    have hbw : Below w.heap.size w (w.alloc (.cells (madeCells #[.slice none 0 0, .slice none 0 0] (len * 2)) 41)) := (Below.refl _ _).alloc (Nat.le_refl _) _
    have hlt : g < (w.alloc (.cells (madeCells #[.slice none 0 0, .slice none 0 0] (len * 2)) 41)).heap.size := by simp; omega
    generalize w.alloc (.cells (madeCells #[.slice none 0 0, .slice none 0 0] (len * 2)) 41) = w1 at *
    generalize (madeCells #[.slice none 0 0, .slice none 0 0] (len * 2)).toList = xs at *
    have hop : OpenTx w1 g (len * 2) := by
      have hx : xs.length = len * 2 := ho.1
      exact ⟨fun i hi => ⟨_, (ho.cellAt i (by omega)).trans (List.getElem?_eq_getElem (by omega))⟩, fun i _ => ho.frozenAt i⟩
    go_enter Tryd.func7, Tryd.ntmps7
    go_wp2_with fail
    go_loopw [4] (fun i wr => ∃ (k : Nat) (P Q : Nat → Nat), i = .int .i64 (k : Int) ∧ k ≤ len ∧ NetPart wr g k n P Q ∧ OpenTx wr g (len * 2) ∧ g < wr.heap.size ∧ Below g w wr) (fun i _ => len - (intOf i).toNat)
    case atStart => exact ⟨0, id, id, rfl, Nat.zero_le _, netPart_zero _ _ _ _ _, hop, hlt, hg ▸ hbw⟩
    case round =>
      clear hop hlt hbw hmk ho
      obtain ⟨k, P, Q, rfl, hk, hpt, hop, hlt, hbl⟩ := hrel
      by_cases hkl : k < len
      · have hh := h.below (hg ▸ hbl)
        obtain ⟨b, o, rfl⟩ := hh.there (by omega)
        obtain ⟨-, x, cx, y, cy, c0, c1, r0, r1, -, -⟩ := hh.cell b o rfl k hkl
        have hcall := toWay_calls (ca := cx) (cb := cy) r0 r1
        unfold WyCopied at hcall
        have HC := Lib.hid hcall
        have HP := Lib.hid hpt
        have HO := Lib.hid hop
        have HBL := Lib.hid hbl
        clear hh h hcall r0 r1 hpt hop hbl
        unfold wayV at HC
        go_wp2_with fail
        refine HC.out.mono ?_
        rintro e w2 ⟨p, q, rfl, i1, o1, i2, o2, hp1, hpq, hq2, hb2⟩
        have hop2 := HO.out.below hlt hb2
        obtain ⟨v0, e0⟩ := hop2.there (k * 2) (by omega)
        obtain ⟨v1, e1⟩ := hop2.there (k * 2 + 1) (by omega)
        have f0 := hop2.free (k * 2) (by omega)
        have f1 := hop2.free (k * 2 + 1) (by omega)
        have hst := netPart_succ (HP.out.below hb2) hop2 hkl (by omega) hpq hq2 (fun i hi => by have := (HP.out.order i hi).2.2; omega) i1 o1 i2 o2
        have hop3 := (hop2.set (o := k * 2) (.slice (some ⟨p, 0, none⟩) (wyAt n k).1.length (wyAt n k).1.length)).set (o := k * 2 + 1) (.slice (some ⟨q, 0, none⟩) (wyAt n k).2.length (wyAt n k).2.length)
        have hb3 := ((HBL.out.trans (hb2.mono (Nat.le_of_lt hlt))).setCell (p := ⟨g, k * 2, none⟩) (Nat.le_refl _) (.slice (some ⟨p, 0, none⟩) (wyAt n k).1.length (wyAt n k).1.length)).setCell (p := ⟨g, k * 2 + 1, none⟩) (Nat.le_refl _) (.slice (some ⟨q, 0, none⟩) (wyAt n k).2.length (wyAt n k).2.length)
        have hs2 := hb2.size
        have HST := Lib.hid hst
        have HO3 := Lib.hid hop3
        have HB3 := Lib.hid hb3
        clear HC HP HO HBL hop2 hst hop3 hb3 hb2 i1 i2 o1 o2
        go_wp2_with fail
        exact ⟨⟨k + 1, _, _, by go_num, by omega, HST.out, HO3.out, by simp; omega, HB3.out⟩, by simp [intOf]; omega⟩
      · have hkl' : k = len := by omega
        subst hkl'
        have hin := netPart_own (lo := g) hpt hlen hm (Nat.le_refl _) hlt
        have HIN := Lib.hid hin
        clear hpt hop h hin
        go_wp2_with fail
        go_ret
        exact ⟨_, _, _, rfl, HIN.out, hbl⟩
end Go.Proofs.YthimndilobadeaaDoor
