/- The laws' words on rows of Sents: are two the same; a copy. -/
import Derived.Test.YtfjmcmdkmecgiaaSn
import Derived.Deep.WholeRow
namespace Go.Proofs.Ytfjmcmdkmecgiaa
open Go.RowKit

theorem keepS {a w w' : World} {p0 p1 p2 p3 p4 p5 p6 p7 p8 p9 : Addr} {x0 x1 x2 x3 x4 x5 x6 x7 x8 x9 : Value} (hb : Below w.heap.size w w') (h : Below a.heap.size a w ∧ w.cell? p0 = some x0 ∧ w.cell? p1 = some x1 ∧ w.cell? p2 = some x2 ∧ w.cell? p3 = some x3 ∧ w.cell? p4 = some x4 ∧ w.cell? p5 = some x5 ∧ w.cell? p6 = some x6 ∧ w.cell? p7 = some x7 ∧ w.cell? p8 = some x8 ∧ w.cell? p9 = some x9) :
    Below a.heap.size a w' ∧ w'.cell? p0 = some x0 ∧ w'.cell? p1 = some x1 ∧ w'.cell? p2 = some x2 ∧ w'.cell? p3 = some x3 ∧ w'.cell? p4 = some x4 ∧ w'.cell? p5 = some x5 ∧ w'.cell? p6 = some x6 ∧ w'.cell? p7 = some x7 ∧ w'.cell? p8 = some x8 ∧ w'.cell? p9 = some x9 :=
  have c {p : Addr} {x : Value} (h : w.cell? p = some x) : w'.cell? p = some x := (hb.cell (World.block_lt_of_cell? w _ h)).trans h
  ⟨h.1.trans (hb.mono h.1.size), c h.2.1, c h.2.2.1, c h.2.2.2.1, c h.2.2.2.2.1, c h.2.2.2.2.2.1, c h.2.2.2.2.2.2.1, c h.2.2.2.2.2.2.2.1, c h.2.2.2.2.2.2.2.2.1, c h.2.2.2.2.2.2.2.2.2.1, c h.2.2.2.2.2.2.2.2.2.2⟩

set_option maxHeartbeats 2000000 in
set_option maxRecDepth 100000 in
theorem eqSentS_calls {a b : Option Addr} {la ca lb cb : Nat} {l m : Sns} {w : World} (h : InSn w a la l) (h' : InSn w b lb m) :
    Calls Try.prog 60 #[.slice a la ca, .slice b lb cb] w fun e w' => e = .returned (.bool (decide (l = m))) ∧ Below w.heap.size w w' := by
  have hm := h.small
  have hm' := h'.small
  have hl := h.long
  have hl' := h'.long
  by_cases hne : la = lb
  · subst hne
    have hres : ∃ R, R = decide (l = m) := ⟨_, rfl⟩
    obtain ⟨R, hR⟩ := hres
    rw [← hR]
    have HRR := Lib.hid hR
    clear hR
    go_enter Try.func60, Try.ntmps60
    go_wp2_with fail
    go_loopw [5] (fun i wr => ∃ k : Nat, i = .int .i64 (k : Int) ∧ k ≤ la ∧ eqSnTo l m k ∧ Below w.heap.size w wr) (fun i _ => la - (intOf i).toNat)
    case atStart => exact ⟨0, rfl, Nat.zero_le _, eqSnTo_zero _ _, Below.refl _ _⟩
    case round =>
      obtain ⟨k, rfl, hk, hto, hbl⟩ := hrel
      by_cases hkl : k < la
      · have hh := h.below hbl
        have hh' := h'.below hbl
        obtain ⟨b1, o1, rfl⟩ := hh.there (by omega)
        obtain ⟨b2, o2, rfl⟩ := hh'.there (by omega)
        obtain ⟨c0, c1, c2, c3, c4⟩ := hh.cell b1 o1 rfl k hkl
        obtain ⟨d0, d1, d2, d3, d4⟩ := hh'.cell b2 o2 rfl k hkl
        have hcall := eqSent_calls (snAt l k) (snAt m k)
        by_cases hq : snAt l k = snAt m k
        · have hto' := eqSnTo_succ hto hq
          rw [decide_eq_true hq] at hcall
          have HT := Lib.hid hto'
          have HBL := Lib.hid hbl
          clear hh hh' h h' hto hto' hbl hq
          generalize snAt l k = p at *
          generalize snAt m k = q at *
          obtain ⟨p0, p1, p2, p3, p4⟩ := p
          obtain ⟨q0, q1, q2, q3, q4⟩ := q
          dsimp only at c0 c1 c2 c3 c4 d0 d1 d2 d3 d4
          have HC := Lib.hid hcall
          clear hcall
          go_wp2_with fail
          first | (go_region_held3 (fun W => Below w.heap.size w W ∧ W.cell? ⟨b1, o1 + k * 5, none⟩ = some (.int .i64 p0) ∧ W.cell? ⟨b1, o1 + k * 5 + 1, none⟩ = some (.int .i64 p1) ∧ W.cell? ⟨b1, o1 + k * 5 + 2, none⟩ = some (.int .i64 p2) ∧ W.cell? ⟨b1, o1 + k * 5 + 3, none⟩ = some (.int .i64 p3) ∧ W.cell? ⟨b1, o1 + k * 5 + 4, none⟩ = some (.int .i64 p4) ∧ W.cell? ⟨b2, o2 + k * 5, none⟩ = some (.int .i64 q0) ∧ W.cell? ⟨b2, o2 + k * 5 + 1, none⟩ = some (.int .i64 q1) ∧ W.cell? ⟨b2, o2 + k * 5 + 2, none⟩ = some (.int .i64 q2) ∧ W.cell? ⟨b2, o2 + k * 5 + 3, none⟩ = some (.int .i64 q3) ∧ W.cell? ⟨b2, o2 + k * 5 + 4, none⟩ = some (.int .i64 q4)) (first | exact ⟨HBL.out.drew, c0, c1, c2, c3, c4, d0, d1, d2, d3, d4⟩ | (with_reducible assumption) | (refine keepS (by assumption) (by assumption))) (first | (go_at_call 64; (with_reducible refine (HC.out _).mono ?_); rintro e w2 ⟨rfl, hb2⟩))) | fail
          have HB2 : Below w.heap.size w w2 := (by assumption : Below w.heap.size w w2 ∧ _).1
          go_wp2_with fail
          go_roundw
          case rel => exact ⟨k + 1, by go_num, by omega, HT.out, HB2⟩
          case measure => simp [intOf]; omega
        · have hto' : ¬ l = m := fun e => hq (by rw [e])
          rw [decide_eq_false hq] at hcall
          have HT := Lib.hid hto'
          have HBL := Lib.hid hbl
          clear hh hh' h h' hto hto' hbl hq
          generalize snAt l k = p at *
          generalize snAt m k = q at *
          obtain ⟨p0, p1, p2, p3, p4⟩ := p
          obtain ⟨q0, q1, q2, q3, q4⟩ := q
          dsimp only at c0 c1 c2 c3 c4 d0 d1 d2 d3 d4
          have HC := Lib.hid hcall
          clear hcall
          go_wp2_with fail
          first | (go_region_held3 (fun W => Below w.heap.size w W ∧ W.cell? ⟨b1, o1 + k * 5, none⟩ = some (.int .i64 p0) ∧ W.cell? ⟨b1, o1 + k * 5 + 1, none⟩ = some (.int .i64 p1) ∧ W.cell? ⟨b1, o1 + k * 5 + 2, none⟩ = some (.int .i64 p2) ∧ W.cell? ⟨b1, o1 + k * 5 + 3, none⟩ = some (.int .i64 p3) ∧ W.cell? ⟨b1, o1 + k * 5 + 4, none⟩ = some (.int .i64 p4) ∧ W.cell? ⟨b2, o2 + k * 5, none⟩ = some (.int .i64 q0) ∧ W.cell? ⟨b2, o2 + k * 5 + 1, none⟩ = some (.int .i64 q1) ∧ W.cell? ⟨b2, o2 + k * 5 + 2, none⟩ = some (.int .i64 q2) ∧ W.cell? ⟨b2, o2 + k * 5 + 3, none⟩ = some (.int .i64 q3) ∧ W.cell? ⟨b2, o2 + k * 5 + 4, none⟩ = some (.int .i64 q4)) (first | exact ⟨HBL.out.drew, c0, c1, c2, c3, c4, d0, d1, d2, d3, d4⟩ | (with_reducible assumption) | (refine keepS (by assumption) (by assumption))) (first | (go_at_call 64; (with_reducible refine (HC.out _).mono ?_); rintro e w2 ⟨rfl, hb2⟩))) | fail
          have HB2 : Below w.heap.size w w2 := (by assumption : Below w.heap.size w w2 ∧ _).1
          go_wp2_with fail
          go_ret
          exact ⟨ret_bool (by rw [HRR.out, decide_eq_false HT.out]), HB2⟩
      · have hkl' : k = la := by omega
        have he : l = m := eqSnTo_all (by omega) (by rw [hl, ← hkl']; exact hto)
        have HE := Lib.hid he
        clear h h' hto he hl hl'
        go_wp2_with fail
        go_ret
        exact ⟨ret_bool (by rw [HRR.out, decide_eq_true HE.out]), hbl⟩
  · have he : ¬ l = m := fun e => by subst e; omega
    have HE := Lib.hid he
    have hd : ((la : Int) != (lb : Int)) = true := by simp; omega
    clear h h' he hl hl'
    go_enter Try.func60, Try.ntmps60
    go_wp2_with fail
    go_ret
    exact ⟨ret_bool (by rw [decide_eq_false HE.out]), Below.refl _ _⟩

theorem run_make_sents {P : Program} {t e : TypeId} {i : TypeInfo} (ht : P.underlying t = some (.slice e)) (hi : P.info? e = some i) (hz : i.zero = some (.agg #[.int .i64 0, .int .i64 0, .int .i64 0, .int .i64 0, .int .i64 0])) (h1 : i.size = 5) (h2 : i.bytes = 40)
    (n : Nat) (L : Int) (hL : L = (n : Int)) (hn : n ≤ 1000000000) (w : World) :
    (Instr.makeSlice t (.int .i64 L) (.int .i64 L)).run P w = .ok (.slice (some ⟨w.heap.size, 0, none⟩) n n) (w.alloc (.cells (madeCells #[.int .i64 0, .int .i64 0, .int .i64 0, .int .i64 0, .int .i64 0] (n * 5)) e)) := by
  subst hL
  have h := run_make (P := P) w t e i (.agg #[.int .i64 0, .int .i64 0, .int .i64 0, .int .i64 0, .int .i64 0]) ht hi hz .i64 .i64 n n (by omega) (by omega) (by rw [h2]; omega) (by omega)
  rw [h, h1]
  simp only [Int.toNat_natCast]
  rfl
/-- The first k Sents of l stand in block g, whose cells may all be written. -/
structure SnTo (w : World) (g len : Nat) (l : Sns) (k : Nat) : Prop where
  cell : ∀ i, i < k → At5 w g (i * 5) (snAt l i)
  op : OpenLg w g (len * 5)
  lt : g < w.heap.size
theorem SnTo.below {w w' : World} {g len k : Nat} {l : Sns} (h : SnTo w g len l k) (hb : Below w.heap.size w w') : SnTo w' g len l k :=
  ⟨fun i hi => (h.cell i hi).below hb, h.op.below h.lt hb, Nat.lt_of_lt_of_le h.lt hb.size⟩
theorem OpenLg.put {w : World} {g len o : Nat} (h : OpenLg w g len) (v : Value) : OpenLg (w.setCell ⟨g, o, none⟩ v) g len := by
  refine ⟨fun i hi => ?_, fun i hi => (World.frozen?_setCell _ _ _ _).trans (h.free i hi)⟩
  obtain ⟨u, hu⟩ := h.there i hi
  by_cases e : (⟨g, i, none⟩ : Addr) = ⟨g, o, none⟩
  · rw [e]; rw [e] at hu; exact ⟨v, World.cell?_setCell_same _ _ _ hu⟩
  · exact ⟨u, (World.cell?_setCell_other _ _ _ _ (fun e' => e e'.symm)).trans hu⟩
/-- Five numbers stored in a row. -/
abbrev put5 (w : World) (g o : Nat) (p : F5) : World := ((((w.setCell ⟨g, o, none⟩ (.int .i64 p.1)).setCell ⟨g, o + 1, none⟩ (.int .i64 p.2.1)).setCell ⟨g, o + 2, none⟩ (.int .i64 p.2.2.1)).setCell ⟨g, o + 3, none⟩ (.int .i64 p.2.2.2.1)).setCell ⟨g, o + 4, none⟩ (.int .i64 p.2.2.2.2)
theorem at5_put {w : World} {g len o : Nat} (h : OpenLg w g len) (ho : o + 5 ≤ len) (p : F5) : At5 (put5 w g o p) g o p := by
  have s {W : World} (hW : OpenLg W g len) {q : Nat} (hq : q < len) (v : Value) : (W.setCell ⟨g, q, none⟩ v).cell? ⟨g, q, none⟩ = some v := by
    obtain ⟨u, hu⟩ := hW.there q hq
    exact World.cell?_setCell_same _ _ _ hu
  have c {W : World} {q i : Nat} {v x : Value} (hi : q ≠ i) (h : W.cell? ⟨g, i, none⟩ = some x) : (W.setCell ⟨g, q, none⟩ v).cell? ⟨g, i, none⟩ = some x := (World.cell?_setCell_other _ _ _ _ (fun e => by injection e; omega)).trans h
  refine ⟨c (by omega) (c (by omega) (c (by omega) (c (by omega) (s h (by omega) _)))), c (by omega) (c (by omega) (c (by omega) (s (h.put _) (by omega) _))), c (by omega) (c (by omega) (s ((h.put _).put _) (by omega) _)), c (by omega) (s (((h.put _).put _).put _) (by omega) _), s ((((h.put _).put _).put _).put _) (by omega) _⟩
theorem OpenLg.put5 {w : World} {g len : Nat} (h : OpenLg w g len) (o : Nat) (p : F5) : OpenLg (put5 w g o p) g len := ((((h.put _).put _).put _).put _).put _
theorem At5.put5 {w : World} {b o q : Nat} {p r : F5} (h : At5 w b o p) (hq : q + 5 ≤ o ∨ o + 5 ≤ q) : At5 (put5 w b q r) b o p :=
  ((((h.other (by omega) _).other (by omega) _).other (by omega) _).other (by omega) _).other (by omega) _
theorem snTo_succ {w : World} {g len k : Nat} {l : Sns} (h : SnTo w g len l k) (hk : k < len) : SnTo (put5 w g (k * 5) (snAt l k)) g len l (k + 1) := by
  refine ⟨fun i hi => ?_, h.op.put5 _ _, by simpa [Go.Proofs.Ytfjmcmdkmecgiaa.put5] using h.lt⟩
  by_cases e : i = k
  · subst e
    exact at5_put h.op (by omega) _
  · exact (h.cell i (by omega)).put5 (by omega)
/-- A copy of a row of Sents. -/
def SnCopied (w : World) (len : Nat) (l : Sns) (e : Ending) (w' : World) : Prop :=
  ∃ g, e = .returned (.slice (some ⟨g, 0, none⟩) len len) ∧ InSn w' (some ⟨g, 0, none⟩) len l ∧ OpenLg w' g (len * 5) ∧ w.heap.size ≤ g ∧ g < w'.heap.size ∧ Below w.heap.size w w'
set_option maxHeartbeats 2000000 in
set_option maxRecDepth 100000 in
theorem toSentS_calls {a : Option Addr} {len cap : Nat} {l : Sns} {w : World} (h : InSn w a len l) :
    Calls Try.prog 56 #[.slice a len cap] w (SnCopied w len l) := by
  have hm := h.small
  have hlen := h.long
  have hzz : (Try.prog.info? 45).map (fun i => (i.zero, i.size, i.bytes)) = some (some (.agg #[.int .i64 0, .int .i64 0, .int .i64 0, .int .i64 0, .int .i64 0]), 5, 40) := by kernel_rfl
  cases hi : Try.prog.info? 45 with
  | none => rw [hi] at hzz; cases hzz
  | some i =>
    rw [hi] at hzz
    simp at hzz
    have hmk := run_make_sents (P := Try.prog) Try.underlying55 hi hzz.1 hzz.2.1 hzz.2.2 len (len : Int) rfl (by omega) w
    clear hzz hi
    have ho := World.ownsRow_lit (size := 5) (base := w.heap.size) (e := 45) w (madeCells #[.int .i64 0, .int .i64 0, .int .i64 0, .int .i64 0, .int .i64 0] (len * 5)) len (Nat.le_refl _) (by simp [maxLen]; omega) (size_madeCells _ _)
    generalize hg : w.heap.size = g at ho hmk
    have hbw : Below w.heap.size w (w.alloc (.cells (madeCells #[.int .i64 0, .int .i64 0, .int .i64 0, .int .i64 0, .int .i64 0] (len * 5)) 45)) := (Below.refl _ _).alloc (Nat.le_refl _) _
    have hlt : g < (w.alloc (.cells (madeCells #[.int .i64 0, .int .i64 0, .int .i64 0, .int .i64 0, .int .i64 0] (len * 5)) 45)).heap.size := by simp; omega
    generalize w.alloc (.cells (madeCells #[.int .i64 0, .int .i64 0, .int .i64 0, .int .i64 0, .int .i64 0] (len * 5)) 45) = w1 at *
    generalize (madeCells #[.int .i64 0, .int .i64 0, .int .i64 0, .int .i64 0, .int .i64 0] (len * 5)).toList = xs at *
    have hop : OpenLg w1 g (len * 5) := by
      have hx : xs.length = len * 5 := ho.1
      exact ⟨fun i hi => ⟨_, (ho.cellAt i (by omega)).trans (List.getElem?_eq_getElem (by omega))⟩, fun i _ => ho.frozenAt i⟩
    clear ho
    go_enter Try.func56, Try.ntmps56
    go_wp2_with fail
    go_loopw [4] (fun i wr => ∃ k : Nat, i = .int .i64 (k : Int) ∧ k ≤ len ∧ SnTo wr g len l k ∧ Below g w wr) (fun i _ => len - (intOf i).toNat)
    case atStart => exact ⟨0, rfl, Nat.zero_le _, ⟨fun i hi => by omega, hop, hlt⟩, hg ▸ hbw⟩
    case round =>
      clear hop hlt hbw hmk
      obtain ⟨k, rfl, hk, hst, hbl⟩ := hrel
      by_cases hkl : k < len
      · have hh := h.below (hg ▸ hbl)
        obtain ⟨b, o, rfl⟩ := hh.there (by omega)
        obtain ⟨c0, c1, c2, c3, c4⟩ := hh.cell b o rfl k hkl
        have HC := Lib.hid (toSent_calls (snAt l k))
        have HST := Lib.hid (fun (W : World) (h : SnTo W g len l k) => snTo_succ h hkl)
        have HS := Lib.hid hst
        have HBL := Lib.hid hbl
        clear hh h hst hbl
        generalize snAt l k = p at *
        obtain ⟨p0, p1, p2, p3, p4⟩ := p
        dsimp only at c0 c1 c2 c3 c4
        go_wp2_with fail
        (with_reducible refine (HC.out _).mono ?_); rintro e w2 ⟨rfl, hb2⟩
        have hs2 := HS.out.below hb2
        obtain ⟨u0, e0⟩ := hs2.op.there (k * 5) (by omega)
        obtain ⟨u1, e1⟩ := hs2.op.there (k * 5 + 1) (by omega)
        obtain ⟨u2, e2⟩ := hs2.op.there (k * 5 + 2) (by omega)
        obtain ⟨u3, e3⟩ := hs2.op.there (k * 5 + 3) (by omega)
        obtain ⟨u4, e4⟩ := hs2.op.there (k * 5 + 4) (by omega)
        have f0 := hs2.op.free (k * 5) (by omega)
        have f1 := hs2.op.free (k * 5 + 1) (by omega)
        have f2 := hs2.op.free (k * 5 + 2) (by omega)
        have f3 := hs2.op.free (k * 5 + 3) (by omega)
        have f4 := hs2.op.free (k * 5 + 4) (by omega)
        have HN := Lib.hid (HST.out w2 hs2)
        have HB3 := Lib.hid ((((((HBL.out.trans (hb2.mono (Nat.le_of_lt HS.out.lt))).setCell (p := ⟨g, k * 5, none⟩) (Nat.le_refl _) (.int .i64 p0)).setCell (p := ⟨g, k * 5 + 1, none⟩) (Nat.le_refl _) (.int .i64 p1)).setCell (p := ⟨g, k * 5 + 2, none⟩) (Nat.le_refl _) (.int .i64 p2)).setCell (p := ⟨g, k * 5 + 3, none⟩) (Nat.le_refl _) (.int .i64 p3)).setCell (p := ⟨g, k * 5 + 4, none⟩) (Nat.le_refl _) (.int .i64 p4))
        clear HC HST HS HBL hs2 hb2
        go_wp2_with fail
        exact ⟨⟨k + 1, by go_num, by omega, HN.out, HB3.out⟩, by simp [intOf]; omega⟩
      · have hkl' : k = len := by omega
        subst hkl'
        have hin : InSn wr (some ⟨g, 0, none⟩) k l := ⟨⟨hlen, by omega, fun _ => ⟨g, 0, rfl⟩, fun b o ha i hi => by cases ha; rw [Nat.zero_add]; exact hst.cell i hi, h.fit⟩, hm⟩
        have HIN := Lib.hid hin
        have HS := Lib.hid hst
        clear hst h hin
        go_wp2_with fail
        go_ret
        exact ⟨_, rfl, HIN.out, HS.out.op, by omega, HS.out.lt, hg ▸ hbl⟩
end Go.Proofs.Ytfjmcmdkmecgiaa
