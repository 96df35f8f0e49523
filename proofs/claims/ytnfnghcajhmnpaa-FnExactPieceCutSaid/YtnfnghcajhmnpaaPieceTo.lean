/- The laws' copy of a list of pieces. -/
import Derived.Test.YtnfnghcajhmnpaaPieceLaw
import Derived.Test.YtnfnghcajhmnpaaBytes
namespace Go.Proofs.Ytnfnghcajhmnpaa
open Go.RowKit

theorem run_make_pieces {P : Program} {t e : TypeId} {i : TypeInfo} (ht : P.underlying t = some (.slice e)) (hi : P.info? e = some i) (hz : i.zero = some (.agg #[.int .i64 0, gs []])) (h1 : i.size = 2) (h2 : i.bytes = 24)
    (n : Nat) (L : Int) (hL : L = (n : Int)) (hn : n ≤ 1000000000) (w : World) :
    (Instr.makeSlice t (.int .i64 L) (.int .i64 L)).run P w = .ok (.slice (some ⟨w.heap.size, 0, none⟩) n n) (w.alloc (.cells (madeCells #[.int .i64 0, gs []] (n * 2)) e)) := by
  subst hL
  have h := run_make (P := P) w t e i (.agg #[.int .i64 0, gs []]) ht hi hz .i64 .i64 n n (by omega) (by omega) (by rw [h2]; omega) (by omega)
  rw [h, h1]
  simp only [Int.toNat_natCast]
  rfl

theorem ownsRow_below {w w' : World} {base : Nat} {e : TypeId} {size : Nat} {v : Value} {n : Nat} {xs : List Value} (h : w.ownsRow base e size v n xs) (hb : Below w.heap.size w w') : w'.ownsRow base e size v n xs := by
  refine ⟨h.1, ?_⟩
  rcases h.2 with hn | ⟨g, cap, cur, rfl, hbg, hgg, rest⟩
  · exact .inl hn
  · exact .inr ⟨g, cap, cur, rfl, hbg, (hb.block g (Array.getElem?_eq_some_iff.1 hgg).1).trans hgg, rest⟩

/-- The first k pieces of l stand in a row of cells. -/
def PcTo (xs : List Value) (l : List Pc) (k : Nat) : Prop := ∀ j, j < k → xs[j * 2]? = some (.int .i64 (pcAt l j).1) ∧ xs[j * 2 + 1]? = some (gs (pcAt l j).2)
theorem pcTo_zero (xs : List Value) (l : List Pc) : PcTo xs l 0 := fun j h => by omega
theorem pcTo_succ {xs : List Value} {l : List Pc} {k : Nat} (h : PcTo xs l k) (hl : k * 2 + 1 < xs.length) : PcTo ((xs.set (k * 2) (.int .i64 (pcAt l k).1)).set (k * 2 + 1) (gs (pcAt l k).2)) l (k + 1) := fun j hj => by
  by_cases e : j = k
  · subst e
    constructor
    · rw [List.getElem?_set_ne (by omega), List.getElem?_set_self (by omega)]
    · rw [List.getElem?_set_self (by simp; omega)]
  · obtain ⟨h0, h1⟩ := h j (by omega)
    constructor
    · rw [List.getElem?_set_ne (by omega), List.getElem?_set_ne (by omega)]; exact h0
    · rw [List.getElem?_set_ne (by omega), List.getElem?_set_ne (by omega)]; exact h1

/-- A row that the call owns, full of pieces. -/
theorem inPcs_own {w : World} {base g len cap : Nat} {e : TypeId} {xs : List Value} {l : List Pc} (ho : w.ownsRow base e 2 (.slice (some ⟨g, 0, none⟩) len cap) len xs) (ht : PcTo xs l len) (hl : l.length = len) (hm : len ≤ 2000000)
    (hf : ∀ i, i < len → -9223372036854775808 ≤ (pcAt l i).1 ∧ (pcAt l i).1 ≤ 9223372036854775807 ∧ (pcAt l i).2.length ≤ 2000000) : InPcs w (some ⟨g, 0, none⟩) len l :=
  ⟨hl, hm, fun _ => ⟨g, 0, rfl⟩, fun b o ha i hi => by
    cases ha
    obtain ⟨h0, h1⟩ := ht i hi
    rw [Nat.zero_add]
    exact ⟨(ho.cellAt (i * 2) (by omega)).trans h0, (ho.cellAt (i * 2 + 1) (by omega)).trans h1⟩, hf⟩

set_option maxHeartbeats 1000000 in
set_option maxRecDepth 100000 in
theorem toPieceS_calls {a : Option Addr} {len cap : Nat} {l : List Pc} {w : World} (h : InPcs w a len l) :
    Calls Try.prog 12 #[.slice a len cap] w fun e w' => ∃ g, e = .returned (.slice (some ⟨g, 0, none⟩) len len) ∧ w.heap.size ≤ g ∧ InPcs w' (some ⟨g, 0, none⟩) len l ∧ Below w.heap.size w w' := by
  have hm := h.most
  have hlen := h.long
  have hzz : (Try.prog.info? 51).map (fun i => (i.zero, i.size, i.bytes)) = some (some (.agg #[.int .i64 0, gs []]), 2, 24) := by kernel_rfl
  cases hi : Try.prog.info? 51 with
  | none => rw [hi] at hzz; cases hzz
  | some i =>
    rw [hi] at hzz
    simp at hzz
    have hmk := run_make_pieces (P := Try.prog) Try.underlying25 hi hzz.1 hzz.2.1 hzz.2.2 len (len : Int) rfl (by omega) w
    clear hzz hi
    have ho := World.ownsRow_lit (size := 2) (base := w.heap.size) (e := 51) w (madeCells #[.int .i64 0, gs []] (len * 2)) len (Nat.le_refl _) (by simp [maxLen]; omega) (size_madeCells _ _)
    generalize hg : w.heap.size = g at ho hmk
    have hbw : Below w.heap.size w (w.alloc (.cells (madeCells #[.int .i64 0, gs []] (len * 2)) 51)) := (Below.refl _ _).alloc (Nat.le_refl _) _
    have hlt : g < (w.alloc (.cells (madeCells #[.int .i64 0, gs []] (len * 2)) 51)).heap.size := by simp; omega
    generalize w.alloc (.cells (madeCells #[.int .i64 0, gs []] (len * 2)) 51) = w1 at *
    generalize (madeCells #[.int .i64 0, gs []] (len * 2)).toList = xs at *
    go_enter Try.func12, Try.ntmps12
    go_wp2_with fail
    go_loopw [4] (fun i wr => ∃ (k : Nat) (xs : List Value), i = .int .i64 (k : Int) ∧ k ≤ len ∧ wr.ownsRow g 51 2 (.slice (some ⟨g, 0, none⟩) len len) len xs ∧ PcTo xs l k ∧ Below g w wr) (fun i _ => len - (intOf i).toNat)
    case atStart => exact ⟨0, xs, rfl, Nat.zero_le _, ho, pcTo_zero _ _, hg ▸ hbw⟩
    case round =>
      obtain ⟨k, xs, rfl, hk, ho, hto, hbl⟩ := hrel
      subst hg
      by_cases hkl : k < len
      · have hh := h.below hbl
        obtain ⟨b, o, rfl⟩ := hh.there (by omega)
        obtain ⟨c0, c1⟩ := hh.cell b o rfl k hkl
        have hx : xs.length = len * 2 := ho.1
        have hs := pcTo_succ hto (by omega : k * 2 + 1 < xs.length)
        have hcall := toPiece_calls (pcAt l k)
        generalize pcAt l k = p at *
        obtain ⟨at0, t⟩ := p
        dsimp only at c0 c1 hs
        have HC := Lib.hid hcall
        have HO := Lib.hid ho
        have HT := Lib.hid hs
        have HBL := Lib.hid hbl
        have HX := Lib.hid hx
        clear hh h hcall ho hto hs hbl hbw hx hmk hlt
        go_wp2_with (go_at_call 36; refine (HC.out _).mono ?_; rintro e w2 ⟨rfl, hb2⟩
                     have ho2 := ownsRow_below HO.out hb2
                     obtain ⟨v0, hv0⟩ : ∃ v, xs[k * 2]? = some v := ⟨_, List.getElem?_eq_getElem (by have := HX.out; omega)⟩
                     obtain ⟨v1, hv1⟩ : ∃ v, xs[k * 2 + 1]? = some v := ⟨_, List.getElem?_eq_getElem (by have := HX.out; omega)⟩
                     have e0 := (ho2.cellAt (k * 2) (by omega)).trans hv0
                     have z0 := ho2.frozenAt (k * 2)
                     have ho3 := (ho2.stored (k * 2) (.int .i64 at0)).1
                     have e1 := (ho3.cellAt (k * 2 + 1) (by omega)).trans ((List.getElem?_set_ne (by omega)).trans hv1)
                     have z1 := ho3.frozenAt (k * 2 + 1)
                     have HO3 := Lib.hid ho3
                     have HB2 := Lib.hid hb2
                     clear hv0 hv1 ho2 ho3 hb2)
        exact ⟨⟨k + 1, _, by go_num, by omega, (HO3.out.stored (k * 2 + 1) (gs t)).1, HT.out, ((HBL.out.trans (HB2.out.mono HBL.out.size)).setCell (by simp) _).setCell (by simp) _⟩, by simp [intOf]; omega⟩
      · have hkl' : k = len := by omega
        subst hkl'
        have hin := inPcs_own ho hto hlen hm h.fit
        clear hmk ho hto h
        go_wp2_with fail
        go_ret
        exact ⟨_, rfl, Nat.le_refl _, hin, hbl⟩
end Go.Proofs.Ytnfnghcajhmnpaa
