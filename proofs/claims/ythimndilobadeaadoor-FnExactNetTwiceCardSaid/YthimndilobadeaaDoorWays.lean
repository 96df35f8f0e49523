/- The program's waysOf: a net of its own out of the rings. -/
import Derived.Test.YthimndilobadeaaDoorRoads
namespace Go.Proofs.YthimndilobadeaaDoor
open Go.RowKit

/-- What holds while a way's rows are made and laid. -/
structure WS (w : World) (g len k : Nat) (n : Nt) (P Q : Nat → Nat) (V : World) : Prop where
  below : Below w.heap.size w V
  lt : g < V.heap.size
  open' : OpenTx V g (len * 2)
  part : NetPart V g k n P Q
theorem WS.call {w V V' : World} {g len k : Nat} {n : Nt} {P Q : Nat → Nat} (hb : Below V.heap.size V V') (h : WS w g len k n P Q V) : WS w g len k n P Q V' :=
  ⟨h.below.trans (hb.mono h.below.size), Nat.lt_of_lt_of_le h.lt hb.size, h.open'.below h.lt hb, h.part.below hb⟩
theorem WS.set {w V : World} {g len k o : Nat} {n : Nt} {P Q : Nat → Nat} {v : Value} (hg : w.heap.size = g) (ho : k * 2 ≤ o) (h : WS w g len k n P Q V) : WS w g len k n P Q (V.setCell ⟨g, o, none⟩ v) :=
  ⟨h.below.setCell (Nat.le_of_eq hg) _, by simpa using h.lt, h.open'.put _, h.part.store ho _⟩
theorem hold2 {w V : World} {g len k p : Nat} {n : Nt} {P Q : Nat → Nat} (h : ∀ V, WS w g len k n P Q V → ∀ i, i < k → Q i < V.heap.size) (hv : WS w g len k n P Q V) (hp : V.heap.size ≤ p) : g < p ∧ ∀ i, i < k → Q i < p :=
  ⟨Nat.lt_of_lt_of_le hv.lt hp, fun i hi => Nat.lt_of_lt_of_le (h V hv i hi) hp⟩

set_option maxHeartbeats 2000000 in
set_option maxRecDepth 100000 in
theorem waysOf_calls {b len cap : Nat} {n : Nt} {w : World} (h : RoadsTo w b len n) (hl : n.length = len) (hm : len ≤ 1000) (hfit : ∀ p ∈ n, (∀ t ∈ p.1, t.length ≤ 2000000) ∧ ∀ t ∈ p.2, t.length ≤ 2000000) :
    Calls Tryd.prog 23 #[.slice (some ⟨b, 0, none⟩) len cap] w fun e w' => ∃ g P Q, e = .returned (.slice (some ⟨g, 0, none⟩) len len) ∧ NetOwn w' w.heap.size w'.heap.size g len n P Q ∧ Below w.heap.size w w' := by
  have hzz : (Tryd.prog.info? 41).map (fun i => (i.zero, i.size, i.bytes)) = some (some (.agg #[.slice none 0 0, .slice none 0 0]), 2, 48) := by kernel_rfl
  cases hi : Tryd.prog.info? 41 with
  | none => rw [hi] at hzz; cases hzz
  | some i =>
    rw [hi] at hzz
    simp at hzz
    have hmk := run_make_ways (P := Tryd.prog) Tryd.underlying24 hi hzz.1 hzz.2.1 hzz.2.2 len (len : Int) rfl (by omega) w
    clear hzz hi
    have ho := World.ownsRow_lit (size := 2) (base := w.heap.size) (e := 41) w (madeCells #[.slice none 0 0, .slice none 0 0] (len * 2)) len (Nat.le_refl _) (by simp [maxLen]; omega) (size_madeCells _ _)
    generalize hg : w.heap.size = g at ho hmk
    have hbw : Below w.heap.size w (w.alloc (.cells (madeCells #[.slice none 0 0, .slice none 0 0] (len * 2)) 41)) := (Below.refl _ _).alloc (Nat.le_refl _) _
    have hlt : g < (w.alloc (.cells (madeCells #[.slice none 0 0, .slice none 0 0] (len * 2)) 41)).heap.size := by simp; omega
    generalize w.alloc (.cells (madeCells #[.slice none 0 0, .slice none 0 0] (len * 2)) 41) = w1 at *
    generalize (madeCells #[.slice none 0 0, .slice none 0 0] (len * 2)).toList = xs at *
    have hop : OpenTx w1 g (len * 2) := by
      have hx : xs.length = len * 2 := ho.1
      exact ⟨fun i hi => ⟨_, (ho.cellAt i (by omega)).trans (List.getElem?_eq_getElem (by omega))⟩, fun i _ => ho.frozenAt i⟩
    have H := Lib.hid h
    have HF := Lib.hid hfit
    clear h hfit ho
    go_enter Tryd.func23, Tryd.ntmps23
    go_wp2_with fail
    go_loopw [10] (fun i wr => ∃ (k : Nat) (P Q : Nat → Nat), i = .int .i64 (k : Int) ∧ k ≤ len ∧ WS w g len k n P Q wr) (fun i _ => len - (intOf i).toNat)
    case atStart => exact ⟨0, id, id, rfl, Nat.zero_le _, ⟨hbw, hlt, hop, netPart_zero _ _ _ _ _⟩⟩
    case round =>
      clear hop hlt hbw hmk
      obtain ⟨k, P, Q, rfl, hk, hws⟩ := hrel
      by_cases hkl : k < len
      · obtain ⟨⟨f, q0⟩, f', q1⟩ := H.out k hkl
        have hfk := HF.out (wyAt n k) (wyAt_mem (by omega))
        have hc1 := fun (V : World) (hv : WS w g len k n P Q V) => ringList_calls (q0.below hv.below) (fun i hi => hfk.1 _ (txAt_mem hi))
        have hc2 := fun (V : World) (hv : WS w g len k n P Q V) => ringList_calls (q1.below hv.below) (fun i hi => hfk.2 _ (txAt_mem hi))
        have hold : ∀ V, WS w g len k n P Q V → ∀ i, i < k → Q i < V.heap.size := fun V hv i hi => (hv.part.order i hi).2.2
        unfold TxCopied at hc1 hc2
        have H1 := Lib.hid hc1
        have H2 := Lib.hid hc2
        have HW := Lib.hid hws
        have HD := Lib.hid hold
        clear hc1 hc2 hws q0 q1 hfk hold
        go_wp2_with fail
        first | (go_region_held3 (fun V => WS w g len k n P Q V) (first | (with_reducible assumption) | (with_reducible exact WS.call ((Below.refl _ _).drew) HW.out) | (exact WS.call (by with_reducible assumption) (by with_reducible assumption)) | ((repeat' (with_reducible refine WS.set hg ?_ ?_)); (all_goals first | omega | (with_reducible assumption)))) (first | (go_at_call 39; (with_reducible refine (H1.out _ ?_).mono ?_); (· with_reducible assumption); rintro e W1 ⟨p, rfl, i1, o1, hp1, hp2, hb1⟩; have I1 := Lib.hid i1; have O1 := Lib.hid o1; have HP := Lib.hid (hold2 HD.out (by with_reducible assumption : WS w g len k n P Q _) hp1); clear i1 o1) | (go_at_call 39; (with_reducible refine (H2.out _ ?_).mono ?_); (· with_reducible assumption); rintro e W2 ⟨q, rfl, i2, o2, hq1, hq2, hb2⟩; have I2 := Lib.hid i2; have O2 := Lib.hid o2; clear i2 o2; have HW2 := Lib.hid (WS.call hb2 (by with_reducible assumption : WS w g len k n P Q W1)); have HI1 := Lib.hid (I1.out.below hb2); have HO1 := Lib.hid (O1.out.below hp2 hb2); obtain ⟨v0, e0⟩ := HW2.out.open'.there (k * 2) (by omega); obtain ⟨v1, e1⟩ := HW2.out.open'.there (k * 2 + 1) (by omega); have f0 := HW2.out.open'.free (k * 2) (by omega); have f1 := HW2.out.open'.free (k * 2 + 1) (by omega)))) | fail
        have hst := netPart_succ HW2.out.part HW2.out.open' hkl HP.out.1 (Nat.lt_of_lt_of_le hp2 hq1) hq2 HP.out.2 HI1.out HO1.out I2.out O2.out
        have hop3 := (HW2.out.open'.put (o := k * 2) (.slice (some ⟨p, 0, none⟩) (wyAt n k).1.length (wyAt n k).1.length)).put (o := k * 2 + 1) (.slice (some ⟨q, 0, none⟩) (wyAt n k).2.length (wyAt n k).2.length)
        have hb3 := (HW2.out.below.setCell (p := ⟨g, k * 2, none⟩) (Nat.le_of_eq hg) (.slice (some ⟨p, 0, none⟩) (wyAt n k).1.length (wyAt n k).1.length)).setCell (p := ⟨g, k * 2 + 1, none⟩) (Nat.le_of_eq hg) (.slice (some ⟨q, 0, none⟩) (wyAt n k).2.length (wyAt n k).2.length)
        have hl3 : g < ((W2.setCell ⟨g, k * 2, none⟩ (.slice (some ⟨p, 0, none⟩) (wyAt n k).1.length (wyAt n k).1.length)).setCell ⟨g, k * 2 + 1, none⟩ (.slice (some ⟨q, 0, none⟩) (wyAt n k).2.length (wyAt n k).2.length)).heap.size := by simpa using HW2.out.lt
        have J := Lib.hid (⟨hb3, hl3, hop3, hst⟩ : WS w g len (k + 1) n _ _ _)
        clear hst hop3 hb3 hl3 HW2 HI1 HO1 I2 O2 I1 O1 HP HD HW H1 H2
        go_wp2_with fail
        exact ⟨⟨k + 1, _, _, by go_num, by omega, J.out⟩, by simp [intOf]; omega⟩
      · have hkl' : k = len := by omega
        subst hkl'
        have hin := netPart_own (lo := g) hws.part hl (by omega) (Nat.le_refl _) hws.lt
        have HIN := Lib.hid hin
        have HB := Lib.hid hws.below
        clear hws hin
        go_wp2_with fail
        go_ret
        exact ⟨_, _, _, rfl, HIN.out, by rw [← hg]; exact HB.out⟩
end Go.Proofs.YthimndilobadeaaDoor
