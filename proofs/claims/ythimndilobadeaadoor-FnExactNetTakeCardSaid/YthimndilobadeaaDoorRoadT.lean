/- The program's ring: one thing taken out, and the row of its things. -/
import Derived.Test.YthimndilobadeaaDoorRoad
namespace Go.Proofs.YthimndilobadeaaDoor
open Go.RowKit

/-- What the ring holds behind i rounds of taking p out. -/
def rotN (l : Tx) (p i : Nat) : Tx := l.drop i ++ (l.take i).eraseIdx p
theorem rotN_zero (l : Tx) (p : Nat) : rotN l p 0 = l := by simp [rotN]
theorem rotN_all (l : Tx) (p : Nat) : rotN l p l.length = l.eraseIdx p := by simp [rotN]
theorem rotN_len {l : Tx} {p i : Nat} (hi : i ≤ l.length) : (rotN l p i).length = if p < i then l.length - 1 else l.length := by
  simp only [rotN, List.length_append, List.length_drop, List.length_eraseIdx, List.length_take]
  have : min i l.length = i := by omega
  rw [this]
  split <;> omega
theorem rotN_first {l : Tx} {p i : Nat} (hi : i < l.length) : txAt (rotN l p i) 0 = txAt l i := by
  simp only [rotN, tx_drop hi]
  simp [txAt, List.getD]
theorem rotN_drop {l : Tx} {p i : Nat} (hi : i < l.length) : (rotN l p i).drop 1 = l.drop (i + 1) ++ (l.take i).eraseIdx p := by
  simp only [rotN, tx_drop hi]
  simp
theorem take_succ' {l : Tx} {i : Nat} (hi : i < l.length) : l.take (i + 1) = l.take i ++ [txAt l i] := by
  rw [txAt_get hi, List.take_append_getElem hi]
theorem rotN_keep {l : Tx} {p i : Nat} (hi : i < l.length) (hp : i ≠ p) : (rotN l p i).drop 1 ++ [txAt l i] = rotN l p (i + 1) := by
  rw [rotN_drop hi, rotN, take_succ' hi, List.append_assoc]
  congr 1
  have hl : (l.take i).length = i := by simp; omega
  rcases Nat.lt_or_ge p i with h | h
  · rw [List.eraseIdx_append_of_lt_length (by omega)]
  · rw [List.eraseIdx_of_length_le (by omega), List.eraseIdx_of_length_le (by simp; omega)]
theorem rotN_out {l : Tx} {p : Nat} (hp : p < l.length) : (rotN l p p).drop 1 = rotN l p (p + 1) := by
  rw [rotN_drop hp, rotN, take_succ' hp]
  congr 1
  have hl : (l.take p).length = p := by simp; omega
  rw [List.eraseIdx_of_length_le (by omega), List.eraseIdx_append_of_length_le (by omega)]
  simp [hl]

set_option maxHeartbeats 1000000 in
set_option maxRecDepth 100000 in
theorem ringTake_calls {w : World} {b o f : Nat} {l : Tx} (h : RingAt w b o f l) (p : Nat) (hp : p < l.length) :
    Calls Tryd.prog 22 #[.pointer (some ⟨b, o, none⟩), .int .i64 (p : Int)] w fun e w' => e = .returned (gs (txAt l p)) ∧ (∃ f', RingAt w' b o f' (l.eraseIdx p)) ∧ Ten w w' b o := by
  have h9 := h.at9
  have hm := h.most
  have hres : ∃ R, R = txAt l p := ⟨_, rfl⟩
  obtain ⟨R, hR⟩ := hres
  rw [← hR]
  have HR := Lib.hid hR
  clear hR
  go_enter Tryd.func22, Tryd.ntmps22
  go_wp2_with fail
  go_loopw [5, 12] (fun t i wr => ∃ (k f' : Nat), i = .int .i64 (k : Int) ∧ t = gs (if p < k then R else []) ∧ k ≤ l.length ∧ RingAt wr b o f' (rotN l p k) ∧ Ten w wr b o) (fun _ i _ => l.length - (intOf i).toNat)
  case atStart => exact ⟨0, f, rfl, rfl, Nat.zero_le _, by rw [rotN_zero]; exact h, Ten.refl _ _ _⟩
  case round =>
    clear h h9
    obtain ⟨k, f', rfl, rfl, hk, hr, htn⟩ := hrel
    by_cases hkl : k < l.length
    · have hlen := rotN_len (p := p) hk
      have hpop := ringPop_calls hr (by rw [hlen]; split <;> omega)
      rw [rotN_first hkl] at hpop
      have HPO := Lib.hid hpop
      have HTN := Lib.hid htn
      clear hpop hr htn
      by_cases hkp : k = p
      · subst hkp
        rw [← HR.out] at HPO
        have ho := rotN_out hkl
        have HO := Lib.hid ho
        clear ho hlen
        have e1 : gs (if k < k then R else []) = gs [] := by rw [if_neg (by omega)]
        have e2 : (if k < k + 1 then R else []) = R := by rw [if_pos (by omega)]
        have E2 := Lib.hid e2
        clear e2
        go_wp2_with fail
        refine HPO.out.mono ?_
        rintro e w1 ⟨rfl, r1, t1⟩
        have R1 := Lib.hid r1
        have T1 := Lib.hid (HTN.out.trans t1)
        clear HPO HTN r1 t1
        go_wp2_with fail
        exact ⟨⟨k + 1, _, by go_num, by rw [E2.out], by omega, by rw [← HO.out]; exact R1.out, T1.out⟩, by simp [intOf]; omega⟩
      · have ho := rotN_keep (p := p) hkl hkp
        have e2 : (if p < k + 1 then R else []) = (if p < k then R else []) := by
          by_cases e : p < k
          · rw [if_pos e, if_pos (by omega)]
          · rw [if_neg e, if_neg (by omega)]
        have hne : ((k : Int) == (p : Int)) = false := by simp; omega
        have hd8 : ((rotN l p k).drop 1).length < 8 := by rw [List.length_drop, hlen]; split <;> omega
        generalize (if p < k then R else []) = T at *
        generalize txAt l k = t at *
        have HO := Lib.hid ho
        have E2 := Lib.hid e2
        clear ho e2 hlen HR
        go_wp2_with fail
        refine HPO.out.mono ?_
        rintro e w1 ⟨rfl, r1, t1⟩
        have hpush := ringPush_calls r1 t
        rw [if_pos hd8, HO.out] at hpush
        have HPU := Lib.hid hpush
        have T1 := Lib.hid (HTN.out.trans t1)
        clear HPO HTN r1 t1 hpush
        go_wp2_with fail
        refine HPU.out.mono ?_
        rintro e w2 ⟨rfl, r2, t2⟩
        have R2 := Lib.hid r2
        have T2 := Lib.hid (T1.out.trans t2)
        clear HPU T1 r2 t2
        go_wp2_with fail
        exact ⟨⟨k + 1, _, by go_num, by rw [E2.out], by omega, R2.out, T2.out⟩, by simp [intOf]; omega⟩
    · have hkl' : k = l.length := by omega
      subst hkl'
      rw [rotN_all] at hr
      have e1 : (if p < l.length then R else []) = R := if_pos hp
      rw [e1]
      have H1 := Lib.hid hr
      have H2 := Lib.hid htn
      clear hr htn e1
      go_wp2_with fail
      go_ret
      exact ⟨rfl, ⟨_, H1.out⟩, H2.out⟩

/-- The first k texts of l stand in a row of cells. -/
theorem inTx_fit {w : World} {g len : Nat} {l : Tx} (ho : OpenTx w g len) (hl : l.length = len) (hm : len ≤ 2000000) (hc : ∀ i, i < len → w.cell? ⟨g, i, none⟩ = some (gs (txAt l i))) (hf : ∀ i, i < len → (txAt l i).length ≤ 2000000) :
    InTx w (some ⟨g, 0, none⟩) len l ∧ OpenTx w g len :=
  ⟨⟨hl, hm, fun _ => ⟨g, 0, rfl⟩, fun b o e i hi => by cases e; rw [Nat.zero_add]; exact hc i hi, hf⟩, ho⟩

set_option maxHeartbeats 1000000 in
set_option maxRecDepth 100000 in
theorem ringList_calls {w : World} {b o f : Nat} {l : Tx} (h : RingAt w b o f l) (hfit : ∀ i, i < l.length → (txAt l i).length ≤ 2000000) :
    Calls Tryd.prog 39 #[.pointer (some ⟨b, o, none⟩)] w (TxCopied w l.length l) := by
  have h9 := h.at9
  have hm := h.most
  have hbs := h.lt
  have hzz : (Tryd.prog.info? 9).map (fun i => (i.zero, i.size, i.bytes)) = some (some (gs []), 1, 16) := by kernel_rfl
  cases hi : Tryd.prog.info? 9 with
  | none => rw [hi] at hzz; cases hzz
  | some i =>
    rw [hi] at hzz
    simp at hzz
    have hmk := run_make_texts (P := Tryd.prog) Tryd.underlying35 hi hzz.1 hzz.2.1 hzz.2.2 l.length (l.length : Int) rfl (by omega) w
    clear hzz hi
    have ho := World.ownsRow_lit (size := 1) (base := w.heap.size) (e := 9) w (madeCells (Value.cells (gs [])) (l.length * 1)) l.length (Nat.le_refl _) (by simp [maxLen]; omega) (size_madeCells _ _)
    generalize hg : w.heap.size = g at ho hmk
    have hbw : Below w.heap.size w (w.alloc (.cells (madeCells (Value.cells (gs [])) (l.length * 1)) 9)) := (Below.refl _ _).alloc (Nat.le_refl _) _
    have hlt : g < (w.alloc (.cells (madeCells (Value.cells (gs [])) (l.length * 1)) 9)).heap.size := by simp; omega
    generalize w.alloc (.cells (madeCells (Value.cells (gs [])) (l.length * 1)) 9) = w1 at *
    generalize (madeCells (Value.cells (gs [])) (l.length * 1)).toList = xs at *
    have hop : OpenTx w1 g l.length := by
      have hx : xs.length = l.length * 1 := ho.1
      exact ⟨fun i hi => ⟨_, (ho.cellAt i (by omega)).trans (List.getElem?_eq_getElem (by omega))⟩, fun i _ => ho.frozenAt i⟩
    have H := Lib.hid h
    clear h ho
    go_enter Tryd.func39, Tryd.ntmps39
    go_wp2_with fail
    go_loopw [12] (fun i wr => ∃ k : Nat, i = .int .i64 (k : Int) ∧ k ≤ l.length ∧ OpenTx wr g l.length ∧ (∀ j, j < k → wr.cell? ⟨g, j, none⟩ = some (gs (txAt l j))) ∧ g < wr.heap.size ∧ Below g w wr) (fun i _ => l.length - (intOf i).toNat)
    case atStart => exact ⟨0, rfl, Nat.zero_le _, hop, (fun j hj => absurd hj (by omega)), hlt, hg ▸ hbw⟩
    case round =>
      clear hop hlt hbw hmk
      obtain ⟨k, rfl, hk, hop, hto, hlt, hbl⟩ := hrel
      by_cases hkl : k < l.length
      · have hr := H.out.below (hg ▸ hbl)
        have hcall := ringSlot_calls hr k (by omega)
        have c0 := hr.item k hkl
        obtain ⟨v0, e0⟩ := hop.there k hkl
        have f0 := hop.free k hkl
        have hgb : ¬ g = b := by omega
        have hto2 : ∀ n j, j < k + 1 → ((wr.drewN n).setCell ⟨g, k, none⟩ (gs (txAt l k))).cell? ⟨g, j, none⟩ = some (gs (txAt l j)) := fun n j hj => by
          have hbn := tx_drewN (Below.refl wr.heap.size wr) n
          by_cases e : j = k
          · subst e; exact World.cell?_setCell_same _ _ _ ((hbn.cell (p := ⟨g, j, none⟩) hlt).trans e0)
          · exact (World.cell?_setCell_other _ _ _ _ (fun e' => by injection e'; omega)).trans ((hbn.cell (p := ⟨g, j, none⟩) hlt).trans (hto j (by omega)))
        have hop2 := fun n => (hop.below hlt (tx_drewN (Below.refl wr.heap.size wr) n)).put (o := k) (gs (txAt l k))
        generalize (f + k) % 8 = q at *
        have HC := Lib.hid hcall
        have HT := Lib.hid hto2
        have HO := Lib.hid hop2
        have HBL := Lib.hid hbl
        clear hcall hto hto2 hop hop2 hbl hr
        go_wp2_with fail
        refine HC.out.mono ?_
        rintro e w2 ⟨rfl, n, rfl⟩
        have HB2 := Lib.hid ((tx_drewN HBL.out n).setCell (p := ⟨g, k, none⟩) (Nat.le_refl _) (gs (txAt l k)))
        have hs2 : g < ((wr.drewN n).setCell ⟨g, k, none⟩ (gs (txAt l k))).heap.size := by simp; exact hlt
        go_wp2_with fail
        exact ⟨⟨k + 1, by go_num, by omega, HO.out n, HT.out n, hs2, HB2.out⟩, by simp [intOf]; omega⟩
      · have hkl' : k = l.length := by omega
        subst hkl'
        have hin := inTx_fit hop rfl (by omega) hto hfit
        have HIN := Lib.hid hin
        have HBL := Lib.hid hbl
        clear hop hto hbl hin
        go_wp2_with fail
        go_ret
        exact ⟨g, rfl, HIN.out.1, HIN.out.2, by omega, hlt, by rw [hg]; exact HBL.out⟩
end Go.Proofs.YthimndilobadeaaDoor
