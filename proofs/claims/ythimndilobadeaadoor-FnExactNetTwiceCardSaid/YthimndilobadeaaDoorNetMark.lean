/- The laws' marks on nets; the laws' words on what the calls on nets hand back. -/
import Derived.Test.YthimndilobadeaaDoorTxMark
import Derived.Test.YthimndilobadeaaDoorNetLaw
import Derived.Test.YthimndilobadeaaDoorNetTo
namespace Go.Proofs.YthimndilobadeaaDoor
open Go.RowKit

def nmarks : Nat → Nt → Nt
  | _, [] => []
  | k, p :: r => (tmarks k p.1.length, tmarks (k + p.1.length) p.2.length) :: nmarks (k + p.1.length + p.2.length) r
theorem nmarks_len : ∀ (n : Nt) (k : Nat), (nmarks k n).length = n.length
  | [], _ => rfl
  | p :: r, k => by simp only [nmarks, List.length_cons, nmarks_len r]
theorem netSum_take_succ : ∀ (n : Nt) (i : Nat), i < n.length → netSum (n.take (i + 1)) = netSum (n.take i) + (wyAt n i).1.length + (wyAt n i).2.length
  | [], i, h => by simp at h
  | p :: r, 0, _ => by simp [netSum, wyAt, List.getD]
  | p :: r, i + 1, h => by
    have ih := netSum_take_succ r i (by simpa using h)
    have e : wyAt (p :: r) (i + 1) = wyAt r i := by simp [wyAt, List.getD]
    rw [e, List.take_succ_cons, List.take_succ_cons]
    simp only [netSum]
    omega
theorem nmarks_at : ∀ (n : Nt) (k i : Nat), i < n.length → wyAt (nmarks k n) i = (tmarks (k + netSum (n.take i)) (wyAt n i).1.length, tmarks (k + netSum (n.take i) + (wyAt n i).1.length) (wyAt n i).2.length)
  | [], _, i, h => by simp at h
  | p :: r, k, 0, _ => by simp [nmarks, wyAt, List.getD, netSum]
  | p :: r, k, i + 1, h => by
    have ih := nmarks_at r (k + p.1.length + p.2.length) i (by simpa using h)
    have e : wyAt (p :: r) (i + 1) = wyAt r i := by simp [wyAt, List.getD]
    have e2 : wyAt (nmarks k (p :: r)) (i + 1) = wyAt (nmarks (k + p.1.length + p.2.length) r) i := by simp [wyAt, List.getD, nmarks]
    rw [e, e2, ih, List.take_succ_cons]
    simp only [netSum]
    have h1 : k + p.1.length + p.2.length + netSum (r.take i) = k + (p.1.length + p.2.length + netSum (r.take i)) := by omega
    rw [h1]
theorem netSum_take_le : ∀ (n : Nt) (i : Nat), netSum (n.take i) ≤ netSum n
  | [], i => by simp [netSum]
  | p :: r, 0 => by simp [netSum]
  | p :: r, i + 1 => by
    have := netSum_take_le r i
    rw [List.take_succ_cons]
    simp only [netSum]
    omega
theorem wyAt_set {n : Nt} {i j : Nat} {p : Wy} (hi : i < n.length) : wyAt (n.set i p) j = if j = i then p else wyAt n j := by
  unfold wyAt
  by_cases e : j = i
  · subst e; simp [List.getD, hi]
  · rw [if_neg e]; simp [List.getD, List.getElem?_set_ne (Ne.symm e)]
theorem nt_ext {n m : Nt} (hl : n.length = m.length) (h : ∀ i, i < n.length → wyAt n i = wyAt m i) : n = m := by
  apply List.ext_getElem hl
  intro i h1 h2
  have := h i h1
  rwa [wyAt_get h1, wyAt_get h2] at this

/-- A row of the net is written over with as many texts. -/
theorem NetOwn.there_set {w w' : World} {lo hi g len i : Nat} {n : Nt} {P Q : Nat → Nat} (h : NetOwn w lo hi g len n P Q) (hil : i < len) {t : Tx} (ht : t.length = (wyAt n i).1.length) (hg : w.grownBy w' (some (P i)))
    (i1 : InTx w' (some ⟨P i, 0, none⟩) (wyAt n i).1.length t) (o1 : OpenTx w' (P i) (wyAt n i).1.length) : NetOwn w' lo hi g len (n.set i (t, (wyAt n i).2)) P Q := by
  have hlen := h.long
  have ht0 := h.top
  have hl0 := h.low
  have hoi := h.order i hil
  have hblk : ∀ b, b < w.heap.size → b ≠ P i → w'.heap[b]? = w.heap[b]? := fun b hb hne => hg.block b hb (fun e => hne (Option.some.inj e))
  have hat : ∀ j, wyAt (n.set i (t, (wyAt n i).2)) j = if j = i then (t, (wyAt n i).2) else wyAt n j := fun j => wyAt_set (by omega)
  have hl1 : ∀ j, (wyAt (n.set i (t, (wyAt n i).2)) j).1.length = (wyAt n j).1.length := fun j => by
    rw [hat]; split
    · rename_i e; rw [e]; exact ht
    · rfl
  have hl2 : ∀ j, (wyAt (n.set i (t, (wyAt n i).2)) j).2 = (wyAt n j).2 := fun j => by
    rw [hat]; split
    · rename_i e; rw [e]
    · rfl
  refine ⟨by simpa using h.long, h.most, h.low, Nat.le_trans h.top hg.size, fun j hj => ?_, fun j hj => ?_, fun j hj => ?_, h.order, h.chain⟩
  · rw [hl1, hl2]
    obtain ⟨c0, c1⟩ := h.cell j hj
    have hb := hblk g (by omega) (by omega)
    exact ⟨(World.cell?_of_block (a := ⟨g, j * 2, none⟩) hb).trans c0, (World.cell?_of_block (a := ⟨g, j * 2 + 1, none⟩) hb).trans c1⟩
  · rw [hl1]
    by_cases e : j = i
    · subst e
      rw [hat, if_pos rfl]
      exact ⟨i1, o1⟩
    · rw [hat, if_neg e]
      have hoj := h.order j hj
      have hne : P j ≠ P i := by
        rcases Nat.lt_or_gt_of_ne e with h1 | h1
        · have := h.chain j i h1 hil; omega
        · have := h.chain i j h1 hj; omega
      have hb := hblk (P j) (by omega) hne
      exact ⟨(h.there j hj).1.kept (fun b o e _ => by cases e; exact hb), (h.there j hj).2.kept hb⟩
  · rw [hl2]
    have hoj := h.order j hj
    have hne : Q j ≠ P i := by
      by_cases e : j = i
      · subst e; omega
      · rcases Nat.lt_or_gt_of_ne e with h1 | h1
        · have := h.chain j i h1 hil; omega
        · have := h.chain i j h1 hj; omega
    have hb := hblk (Q j) (by omega) hne
    exact ⟨(h.back j hj).1.kept (fun b o e _ => by cases e; exact hb), (h.back j hj).2.kept hb⟩
theorem NetOwn.back_set {w w' : World} {lo hi g len i : Nat} {n : Nt} {P Q : Nat → Nat} (h : NetOwn w lo hi g len n P Q) (hil : i < len) {t : Tx} (ht : t.length = (wyAt n i).2.length) (hg : w.grownBy w' (some (Q i)))
    (i1 : InTx w' (some ⟨Q i, 0, none⟩) (wyAt n i).2.length t) (o1 : OpenTx w' (Q i) (wyAt n i).2.length) : NetOwn w' lo hi g len (n.set i ((wyAt n i).1, t)) P Q := by
  have hlen := h.long
  have ht0 := h.top
  have hl0 := h.low
  have hoi := h.order i hil
  have hblk : ∀ b, b < w.heap.size → b ≠ Q i → w'.heap[b]? = w.heap[b]? := fun b hb hne => hg.block b hb (fun e => hne (Option.some.inj e))
  have hat : ∀ j, wyAt (n.set i ((wyAt n i).1, t)) j = if j = i then ((wyAt n i).1, t) else wyAt n j := fun j => wyAt_set (by omega)
  have hl1 : ∀ j, (wyAt (n.set i ((wyAt n i).1, t)) j).2.length = (wyAt n j).2.length := fun j => by
    rw [hat]; split
    · rename_i e; rw [e]; exact ht
    · rfl
  have hl2 : ∀ j, (wyAt (n.set i ((wyAt n i).1, t)) j).1 = (wyAt n j).1 := fun j => by
    rw [hat]; split
    · rename_i e; rw [e]
    · rfl
  refine ⟨by simpa using h.long, h.most, h.low, Nat.le_trans h.top hg.size, fun j hj => ?_, fun j hj => ?_, fun j hj => ?_, h.order, h.chain⟩
  · rw [hl1, hl2]
    obtain ⟨c0, c1⟩ := h.cell j hj
    have hb := hblk g (by omega) (by omega)
    exact ⟨(World.cell?_of_block (a := ⟨g, j * 2, none⟩) hb).trans c0, (World.cell?_of_block (a := ⟨g, j * 2 + 1, none⟩) hb).trans c1⟩
  · rw [hl2]
    have hoj := h.order j hj
    have hne : P j ≠ Q i := by
      by_cases e : j = i
      · subst e; omega
      · rcases Nat.lt_or_gt_of_ne e with h1 | h1
        · have := h.chain j i h1 hil; omega
        · have := h.chain i j h1 hj; omega
    have hb := hblk (P j) (by omega) hne
    exact ⟨(h.there j hj).1.kept (fun b o e _ => by cases e; exact hb), (h.there j hj).2.kept hb⟩
  · rw [hl1]
    by_cases e : j = i
    · subst e
      rw [hat, if_pos rfl]
      exact ⟨i1, o1⟩
    · rw [hat, if_neg e]
      have hoj := h.order j hj
      have hne : Q j ≠ Q i := by
        rcases Nat.lt_or_gt_of_ne e with h1 | h1
        · have := h.chain j i h1 hil; have := h.order i hil; omega
        · have := h.chain i j h1 hj; omega
      have hb := hblk (Q j) (by omega) hne
      exact ⟨(h.back j hj).1.kept (fun b o e _ => by cases e; exact hb), (h.back j hj).2.kept hb⟩

/-- The first i ways are marked, the others are as they were. -/
structure MarkUp (m n : Nt) (k i : Nat) : Prop where
  long : m.length = n.length
  done : ∀ j, j < i → wyAt m j = wyAt (nmarks k n) j
  rest : ∀ j, i ≤ j → wyAt m j = wyAt n j
theorem markUp_zero (n : Nt) (k : Nat) : MarkUp n n k 0 := ⟨rfl, fun j h => by omega, fun _ _ => rfl⟩
theorem markUp_succ {m n : Nt} {k i : Nat} (h : MarkUp m n k i) (hi : i < n.length) :
    MarkUp ((m.set i (tmarks (k + netSum (n.take i)) (wyAt m i).1.length, (wyAt m i).2)).set i ((wyAt (m.set i (tmarks (k + netSum (n.take i)) (wyAt m i).1.length, (wyAt m i).2)) i).1, tmarks (k + netSum (n.take i) + (wyAt m i).1.length) (wyAt m i).2.length)) n k (i + 1) := by
  have hml := h.long
  have hr := h.rest i (Nat.le_refl _)
  refine ⟨by simpa using h.long, fun j hj => ?_, fun j hj => ?_⟩
  · rw [wyAt_set (by simp; omega), wyAt_set (by omega)]
    by_cases e : j = i
    · subst e
      rw [if_pos rfl, if_pos rfl, nmarks_at n k j hi, hr]
    · rw [if_neg e, wyAt_set (by omega), if_neg e]
      exact h.done j (by omega)
  · rw [wyAt_set (by simp; omega), if_neg (by omega), wyAt_set (by omega), if_neg (by omega)]
    exact h.rest j (by omega)
theorem markUp_all {m n : Nt} {k : Nat} (h : MarkUp m n k n.length) : m = nmarks k n :=
  nt_ext (by rw [nmarks_len, h.long]) (fun i hi => h.done i (by rw [← h.long]; exact hi))

set_option maxHeartbeats 2000000 in
set_option maxRecDepth 100000 in
theorem markWayS_calls {w : World} {lo hi g len cap k : Nat} {n : Nt} {P Q : Nat → Nat} (h : NetOwn w lo hi g len n P Q) (hk : k + netSum n ≤ 100000000) :
    Calls Tryd.prog 11 #[.slice (some ⟨g, 0, none⟩) len cap, .int .i64 (k : Int)] w fun e w' => e = .returned (.int .i64 ((k + netSum n : Nat) : Int)) ∧ NetOwn w' lo hi g len (nmarks k n) P Q ∧ Kept (fun b => lo ≤ b ∧ b < hi) w w' := by
  have hm := h.most
  have hlen := h.long
  have hlow := h.low
  go_enter Tryd.func11, Tryd.ntmps11
  go_wp2_with fail
  go_loopw [1, 5] (fun v i wr => ∃ (j : Nat) (m : Nt), i = .int .i64 (j : Int) ∧ v = .int .i64 ((k + netSum (n.take j) : Nat) : Int) ∧ j ≤ len ∧ NetOwn wr lo hi g len m P Q ∧ MarkUp m n k j ∧ Kept (fun b => lo ≤ b ∧ b < hi) w wr) (fun _ i _ => len - (intOf i).toNat)
  case atStart => exact ⟨0, n, rfl, by simp [netSum], Nat.zero_le _, h, markUp_zero n k, Kept.refl _ _⟩
  case round =>
    clear h
    obtain ⟨j, m, rfl, rfl, hj, ho, hup, hkp⟩ := hrel
    by_cases hjl : j < len
    · obtain ⟨c0, c1⟩ := ho.cell j hjl
      have hst := netSum_take_succ n j (by omega)
      have hsl := netSum_take_le n (j + 1)
      have hr := hup.rest j (Nat.le_refl _)
      have hup2 := markUp_succ hup (by omega)
      have hor := ho.order j hjl
      have hmk := markStringS_calls (cap := (wyAt m j).1.length) (k := k + netSum (n.take j)) (ho.there j hjl).2 (ho.there j hjl).1.most (by omega)
      rw [← hr] at hst
      generalize hnx : netSum (n.take (j + 1)) = x1 at *
      generalize netSum (n.take j) = x0 at *
      have HO := Lib.hid ho
      have HU := Lib.hid hup2
      have HK := Lib.hid hkp
      have HM := Lib.hid hmk
      have HX := Lib.hid hnx
      clear ho hup hup2 hkp hmk hr hnx
      go_wp2_with fail
      refine HM.out.mono ?_
      rintro e w1 ⟨rfl, i1, o1, g1⟩
      have ho1 := HO.out.there_set hjl (tmarks_len _ _) g1 i1 o1
      have e1 : wyAt (m.set j (tmarks (k + x0) (wyAt m j).1.length, (wyAt m j).2)) j = (tmarks (k + x0) (wyAt m j).1.length, (wyAt m j).2) := by rw [wyAt_set (by have := HU.out.long; simp at this; omega), if_pos rfl]
      have hbk := ho1.back j hjl
      rw [e1] at hbk
      have d1 := (ho1.cell j hjl).2
      rw [e1] at d1
      have hmk2 := markStringS_calls (cap := (wyAt m j).2.length) (k := k + x0 + (wyAt m j).1.length) hbk.2 hbk.1.most (by omega)
      have HO1 := Lib.hid ho1
      have HM2 := Lib.hid hmk2
      have HE1 := Lib.hid e1
      have HK1 := Lib.hid (HK.out.trans (kept_grown g1 ⟨by omega, by omega⟩))
      clear HO HK HM ho1 hmk2 i1 o1 g1 hbk e1
      go_wp2_with fail
      refine HM2.out.mono ?_
      rintro e w2 ⟨rfl, i2, o2, g2⟩
      have ho2 := HO1.out.back_set hjl (t := tmarks (k + x0 + (wyAt m j).1.length) (wyAt m j).2.length) (by rw [HE1.out, tmarks_len]) g2 (by rw [HE1.out]; exact i2) (by rw [HE1.out]; exact o2)
      have HO2 := Lib.hid ho2
      have HK2 := Lib.hid (HK1.out.trans (kept_grown g2 ⟨by omega, by omega⟩))
      clear HO1 HK1 HM2 ho2 i2 o2 g2
      go_wp2_with fail
      go_roundw
      case rel => exact ⟨j + 1, _, by go_num, by rw [HX.out]; exact val_int (by omega), by omega, HO2.out, HU.out, HK2.out⟩
      case measure => simp [intOf]; omega
    · have hjl' : j = n.length := by omega
      have he := markUp_all (hjl' ▸ hup)
      subst he
      have hx : n.take j = n := by rw [hjl']; exact List.take_length
      have HO := Lib.hid ho
      have HK := Lib.hid hkp
      have HX := Lib.hid hx
      clear ho hup hkp hx hjl'
      go_wp2_with fail
      go_ret
      exact ⟨ret_int (by rw [HX.out]), HO.out, HK.out⟩
end Go.Proofs.YthimndilobadeaaDoor
