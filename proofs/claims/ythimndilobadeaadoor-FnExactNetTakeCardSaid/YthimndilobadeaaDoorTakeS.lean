/- The model's l04Bad, l04Take and NetTake. -/
import Derived.Test.YthimndilobadeaaDoorWithS
import Derived.Test.YthimndilobadeaaDoorNetOut
namespace Go.Proofs.YthimndilobadeaaDoor
open Go.RowKit

theorem InTx.take {w : World} {g len : Nat} {l : Tx} (h : InTx w (some ⟨g, 0, none⟩) len l) (p : Nat) (hp : p ≤ len) : InTx w (some ⟨g, 0, none⟩) p (l.take p) := by
  have hl := h.long
  have hat : ∀ i, i < p → txAt (l.take p) i = txAt l i := fun i hi => by simp [txAt, List.getD_eq_getElem?_getD, hi]
  exact ⟨by simp; omega, Nat.le_trans hp h.most, fun _ => ⟨g, 0, rfl⟩, fun b o e i hi => by rw [hat i hi]; exact h.cell b o e i (by omega), fun i hi => by rw [hat i hi]; exact h.fit i (by omega)⟩
theorem InTx.drop {w : World} {g len : Nat} {l : Tx} (h : InTx w (some ⟨g, 0, none⟩) len l) (p : Nat) (hp : p ≤ len) : InTx w (some ⟨g, p, none⟩) (len - p) (l.drop p) := by
  have hl := h.long
  have hat : ∀ i, txAt (l.drop p) i = txAt l (p + i) := fun i => by simp [txAt, List.getD_eq_getElem?_getD]
  exact ⟨by simp; omega, Nat.le_trans (Nat.sub_le _ _) h.most, fun _ => ⟨g, p, rfl⟩, fun b o e i hi => by
    cases e
    rw [hat i]
    have := h.cell g 0 rfl (p + i) (by omega)
    rwa [Nat.zero_add] at this, fun i hi => by rw [hat i]; exact h.fit (p + i) (by omega)⟩
theorem lst_most' {n : Nt} {k : Nat} (h : netRight n) (hk : k < n.length) (back : Bool) : (lst (wyAt n k) back).length ≤ 8 := by
  have hw := netRight_each h _ (wyAt_mem hk)
  cases back
  · exact hw.1.1
  · exact hw.2.1

set_option maxHeartbeats 1000000 in
set_option maxRecDepth 100000 in
theorem badS_calls {w : World} {lo hi g len cap : Nat} {n : Nt} {P Q : Nat → Nat} (h : NetOwn w lo hi g len n P Q) (path : Int) (h1 : -9223372036854775808 ≤ path) (h2 : path ≤ 9223372036854775807) (back : Bool) (x : Int) :
    Calls Tryd.prog 17 #[.slice (some ⟨g, 0, none⟩) len cap, .int .i64 path, .bool back, .int .i64 x] w fun e w' => e = .returned (.int .i64 (openAtC n path back x : Int)) ∧ Below w.heap.size w w' := by
  have hm := h.most
  have hlen := h.long
  by_cases hbig : (len : Int) > 400
  · have hc : openAtC n path back x = 2 := by unfold openAtC openC; simp only [if_pos (show 400 < n.length by omega)]; rfl
    rw [hc]
    clear h
    go_enter Tryd.func17, Tryd.ntmps17
    go_wp2_with fail
    go_ret
    exact ⟨rfl, Below.refl _ _⟩
  · have hcall := netRightS_calls (cap := cap) h.in'
    by_cases hr : netRight n
    · rw [decide_eq_true hr] at hcall
      have hl4 := hr.1
      have HC := Lib.hid hcall
      have hi1 := fun W => isS_calls path 0 ((len : Int) - 1) W
      by_cases hp : path < 0 ∨ (len : Int) ≤ path
      · have hc : openAtC n path back x = 6 := by unfold openAtC openC; simp only [if_neg (show ¬ 400 < n.length by omega), if_neg (show ¬ ¬ netRight n by simpa using hr), if_pos (show path < 0 ∨ (n.length : Int) ≤ path by omega)]; rfl
        rw [hc]
        rw [show (decide ((0 : Int) ≤ path) && decide (path ≤ (len : Int) - 1)) = false by rcases hp with h | h <;> simp <;> omega] at hi1
        have HI := Lib.hid hi1
        clear hcall hi1 h hr hc
        go_enter Tryd.func17, Tryd.ntmps17
        go_wp2_with fail
        refine HC.out.mono ?_
        rintro e w1 ⟨rfl, hb1⟩
        have HB := Lib.hid hb1
        clear hb1 HC
        go_wp2_with (go_at_call 33; refine (HI.out _).mono ?_; rintro e w2 ⟨rfl, rfl⟩)
        go_ret
        exact ⟨rfl, HB.out⟩
      · obtain ⟨k, rfl⟩ : ∃ k : Nat, path = (k : Int) := ⟨path.toNat, by omega⟩
        have hk : k < len := by omega
        have hc : openAtC n k back x = if x < 0 ∨ ((lst (wyAt n k) back).length : Int) ≤ x then 6 else 0 := by
          have h0 : openC n k = 0 := by unfold openC; rw [if_neg (by omega), if_neg (by simpa using hr), if_neg (by omega)]
          unfold openAtC; rw [if_neg (by omega)]; rfl
        rw [show (decide ((0 : Int) ≤ (k : Int)) && decide ((k : Int) ≤ (len : Int) - 1)) = true by simp; omega] at hi1
        have hcode : ((openAtC n k back x : Nat) : Int) = if (decide ((0 : Int) ≤ x) && decide (x ≤ ((lst (wyAt n k) back).length : Int) - 1)) = true then 0 else 6 := by
          rw [hc]
          by_cases hx : x < 0 ∨ ((lst (wyAt n k) back).length : Int) ≤ x
          · rw [if_pos hx, if_neg (by simp; omega)]; rfl
          · rw [if_neg hx, if_pos (by simp; omega)]; rfl
        obtain ⟨c0, c1⟩ := h.cell k hk
        have hlist := fun W => listS_calls (some ⟨P k, 0, none⟩) (some ⟨Q k, 0, none⟩) (wyAt n k).1.length (wyAt n k).1.length (wyAt n k).2.length (wyAt n k).2.length back W
        have hb8 := lst_most' hr (k := k) (by omega) back
        have hll : (if back = true then Value.slice (some ⟨Q k, 0, none⟩) (wyAt n k).2.length (wyAt n k).2.length else .slice (some ⟨P k, 0, none⟩) (wyAt n k).1.length (wyAt n k).1.length) = .slice (some ⟨if back = true then Q k else P k, 0, none⟩) (lst (wyAt n k) back).length (lst (wyAt n k) back).length := by cases back <;> rfl
        rw [hll] at hlist
        have hi2 := fun W => isS_calls x 0 (((lst (wyAt n k) back).length : Int) - 1) W
        rw [hcode]
        generalize (lst (wyAt n k) back).length = m at *
        generalize (if back = true then Q k else P k) = z at *
        generalize (decide ((0 : Int) ≤ x) && decide (x ≤ (m : Int) - 1)) = B at *
        unfold wayV at hlist
        have HI := Lib.hid hi1
        have HI2 := Lib.hid hi2
        have HLS := Lib.hid hlist
        clear hcall hi1 hi2 hlist h hr hc hcode hll hp
        go_enter Tryd.func17, Tryd.ntmps17
        go_wp2_with fail
        refine HC.out.mono ?_
        rintro e w1 ⟨rfl, hb1⟩
        replace c0 := (hb1.cell (World.block_lt_of_cell? _ _ c0)).trans c0
        replace c1 := (hb1.cell (World.block_lt_of_cell? _ _ c1)).trans c1
        have HB := Lib.hid hb1
        clear hb1 HC
        go_wp2_with fail
        refine (HI.out _).mono ?_
        rintro e w2 ⟨rfl, rfl⟩
        go_wp2_with fail
        refine (HLS.out _).mono ?_
        rintro e w3 ⟨rfl, hb3⟩
        have HB3 := Lib.hid (HB.out.trans (hb3.mono HB.out.size))
        clear hb3 HB HLS HI
        go_wp2_with fail
        refine (HI2.out _).mono ?_
        rintro e w4 ⟨rfl, rfl⟩
        cases B
        · go_wp2_with fail
          go_ret
          exact ⟨by simp, HB3.out⟩
        · go_wp2_with fail
          go_ret
          exact ⟨by simp, HB3.out⟩
    · rw [decide_eq_false hr] at hcall
      have hc : openAtC n path back x = 1 := by unfold openAtC openC; simp only [if_neg (show ¬ 400 < n.length by omega), if_pos hr]; rfl
      rw [hc]
      have HC := Lib.hid hcall
      clear hcall h hr hc
      go_enter Tryd.func17, Tryd.ntmps17
      go_wp2_with fail
      refine HC.out.mono ?_
      rintro e w1 ⟨rfl, hb1⟩
      have HB := Lib.hid hb1
      clear hb1 HC
      go_wp2_with fail
      go_ret
      exact ⟨rfl, HB.out⟩
end Go.Proofs.YthimndilobadeaaDoor
