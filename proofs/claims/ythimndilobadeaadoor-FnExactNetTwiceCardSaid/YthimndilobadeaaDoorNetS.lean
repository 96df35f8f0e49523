/- The model's NetTake and NetTwice. -/
import Derived.Test.YthimndilobadeaaDoorTakeT
import Derived.Test.YthimndilobadeaaDoorSendS
import Derived.OwnWalk
namespace Go.Proofs.YthimndilobadeaaDoor
open Go.RowKit

/-- What the model's calls on nets answer. -/
def NetSays (w : World) (r : NRes) (e : Ending) (w' : World) : Prop :=
  ∃ a len cap, e = .returned (netV a len cap r.2.1 r.2.2) ∧ InNet (fun _ => True) w' a len r.1 ∧ Below w.heap.size w w'
theorem netSays_code {w w' : World} (c : Int) (hb : Below w.heap.size w w') : NetSays w ([], [], c) (.returned (.agg #[.slice none 0 0, .string ⟨#[]⟩, .int .i64 c])) w' := ⟨none, 0, 0, rfl, inNet_nil, hb⟩
theorem InNet.put {w : World} {S : Nat → Prop} {a : Option Addr} {len g : Nat} {n : Nt} (h : InNet S w a len n) (hg : ∀ b, S b → b ≠ g) (o : Nat) (v : Value) : InNet S (w.setCell ⟨g, o, none⟩ v) a len n :=
  h.kept (T := fun x => x = g) (kept_grown (tgrown_set w g o v) rfl) hg

set_option maxHeartbeats 2000000 in
set_option maxRecDepth 100000 in
theorem takeS_calls {w : World} {lo hi g len cap : Nat} {n : Nt} {P Q : Nat → Nat} (h : NetOwn w lo hi g len n P Q) (path : Int) (h1 : -9223372036854775808 ≤ path) (h2 : path ≤ 9223372036854775807) (back : Bool) (x : Int) :
    Calls Tryd.prog 6 #[.slice (some ⟨g, 0, none⟩) len cap, .int .i64 path, .bool back, .int .i64 x] w (NetSays w (takeR n path back x)) := by
  have hlen := h.long
  have hbad := fun (W : World) (hb : Below w.heap.size w W) => badS_calls (cap := cap) (h.below hb) path h1 h2 back x
  have hb0 : Below w.heap.size w (w.alloc (.cells #[.slice none 0 0, .string ⟨#[]⟩, .int .i64 0] 26)) := (Below.refl _ _).alloc (Nat.le_refl _) _
  have hs0 : (w.alloc (.cells #[.slice none 0 0, .string ⟨#[]⟩, .int .i64 0] 26)).heap.size = w.heap.size + 1 := by simp
  have hbox := box3 w 26
  by_cases hc : openAtC n path back x = 0
  · obtain ⟨hc0, hx0, hx1⟩ := openAtC_ok hc
    obtain ⟨-, hr, hp0, hp1⟩ := openC_ok hc0
    obtain ⟨k, rfl⟩ : ∃ k : Nat, path = (k : Int) := ⟨path.toNat, by omega⟩
    obtain ⟨p, rfl⟩ : ∃ p : Nat, x = (p : Int) := ⟨x.toNat, by omega⟩
    have hR : takeR n k back p = (withN n k back ((lst (wyAt n k) back).eraseIdx p), txAt (lst (wyAt n k) back) p, 0) := by unfold takeR; rw [if_neg (by simpa using hc)]; rfl
    rw [hR]
    rw [hc] at hbad
    simp only [Int.toNat_natCast] at hx1
    have htk := fun (V : World) (hb : Below w.heap.size w V) => takeT_calls (cap := cap) (h.below hb) hr k (by omega) back p (by omega)
    generalize withN n k back ((lst (wyAt n k) back).eraseIdx p) = N at *
    generalize txAt (lst (wyAt n k) back) p = bs at *
    have HC := Lib.hid hbad
    have HT := Lib.hid htk
    clear hbad htk h hR hc hc0 hr hx0 hx1 hp0 hp1
    go_enter Tryd.func6, Tryd.ntmps6
    go_wp2_with fail
    generalize w.alloc (.cells #[.slice none 0 0, .string ⟨#[]⟩, .int .i64 0] 26) = W at *
    refine (HC.out _ hb0).mono ?_
    rintro e w1 ⟨rfl, hb1⟩
    have HX2 := Lib.hid (hbox.below (by omega) hb1)
    have HB1 := Lib.hid (hb0.trans (hb1.mono hb0.size))
    have hs1 := hb1.size
    clear hbox hb0 hb1 HC
    go_wp2_with fail
    refine (HT.out _ HB1.out).mono ?_
    rintro e w3 ⟨g3, cap3, rfl, hi3, hb3⟩
    have hbox3 := HX2.out.below (by omega) hb3
    obtain ⟨v0, c0⟩ := hbox3.there 0 (by omega)
    obtain ⟨v1, c1⟩ := hbox3.there 1 (by omega)
    obtain ⟨v2, c2⟩ := hbox3.there 2 (by omega)
    have f0 := hbox3.free 0 (by omega)
    have f1 := hbox3.free 1 (by omega)
    have f2 := hbox3.free 2 (by omega)
    have HB3 := Lib.hid (HB1.out.trans (hb3.mono HB1.out.size))
    have HI3 := Lib.hid hi3
    clear hbox3 hb3 hi3 HB1 HX2 HT
    go_wp2_with fail
    refine bodyPost_ret (v := netV (some ⟨g3, 0, none⟩) len cap3 bs 0) (by simp [netV, results, Tryd.results6, go_sem, c0, c1, c2]) rfl ?_
    exact ⟨_, _, _, rfl, (((HI3.out.put (g := w.heap.size) (fun b hb => by omega) 0 _).put (g := w.heap.size) (fun b hb => by omega) 1 _).put (g := w.heap.size) (fun b hb => by omega) 2 _).mono (fun _ _ => trivial), ((HB3.out.setCell (Nat.le_refl _) _).setCell (Nat.le_refl _) _).setCell (Nat.le_refl _) _⟩
  · have hR : takeR n path back x = ([], [], ((openAtC n path back x : Nat) : Int)) := by unfold takeR; rw [if_pos hc]
    rw [hR]
    have hne : (((openAtC n path back x : Nat) : Int) != 0) = true := by simp; omega
    generalize openAtC n path back x = c at *
    have HC := Lib.hid hbad
    clear hbad h hR hc
    go_enter Tryd.func6, Tryd.ntmps6
    go_wp2_with fail
    generalize w.alloc (.cells #[.slice none 0 0, .string ⟨#[]⟩, .int .i64 0] 26) = W at *
    refine (HC.out _ hb0).mono ?_
    rintro e w1 ⟨rfl, hb1⟩
    have hbox1 := hbox.below (by omega) hb1
    obtain ⟨v0, c0⟩ := hbox1.there 0 (by omega)
    obtain ⟨v1, c1⟩ := hbox1.there 1 (by omega)
    obtain ⟨v2, c2⟩ := hbox1.there 2 (by omega)
    have f0 := hbox1.free 0 (by omega)
    have f1 := hbox1.free 1 (by omega)
    have f2 := hbox1.free 2 (by omega)
    have HB := Lib.hid (hb0.trans (hb1.mono hb0.size))
    clear hbox hbox1 hb0 hb1 HC
    go_wp2_with fail
    refine bodyPost_ret (v := .agg #[.slice none 0 0, .string ⟨#[]⟩, .int .i64 (c : Int)]) (by simp [results, Tryd.results6, go_sem, c0, c1, c2]) rfl ?_
    exact netSays_code _ (((HB.out.setCell (Nat.le_refl _) _).setCell (Nat.le_refl _) _).setCell (Nat.le_refl _) _)
set_option maxHeartbeats 2000000 in
set_option maxRecDepth 100000 in
theorem twiceS_calls {w : World} {lo hi g len cap : Nat} {n : Nt} {P Q : Nat → Nat} (h : NetOwn w lo hi g len n P Q) (path : Int) (h1 : -9223372036854775808 ≤ path) (h2 : path ≤ 9223372036854775807) (back : Bool) (x : Int) :
    Calls Tryd.prog 14 #[.slice (some ⟨g, 0, none⟩) len cap, .int .i64 path, .bool back, .int .i64 x] w (NetSays w (twiceR n path back x)) := by
  have hlen := h.long
  have hbad := fun (W : World) (hb : Below w.heap.size w W) => badS_calls (cap := cap) (h.below hb) path h1 h2 back x
  have hb0 : Below w.heap.size w (w.alloc (.cells #[.slice none 0 0, .string ⟨#[]⟩, .int .i64 0] 26)) := (Below.refl _ _).alloc (Nat.le_refl _) _
  have hs0 : (w.alloc (.cells #[.slice none 0 0, .string ⟨#[]⟩, .int .i64 0] 26)).heap.size = w.heap.size + 1 := by simp
  have hbox := box3 w 26
  by_cases hc : openAtC n path back x = 0
  · obtain ⟨hc0, hx0, hx1⟩ := openAtC_ok hc
    obtain ⟨-, hr, hp0, hp1⟩ := openC_ok hc0
    obtain ⟨k, rfl⟩ : ∃ k : Nat, path = (k : Int) := ⟨path.toNat, by omega⟩
    obtain ⟨p, rfl⟩ : ∃ p : Nat, x = (p : Int) := ⟨x.toNat, by omega⟩
    have hR : twiceR n k back p = (withN n k back (if (lst (wyAt n k) back).length < 8 then lst (wyAt n k) back ++ [txAt (lst (wyAt n k) back) p] else lst (wyAt n k) back), [], 0) := by unfold twiceR; rw [if_neg (by simpa using hc)]; rfl
    rw [hc] at hbad
    simp only [Int.toNat_natCast] at hx1
    have hpl : p < (lst (wyAt n k) back).length := by omega
    have hk : k < len := by omega
    have hsm : (txAt (lst (wyAt n k) back) p).length ≤ 2000000 := by
      have h1 := netRight_each hr _ (wyAt_mem (show k < n.length by omega))
      cases back
      · have := (h1.1.2 p hpl).2; exact Nat.le_trans this (by omega)
      · have := (h1.2.2 p hpl).2; exact Nat.le_trans this (by omega)
    have htk := fun (V : World) (hb : Below w.heap.size w V) => sendS_calls (cap := cap) (h.below hb).in' k hk back (txAt (lst (wyAt n k) back) p) hsm
    obtain ⟨c0', c1'⟩ := h.cell k hk
    have hlist := fun W => listS_calls (some ⟨P k, 0, none⟩) (some ⟨Q k, 0, none⟩) (wyAt n k).1.length (wyAt n k).1.length (wyAt n k).2.length (wyAt n k).2.length back W
    have hll : (if back = true then Value.slice (some ⟨Q k, 0, none⟩) (wyAt n k).2.length (wyAt n k).2.length else .slice (some ⟨P k, 0, none⟩) (wyAt n k).1.length (wyAt n k).1.length) = .slice (some ⟨if back = true then Q k else P k, 0, none⟩) (lst (wyAt n k) back).length (lst (wyAt n k) back).length := by cases back <;> rfl
    rw [hll] at hlist
    have hrow : InTx w (some ⟨if back = true then Q k else P k, 0, none⟩) (lst (wyAt n k) back).length (lst (wyAt n k) back) := by cases back; exact (h.there k hk).1; exact (h.back k hk).1
    have hcz := hrow.cell _ 0 rfl p hpl
    rw [Nat.zero_add] at hcz
    unfold wayV at hlist
    have hpm : (p : Int) < ((lst (wyAt n k) back).length : Int) := by omega
    generalize (lst (wyAt n k) back).length = m at hlist hpm
    generalize (if back = true then Q k else P k) = z at hlist hcz
    obtain ⟨N, hN⟩ : ∃ N, withN n k back (if (lst (wyAt n k) back).length < 8 then lst (wyAt n k) back ++ [txAt (lst (wyAt n k) back) p] else lst (wyAt n k) back) = N := ⟨_, rfl⟩
    rw [hN] at hR
    rw [hR]
    simp only [hN] at htk
    clear hN
    generalize txAt (lst (wyAt n k) back) p = bs at *
    have HC := Lib.hid hbad
    have HT := Lib.hid htk
    have HLS := Lib.hid hlist
    clear hbad htk h hR hc hc0 hr hx0 hx1 hp0 hp1 hlist hll hrow hpl hsm
    go_enter Tryd.func14, Tryd.ntmps14
    go_wp2_with fail
    generalize w.alloc (.cells #[.slice none 0 0, .string ⟨#[]⟩, .int .i64 0] 26) = W at *
    refine (HC.out _ hb0).mono ?_
    rintro e w1 ⟨rfl, hb1⟩
    have HX1 := Lib.hid (hbox.below (by omega) hb1)
    have hbw := hb0.trans (hb1.mono hb0.size)
    have HB1 := Lib.hid hbw
    have hs1 := hb1.size
    replace c0' := (hbw.cell (World.block_lt_of_cell? _ _ c0')).trans c0'
    replace c1' := (hbw.cell (World.block_lt_of_cell? _ _ c1')).trans c1'
    replace hcz := (hbw.cell (World.block_lt_of_cell? _ _ hcz)).trans hcz
    clear hbox hb0 hb1 HC hbw
    go_wp2_with fail
    refine (HLS.out _).mono ?_
    rintro e w2 ⟨rfl, hb2⟩
    replace hcz := (hb2.cell (World.block_lt_of_cell? _ _ hcz)).trans hcz
    have HX2 := Lib.hid (HX1.out.below (by omega) hb2)
    have HB2 := Lib.hid (HB1.out.trans (hb2.mono HB1.out.size))
    have hs2 := hb2.size
    clear HX1 HB1 HLS hb2 c0' c1'
    go_wp2_with fail
    refine (HT.out _ HB2.out).mono ?_
    rintro e w3 ⟨g3, cap3, rfl, hi3, hb3⟩
    have hbox3 := HX2.out.below (by omega) hb3
    obtain ⟨v0, c0⟩ := hbox3.there 0 (by omega)
    obtain ⟨v1, c1⟩ := hbox3.there 1 (by omega)
    obtain ⟨v2, c2⟩ := hbox3.there 2 (by omega)
    have f0 := hbox3.free 0 (by omega)
    have f1 := hbox3.free 1 (by omega)
    have f2 := hbox3.free 2 (by omega)
    have HB3 := Lib.hid (HB2.out.trans (hb3.mono HB2.out.size))
    have HI3 := Lib.hid hi3
    clear hbox3 hb3 hi3 HB2 HX2 HT hcz
    go_wp2_with fail
    refine bodyPost_ret (v := netV (some ⟨g3, 0, none⟩) len cap3 [] 0) (by simp [netV, results, Tryd.results14, go_sem, c0, c1, c2]) rfl ?_
    exact ⟨_, _, _, rfl, (((HI3.out.put (g := w.heap.size) (fun b hb => by omega) 0 _).put (g := w.heap.size) (fun b hb => by omega) 1 _).put (g := w.heap.size) (fun b hb => by omega) 2 _).mono (fun _ _ => trivial), ((HB3.out.setCell (Nat.le_refl _) _).setCell (Nat.le_refl _) _).setCell (Nat.le_refl _) _⟩
  · have hR : twiceR n path back x = ([], [], ((openAtC n path back x : Nat) : Int)) := by unfold twiceR; rw [if_pos hc]
    rw [hR]
    have hne : (((openAtC n path back x : Nat) : Int) != 0) = true := by simp; omega
    generalize openAtC n path back x = c at *
    have HC := Lib.hid hbad
    clear hbad h hR hc
    go_enter Tryd.func14, Tryd.ntmps14
    go_wp2_with fail
    generalize w.alloc (.cells #[.slice none 0 0, .string ⟨#[]⟩, .int .i64 0] 26) = W at *
    refine (HC.out _ hb0).mono ?_
    rintro e w1 ⟨rfl, hb1⟩
    have hbox1 := hbox.below (by omega) hb1
    obtain ⟨v0, c0⟩ := hbox1.there 0 (by omega)
    obtain ⟨v1, c1⟩ := hbox1.there 1 (by omega)
    obtain ⟨v2, c2⟩ := hbox1.there 2 (by omega)
    have f0 := hbox1.free 0 (by omega)
    have f1 := hbox1.free 1 (by omega)
    have f2 := hbox1.free 2 (by omega)
    have HB := Lib.hid (hb0.trans (hb1.mono hb0.size))
    clear hbox hbox1 hb0 hb1 HC
    go_wp2_with fail
    refine bodyPost_ret (v := .agg #[.slice none 0 0, .string ⟨#[]⟩, .int .i64 (c : Int)]) (by simp [results, Tryd.results14, go_sem, c0, c1, c2]) rfl ?_
    exact netSays_code _ (((HB.out.setCell (Nat.le_refl _) _).setCell (Nat.le_refl _) _).setCell (Nat.le_refl _) _)
end Go.Proofs.YthimndilobadeaaDoor
