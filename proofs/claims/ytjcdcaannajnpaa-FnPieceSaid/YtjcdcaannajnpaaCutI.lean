/- PieceCut, the model's and the program's. -/
import Derived.Test.YtjcdcaannajnpaaFromI
import Derived.Test.YtjcdcaannajnpaaPieceCut
import Derived.Test.YtjcdcaannajnpaaPieceMath
namespace Go.Proofs.Ytjcdcaannajnpaa
open Go.RowKit

theorem ownsRow_base {w : World} {B B' : Nat} {e : TypeId} {size : Nat} {v : Value} {n : Nat} {xs : List Value} (h : w.ownsRow B e size v n xs) (hB : B' ≤ B) : w.ownsRow B' e size v n xs := by
  refine ⟨h.1, ?_⟩
  rcases h.2 with h | ⟨g, cap, cur, rfl, hb, rest⟩
  · exact .inl h
  · exact .inr ⟨g, cap, cur, rfl, Nat.le_trans hB hb, rest⟩
theorem ownsRow_slice {w : World} {B : Nat} {e : TypeId} {size : Nat} {v : Value} {n : Nat} {xs : List Value} (h : w.ownsRow B e size v n xs) : ∃ a c, v = .slice a n c := by
  rcases h.2 with ⟨rfl, rfl⟩ | ⟨g, cap, cur, rfl, _⟩
  · exact ⟨_, _, rfl⟩
  · exact ⟨_, _, rfl⟩
/-- What PieceCut answers: the pieces, the code. -/
def cutR (l : List Pc) (n : Int) : List Pc × Int := if 400 < l.length then ([], 2) else if right l then (cutN l n, 0) else ([], 1)
/-- What a function of pieces hands back: a row of its own, and a code. -/
def OutRow (w : World) (r : List Pc × Int) (e : Ending) (w' : World) : Prop :=
  ∃ v, e = .returned (.agg #[v, .int .i64 r.2]) ∧ w'.ownsRow w.heap.size 69 2 v r.1.length (pv r.1) ∧ Below w.heap.size w w'
theorem outRow_code {w w' : World} {c : Int} (hb : Below w.heap.size w w') : OutRow w ([], c) (.returned (.agg #[.slice none 0 0, .int .i64 c])) w' := ⟨_, rfl, World.ownsRow_nil w' _ _ _, hb⟩

set_option maxHeartbeats 1000000 in
theorem cutRS_calls {a : Option Addr} {len cap : Nat} {l : List Pc} {w : World} (h : InPcs w a len l) (n : Int) (ha0 : -9223372036854775808 ≤ n) (ha1 : n ≤ 9223372036854775807) :
    Calls Try.prog 14 #[.slice a len cap, .int .i64 n] w (OutRow w (cutR l n)) := by
  have hm := h.most
  have hlen := h.long
  have hbz : ∀ x, Below w.heap.size w (w.alloc x) := fun x => (Below.refl _ _).alloc (Nat.le_refl _) x
  by_cases h400 : 400 < len
  · have hv : cutR l n = ([], 2) := by unfold cutR; rw [if_pos (by omega)]
    rw [hv]
    have HBZ := Lib.hid hbz
    clear hv h hbz hlen
    go_enter Try.func14, Try.ntmps14
    go_wp2_with fail
    all_goals first
      | (exfalso; omega)
      | exact bodyPost_ret (v := .agg #[.slice none 0 0, .int .i64 2]) (by simp [results, Try.results14, go_sem]) rfl (outRow_code (HBZ.out _))
  · have hc := fun x => rightS_calls (cap := cap) (h.below (hbz x))
    by_cases hr : right l
    · have hv : cutR l n = (cutN l n, 0) := by unfold cutR; rw [if_neg (by omega), if_pos hr]
      rw [hv]
      rw [decide_eq_true hr] at hc
      have hcut := fun w' (hb : Below w.heap.size w w') => cutS_calls (cap := cap) (h.below hb) hr n ha0 ha1
      generalize cutN l n = D at *
      have HC := Lib.hid hc
      have HK := Lib.hid hcut
      have HBZ := Lib.hid hbz
      clear hc hcut hv h hr hbz hlen
      go_enter Try.func14, Try.ntmps14
      go_wp2_with fail
      refine (HC.out _).mono ?_
      rintro e w1 ⟨rfl, hb1⟩
      have z0 : w1.cell? ⟨w.heap.size, 0, none⟩ = some (.slice none 0 0) := (cell_kept hb1 0).trans (by simp)
      have z1 : w1.cell? ⟨w.heap.size, 1, none⟩ = some (.int .i64 0) := (cell_kept hb1 1).trans (by simp)
      have y0 : w1.frozen? ⟨w.heap.size, 0, none⟩ = false := (hb1.frozen (p := ⟨w.heap.size, 0, none⟩) (by simp)).trans (by simp)
      have y1 : w1.frozen? ⟨w.heap.size, 1, none⟩ = false := (hb1.frozen (p := ⟨w.heap.size, 1, none⟩) (by simp)).trans (by simp)
      have hsz : w.heap.size < w1.heap.size := size_kept hb1
      have HB1 := Lib.hid ((HBZ.out _).trans (hb1.mono (by simp)))
      clear hb1 HC HBZ
      go_wp2_with fail
      refine (HK.out _ HB1.out).mono ?_
      rintro e w2 ⟨v, rfl, hown, hb2⟩
      obtain ⟨a2, c2, rfl⟩ := ownsRow_slice hown
      have x0 := (hb2.cell (p := ⟨w.heap.size, 0, none⟩) hsz).trans z0
      have x1 := (hb2.cell (p := ⟨w.heap.size, 1, none⟩) hsz).trans z1
      have v0 := (hb2.frozen (p := ⟨w.heap.size, 0, none⟩) hsz).trans y0
      have v1 := (hb2.frozen (p := ⟨w.heap.size, 1, none⟩) hsz).trans y1
      have HB2 := Lib.hid (HB1.out.trans (hb2.mono (by omega)))
      have HO := Lib.hid (ownsRow_base hown (show w.heap.size + 1 ≤ w1.heap.size by omega))
      clear hown hb2 z0 z1 y0 y1 HK HB1
      go_wp2_with fail
      refine bodyPost_ret (v := .agg #[.slice a2 D.length c2, .int .i64 0]) (by simp [results, Try.results14, go_sem, x0, x1]) rfl ⟨_, rfl, ?_, (HB2.out.setCell (Nat.le_refl _) _).setCell (Nat.le_refl _) _⟩
      exact ownsRow_base (ownsRow_setCell_below (ownsRow_setCell_below HO.out (Nat.lt_succ_self _) _) (Nat.lt_succ_self _) _) (Nat.le_succ _)
    · have hv : cutR l n = ([], 1) := by unfold cutR; rw [if_neg (by omega), if_neg hr]
      rw [hv]
      rw [decide_eq_false hr] at hc
      have HC := Lib.hid hc
      have HBZ := Lib.hid hbz
      clear hc hv h hr hbz hlen
      go_enter Try.func14, Try.ntmps14
      go_wp2_with fail
      refine (HC.out _).mono ?_
      rintro e w1 ⟨rfl, hb1⟩
      have z0 : w1.cell? ⟨w.heap.size, 0, none⟩ = some (.slice none 0 0) := (cell_kept hb1 0).trans (by simp)
      have z1 : w1.cell? ⟨w.heap.size, 1, none⟩ = some (.int .i64 0) := (cell_kept hb1 1).trans (by simp)
      have y0 : w1.frozen? ⟨w.heap.size, 0, none⟩ = false := (hb1.frozen (p := ⟨w.heap.size, 0, none⟩) (by simp)).trans (by simp)
      have y1 : w1.frozen? ⟨w.heap.size, 1, none⟩ = false := (hb1.frozen (p := ⟨w.heap.size, 1, none⟩) (by simp)).trans (by simp)
      have HB1 := Lib.hid ((HBZ.out _).trans (hb1.mono (by simp)))
      clear hb1 HC HBZ
      go_wp2_with fail
      exact bodyPost_ret (v := .agg #[.slice none 0 0, .int .i64 1]) (by simp [results, Try.results14, go_sem, z0, z1]) rfl (outRow_code ((HB1.out.setCell (Nat.le_refl _) _).setCell (Nat.le_refl _) _))
end Go.Proofs.Ytjcdcaannajnpaa
