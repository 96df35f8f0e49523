/- The model's reader: l03Src, item by item. -/
import Derived.Test.YtjcdcaannajnpaaGreatDoorItemsB
import Derived.Deep.DeepCutAuto
import Derived.Deep.DrawnRows
import Derived.Deep.RegionWith
namespace Go.Proofs.YtjcdcaannajnpaaGreatDoor
open Go.RowKit
attribute [local go_sem ↓] Go.wp_at_zero Go.wp_at_succ

/-- Block p holds the model's reader. -/
def Rd (p : Nat) (t : List UInt8) (a : Int) (c : Nat) (w : World) : Prop := w.heap[p]? = some (.cells #[gs t, .int .i64 a, .bool (decide (c ≠ 0))] 74 (0, 0))
theorem Rd.below {p : Nat} {t : List UInt8} {a : Int} {c : Nat} {w w' : World} (h : Rd p t a c w) (hb : Below w.heap.size w w') : Rd p t a c w' :=
  (hb.block p (Array.getElem?_eq_some_iff.1 h).1).trans h
theorem Rd.lt {p : Nat} {t : List UInt8} {a : Int} {c : Nat} {w : World} (h : Rd p t a c w) : p < w.heap.size := (Array.getElem?_eq_some_iff.1 h).1

def NumGotS (p : Nat) (t : List UInt8) (a : Int) (c : Nat) (w : World) (e : Ending) (w' : World) : Prop :=
  ∃ (n a' : Int) (c' : Nat), e = .returned (.int .i64 n) ∧ (-9223372036854775808 ≤ a' ∧ a' ≤ 9223372036854775807) ∧ Step t a c n a' c' ∧ (c' = 0 ∨ c' = 3) ∧ Rd p t a' c' w' ∧ w.grownBy w' (some p)
def TextGotS (p : Nat) (t : List UInt8) (a : Int) (c : Nat) (w : World) (e : Ending) (w' : World) : Prop :=
  ∃ (x : List UInt8) (a' : Int) (c' : Nat), e = .returned (gs x) ∧ x.length ≤ t.length ∧ (-9223372036854775808 ≤ a' ∧ a' ≤ 9223372036854775807) ∧ StepT t a c x a' c' ∧ (c' = 0 ∨ c' = 3) ∧ Rd p t a' c' w' ∧ w.grownBy w' (some p)

/-- An answer of three values in a box of the call's own. -/
def Box3 (w wx : World) (u : Value) (b k : Int) (v : Value) : Prop := ∃ g, v = .pointer (some ⟨g, 0, none⟩) ∧ w.heap.size ≤ g ∧ wx.cell? ⟨g, 0, none⟩ = some u ∧ wx.cell? ⟨g, 1, none⟩ = some (.int .i64 b) ∧ wx.cell? ⟨g, 2, none⟩ = some (.int .i64 k) ∧ Below w.heap.size w wx
theorem box3_new {w0 w : World} {u : Value} {b k : Int} {T : TypeId} (hb : Below w0.heap.size w0 w) : Box3 w0 (w.alloc (.cells #[u, .int .i64 b, .int .i64 k] T)) u b k (.pointer (some ⟨w.heap.size, 0, none⟩)) :=
  ⟨_, rfl, hb.size, by simp, by simp, by simp, hb.alloc hb.size _⟩
theorem box3_set {w0 w : World} {g : Nat} {u x0 x1 x2 : Value} {b k : Int} (h0 : w.cell? ⟨g, 0, none⟩ = some x0) (h1 : w.cell? ⟨g, 1, none⟩ = some x1) (h2 : w.cell? ⟨g, 2, none⟩ = some x2) (hg : w0.heap.size ≤ g) (hb : Below w0.heap.size w0 w) :
    Box3 w0 (((w.setCell ⟨g, 0, none⟩ u).setCell ⟨g, 1, none⟩ (.int .i64 b)).setCell ⟨g, 2, none⟩ (.int .i64 k)) u b k (.pointer (some ⟨g, 0, none⟩)) := by
  refine ⟨g, rfl, hg, ?_, ?_, ?_, ((hb.setCell hg _).setCell hg _).setCell hg _⟩
  · rw [World.cell?_setCell_other _ _ _ _ (by simp), World.cell?_setCell_other _ _ _ _ (by simp)]
    exact World.cell?_setCell_same _ _ _ h0
  · rw [World.cell?_setCell_other _ _ _ _ (by simp)]
    refine World.cell?_setCell_same (u := x1) _ _ _ ?_
    rw [World.cell?_setCell_other _ _ _ _ (by simp)]; exact h1
  · refine World.cell?_setCell_same (u := x2) _ _ _ ?_
    rw [World.cell?_setCell_other _ _ _ _ (by simp), World.cell?_setCell_other _ _ _ _ (by simp)]; exact h2

theorem step_on {t : List UInt8} {a n b : Int} {c : Nat} (hc : c = 0 ∨ c = 3) (h : getN t a = (n, b, 0)) : Step t a c n b c := by
  rcases hc with rfl | rfl
  · exact .inl ⟨rfl, rfl, h⟩
  · exact .inr ⟨by decide, .inl ⟨by decide, rfl⟩⟩
theorem step_off {t : List UInt8} {a : Int} {c : Nat} (hc : c = 0 ∨ c = 3) (h : (getN t a).2.2 ≠ 0) : Step t a c 0 a 3 := by
  rcases hc with rfl | rfl
  · exact .inr ⟨by decide, .inr ⟨rfl, rfl, h⟩⟩
  · exact .inr ⟨by decide, .inl ⟨by decide, rfl⟩⟩
theorem stepT_on {t x : List UInt8} {a b : Int} {c : Nat} (hc : c = 0 ∨ c = 3) (h : getT t a = (x, b, 0)) : StepT t a c x b c := by
  rcases hc with rfl | rfl
  · exact .inl ⟨rfl, rfl, h⟩
  · exact .inr ⟨by decide, .inl ⟨by decide, rfl⟩⟩
theorem stepT_off {t : List UInt8} {a : Int} {c : Nat} (hc : c = 0 ∨ c = 3) (h : (getT t a).2.2 ≠ 0) : StepT t a c [] a 3 := by
  rcases hc with rfl | rfl
  · exact .inr ⟨by decide, .inr ⟨rfl, rfl, h⟩⟩
  · exact .inr ⟨by decide, .inl ⟨by decide, rfl⟩⟩

set_option maxHeartbeats 2000000 in
set_option maxRecDepth 100000 in
theorem numS_calls {p : Nat} {t : List UInt8} {a : Int} {c : Nat} {w : World} (h : Rd p t a c w) (hl : t.length ≤ 9223372036854775807) (ha : -9223372036854775808 ≤ a ∧ a ≤ 9223372036854775807) (hc : c = 0 ∨ c = 3) :
    Calls Tryz.prog 50 #[.pointer (some ⟨p, 0, none⟩)] w (NumGotS p t a c w) := by
  have h' : w.heap[p]? = some (.cells #[gs t, .int .i64 a, .bool (decide (c ≠ 0))] 74 (0, 0)) := h
  have c0 : w.cell? ⟨p, 0, none⟩ = some (gs t) := cell_of_row w p 0 _ _ _ h'
  have c1 : w.cell? ⟨p, 1, none⟩ = some (.int .i64 a) := cell_of_row w p 1 _ _ _ h'
  have hpl := h.lt
  have HI := Lib.hid h
  have HA := Lib.hid ha
  rcases hn : getN t a with ⟨n, b, k⟩
  have hr := fun W => getS_calls t a W hl ha.1 ha.2
  have hout := getN_out t a
  have hon := fun h0 : k = 0 => step_on (t := t) (a := a) (n := n) (b := b) hc (by rw [hn, h0])
  have hoff := fun h0 : k ≠ 0 => step_off (t := t) (a := a) hc (by rw [hn]; exact h0)
  rw [hn] at hr hout
  have HR := Lib.hid hr
  have HO := Lib.hid hout
  have HON := Lib.hid hon
  have HOFF := Lib.hid hoff
  have HC := Lib.hid hc
  clear h h' ha hn hr hout hon hoff hc
  go_enter Tryz.func50, Tryz.ntmps50
  go_upto_region 1 with fail
  go_cut [3] (fun v wx => Box3 w wx (.int .i64 n) b k v)
  case first =>
    go_region_with (first | (go_at_call 72; (with_reducible refine (HR.out _).mono ?_); rintro e wq ⟨rfl, hbq⟩; obtain ⟨hcq, hfq⟩ := bcell hbq; have hsq := hbq.size; (try simp at hsq); (try simp at hcq); (try simp at hfq)))
    all_goals
      go_wp2_with fail
      go_meet
      first
        | ((with_reducible refine box3_new ?_); exact (Below.refl _ _).drew.trans hbq)
        | ((with_reducible refine box3_set (x0 := .int .i64 0) (x1 := .int .i64 0) (x2 := .int .i64 0) ?_ ?_ ?_ (Nat.le_refl _) ?_); (· simp [hcq]); (· simp [hcq]); (· simp [hcq]); exact ((Below.refl _ _).drew.alloc (Nat.le_refl _) _).trans (hbq.mono (by simp)))
  case rest =>
    obtain ⟨g, rfl, hgs, g0, g1, g2, hb⟩ := hcut
    have h2 := (hb.block p hpl).trans HI.out
    have h1f := frozen_of_row _ p 1 _ _ h2
    have h2f := frozen_of_row _ p 2 _ _ h2
    have h1c := cell_of_row _ p 1 _ _ _ h2
    have h2c := cell_of_row _ p 2 _ _ _ h2
    have H2 := Lib.hid h2
    have HB := Lib.hid (grew_below (p := p) hb)
    clear c0 c1 h2 hb
    by_cases hk : k = 0
    · have HS := Lib.hid (HON.out hk)
      subst hk
      clear h2f h2c
      go_wp2_with fail
      go_ret
      refine ⟨n, b, c, rfl, HO.out, HS.out, HC.out, ?_, grew_set HB.out⟩
      show _ = _
      rw [blk_set H2.out _]
      rfl
    · have HS := Lib.hid (HOFF.out hk)
      have hd : ((k : Int) != 0) = true := by simp; omega
      clear hk h1f h1c
      go_wp2_with fail
      go_ret
      refine ⟨0, a, 3, rfl, HA.out, HS.out, .inr rfl, ?_, grew_set HB.out⟩
      show _ = _
      rw [blk_set H2.out _]
      rfl
set_option maxHeartbeats 2000000 in
set_option maxRecDepth 100000 in
theorem strS_calls {p : Nat} {t : List UInt8} {a : Int} {c : Nat} {w : World} (h : Rd p t a c w) (hl : t.length ≤ 9223372036854775807) (ha : -9223372036854775808 ≤ a ∧ a ≤ 9223372036854775807) (hc : c = 0 ∨ c = 3) :
    Calls Tryz.prog 51 #[.pointer (some ⟨p, 0, none⟩)] w (TextGotS p t a c w) := by
  have h' : w.heap[p]? = some (.cells #[gs t, .int .i64 a, .bool (decide (c ≠ 0))] 74 (0, 0)) := h
  have c0 : w.cell? ⟨p, 0, none⟩ = some (gs t) := cell_of_row w p 0 _ _ _ h'
  have c1 : w.cell? ⟨p, 1, none⟩ = some (.int .i64 a) := cell_of_row w p 1 _ _ _ h'
  have hpl := h.lt
  have HI := Lib.hid h
  have HA := Lib.hid ha
  rcases hn : getT t a with ⟨n, b, k⟩
  have hr := fun W => getTS_calls t a W hl ha.1 ha.2
  have hout := getT_out t a
  have hon := fun h0 : k = 0 => stepT_on (t := t) (a := a) (x := n) (b := b) hc (by rw [hn, h0])
  have hoff := fun h0 : k ≠ 0 => stepT_off (t := t) (a := a) hc (by rw [hn]; exact h0)
  have hxl := getT_len t a
  rw [hn] at hr hout hxl
  have HX := Lib.hid hxl
  have HR := Lib.hid hr
  have HO := Lib.hid hout
  have HON := Lib.hid hon
  have HOFF := Lib.hid hoff
  have HC := Lib.hid hc
  clear h h' ha hn hr hout hon hoff hc hxl
  go_enter Tryz.func51, Tryz.ntmps51
  go_upto_region 1 with fail
  go_cut [3] (fun v wx => Box3 w wx (gs n) b k v)
  case first =>
    go_region_with (first | (go_at_call 73; (with_reducible refine (HR.out _).mono ?_); rintro e wq ⟨rfl, hbq⟩; obtain ⟨hcq, hfq⟩ := bcell hbq; have hsq := hbq.size; (try simp at hsq); (try simp at hcq); (try simp at hfq)))
    all_goals
      go_wp2_with fail
      go_meet
      first
        | ((with_reducible refine box3_new ?_); exact (Below.refl _ _).drew.trans hbq)
        | ((with_reducible refine box3_set (x0 := gs []) (x1 := .int .i64 0) (x2 := .int .i64 0) ?_ ?_ ?_ (Nat.le_refl _) ?_); (· simp [hcq]); (· simp [hcq]); (· simp [hcq]); exact ((Below.refl _ _).drew.alloc (Nat.le_refl _) _).trans (hbq.mono (by simp)))
  case rest =>
    obtain ⟨g, rfl, hgs, g0, g1, g2, hb⟩ := hcut
    have h2 := (hb.block p hpl).trans HI.out
    have h1f := frozen_of_row _ p 1 _ _ h2
    have h2f := frozen_of_row _ p 2 _ _ h2
    have h1c := cell_of_row _ p 1 _ _ _ h2
    have h2c := cell_of_row _ p 2 _ _ _ h2
    have H2 := Lib.hid h2
    have HB := Lib.hid (grew_below (p := p) hb)
    clear c0 c1 h2 hb
    by_cases hk : k = 0
    · have HS := Lib.hid (HON.out hk)
      subst hk
      clear h2f h2c
      go_wp2_with fail
      go_ret
      refine ⟨n, b, c, rfl, HX.out, HO.out, HS.out, HC.out, ?_, grew_set HB.out⟩
      show _ = _
      rw [blk_set H2.out _]
      rfl
    · have HS := Lib.hid (HOFF.out hk)
      have hd : ((k : Int) != 0) = true := by simp; omega
      clear hk h1f h1c
      go_wp2_with fail
      go_ret
      refine ⟨[], a, 3, rfl, by simp, HA.out, HS.out, .inr rfl, ?_, grew_set HB.out⟩
      show _ = _
      rw [blk_set H2.out _]
      rfl
end Go.Proofs.YtjcdcaannajnpaaGreatDoor
