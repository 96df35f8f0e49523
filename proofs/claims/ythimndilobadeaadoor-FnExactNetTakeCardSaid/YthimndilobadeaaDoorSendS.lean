/- The model's l04Send. -/
import Derived.Test.YthimndilobadeaaDoorTakeS
namespace Go.Proofs.YthimndilobadeaaDoor
open Go.RowKit

theorem own_lt2 {w : World} {B g n cap : Nat} {e : TypeId} {size : Nat} {xs : List Value} (h : w.ownsRow B e size (.slice (some ⟨g, 0, none⟩) n cap) n xs) : B ≤ g ∧ g < w.heap.size := by
  rcases h.2 with ⟨h, _⟩ | ⟨g', c', cur, he, hb, hh, _⟩
  · cases h
  · injection he with he1 he2 he3
    injection he1 with he1
    injection he1 with he1
    subst he1
    exact ⟨hb, (Array.getElem?_eq_some_iff.1 hh).1⟩
theorem one_tx {w : World} {t : List UInt8} {T : TypeId} (ht : t.length ≤ 2000000) : InTx (w.alloc (.cells #[gs t] T)) (some ⟨w.heap.size, 0, none⟩) 1 [t] := by
  refine ⟨rfl, by omega, fun _ => ⟨_, 0, rfl⟩, fun b o e i hi => ?_, fun i hi => ?_⟩
  · cases e
    obtain rfl : i = 0 := by omega
    rw [World.cell?_alloc_at _ _ _ _ (by simp)]
    rfl
  · obtain rfl : i = 0 := by omega
    exact ht

set_option maxHeartbeats 2000000 in
set_option maxRecDepth 100000 in
theorem sendS_calls {S : Nat → Prop} {a : Option Addr} {len cap : Nat} {n : Nt} {w : World} (h : InNet S w a len n) (k : Nat) (hk : k < len) (back : Bool) (t : List UInt8) (ht : t.length ≤ 2000000) :
    Calls Tryd.prog 27 #[.slice a len cap, .int .i64 (k : Int), .bool back, gs t] w fun e w' => ∃ g cap', e = .returned (.slice (some ⟨g, 0, none⟩) len cap') ∧ InNet (fun x => w.heap.size ≤ x) w' (some ⟨g, 0, none⟩) len (withN n k back (if (lst (wyAt n k) back).length < 8 then lst (wyAt n k) back ++ [t] else lst (wyAt n k) back)) ∧ Below w.heap.size w w' := by
  have hm := h.most
  have hlen := h.long
  obtain ⟨b, o, rfl⟩ := h.there (by omega)
  obtain ⟨-, x, cx, y, cy, c0, c1, r0, r1, -, -⟩ := h.cell b o rfl k hk
  have d0 : (w.alloc (.cells #[] 9)).cell? ⟨b, o + k * 2, none⟩ = _ := (((Below.refl w.heap.size w).alloc (Nat.le_refl _) _).cell (World.block_lt_of_cell? _ _ c0)).trans c0
  have d1 : (w.alloc (.cells #[] 9)).cell? ⟨b, o + k * 2 + 1, none⟩ = _ := (((Below.refl w.heap.size w).alloc (Nat.le_refl _) _).cell (World.block_lt_of_cell? _ _ c1)).trans c1
  have hlist := fun W => listS_calls x y (wyAt n k).1.length cx (wyAt n k).2.length cy back W
  have hll : ∃ z cz, (if back = true then Value.slice y (wyAt n k).2.length cy else .slice x (wyAt n k).1.length cx) = .slice z (lst (wyAt n k) back).length cz ∧ InTx w z (lst (wyAt n k) back).length (lst (wyAt n k) back) := by
    cases back
    · exact ⟨x, cx, rfl, r0⟩
    · exact ⟨y, cy, rfl, r1⟩
  obtain ⟨z, cz, hze, hrow⟩ := hll
  rw [hze] at hlist
  generalize hL : lst (wyAt n k) back = L at *
  obtain ⟨m, hmm⟩ : ∃ m, L.length = m := ⟨_, rfl⟩
  rw [hmm] at hlist hrow ⊢
  have hfit := hrow.fits
  have hmost := hrow.most
  unfold wayV at hlist
  have hzz : (Tryd.prog.info? 9).map (fun i => (i.zero, i.size, i.bytes)) = some (some (gs []), 1, 16) := by kernel_rfl
  obtain ⟨i0, hi0, hzz⟩ := Option.map_eq_some_iff.1 hzz
  simp only [Prod.mk.injEq] at hzz
  obtain ⟨hz0, hz1, hz2⟩ := hzz
  have HI := Lib.hid hi0
  have Z0 := Lib.hid hz0
  have Z1 := Lib.hid hz1
  have Z2 := Lib.hid hz2
  have HLS := Lib.hid hlist
  have HR := Lib.hid hrow
  have HN := Lib.hid h
  have HM := Lib.hid hmm
  have HF := Lib.hid hfit
  clear hlist hrow h hi0 hz0 hz1 hz2 hze hL r0 r1 hmm hfit
  by_cases h8 : m < 8
  · rw [if_pos h8]
    have h8i : (m : Int) < 8 := by omega
    have hne : (L ++ [t]).length = m + 1 := by rw [List.length_append, HM.out]; rfl
    have HNE := Lib.hid hne
    clear hne
    go_enter Tryd.func27, Tryd.ntmps27
    go_wp2_with fail
    refine (HLS.out _).mono ?_
    rintro e w1 ⟨rfl, hb1⟩
    have hbw : Below w.heap.size w w1 := ((Below.refl _ _).alloc (Nat.le_refl _) _).trans (hb1.mono (by simp))
    have hlk : w1.heap[w.heap.size]? = some (.cells #[] 9 (0, 0)) := (hb1.block _ (by simp)).trans (heap_alloc_new _ _)
    have HB1 := Lib.hid hbw
    have HK := Lib.hid hlk
    clear hb1 hbw hlk HLS
    go_wp2_with (first | (at_builtin; refine wpList_copy_tx _ rfl _ _ 35 rfl w.heap.size 9 i0 Tryd.underlying35 HI.out Z0.out Z1.out Z2.out rfl (empty_own HK.out (Nat.le_refl _)) _ rfl (HR.out.below HB1.out) HB1.out.size ?_; intro g1 cap1 w2 hown1 hgr1 hat1; have hb2 : Below w.heap.size w w2 := grown_ge HB1.out hgr1 HB1.out.size (Nat.le_refl _); have HB2 := Lib.hid hb2; have HO1 := Lib.hid hown1; clear hown1 hb2) | (at_builtin; refine wpList_append_tx _ rfl _ _ 35 rfl w.heap.size 9 i0 Tryd.underlying35 HI.out Z0.out Z1.out Z2.out rfl (own_below HO1.out ((Below.refl _ _).alloc (Nat.le_refl _) _)) _ rfl (one_tx ht) (by omega) (by have := HB2.out.size; simp; omega) ?_; intro g2 cap2 w3 hown2 hgr2 hat2; have hb3 : Below w.heap.size w w3 := grown_ge (HB2.out.alloc HB2.out.size (.cells #[gs t] 9)) hgr2 (by have := HB2.out.size; simp; omega) (own_lt2 HO1.out).1; have HB3 := Lib.hid hb3; have HO2 := Lib.hid hown2; clear hown2 hb3))
    have hin2 := app_row (l := L ++ [t]) (by rw [List.map_append]; exact HO2.out) (by omega) (fun u hu => by rcases List.mem_append.1 hu with h | h; (· exact HF.out u h); (· rw [List.mem_singleton.1 h]; exact ht))
    have hwith := withS_calls (cap := cap) (HN.out.below HB3.out) k hk back cap2 (l := L ++ [t]) (by rw [HNE.out]; exact hin2.1) (fun b o e => by cases e; exact hin2.2.2)
    rw [HNE.out] at hwith
    have HG2 := Lib.hid hin2.2.1
    have HW := Lib.hid hwith
    clear hwith hin2 HN HO1 HM HF HR HI Z0 Z1 Z2
    go_wp2_with fail
    refine HW.out.mono ?_
    rintro e w4 ⟨g4, cap4, rfl, hi4, hb4⟩
    have HI4 := Lib.hid hi4
    have HB4 := Lib.hid (HB3.out.trans (hb4.mono HB3.out.size))
    clear hi4 hb4 HW
    go_wp2_with fail
    go_ret
    exact ⟨g4, cap4, rfl, HI4.out.mono (fun x hx => by rcases hx with h | ⟨o, h⟩; (· have := HB3.out.size; omega); (· cases h; exact HG2.out)), HB4.out⟩
  · rw [if_neg h8]
    have h8i : ¬ (m : Int) < 8 := by omega
    go_enter Tryd.func27, Tryd.ntmps27
    go_wp2_with fail
    refine (HLS.out _).mono ?_
    rintro e w1 ⟨rfl, hb1⟩
    have hbw : Below w.heap.size w w1 := ((Below.refl _ _).alloc (Nat.le_refl _) _).trans (hb1.mono (by simp))
    have hlk : w1.heap[w.heap.size]? = some (.cells #[] 9 (0, 0)) := (hb1.block _ (by simp)).trans (heap_alloc_new _ _)
    have HB1 := Lib.hid hbw
    have HK := Lib.hid hlk
    clear hb1 hbw hlk HLS
    go_wp2_with (at_builtin; refine wpList_copy_tx _ rfl _ _ 35 rfl w.heap.size 9 i0 Tryd.underlying35 HI.out Z0.out Z1.out Z2.out rfl (empty_own HK.out (Nat.le_refl _)) _ rfl (HR.out.below HB1.out) HB1.out.size ?_; intro g1 cap1 w2 hown1 hgr1 hat1; have hb2 : Below w.heap.size w w2 := grown_ge HB1.out hgr1 HB1.out.size (Nat.le_refl _); have HB2 := Lib.hid hb2; have HO1 := Lib.hid hown1; clear hown1 hb2)
    have hin2 := app_row (l := L) HO1.out (by omega) (HF.out)
    have hwith := withS_calls (cap := cap) (HN.out.below HB2.out) k hk back cap1 (l := L) (by rw [HM.out]; exact hin2.1) (fun b o e => by cases e; exact hin2.2.2)
    rw [HM.out] at hwith
    have HG2 := Lib.hid hin2.2.1
    have HW := Lib.hid hwith
    clear hwith hin2 HN HO1 HM HF HR HI Z0 Z1 Z2
    go_wp2_with fail
    refine HW.out.mono ?_
    rintro e w4 ⟨g4, cap4, rfl, hi4, hb4⟩
    have HI4 := Lib.hid hi4
    have HB4 := Lib.hid (HB2.out.trans (hb4.mono HB2.out.size))
    clear hi4 hb4 HW
    go_wp2_with fail
    go_ret
    exact ⟨g4, cap4, rfl, HI4.out.mono (fun x hx => by rcases hx with h | ⟨o, h⟩; (· have := HB2.out.size; omega); (· cases h; exact HG2.out)), HB4.out⟩
end Go.Proofs.YthimndilobadeaaDoor
