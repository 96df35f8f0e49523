/- The model's l04Take. -/
import Derived.Test.YthimndilobadeaaDoorTakeS
import Derived.IntWalk
namespace Go.Proofs.YthimndilobadeaaDoor
open Go.RowKit

theorem own_lt' {w : World} {B g n cap : Nat} {e : TypeId} {size : Nat} {xs : List Value} (h : w.ownsRow B e size (.slice (some ⟨g, 0, none⟩) n cap) n xs) : B ≤ g ∧ g < w.heap.size := by
  rcases h.2 with ⟨h, _⟩ | ⟨g', c', cur, he, hb, hh, _⟩
  · cases h
  · injection he with he1 he2 he3
    injection he1 with he1
    injection he1 with he1
    subst he1
    exact ⟨hb, (Array.getElem?_eq_some_iff.1 hh).1⟩
theorem size_str (w : World) : (sizeOf (Tryd.prog.elem 35)).run Tryd.prog w = .ok 1 w := by kernel_rfl
theorem slice_head (w : World) (z m p : Nat) (hp : p ≤ m) : (Instr.slice 35 (.slice (some ⟨z, 0, none⟩) m m) none (some (.int .i64 (p : Int))) none).run Tryd.prog w = .ok (.slice (some ⟨z, 0, none⟩) p m) w := by
  rw [run_slice_h w 35 (some ⟨z, 0, none⟩) m m (by kernel_rfl) .i64 (p : Int) (by omega) (by omega), size_str]
  simp [Result.andThen, sliced, Addr.add]
theorem slice_tail (w : World) (z m p : Nat) (hp : p + 1 ≤ m) : (Instr.slice 35 (.slice (some ⟨z, 0, none⟩) m m) (some (.int .i64 ((p : Int) + 1))) none none).run Tryd.prog w = .ok (.slice (if m = p + 1 then some ⟨z, 0, none⟩ else some ⟨z, p + 1, none⟩) (m - (p + 1)) (m - (p + 1))) w := by
  rw [run_slice_l w 35 (some ⟨z, 0, none⟩) m m (by kernel_rfl) .i64 ((p : Int) + 1) (by omega) (by omega), size_str]
  have e : ((p : Int) + 1).toNat = p + 1 := by omega
  simp only [Result.andThen, sliced, e]
  congr 2
  simp [Addr.add]

set_option maxHeartbeats 2000000 in
set_option maxRecDepth 100000 in
theorem takeT_calls {w : World} {lo hi g len cap : Nat} {n : Nt} {P Q : Nat → Nat} (h : NetOwn w lo hi g len n P Q) (hr : netRight n) (k : Nat) (hk : k < len) (back : Bool) (p : Nat) (hp : p < (lst (wyAt n k) back).length) :
    Calls Tryd.prog 18 #[.slice (some ⟨g, 0, none⟩) len cap, .int .i64 (k : Int), .bool back, .int .i64 (p : Int)] w fun e w' => ∃ g' cap', e = .returned (.tuple #[.slice (some ⟨g', 0, none⟩) len cap', gs (txAt (lst (wyAt n k) back) p)]) ∧ InNet (fun x => w.heap.size ≤ x) w' (some ⟨g', 0, none⟩) len (withN n k back ((lst (wyAt n k) back).eraseIdx p)) ∧ Below w.heap.size w w' := by
  have hm := h.most
  have hlen := h.long
  have hin := h.in'
  obtain ⟨c0, c1⟩ := h.cell k hk
  have hlist := fun W => listS_calls (some ⟨P k, 0, none⟩) (some ⟨Q k, 0, none⟩) (wyAt n k).1.length (wyAt n k).1.length (wyAt n k).2.length (wyAt n k).2.length back W
  have hb8 := lst_most' hr (k := k) (by omega) back
  have hll : (if back = true then Value.slice (some ⟨Q k, 0, none⟩) (wyAt n k).2.length (wyAt n k).2.length else .slice (some ⟨P k, 0, none⟩) (wyAt n k).1.length (wyAt n k).1.length) = .slice (some ⟨if back = true then Q k else P k, 0, none⟩) (lst (wyAt n k) back).length (lst (wyAt n k) back).length := by cases back <;> rfl
  rw [hll] at hlist
  have hrow : InTx w (some ⟨if back = true then Q k else P k, 0, none⟩) (lst (wyAt n k) back).length (lst (wyAt n k) back) := by cases back; exact (h.there k hk).1; exact (h.back k hk).1
  generalize hL : lst (wyAt n k) back = L at *
  generalize (if back = true then Q k else P k) = z at *
  obtain ⟨m, hmm⟩ : ∃ m, L.length = m := ⟨_, rfl⟩
  rw [hmm] at hlist hrow hb8 hp
  unfold wayV at hlist
  have hy2 : ∃ tl y2, tl = m - (p + 1) ∧ InTx w y2 tl (L.drop (p + 1)) ∧ (if m = p + 1 then y2 = some ⟨z, 0, none⟩ ∧ tl = 0 else y2 = some ⟨z, p + 1, none⟩) := by
    by_cases e : m = p + 1
    · have e1 : L.drop (p + 1) = [] := List.drop_eq_nil_of_le (by omega)
      exact ⟨0, some ⟨z, 0, none⟩, by omega, by rw [e1]; exact inTx_nil, by rw [if_pos e]; exact ⟨rfl, rfl⟩⟩
    · exact ⟨_, _, rfl, hrow.drop (p + 1) (by omega), by rw [if_neg e]⟩
  obtain ⟨tl, y2, htl, hy2, hcase⟩ := hy2
  have hy1 : InTx w (some ⟨z, 0, none⟩) p (L.take p) := hrow.take p (by omega)
  have cz := hrow.cell z 0 rfl p hp
  rw [Nat.zero_add] at cz
  have hfit := hrow.fits
  have heq : L.take p ++ L.drop (p + 1) = L.eraseIdx p := (List.eraseIdx_eq_take_drop_succ L p).symm
  have hel : (L.eraseIdx p).length = p + tl := by rw [← heq, List.length_append, List.length_take, List.length_drop]; omega
  have hfe : ∀ t ∈ L.eraseIdx p, t.length ≤ 2000000 := fun t ht => hfit t (List.mem_of_mem_eraseIdx ht)
  have hzz : (Tryd.prog.info? 9).map (fun i => (i.zero, i.size, i.bytes)) = some (some (gs []), 1, 16) := by kernel_rfl
  obtain ⟨i0, hi0, hzz⟩ := Option.map_eq_some_iff.1 hzz
  simp only [Prod.mk.injEq] at hzz
  obtain ⟨hz0, hz1, hz2⟩ := hzz
  have HI := Lib.hid hi0
  have Z0 := Lib.hid hz0
  have Z1 := Lib.hid hz1
  have Z2 := Lib.hid hz2
  have HLS := Lib.hid hlist
  have Y1 := Lib.hid hy1
  have Y2 := Lib.hid hy2
  have HEQ := Lib.hid heq
  have HEL := Lib.hid hel
  have HFE := Lib.hid hfe
  have HN := Lib.hid hin
  have hpm : (p : Int) < (m : Int) := by omega
  have hq2 : (p : Int) + 1 ≤ (m : Int) := by omega
  have hq3 : (0 : Int) ≤ (p : Int) + 1 := by omega
  have hq4 : (p : Int) ≤ (m : Int) := by omega
  have hq5 : ((p : Int) + 1).toNat = p + 1 := by omega
  have hq6 : (p : Int) ≤ (p : Int) + 1 := by omega
  have hq7 : IntKind.i64.wrap ((p : Int) + 1) = (p : Int) + 1 := IntWalk.i64_in _ (by omega)
  clear hlist hrow hin hi0 hz0 hz1 hz2 hy1 hy2 heq hel hfe hfit
  by_cases hmp : m = p + 1
  · rw [if_pos hmp] at hcase
    obtain ⟨rfl, rfl⟩ := hcase
    clear htl
    subst hmp
    have hmk := Lib.hid hmm
    clear hmm
    go_enter Tryd.func18, Tryd.ntmps18
    go_wp2_with fail
    refine (HLS.out _).mono ?_
    rintro e w1 ⟨rfl, hb1⟩
    have HB1 := Lib.hid hb1
    clear hb1 HLS
    go_wp2_with fail
    first | (go_region_held3 (fun V => Below w1.heap.size w1 V) (first | (with_reducible assumption) | exact (Below.refl _ _).drew | exact ((Below.refl _ _).alloc (Nat.le_refl _) _).drew) (first | (refine step_copy_tx _ rfl (.tmp 18) (.tmp 21) 35 rfl w1.heap.size 9 i0 Tryd.underlying35 HI.out Z0.out Z1.out Z2.out rfl (empty_own (heap_alloc_new _ _) (Nat.le_refl _)) _ rfl ((Y1.out.below HB1.out).below (by with_reducible assumption : Below w1.heap.size w1 _)) (Below.size (by with_reducible assumption : Below w1.heap.size w1 _)) ?_; intro g1 cap1 wa hown1 hgr1 hat1; have hba : Below w1.heap.size w1 wa := grown_ge (by with_reducible assumption : Below w1.heap.size w1 _) hgr1 (Below.size (by with_reducible assumption : Below w1.heap.size w1 _)) (Nat.le_refl _); have HO1 := Lib.hid hown1; clear hown1) | (refine step_append_tx _ rfl (.tmp 22) (.tmp 26) 35 rfl w1.heap.size 9 i0 Tryd.underlying35 HI.out Z0.out Z1.out Z2.out rfl HO1.out _ rfl ((Y2.out.below HB1.out).below (by with_reducible assumption : Below w1.heap.size w1 _)) (by omega) (Below.size (by with_reducible assumption : Below w1.heap.size w1 _)) ?_; intro g2 cap2 wb hown2 hgr2 hat2; have hbb : Below w1.heap.size w1 wb := grown_ge (by with_reducible assumption : Below w1.heap.size w1 _) hgr2 (Below.size (by with_reducible assumption : Below w1.heap.size w1 _)) (by have := own_lt' HO1.out; omega); have HO2 := Lib.hid hown2; clear hown2))) | fail
    have HEL := Lib.hid (show (L.eraseIdx p).length = p from by have := HEL.out; omega)
    have hq8 : (p : Int) < (p : Int) + 1 := by omega
    have hrow2 : wb.ownsRow w1.heap.size 9 1 (.slice (some ⟨g2, 0, none⟩) p cap2) p ((L.eraseIdx p).map (fun t => gs t)) := by rw [← HEQ.out, List.map_append]; exact HO2.out
    have hin2 := app_row hrow2 (by omega) HFE.out
    have hbwb : Below w.heap.size w wb := HB1.out.trans (hbb.mono HB1.out.size)
    have hwith := fun (V : World) (hb : Below wb.heap.size wb V) => withS_calls (cap := cap) ((HN.out.below hbwb).below hb) k hk back cap2 (l := L.eraseIdx p) (by rw [HEL.out]; exact hin2.1.below hb) (fun b o e => by cases e; exact Nat.lt_of_lt_of_le hin2.2.2 hb.size)
    simp only [HEL.out] at hwith
    replace cz := (hbwb.cell (World.block_lt_of_cell? _ _ cz)).trans cz
    have HG2 := Lib.hid (show w.heap.size ≤ g2 from Nat.le_trans HB1.out.size hin2.2.1)
    have HW := Lib.hid hwith
    have HBW := Lib.hid hbwb
    clear hwith hrow2 hin2 hbwb HO1 HO2 HB1 Y1 Y2 HN hba hbb hgr1 hgr2 hat1 hat2 HEQ HFE HI Z0 Z1 Z2 h hr
    go_wp2_with fail
    first | (go_region_held3 (fun V => Below wb.heap.size wb V ∧ V.cell? ⟨z, p, none⟩ = some (gs (txAt L p))) (first | (with_reducible assumption) | exact ⟨(Below.refl _ _).drew, cz⟩ | (refine keepW1 (by with_reducible assumption) (by with_reducible assumption))) (first | (go_at_call 34; (with_reducible refine (HW.out _ ?_).mono ?_); (· exact (by with_reducible assumption : Below wb.heap.size wb _ ∧ _).1); rintro e wc ⟨g4, cap4, rfl, hi4, hb4⟩; have HI4 := Lib.hid hi4; have hb4' := (by with_reducible assumption : Below wb.heap.size wb _ ∧ _).1.size; clear hi4))) | fail
    have hbc : Below w.heap.size w wc := HBW.out.trans ((by with_reducible assumption : Below wb.heap.size wb wc ∧ _).1.mono HBW.out.size)
    have HBC := Lib.hid hbc
    clear hbc
    go_wp2_with fail
    go_ret2
    exact ⟨g4, cap4, rfl, HI4.out.mono (fun x hx => by rcases hx with h | ⟨o, h⟩; (· have := HBW.out.size; omega); (· cases h; exact HG2.out)), HBC.out⟩
  · rw [if_neg hmp] at hcase
    subst hcase
    subst htl
    go_enter Tryd.func18, Tryd.ntmps18
    go_wp2_with fail
    refine (HLS.out _).mono ?_
    rintro e w1 ⟨rfl, hb1⟩
    have HB1 := Lib.hid hb1
    clear hb1 HLS
    go_wp2_with fail
    first | (go_region_held3 (fun V => Below w1.heap.size w1 V) (first | (with_reducible assumption) | exact (Below.refl _ _).drew | exact ((Below.refl _ _).alloc (Nat.le_refl _) _).drew) (first | (refine step_copy_tx _ rfl (.tmp 18) (.tmp 21) 35 rfl w1.heap.size 9 i0 Tryd.underlying35 HI.out Z0.out Z1.out Z2.out rfl (empty_own (heap_alloc_new _ _) (Nat.le_refl _)) _ rfl ((Y1.out.below HB1.out).below (by with_reducible assumption : Below w1.heap.size w1 _)) (Below.size (by with_reducible assumption : Below w1.heap.size w1 _)) ?_; intro g1 cap1 wa hown1 hgr1 hat1; have hba : Below w1.heap.size w1 wa := grown_ge (by with_reducible assumption : Below w1.heap.size w1 _) hgr1 (Below.size (by with_reducible assumption : Below w1.heap.size w1 _)) (Nat.le_refl _); have HO1 := Lib.hid hown1; clear hown1) | (refine step_append_tx _ rfl (.tmp 22) (.tmp 26) 35 rfl w1.heap.size 9 i0 Tryd.underlying35 HI.out Z0.out Z1.out Z2.out rfl HO1.out _ rfl ((Y2.out.below HB1.out).below (by with_reducible assumption : Below w1.heap.size w1 _)) (by omega) (Below.size (by with_reducible assumption : Below w1.heap.size w1 _)) ?_; intro g2 cap2 wb hown2 hgr2 hat2; have hbb : Below w1.heap.size w1 wb := grown_ge (by with_reducible assumption : Below w1.heap.size w1 _) hgr2 (Below.size (by with_reducible assumption : Below w1.heap.size w1 _)) (by have := own_lt' HO1.out; omega); have HO2 := Lib.hid hown2; clear hown2))) | fail
    have hrow2 : wb.ownsRow w1.heap.size 9 1 (.slice (some ⟨g2, 0, none⟩) (p + (m - (p + 1))) cap2) (p + (m - (p + 1))) ((L.eraseIdx p).map (fun t => gs t)) := by rw [← HEQ.out, List.map_append]; exact HO2.out
    have hin2 := app_row hrow2 (by omega) HFE.out
    have hbwb : Below w.heap.size w wb := HB1.out.trans (hbb.mono HB1.out.size)
    have hwith := fun (V : World) (hb : Below wb.heap.size wb V) => withS_calls (cap := cap) ((HN.out.below hbwb).below hb) k hk back cap2 (l := L.eraseIdx p) (by rw [HEL.out]; exact hin2.1.below hb) (fun b o e => by cases e; exact Nat.lt_of_lt_of_le hin2.2.2 hb.size)
    simp only [HEL.out] at hwith
    replace cz := (hbwb.cell (World.block_lt_of_cell? _ _ cz)).trans cz
    have HG2 := Lib.hid (show w.heap.size ≤ g2 from Nat.le_trans HB1.out.size hin2.2.1)
    have HW := Lib.hid hwith
    have HBW := Lib.hid hbwb
    clear hwith hrow2 hin2 hbwb HO1 HO2 HB1 Y1 Y2 HN hba hbb hgr1 hgr2 hat1 hat2 HEQ HFE HI Z0 Z1 Z2 h hr
    go_wp2_with fail
    first | (go_region_held3 (fun V => Below wb.heap.size wb V ∧ V.cell? ⟨z, p, none⟩ = some (gs (txAt L p))) (first | (with_reducible assumption) | exact ⟨(Below.refl _ _).drew, cz⟩ | (refine keepW1 (by with_reducible assumption) (by with_reducible assumption))) (first | (go_at_call 34; (with_reducible refine (HW.out _ ?_).mono ?_); (· exact (by with_reducible assumption : Below wb.heap.size wb _ ∧ _).1); rintro e wc ⟨g4, cap4, rfl, hi4, hb4⟩; have HI4 := Lib.hid hi4; have hb4' := (by with_reducible assumption : Below wb.heap.size wb _ ∧ _).1.size; clear hi4))) | fail
    have hbc : Below w.heap.size w wc := HBW.out.trans ((by with_reducible assumption : Below wb.heap.size wb wc ∧ _).1.mono HBW.out.size)
    have HBC := Lib.hid hbc
    clear hbc
    go_wp2_with fail
    go_ret2
    exact ⟨g4, cap4, rfl, HI4.out.mono (fun x hx => by rcases hx with h | ⟨o, h⟩; (· have := HBW.out.size; omega); (· cases h; exact HG2.out)), HBC.out⟩
end Go.Proofs.YthimndilobadeaaDoor
