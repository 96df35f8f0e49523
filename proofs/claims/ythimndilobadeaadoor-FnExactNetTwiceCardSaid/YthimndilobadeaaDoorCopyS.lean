/- The model's copy of a net. -/
import Derived.Test.YthimndilobadeaaDoorTxApp
import Derived.Test.YthimndilobadeaaDoorNet
import Derived.Test.YthimndilobadeaaDoorNetTo
import Derived.StillTailTactics
import Derived.Deep.RegionHeld3
namespace Go.Proofs.YthimndilobadeaaDoor
open Go.RowKit

theorem look_one (w : World) (o o' : Obj) : ((w.alloc o).alloc o').heap[w.heap.size]? = some o := by
  exact (Below.heap_alloc (w.alloc o) o' w.heap.size (by simp)).trans (heap_alloc_new w o)
theorem look_two (w : World) (o o' : Obj) : ((w.alloc o).alloc o').heap[w.heap.size + 1]? = some o' := by
  have h := heap_alloc_new (w.alloc o) o'
  rwa [show (w.alloc o).heap.size = w.heap.size + 1 by simp] at h
theorem empty_own {w : World} {B g : Nat} {e : TypeId} (h : w.heap[g]? = some (.cells #[] e (0, 0))) (hB : B ≤ g) : w.ownsRow B e 1 (.slice (some ⟨g, 0, none⟩) 0 0) 0 [] :=
  ⟨rfl, .inr ⟨g, 0, #[], rfl, hB, h, Nat.le_refl _, by simp [maxLen], rfl, rfl⟩⟩
/-- A row of k ways that the call owns, each of two rows elsewhere. -/
structure CpRow (w : World) (B g cap k : Nat) (xs : List Value) (n : Nt) : Prop where
  own : w.ownsRow B 41 2 (.slice (some ⟨g, 0, none⟩) k cap) k xs
  each : ∀ i, i < k → ∃ x cx y cy, xs[i * 2]? = some (.slice (some ⟨x, 0, none⟩) (wyAt n i).1.length cx) ∧ xs[i * 2 + 1]? = some (.slice (some ⟨y, 0, none⟩) (wyAt n i).2.length cy) ∧
    InTx w (some ⟨x, 0, none⟩) (wyAt n i).1.length (wyAt n i).1 ∧ InTx w (some ⟨y, 0, none⟩) (wyAt n i).2.length (wyAt n i).2 ∧ x ≠ g ∧ y ≠ g ∧ x < w.heap.size ∧ y < w.heap.size ∧ B ≤ x ∧ B ≤ y
theorem CpRow.low {w : World} {B g cap k : Nat} {xs : List Value} {n : Nt} (h : CpRow w B g cap k xs n) : B ≤ g ∧ g < w.heap.size := by
  rcases h.own.2 with ⟨h, _⟩ | ⟨g', c', cur, he, hb, hh, _⟩
  · cases h
  · injection he with he1 he2 he3
    injection he1 with he1
    injection he1 with he1
    subst he1
    exact ⟨hb, (Array.getElem?_eq_some_iff.1 hh).1⟩
theorem CpRow.below {w w' : World} {B g cap k : Nat} {xs : List Value} {n : Nt} (h : CpRow w B g cap k xs n) (hb : Below w.heap.size w w') : CpRow w' B g cap k xs n :=
  ⟨own_below h.own hb, fun i hi => by
    obtain ⟨x, cx, y, cy, e0, e1, i0, i1, hx, hy, lx, ly, bx, bY⟩ := h.each i hi
    exact ⟨x, cx, y, cy, e0, e1, i0.below hb, i1.below hb, hx, hy, Nat.lt_of_lt_of_le lx hb.size, Nat.lt_of_lt_of_le ly hb.size, bx, bY⟩⟩
/-- One way more behind the others. -/
theorem cpRow_succ {w w' : World} {B g g' cap cap' k x cx y cy : Nat} {xs : List Value} {n : Nt} (h : CpRow w B g cap k xs n) (hown : w'.ownsRow B 41 2 (.slice (some ⟨g', 0, none⟩) (k + 1) cap') (k + 1) (xs ++ [.slice (some ⟨x, 0, none⟩) (wyAt n k).1.length cx, .slice (some ⟨y, 0, none⟩) (wyAt n k).2.length cy]))
    (hgr : w.grownBy w' (some g)) (hat : g' = g ∨ g' = w.heap.size) (i0 : InTx w (some ⟨x, 0, none⟩) (wyAt n k).1.length (wyAt n k).1) (i1 : InTx w (some ⟨y, 0, none⟩) (wyAt n k).2.length (wyAt n k).2) (hx : x ≠ g) (hy : y ≠ g) (lx : x < w.heap.size) (ly : y < w.heap.size) (bx : B ≤ x) (bY : B ≤ y) :
    CpRow w' B g' cap' (k + 1) (xs ++ [.slice (some ⟨x, 0, none⟩) (wyAt n k).1.length cx, .slice (some ⟨y, 0, none⟩) (wyAt n k).2.length cy]) n := by
  have hl : xs.length = k * 2 := h.own.1
  have hsz := hgr.size
  have keep : ∀ {z len : Nat} {l : Tx}, z ≠ g → z < w.heap.size → InTx w (some ⟨z, 0, none⟩) len l → InTx w' (some ⟨z, 0, none⟩) len l := fun {z len l} hz lz hi =>
    hi.kept (fun b o e _ => by cases e; exact hgr.block z lz (fun e => hz (Option.some.inj e)))
  refine ⟨hown, fun i hi => ?_⟩
  by_cases e : i = k
  · subst e
    refine ⟨x, cx, y, cy, ?_, ?_, keep hx lx i0, keep hy ly i1, ?_, ?_, by omega, by omega, bx, bY⟩
    · rw [List.getElem?_append_right (by omega), hl, Nat.sub_self]; rfl
    · rw [List.getElem?_append_right (by omega), hl, Nat.add_sub_cancel_left]; rfl
    · rcases hat with h | h <;> omega
    · rcases hat with h | h <;> omega
  · obtain ⟨x', cx', y', cy', e0, e1, j0, j1, hx', hy', lx', ly', bx', bY'⟩ := h.each i (by omega)
    refine ⟨x', cx', y', cy', ?_, ?_, keep hx' lx' j0, keep hy' ly' j1, ?_, ?_, by omega, by omega, bx', bY'⟩
    · rw [List.getElem?_append_left (by omega)]; exact e0
    · rw [List.getElem?_append_left (by omega)]; exact e1
    · rcases hat with h | h <;> omega
    · rcases hat with h | h <;> omega

/-- What holds while a way is copied. -/
structure CS (w : World) (g cap k : Nat) (xs : List Value) (n : Nt) (V : World) : Prop where
  below : Below w.heap.size w V
  row : CpRow V w.heap.size g cap k xs n
theorem grown_ge {a w w' : World} {B G : Nat} (h : Below B a w) (hg : w.grownBy w' (some G)) (hs : B ≤ w.heap.size) (hG : B ≤ G) : Below B a w' := h.grown hg hs (fun k e => by cases e; exact hG)
theorem app_row {w : World} {B g n cap : Nat} {e : TypeId} {l : Tx} (h : w.ownsRow B e 1 (.slice (some ⟨g, 0, none⟩) n cap) n (l.map (fun t => gs t))) (hm : n ≤ 2000000) (hf : ∀ t ∈ l, t.length ≤ 2000000) : InTx w (some ⟨g, 0, none⟩) n l ∧ B ≤ g ∧ g < w.heap.size := by
  have := ownTx h hm hf
  exact ⟨this.1, this.2.2⟩
theorem InTx.grown {w w' : World} {g G len : Nat} {l : Tx} (h : InTx w (some ⟨g, 0, none⟩) len l) (hl : g < w.heap.size) (hg : w.grownBy w' (some G)) (hne : g ≠ G) : InTx w' (some ⟨g, 0, none⟩) len l :=
  h.kept fun b o e _ => by cases e; exact hg.block g hl (fun e => hne (Option.some.inj e))
theorem InTx.fits {w : World} {a : Option Addr} {len : Nat} {l : Tx} (h : InTx w a len l) : ∀ t ∈ l, t.length ≤ 2000000 := fun t ht => by
  obtain ⟨i, hi, rfl⟩ := List.mem_iff_getElem.1 ht
  have := h.fit i (by rw [← h.long]; exact hi)
  rwa [txAt_get hi] at this

set_option maxHeartbeats 2000000 in
set_option maxRecDepth 100000 in
theorem copyS_calls {S : Nat → Prop} {a : Option Addr} {len cap : Nat} {n : Nt} {w : World} (h : InNet S w a len n) :
    Calls Tryd.prog 44 #[.slice a len cap] w fun e w' => ∃ g cap' xs, e = .returned (.slice (some ⟨g, 0, none⟩) len cap') ∧ CpRow w' w.heap.size g cap' len xs n ∧ Below w.heap.size w w' := by
  have hm := h.most
  have hlen := h.long
  go_enter Tryd.func44, Tryd.ntmps44
  go_wp2_with fail
  go_loopw [3, 4] (fun v i wr => ∃ (k g cap : Nat) (xs : List Value), i = .int .i64 (k : Int) ∧ v = .slice (some ⟨g, 0, none⟩) k cap ∧ k ≤ len ∧ CS w g cap k xs n wr) (fun _ i _ => len - (intOf i).toNat)
  case atStart => exact ⟨0, w.heap.size, 0, [], rfl, rfl, Nat.zero_le _, (Below.refl _ _).alloc (Nat.le_refl _) _, World.ownsRow_lit w #[] 0 (Nat.le_refl _) (by simp [maxLen]) rfl, fun i hi => absurd hi (by omega)⟩
  case round =>
    obtain ⟨k, g, cap', xs, rfl, rfl, hk, hcs⟩ := hrel
    by_cases hkl : k < len
    · obtain ⟨b, o, rfl⟩ := h.there (by omega)
      obtain ⟨-, x, cx, y, cy, c0, c1, r0, r1, -, -⟩ := h.cell b o rfl k hkl
      have hzz : (Tryd.prog.info? 9).map (fun i => (i.zero, i.size, i.bytes)) = some (some (gs []), 1, 16) := by kernel_rfl
      obtain ⟨i0, hi0, hzz⟩ := Option.map_eq_some_iff.1 hzz
      simp only [Prod.mk.injEq] at hzz
      obtain ⟨hz0, hz1, hz2⟩ := hzz
      have hyy : (Tryd.prog.info? 41).map (fun i => (i.zero, i.size, i.bytes)) = some (some (.agg #[.slice none 0 0, .slice none 0 0]), 2, 48) := by kernel_rfl
      obtain ⟨i1, hi1, hyy⟩ := Option.map_eq_some_iff.1 hyy
      simp only [Prod.mk.injEq] at hyy
      obtain ⟨hy0, hy1, hy2⟩ := hyy
      have hSS := fun (V : World) (hb : Below w.heap.size w V) => (⟨hb, (hb.cell (World.block_lt_of_cell? _ _ c0)).trans c0, (hb.cell (World.block_lt_of_cell? _ _ c1)).trans c1⟩ : Below w.heap.size w V ∧ V.cell? ⟨b, o + k * 2, none⟩ = some (.slice x (wyAt n k).1.length cx) ∧ V.cell? ⟨b, o + k * 2 + 1, none⟩ = some (.slice y (wyAt n k).2.length cy))
      have d0 := (hSS _ hcs.below).2.1
      have d1 := (hSS _ hcs.below).2.2
      have HSS := Lib.hid hSS
      have R0 := Lib.hid r0
      have R1 := Lib.hid r1
      have HBW := Lib.hid hcs.below
      have HRW := Lib.hid hcs.row
      have HI := Lib.hid hi0
      have Z0 := Lib.hid hz0
      have Z1 := Lib.hid hz1
      have Z2 := Lib.hid hz2
      have HJ := Lib.hid hi1
      have Y0 := Lib.hid hy0
      have Y1 := Lib.hid hy1
      have Y2 := Lib.hid hy2
      have m0 := r0.most
      have m1 := r1.most
      clear hSS r0 r1 hcs h hi0 hz0 hz1 hz2 hi1 hy0 hy1 hy2 c0 c1
      go_wp2_with fail
      first | (go_region_held3 (fun V => Below w.heap.size w V ∧ V.cell? ⟨b, o + k * 2, none⟩ = some (.slice x (wyAt n k).1.length cx) ∧ V.cell? ⟨b, o + k * 2 + 1, none⟩ = some (.slice y (wyAt n k).2.length cy)) (first | (with_reducible assumption) | (exact HSS.out _ (by first | (with_reducible assumption) | exact HBW.out.drew | exact (HBW.out.alloc HBW.out.size _).drew | exact ((HBW.out.alloc HBW.out.size _).alloc (by simp; have := HBW.out.size; omega) _).drew | exact Below.alloc (by with_reducible assumption) (Below.size (by with_reducible assumption)) _))) (first | (refine step_copy_tx _ rfl (.tmp 13) (.tmp 18) 35 rfl wr.heap.size 9 i0 Tryd.underlying35 HI.out Z0.out Z1.out Z2.out rfl (empty_own (by first | exact heap_alloc_new _ _ | exact look_one _ _ _ | exact look_two _ _ _ | exact (hgr19.block _ (by simp <;> omega) (by simp)).trans (heap_alloc_new _ _) | exact (hgr19.block _ (by simp <;> omega) (by simp)).trans (look_one _ _ _) | exact (hgr19.block _ (by simp <;> omega) (by simp)).trans (look_two _ _ _)) (by first | exact Nat.le_refl _ | exact Nat.le_succ _ | exact HB19.out.size)) cx rfl (R0.out.below (by with_reducible assumption : Below w.heap.size w _ ∧ _).1) (Below.size (B := wr.heap.size) (w := wr) (by first | exact (Below.refl _ _).drew | exact ((Below.refl _ _).alloc (Nat.le_refl _) _).drew | exact (((Below.refl _ _).alloc (Nat.le_refl _) _).alloc (by simp) _).drew | exact HB19.out | exact HB19.out.alloc HB19.out.size _)) ?_; intro g19 cap19 w19 hown19 hgr19 hat19; have HB19 := Lib.hid (grown_ge (B := wr.heap.size) (a := wr) (by first | exact (Below.refl _ _).drew | exact ((Below.refl _ _).alloc (Nat.le_refl _) _).drew | exact (((Below.refl _ _).alloc (Nat.le_refl _) _).alloc (by simp) _).drew) hgr19 (by simp <;> omega) (by first | exact Nat.le_refl _ | exact Nat.le_succ _)); have hs19 : Below w.heap.size w w19 := HBW.out.trans (HB19.out.mono HBW.out.size); have HR19 := Lib.hid (app_row hown19 m0 R0.out.fits); clear hown19) | (refine step_copy_tx _ rfl (.tmp 20) (.tmp 25) 35 rfl wr.heap.size 9 i0 Tryd.underlying35 HI.out Z0.out Z1.out Z2.out rfl (empty_own (by first | exact heap_alloc_new _ _ | exact look_one _ _ _ | exact look_two _ _ _ | exact (hgr19.block _ (by simp <;> omega) (by simp)).trans (heap_alloc_new _ _) | exact (hgr19.block _ (by simp <;> omega) (by simp)).trans (look_one _ _ _) | exact (hgr19.block _ (by simp <;> omega) (by simp)).trans (look_two _ _ _)) (by first | exact Nat.le_refl _ | exact Nat.le_succ _ | exact HB19.out.size)) cy rfl (R1.out.below (by with_reducible assumption : Below w.heap.size w _ ∧ _).1) (Below.size (B := wr.heap.size) (w := wr) (by first | exact (Below.refl _ _).drew | exact ((Below.refl _ _).alloc (Nat.le_refl _) _).drew | exact (((Below.refl _ _).alloc (Nat.le_refl _) _).alloc (by simp) _).drew | exact HB19.out | exact HB19.out.alloc HB19.out.size _)) ?_; intro g26 cap26 w26 hown26 hgr26 hat26; have HB26 := Lib.hid (grown_ge (B := wr.heap.size) (a := wr) (by first | exact (Below.refl _ _).drew | exact ((Below.refl _ _).alloc (Nat.le_refl _) _).drew | exact (((Below.refl _ _).alloc (Nat.le_refl _) _).alloc (by simp) _).drew | exact HB19.out | exact HB19.out.alloc HB19.out.size _) hgr26 (Below.size (B := wr.heap.size) (w := wr) (by first | exact (Below.refl _ _).drew | exact ((Below.refl _ _).alloc (Nat.le_refl _) _).drew | exact (((Below.refl _ _).alloc (Nat.le_refl _) _).alloc (by simp) _).drew | exact HB19.out | exact HB19.out.alloc HB19.out.size _)) (by first | exact Nat.le_refl _ | exact Nat.le_succ _ | exact HB19.out.size)); have hs26 : Below w.heap.size w w26 := HBW.out.trans (HB26.out.mono HBW.out.size); have HR26 := Lib.hid (app_row hown26 m1 R1.out.fits); have HK19 := Lib.hid (show InTx w26 (some ⟨g19, 0, none⟩) _ (wyAt n k).1 ∧ g19 < w26.heap.size from (by first | exact ⟨HR19.out.1.grown HR19.out.2.2 hgr26 (by have := HR19.out.2; rcases hat19 with h | h <;> (try simp at h) <;> omega), Nat.lt_of_lt_of_le HR19.out.2.2 hgr26.size⟩ | exact ⟨(HR19.out.1.below ((Below.refl _ _).alloc (Nat.le_refl _) _)).grown (by simp; have := HR19.out.2.2; omega) hgr26 (by have := HR19.out.2.2; omega), by have := HR19.out.2.2; have := hgr26.size; simp at this; omega⟩)); clear hown26) | (refine step_append_lies _ rfl (.tmp 12) (.tmp 28) 24 rfl w.heap.size 41 i1 (.agg #[.slice none 0 0, .slice none 0 0]) 2 48 Tryd.underlying24 HJ.out Y0.out Y1.out Y2.out rfl (by decide) _ k xs rfl (HRW.out.below (HB26.out.alloc HB26.out.size (.cells #[.slice (some ⟨g19, 0, none⟩) (wyAt n k).1.length cap19, .slice (some ⟨g26, 0, none⟩) (wyAt n k).2.length cap26] 41))).own ⟨w26.heap.size, 0, none⟩ 1 1 [.slice (some ⟨g19, 0, none⟩) (wyAt n k).1.length cap19, .slice (some ⟨g26, 0, none⟩) (wyAt n k).2.length cap26] rfl rfl (World.news_of_block (heap_alloc_new _ _)) (by intro u hu; simp at hu; rcases hu with rfl | rfl <;> rfl) (by decide) (by simp [maxLen]; omega) (by omega) (HBW.out.trans ((HB26.out.alloc HB26.out.size (.cells #[.slice (some ⟨g19, 0, none⟩) (wyAt n k).1.length cap19, .slice (some ⟨g26, 0, none⟩) (wyAt n k).2.length cap26] 41)).mono HBW.out.size)).size _ rfl ?_; intro g3 cap3 w3 hown3 hgr3 hat3 hlt3; have hs3 : Below w.heap.size w w3 := grown_ge (HBW.out.trans ((HB26.out.alloc HB26.out.size (.cells #[.slice (some ⟨g19, 0, none⟩) (wyAt n k).1.length cap19, .slice (some ⟨g26, 0, none⟩) (wyAt n k).2.length cap26] 41)).mono HBW.out.size)) hgr3 (HBW.out.trans ((HB26.out.alloc HB26.out.size (.cells #[.slice (some ⟨g19, 0, none⟩) (wyAt n k).1.length cap19, .slice (some ⟨g26, 0, none⟩) (wyAt n k).2.length cap26] 41)).mono HBW.out.size)).size HRW.out.low.1; have HROW := Lib.hid (cpRow_succ (HRW.out.below (HB26.out.alloc HB26.out.size (.cells #[.slice (some ⟨g19, 0, none⟩) (wyAt n k).1.length cap19, .slice (some ⟨g26, 0, none⟩) (wyAt n k).2.length cap26] 41))) hown3 hgr3 (by rcases hat3 with h | h; (· exact .inl (Option.some.inj h).symm); (· exact .inr h)) (HK19.out.1.below ((Below.refl w26.heap.size w26).alloc (Nat.le_refl _) (.cells #[.slice (some ⟨g19, 0, none⟩) (wyAt n k).1.length cap19, .slice (some ⟨g26, 0, none⟩) (wyAt n k).2.length cap26] 41))) (HR26.out.1.below ((Below.refl w26.heap.size w26).alloc (Nat.le_refl _) (.cells #[.slice (some ⟨g19, 0, none⟩) (wyAt n k).1.length cap19, .slice (some ⟨g26, 0, none⟩) (wyAt n k).2.length cap26] 41))) (by have := HR19.out.2.1; have := HRW.out.low.2; omega) (by have := HR26.out.2.1; have := HRW.out.low.2; omega) (by have := HK19.out.2; simp; omega) (by have := HR26.out.2.2; simp; omega) (by have := HR19.out.2.1; have := HBW.out.size; omega) (by have := HR26.out.2.1; have := HBW.out.size; omega)); clear hown3))) | fail
      all_goals
        have J1 := Lib.hid HROW.out
        have J2 := Lib.hid hs3
        clear HROW hs3 hs26 hs19 HB19 HB26 HR19 HR26 HK19 hgr19 hgr26 hgr3 hat19 hat26 hat3
        go_wp2_with fail
        go_roundw
        case rel => exact ⟨k + 1, g3, cap3, _, by go_num, rfl, by omega, J2.out, J1.out⟩
        case measure => simp [intOf]; omega
    · have hkl' : k = len := by omega
      subst hkl'
      have H := Lib.hid hcs
      clear hcs h
      go_wp2_with fail
      go_ret
      exact ⟨_, _, _, rfl, H.out.row, H.out.below⟩
end Go.Proofs.YthimndilobadeaaDoor
