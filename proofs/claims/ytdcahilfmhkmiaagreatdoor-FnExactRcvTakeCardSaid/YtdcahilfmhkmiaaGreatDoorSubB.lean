/- The model's l06Sub where the number is another than the one that is wanted. -/
import Derived.Test.YtdcahilfmhkmiaaGreatDoorSubA
namespace Go.Proofs.YtdcahilfmhkmiaaGreatDoor
open Go.RowKit

theorem inLg_take {w : World} {a : Option Addr} {len : Nat} {l : Lg} (h : InLg w a len l) (p : Nat) (hp : p ≤ len) : InLg w a p (l.take p) := by
  have hl := h.long
  have hs := h.small
  have hat : ∀ i, i < p → lgAt (l.take p) i = lgAt l i := fun i hi => by simp [lgAt, List.getD, hi]
  refine ⟨⟨by simp; omega, by omega, fun h0 => h.there (by omega), fun b o e i hi => ?_, fun i hi => ?_⟩, by omega⟩
  · rw [hat i hi]; exact h.cell b o e i (by omega)
  · rw [hat i hi]; exact h.fit i (by omega)
theorem inLg_drop {w : World} {b o len : Nat} {l : Lg} (h : InLg w (some ⟨b, o, none⟩) len l) (p : Nat) (hp : p ≤ len) : InLg w (some ⟨b, o + p, none⟩) (len - p) (l.drop p) := by
  have hl := h.long
  have hs := h.small
  have hat : ∀ i, lgAt (l.drop p) i = lgAt l (p + i) := fun i => by simp [lgAt, List.getD]
  refine ⟨⟨by simp; omega, by omega, fun h0 => ⟨b, o + p, rfl⟩, fun b' o' e i hi => ?_, fun i hi => ?_⟩, by omega⟩
  · cases e
    rw [hat, show o + p + i = o + (p + i) by omega]
    exact h.cell b o rfl (p + i) (by omega)
  · rw [hat]; exact h.fit (p + i) (by omega)
theorem cell_one {W : World} {b : Nat} {v : Value} {T : TypeId} (h : W.heap[b]? = some (.cells #[v] T (0, 0))) (hv : v.oneCell' = true) : CellRow W 1 (some ⟨b, 0, none⟩) 1 [v] :=
  ⟨rfl, by omega, fun _ => ⟨b, 0, rfl⟩, fun b' o e j u hj => by
    cases e
    have := World.news_of_block h j u hj
    rwa [Addr.add_lit] at this, fun u hu => by simp at hu; rw [hu]; exact hv⟩
theorem cellRow_nil {W : World} {s : Nat} {a : Option Addr} : CellRow W s a 0 [] := ⟨by simp, by omega, fun h => by omega, fun b o e j u hj => by simp at hj, fun u hu => by cases hu⟩
theorem lgv_app (l m : Lg) : lgv (l ++ m) = lgv l ++ lgv m := by simp [lgv]

set_option maxHeartbeats 4000000 in
set_option maxRecDepth 100000 in
theorem subB_calls {S : Nat → Prop} {w : World} {g len k : Nat} {n : Frs} {A : Nat → Option Addr} {C : Nat → Nat} (h : FrsSp S w (some ⟨g, 0, none⟩) len n A C) (hk : k < len) (hl8 : (frAt n k).2.length ≤ 8) (sub : Int) (hs64 : I64 sub) (hne : sub ≠ (frAt n k).1) :
    Calls Tryz.prog 141 #[.pointer (some ⟨g, k * 2, none⟩), .int .i64 sub] w fun e w' => e = .returned (.tuple #[]) ∧ (∃ A' C', FrsSp (fun b => S b ∨ (w.heap.size ≤ b ∧ b < w'.heap.size)) w' (some ⟨g, 0, none⟩) len (n.set k (subN (frAt n k) sub)) A' C') ∧ Kept (fun b => b = g) w w' := by
  have hlen := h.long
  have hm := h.most
  have hlt := h.late k hk
  have hrm := h.room k hk
  have hself : n.set k (frAt n k) = n := by
    apply frs_ext (by simp)
    intro i hi
    rw [frAt_set (by omega)]
    split
    · rename_i e; rw [e]
    · rfl
  have hsub : ∀ q, subN (frAt n k) sub = q → n.set k q = n.set k (subN (frAt n k) sub) := fun q hq => by rw [hq]
  obtain ⟨c0, c1⟩ := h.cell g 0 rfl k hk
  rw [Nat.zero_add] at c0 c1
  have hgw : g < w.heap.size := h.lt ⟨by omega, 0, rfl⟩
  have HSELF := Lib.hid hself
  have H := Lib.hid h
  obtain ⟨wt, hwt⟩ : ∃ x, x = (frAt n k).1 := ⟨_, rfl⟩
  obtain ⟨l, hll⟩ : ∃ x, x = (frAt n k).2 := ⟨_, rfl⟩
  have hfr : frAt n k = (wt, l) := by rw [hwt, hll]
  rw [hfr] at hne hlt hrm c0 c1 hl8 ⊢
  dsimp only at hne hlt hrm c0 c1 hl8
  have hpl := posN_le sub l
  have hplt := posN_lt sub l
  have hpat := posN_at sub l
  generalize hpp : posN sub l = p at *
  have hsN : subN (wt, l) sub = if sub < wt ∨ (p < l.length ∧ lgAt l p = sub) ∨ 8 ≤ l.length then (wt, l) else (wt, l.take p ++ sub :: l.drop p) := by
    unfold subN; rw [if_neg hne]; dsimp only; rw [hpp]
  have hq0 : (sub == wt) = false := by simpa using hne
  have HST := Lib.hid (fun (hc : sub < wt ∨ (p < l.length ∧ lgAt l p = sub) ∨ 8 ≤ l.length) => (hsN.trans (if_pos hc) : subN (wt, l) sub = (wt, l)))
  have HSF := Lib.hid (fun (hc : ¬ (sub < wt ∨ (p < l.length ∧ lgAt l p = sub) ∨ 8 ≤ l.length)) => (hsN.trans (if_neg hc) : subN (wt, l) sub = (wt, l.take p ++ sub :: l.drop p)))
  have HLT := Lib.hid hlt
  have HFR := Lib.hid hfr
  have hz := H.out.free g 0 rfl (k * 2 + 1) (by omega)
  rw [Nat.zero_add] at hz
  have HC1 := Lib.hid (fun (W : World) (hb : Below w.heap.size w W) => (⟨(hb.cell (p := ⟨g, k * 2 + 1, none⟩) hgw).trans c1, (hb.frozen (p := ⟨g, k * 2 + 1, none⟩) hgw).trans hz⟩ : W.cell? ⟨g, k * 2 + 1, none⟩ = some (.slice (A k) l.length (C k)) ∧ W.frozen? ⟨g, k * 2 + 1, none⟩ = false))
  have hyy : (Tryz.prog.info? 2).map (fun i => (i.zero, i.size, i.bytes)) = some (some (.int .i64 0), 1, 8) := by kernel_rfl
  obtain ⟨i1, hi1, hyy⟩ := Option.map_eq_some_iff.1 hyy
  simp only [Prod.mk.injEq] at hyy
  obtain ⟨hy0, hy1, hy2⟩ := hyy
  have HJ := Lib.hid (And.intro hi1 (And.intro hy0 (And.intro hy1 hy2)))
  clear hi1 hy0 hy1 hy2 hz
  have HPLT := Lib.hid hplt
  have HPAT := Lib.hid hpat
  clear hsN hlt hfr hwt hll hself hsub h hplt hpat hpp
  go_enter Tryz.func141, Tryz.ntmps141
  go_wp2_with fail
  go_loopw [4] (fun i wr => ∃ m : Nat, i = .int .i64 (m : Int) ∧ m ≤ p ∧ Below w.heap.size w wr) (fun i _ => p - (intOf i).toNat)
  case atStart => exact ⟨0, rfl, Nat.zero_le _, Below.refl _ _⟩
  case round =>
    obtain ⟨m, rfl, hmp, hbl⟩ := hrel
    have d0 := (hbl.cell (World.block_lt_of_cell? _ _ c0)).trans c0
    have d1 := (hbl.cell (World.block_lt_of_cell? _ _ c1)).trans c1
    have hlt2 := HLT.out.1.below hbl
    have HBL := Lib.hid hbl
    clear c0 c1 hbl
    by_cases hmp2 : m < p
    · obtain ⟨bx, ox, hax⟩ := hlt2.there (by omega)
      have e0 := hlt2.cell bx ox hax m (by omega)
      rw [hax] at d1
      have hq := HPLT.out m hmp2
      generalize lgAt l m = y at *
      have hd1 : decide (m < l.length) = true := by simp; omega
      have hd2 : decide (y < sub) = true := by simpa using hq
      have i1 : (0 : Int) ≤ (m : Int) := by omega
      have i2 : (m : Int) < (l.length : Int) := by omega
      clear hlt2
      go_wp2_with fail
      exact ⟨⟨m + 1, by go_num, by omega, HBL.out⟩, by simp [intOf]; omega⟩
    · obtain rfl : m = p := by omega
      clear HPLT
      have hi1 : (0 : Int) ≤ (m : Int) := by omega
      by_cases hin : m < l.length
      · obtain ⟨bx, ox, hax⟩ := hlt2.there (by omega)
        have e0 := hlt2.cell bx ox hax m hin
        have hge := HPAT.out hin
        have hd1 : decide (m < l.length) = true := by simpa using hin
        have hi2 : (m : Int) < (l.length : Int) := by omega
        generalize lgAt l m = y at *
        have hd2 : decide (y < sub) = false := by simp; omega
        by_cases hA : sub < wt
        · have HR := Lib.hid (HST.out (.inl hA))
          have hd3 : decide (sub < wt) = true := by simpa using hA
          clear hlt2
          rw [hax] at d1
          go_wp2_with fail
          refine bodyPost_ret (v := .tuple #[]) (by simp [results, Tryz.results141, go_sem]) rfl ⟨rfl, ⟨A, C, ?_⟩, kept_below HBL.out⟩
          rw [HR.out, ← HFR.out, HSELF.out]
          exact (H.out.below HBL.out).mono (fun b hb => .inl hb)
        · have hd3 : decide (sub < wt) = false := by simp; omega
          by_cases hB : y = sub
          · have HR := Lib.hid (HST.out (.inr (.inl ⟨hin, hB⟩)))
            have hd4 : (y == sub) = true := by simpa using hB
            clear hlt2
            rw [hax] at d1
            go_wp2_with fail
            refine bodyPost_ret (v := .tuple #[]) (by simp [results, Tryz.results141, go_sem]) rfl ⟨rfl, ⟨A, C, ?_⟩, kept_below HBL.out⟩
            rw [HR.out, ← HFR.out, HSELF.out]
            exact (H.out.below HBL.out).mono (fun b hb => .inl hb)
          · have hd4 : (y == sub) = false := by simpa using hB
            by_cases hC : 8 ≤ l.length
            · have HR := Lib.hid (HST.out (.inr (.inr hC)))
              have hd5 : decide (8 ≤ l.length) = true := by simpa using hC
              clear hlt2
              rw [hax] at d1
              go_wp2_with fail
              refine bodyPost_ret (v := .tuple #[]) (by simp [results, Tryz.results141, go_sem]) rfl ⟨rfl, ⟨A, C, ?_⟩, kept_below HBL.out⟩
              rw [HR.out, ← HFR.out, HSELF.out]
              exact (H.out.below HBL.out).mono (fun b hb => .inl hb)
            · have hd5 : decide (8 ≤ l.length) = false := by simpa using hC
              have HR := Lib.hid (HSF.out (fun h => h.elim hA (fun h => h.elim (fun h => hB h.2) hC)))
              clear hlt2 d1 HST HSF HPAT
              rw [hax] at HC1 HLT
              have d1 := (HC1.out _ HBL.out).1
              have hb8 := HBL.out.alloc HBL.out.size (.cells #[] 2)
              have e8 := heap_alloc_new wr (.cells #[] 2)
              have d8 := (HC1.out _ hb8).1
              have B8 := Lib.hid hb8
              have E8 := Lib.hid e8
              have j1 : (0 : Int) ≤ (m : Int) := by omega
              have j2 : (m : Int) ≤ (l.length : Int) := by omega
              have j3 : (m : Int) ≤ (C k : Int) := by omega
              have j4 : (l.length : Int) ≤ (C k : Int) := by omega
              clear hb8 e8
              have hcm : ¬ C k = m := by omega
              go_wp2_with (first | (at_builtin; refine wpList_copy_cells _ rfl _ _ 130 rfl w.heap.size 2 i1 _ 1 8 Tryz.underlying130 HJ.out.1 HJ.out.2.1 HJ.out.2.2.1 HJ.out.2.2.2 rfl (by decide) (by decide) rfl (cells_empty E8.out HBL.out.size) _ rfl (inLg_take (HLT.out.1.below B8.out) m (by omega)).cells B8.out.size ?_; intro g1 cap1 w1 own1 gr1 at1; have B1 := Lib.hid (B8.out.grown gr1 B8.out.size (fun k e => by cases e; exact HBL.out.size)); have O1 := Lib.hid own1; have B9 := Lib.hid (B1.out.alloc B1.out.size (.cells #[.int .i64 sub] 2)); have E9 := Lib.hid (heap_alloc_new w1 (.cells #[.int .i64 sub] 2)); have b9 : Below w1.heap.size w1 (w1.alloc (.cells #[.int .i64 sub] 2)) := (Below.refl _ _).alloc (Nat.le_refl _) _; have O9 := Lib.hid (cp_own_below own1 b9); clear own1 b9) | (at_builtin; refine wpList_append_cells _ rfl _ _ 130 rfl w.heap.size 2 i1 _ 1 8 Tryz.underlying130 HJ.out.1 HJ.out.2.1 HJ.out.2.2.1 HJ.out.2.2.2 rfl (by decide) (by decide) rfl O9.out _ rfl (cell_one E9.out rfl) (by omega) B9.out.size ?_; intro g2 cap2 w2 own2 gr2 at2; have B2 := Lib.hid (B9.out.grown gr2 B9.out.size (fun k e => by cases e; exact (O1.out.lt _ rfl).1)); have O2 := Lib.hid own2; have d2 := (HC1.out _ B2.out).1; clear own2) | (at_builtin; refine wpList_append_cells _ rfl _ _ 130 rfl w.heap.size 2 i1 _ 1 8 Tryz.underlying130 HJ.out.1 HJ.out.2.1 HJ.out.2.2.1 HJ.out.2.2.2 rfl (by decide) (by decide) rfl O2.out _ rfl (inLg_drop (HLT.out.1.below B2.out) m (by omega)).cells (by omega) B2.out.size ?_; intro g3 cap3 w3 own3 gr3 at3; have B3 := Lib.hid (B2.out.grown gr3 B2.out.size (fun k e => by cases e; exact (O2.out.lt _ rfl).1)); have O3 := Lib.hid own3; obtain ⟨d3, z3⟩ := HC1.out _ B3.out; clear own3))
              have hlw := lg_own (l := l.take m ++ sub :: l.drop m) (by rw [lgv_app]; have := O3.out; simpa [lgv] using this) (by omega) (fun i hi => ?_)
              · have hown := (H.out.below B3.out).late_put (T := fun b => S b ∨ (w.heap.size ≤ b ∧ b < w3.heap.size)) hk (x' := some ⟨g3, 0, none⟩) (c' := cap3) (t := l.take m ++ sub :: l.drop m)
                  (by rw [show (l.take m ++ sub :: l.drop m).length = m + 1 + (l.length - m) by simp; omega]; exact hlw.1) (by rw [show (l.take m ++ sub :: l.drop m).length = m + 1 + (l.length - m) by simp; omega]; exact hlw.2.1) (own_spare O3.out)
                  (fun b' hb' => by
                    obtain ⟨_, o', e⟩ := hb'
                    injection e with e
                    injection e with e
                    subst e
                    exact ⟨.inr ⟨hlw.2.2.1, hlw.2.2.2⟩, by omega, fun j hj _ hl' => by have := (H.out.sp j hj).lt hl'; omega⟩) (fun b h => .inl h) (by have := own_room O3.out; simp; omega)
                rw [Nat.zero_add, HFR.out] at hown
                rw [show (l.take m ++ sub :: l.drop m).length = m + 1 + (l.length - m) by simp; omega] at hown
                have HOWN := Lib.hid hown
                have HK3 := Lib.hid ((kept_below (S := fun b => b = g) B3.out).trans (kept_set w3 g (k * 2 + 1) (.slice (some ⟨g3, 0, none⟩) (m + 1 + (l.length - m)) cap3) rfl))
                clear hown hlw
                have hfin := HOWN.out.mono (T := fun b => S b ∨ (w.heap.size ≤ b ∧ b < (w3.setCell ⟨g, k * 2 + 1, none⟩ (.slice (some ⟨g3, 0, none⟩) (m + 1 + (l.length - m)) cap3)).heap.size)) (fun b hb => hb.elim .inl (fun h => .inr ⟨h.1, by simpa using h.2⟩))
                rw [← HR.out] at hfin
                have HFIN := Lib.hid hfin
                clear hfin HOWN
                go_end0
                exact ⟨rfl, ⟨_, _, HFIN.out⟩, HK3.out⟩
              · have hlt := HLT.out.1.fit
                by_cases e1 : i < m
                · rw [show lgAt (l.take m ++ sub :: l.drop m) i = lgAt l i by simp [lgAt, List.getD, List.getElem?_append_left (show i < (l.take m).length by simp; omega), e1]]
                  exact hlt i (by omega)
                · by_cases e2 : i = m
                  · subst e2
                    rw [show lgAt (l.take i ++ sub :: l.drop i) i = sub by simp [lgAt, List.getD, List.getElem?_append_right (show (l.take i).length ≤ i by simp; omega)]; rw [show i - min i l.length = 0 by omega]; rfl]
                    exact hs64
                  · rw [show lgAt (l.take m ++ sub :: l.drop m) i = lgAt l (i - 1) by
                      unfold lgAt
                      rw [List.getD_eq_getElem?_getD, List.getD_eq_getElem?_getD, List.getElem?_append_right (by simp; omega), List.length_take, show i - min m l.length = (i - m - 1) + 1 by omega, List.getElem?_cons_succ, List.getElem?_drop, show m + (i - m - 1) = i - 1 by omega]]
                    exact hlt (i - 1) (by omega)
      · obtain hml : m = l.length := by omega
        have hd1 : decide (m < l.length) = false := by simp; omega
        have HML := Lib.hid hml
        clear hml
        by_cases hA : sub < wt
        · have HR := Lib.hid (HST.out (.inl hA))
          have hd3 : decide (sub < wt) = true := by simpa using hA
          clear hlt2
          go_wp2_with fail
          refine bodyPost_ret (v := .tuple #[]) (by simp [results, Tryz.results141, go_sem]) rfl ⟨rfl, ⟨A, C, ?_⟩, kept_below HBL.out⟩
          rw [HR.out, ← HFR.out, HSELF.out]
          exact (H.out.below HBL.out).mono (fun b hb => .inl hb)
        · have hd3 : decide (sub < wt) = false := by simp; omega
          by_cases hC : 8 ≤ l.length
          · have HR := Lib.hid (HST.out (.inr (.inr hC)))
            have hd5 : decide (8 ≤ l.length) = true := by simpa using hC
            clear hlt2
            go_wp2_with fail
            refine bodyPost_ret (v := .tuple #[]) (by simp [results, Tryz.results141, go_sem]) rfl ⟨rfl, ⟨A, C, ?_⟩, kept_below HBL.out⟩
            rw [HR.out, ← HFR.out, HSELF.out]
            exact (H.out.below HBL.out).mono (fun b hb => .inl hb)
          · have hd5 : decide (8 ≤ l.length) = false := by simpa using hC
            have HR := Lib.hid (HSF.out (fun h => h.elim hA (fun h => h.elim (fun h => hin h.1) hC)))
            clear hlt2 d1 HST HSF HPAT
            have d1 := (HC1.out _ HBL.out).1
            have hb8 := HBL.out.alloc HBL.out.size (.cells #[] 2)
            have e8 := heap_alloc_new wr (.cells #[] 2)
            have d8 := (HC1.out _ hb8).1
            have B8 := Lib.hid hb8
            have E8 := Lib.hid e8
            have j1 : (0 : Int) ≤ (m : Int) := by omega
            have j2 : (m : Int) ≤ (l.length : Int) := by omega
            have j3 : (m : Int) ≤ (C k : Int) := by omega
            have j4 : (l.length : Int) ≤ (C k : Int) := by omega
            clear hb8 e8
            have hrow : ∀ W (a : Option Addr), Below w.heap.size w W → CellRow W 1 a (l.length - m) (lgv (l.drop m)) := fun W a _ => by
              rw [List.drop_eq_nil_of_le (by rw [HML.out]; exact Nat.le_refl _), show l.length - m = 0 by rw [HML.out]; omega]
              exact cellRow_nil
            have HROW := Lib.hid hrow
            clear hrow
            go_wp2_with (first | (at_builtin; refine wpList_copy_cells _ rfl _ _ 130 rfl w.heap.size 2 i1 _ 1 8 Tryz.underlying130 HJ.out.1 HJ.out.2.1 HJ.out.2.2.1 HJ.out.2.2.2 rfl (by decide) (by decide) rfl (cells_empty E8.out HBL.out.size) _ rfl (inLg_take (HLT.out.1.below B8.out) m (by omega)).cells B8.out.size ?_; intro g1 cap1 w1 own1 gr1 at1; have B1 := Lib.hid (B8.out.grown gr1 B8.out.size (fun k e => by cases e; exact HBL.out.size)); have O1 := Lib.hid own1; have B9 := Lib.hid (B1.out.alloc B1.out.size (.cells #[.int .i64 sub] 2)); have E9 := Lib.hid (heap_alloc_new w1 (.cells #[.int .i64 sub] 2)); have b9 : Below w1.heap.size w1 (w1.alloc (.cells #[.int .i64 sub] 2)) := (Below.refl _ _).alloc (Nat.le_refl _) _; have O9 := Lib.hid (cp_own_below own1 b9); clear own1 b9) | (at_builtin; refine wpList_append_cells _ rfl _ _ 130 rfl w.heap.size 2 i1 _ 1 8 Tryz.underlying130 HJ.out.1 HJ.out.2.1 HJ.out.2.2.1 HJ.out.2.2.2 rfl (by decide) (by decide) rfl O9.out _ rfl (cell_one E9.out rfl) (by omega) B9.out.size ?_; intro g2 cap2 w2 own2 gr2 at2; have B2 := Lib.hid (B9.out.grown gr2 B9.out.size (fun k e => by cases e; exact (O1.out.lt _ rfl).1)); have O2 := Lib.hid own2; have d2 := (HC1.out _ B2.out).1; clear own2) | (at_builtin; refine wpList_append_cells _ rfl _ _ 130 rfl w.heap.size 2 i1 _ 1 8 Tryz.underlying130 HJ.out.1 HJ.out.2.1 HJ.out.2.2.1 HJ.out.2.2.2 rfl (by decide) (by decide) rfl O2.out _ rfl (HROW.out _ _ B2.out) (by omega) B2.out.size ?_; intro g3 cap3 w3 own3 gr3 at3; have B3 := Lib.hid (B2.out.grown gr3 B2.out.size (fun k e => by cases e; exact (O2.out.lt _ rfl).1)); have O3 := Lib.hid own3; obtain ⟨d3, z3⟩ := HC1.out _ B3.out; clear own3))
            all_goals
              have hlw := lg_own (l := l.take m ++ sub :: l.drop m) (by rw [lgv_app]; have := O3.out; simpa [lgv] using this) (by omega) (fun i hi => ?_)
              · have hown := (H.out.below B3.out).late_put (T := fun b => S b ∨ (w.heap.size ≤ b ∧ b < w3.heap.size)) hk (x' := some ⟨g3, 0, none⟩) (c' := cap3) (t := l.take m ++ sub :: l.drop m)
                  (by rw [show (l.take m ++ sub :: l.drop m).length = m + 1 + (l.length - m) by simp; omega]; exact hlw.1) (by rw [show (l.take m ++ sub :: l.drop m).length = m + 1 + (l.length - m) by simp; omega]; exact hlw.2.1) (own_spare O3.out)
                  (fun b' hb' => by
                    obtain ⟨_, o', e⟩ := hb'
                    injection e with e
                    injection e with e
                    subst e
                    exact ⟨.inr ⟨hlw.2.2.1, hlw.2.2.2⟩, by omega, fun j hj _ hl' => by have := (H.out.sp j hj).lt hl'; omega⟩) (fun b h => .inl h) (by have := own_room O3.out; simp; omega)
                rw [Nat.zero_add, HFR.out] at hown
                rw [show (l.take m ++ sub :: l.drop m).length = m + 1 + (l.length - m) by simp; omega] at hown
                have HOWN := Lib.hid hown
                have HK3 := Lib.hid ((kept_below (S := fun b => b = g) B3.out).trans (kept_set w3 g (k * 2 + 1) (.slice (some ⟨g3, 0, none⟩) (m + 1 + (l.length - m)) cap3) rfl))
                clear hown hlw
                have hfin := HOWN.out.mono (T := fun b => S b ∨ (w.heap.size ≤ b ∧ b < (w3.setCell ⟨g, k * 2 + 1, none⟩ (.slice (some ⟨g3, 0, none⟩) (m + 1 + (l.length - m)) cap3)).heap.size)) (fun b hb => hb.elim .inl (fun h => .inr ⟨h.1, by simpa using h.2⟩))
                rw [← HR.out] at hfin
                have HFIN := Lib.hid hfin
                clear hfin HOWN
                go_end0
                exact ⟨rfl, ⟨_, _, HFIN.out⟩, HK3.out⟩
              · have hlt := HLT.out.1.fit
                by_cases e1 : i < m
                · rw [show lgAt (l.take m ++ sub :: l.drop m) i = lgAt l i by simp [lgAt, List.getD, List.getElem?_append_left (show i < (l.take m).length by simp; omega), e1]]
                  exact hlt i (by omega)
                · by_cases e2 : i = m
                  · subst e2
                    rw [show lgAt (l.take i ++ sub :: l.drop i) i = sub by simp [lgAt, List.getD, List.getElem?_append_right (show (l.take i).length ≤ i by simp; omega)]; rw [show i - min i l.length = 0 by omega]; rfl]
                    exact hs64
                  · rw [show lgAt (l.take m ++ sub :: l.drop m) i = lgAt l (i - 1) by
                      unfold lgAt
                      rw [List.getD_eq_getElem?_getD, List.getD_eq_getElem?_getD, List.getElem?_append_right (by simp; omega), List.length_take, show i - min m l.length = (i - m - 1) + 1 by omega, List.getElem?_cons_succ, List.getElem?_drop, show m + (i - m - 1) = i - 1 by omega]]
                    exact hlt (i - 1) (by omega)
theorem subS_calls {S : Nat → Prop} {w : World} {g len k : Nat} {n : Frs} {A : Nat → Option Addr} {C : Nat → Nat} (h : FrsSp S w (some ⟨g, 0, none⟩) len n A C) (hk : k < len) (hok : fromOk (frAt n k)) (sub : Int) (hs64 : I64 sub) :
    Calls Tryz.prog 141 #[.pointer (some ⟨g, k * 2, none⟩), .int .i64 sub] w fun e w' => e = .returned (.tuple #[]) ∧ (∃ A' C', FrsSp (fun b => S b ∨ (w.heap.size ≤ b ∧ b < w'.heap.size)) w' (some ⟨g, 0, none⟩) len (n.set k (subN (frAt n k) sub)) A' C') ∧ Kept (fun b => b = g) w w' := by
  by_cases e : sub = (frAt n k).1
  · subst e
    exact (subA_calls h hk hok.1 hok.2.1).mono fun e w' ⟨he, ⟨A', C', hf⟩, hkp⟩ => ⟨he, ⟨A', C', hf.mono (fun b hb => .inl hb)⟩, hkp⟩
  · exact subB_calls h hk hok.2.1 sub hs64 e
end Go.Proofs.YtdcahilfmhkmiaaGreatDoor
