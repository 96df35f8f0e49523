/- A Rcv: the laws' words on it. -/
import Derived.Test.YtdcahilfmhkmiaaGreatDoorPackA
import Derived.Test.YtdcahilfmhkmiaaGreatDoorPackB
namespace Go.Proofs.YtdcahilfmhkmiaaGreatDoor
open Go.RowKit

/-- A Rcv as a value: Read, Pieces, Edge, Size, Cap, End, Froms. -/
def rcvV (rd : Int) (pa : Option Addr) (pl pc : Nat) (ed sz cp en : Int) (fa : Option Addr) (fl fc : Nat) : Value := .agg #[.int .i64 rd, .slice pa pl pc, .int .i64 ed, .int .i64 sz, .int .i64 cp, .int .i64 en, .slice fa fl fc]
/-- What is left of a budget behind a Rcv. -/
def szRc (ps : List Pc) (n : Frs) (m : Int) : Int := if szAll ps m < 0 then -1 else szFrs n (szAll ps m)
theorem szRc_range (ps : List Pc) (n : Frs) (m : Int) (h : 0 ≤ m) : -1 ≤ szRc ps n m ∧ szRc ps n m ≤ m := by
  have h1 := szAll_range ps m h
  unfold szRc
  split
  · omega
  · have := szFrs_le n (szAll ps m) (by omega); omega

set_option maxHeartbeats 1000000 in
set_option maxRecDepth 100000 in
theorem szRcv_calls {rd ed sz cp en : Int} {pa fa : Option Addr} {pl pc fl fc : Nat} {ps : List Pc} {n : Frs} {w : World} (hp : RawPcs w pa pl ps) (hf : RawFrs w fa fl n) (m : Int) (hm0 : 0 ≤ m) (hm1 : m ≤ 1048576) :
    Calls Tryz.prog 49 #[rcvV rd pa pl pc ed sz cp en fa fl fc, .int .i64 m] w fun e w' => e = .returned (.int .i64 (szRc ps n m)) ∧ Below w.heap.size w w' := by
  have h1 := fun (W : World) (hb : Below w.heap.size w W) => szPieceN_calls (cap := pc) (hp.below hb) m hm0 hm1
  have hr := szAll_range ps m hm0
  have h2 := fun (W : World) (hb : Below w.heap.size w W) (h0 : 0 ≤ szAll ps m) => szFromS_calls (cap := fc) (hf.below hb) (szAll ps m) h0 (by omega)
  have hq : szAll ps m < 0 → szRc ps n m = -1 := fun h => by unfold szRc; rw [if_pos h]
  have hq2 : 0 ≤ szAll ps m → szRc ps n m = szFrs n (szAll ps m) ∧ -1 ≤ szRc ps n m := fun h => by
    have := szFrs_le n (szAll ps m) h
    unfold szRc; rw [if_neg (by omega)]; omega
  generalize szRc ps n m = R at *
  generalize szAll ps m = q at *
  have H1 := Lib.hid h1
  have H2 := Lib.hid h2
  clear h1 h2 hp hf
  unfold rcvV
  by_cases hneg : q < 0
  · have hR := hq hneg
    have HR := Lib.hid hR
    clear hq hq2 hR H2
    go_enter Tryz.func49, Tryz.ntmps49
    go_wp2_with (go_at_call 116; (with_reducible refine (H1.out _ ((Below.refl _ _).alloc (Nat.le_refl _) _)).mono ?_); rintro e w1 ⟨rfl, hb1⟩; replace hb1 := below_box hb1)
    all_goals first
      | (go_ret; exact ⟨ret_int (by rw [HR.out]), hb1⟩)
      | (exfalso; omega)
  · obtain ⟨hR, hR2⟩ := hq2 (by omega)
    have hpos : 0 ≤ q := by omega
    have HR := Lib.hid hR
    generalize szFrs n q = r at *
    subst hR
    clear hq hq2 hneg HR
    go_enter Tryz.func49, Tryz.ntmps49
    go_wp2_with fail
    have n1 := box_new w [.int .i64 rd, .slice pa pl pc, .int .i64 ed, .int .i64 sz, .int .i64 cp, .int .i64 en, .slice fa fl fc] 81 (by simp)
    have hb0 : Below w.heap.size w (w.alloc (.cells #[.int .i64 rd, .slice pa pl pc, .int .i64 ed, .int .i64 sz, .int .i64 cp, .int .i64 en, .slice fa fl fc] 81)) := (Below.refl _ _).alloc (Nat.le_refl _) _
    generalize w.alloc (.cells #[.int .i64 rd, .slice pa pl pc, .int .i64 ed, .int .i64 sz, .int .i64 cp, .int .i64 en, .slice fa fl fc] 81) = W at *
    (with_reducible refine (H1.out _ hb0).mono ?_); rintro e w1 ⟨rfl, hb1⟩
    obtain ⟨-, -, -, -, -, -, c6⟩ := (n1.below hb1).seven
    have hb1' := hb0.trans (hb1.mono hb0.size)
    have HB1 := Lib.hid hb1'
    clear n1 hb0 hb1 hb1' H1
    go_wp2_with (go_at_call 117; (with_reducible refine (H2.out _ HB1.out hpos).mono ?_); rintro e w2 ⟨rfl, hb2⟩; have HB2 := Lib.hid (HB1.out.trans (hb2.mono HB1.out.size)); clear hb2)
    all_goals go_ret
    all_goals exact ⟨ret_int (by omega), HB2.out⟩

/-- The laws' copy of a Rcv. -/
def RcvCopied (w : World) (rd : Int) (ps : List Pc) (ed sz cp en : Int) (n : Frs) (e : Ending) (w' : World) : Prop :=
  ∃ gp gf A C, e = .returned (rcvV rd (some ⟨gp, 0, none⟩) ps.length ps.length ed sz cp en (some ⟨gf, 0, none⟩) n.length n.length) ∧ w.heap.size ≤ gp ∧ w.heap.size ≤ gf ∧
    PcsOwn (fun b => b = gp) w' (some ⟨gp, 0, none⟩) ps.length ps ∧ FrsOwn (fun b => w.heap.size ≤ b ∧ b < w'.heap.size ∧ b ≠ gp) w' (some ⟨gf, 0, none⟩) n.length n A C ∧ gp < w'.heap.size ∧ Below w.heap.size w w'

set_option maxHeartbeats 2000000 in
set_option maxRecDepth 100000 in
theorem toRcv_calls {S : Nat → Prop} {rd ed sz cp en : Int} {pa fa : Option Addr} {pl pc fl fc : Nat} {ps : List Pc} {n : Frs} {w : World} (hp : InPcs w pa pl ps) (hf : InFrs S w fa fl n) :
    Calls Tryz.prog 51 #[rcvV rd pa pl pc ed sz cp en fa fl fc] w (RcvCopied w rd ps ed sz cp en n) := by
  obtain rfl := hp.long
  obtain rfl := hf.long
  have h1 := fun (W : World) (hb : Below w.heap.size w W) => toPcs_calls (cap := pc) (hp.below hb)
  have h2 := fun (W : World) (hb : Below w.heap.size w W) => toFromS_calls (cap := fc) (hf.below hb)
  have H1 := Lib.hid h1
  have H2 := Lib.hid h2
  clear h1 h2 hp hf
  unfold rcvV
  go_enter Tryz.func51, Tryz.ntmps51
  go_wp2_with fail
  have n3 := box_three w [.int .i64 rd, .slice pa ps.length pc, .int .i64 ed, .int .i64 sz, .int .i64 cp, .int .i64 en, .slice fa n.length fc] [.int .i64 0, .slice none 0 0, .int .i64 0, .int .i64 0, .int .i64 0, .int .i64 0, .slice none 0 0] [.int .i64 rd, .slice none 0 0, .int .i64 0, .int .i64 0, .int .i64 0, .int .i64 0, .slice none 0 0] 81 26 26 (by simp) (by simp) (by simp)
  dsimp only at n3
  generalize ((w.alloc (.cells #[.int .i64 rd, .slice pa ps.length pc, .int .i64 ed, .int .i64 sz, .int .i64 cp, .int .i64 en, .slice fa n.length fc] 81)).alloc (.cells #[.int .i64 0, .slice none 0 0, .int .i64 0, .int .i64 0, .int .i64 0, .int .i64 0, .slice none 0 0] 26)).alloc (.cells #[.int .i64 rd, .slice none 0 0, .int .i64 0, .int .i64 0, .int .i64 0, .int .i64 0, .slice none 0 0] 26) = W at *
  obtain ⟨n1, n2, n3, hs, hb0⟩ := n3
  (with_reducible refine (H1.out _ hb0).mono ?_); rintro e w1 ⟨gp, rfl, hg1, hg2, hown, hb1⟩
  replace n1 := n1.below hb1
  replace n2 := n2.below hb1
  replace n3 := n3.below hb1
  obtain ⟨c0, c1, c2, c3, c4, c5, c6⟩ := n1.seven
  obtain ⟨d0, d1, d2, d3, d4, d5, d6⟩ := n3.seven
  obtain ⟨z0, z1, z2, z3, z4, z5, z6⟩ := n3.frz7
  have HOWN := Lib.hid hown
  have HB1 := Lib.hid (hb0.trans (hb1.mono hb0.size))
  have hs1 := hb1.size
  have hgw : gp ≠ w.heap.size + 1 + 1 := by omega
  clear hown hb0 hb1 H1
  go_wp2_with fail
  have k3 : Box _ (w.heap.size + 1 + 1) [.int .i64 rd, .slice (some ⟨gp, 0, none⟩) ps.length ps.length, .int .i64 ed, .int .i64 sz, .int .i64 cp, .int .i64 en, .slice none 0 0] :=
    ((((n3.set 1 (.slice (some ⟨gp, 0, none⟩) ps.length ps.length)).set 2 (.int .i64 ed)).set 3 (.int .i64 sz)).set 4 (.int .i64 cp)).set 5 (.int .i64 en)
  have k2 := ((((n2.other (p := ⟨w.heap.size + 1 + 1, 1, none⟩) (by dsimp only; omega) (.slice (some ⟨gp, 0, none⟩) ps.length ps.length)).other (p := ⟨w.heap.size + 1 + 1, 2, none⟩) (by dsimp only; omega) (.int .i64 ed)).other (p := ⟨w.heap.size + 1 + 1, 3, none⟩) (by dsimp only; omega) (.int .i64 sz)).other (p := ⟨w.heap.size + 1 + 1, 4, none⟩) (by dsimp only; omega) (.int .i64 cp)).other (p := ⟨w.heap.size + 1 + 1, 5, none⟩) (by dsimp only; omega) (.int .i64 en)
  have HB2 := Lib.hid (((((HB1.out.setCell (p := ⟨w.heap.size + 1 + 1, 1, none⟩) (by simp; omega) (.slice (some ⟨gp, 0, none⟩) ps.length ps.length)).setCell (p := ⟨w.heap.size + 1 + 1, 2, none⟩) (by simp; omega) (.int .i64 ed)).setCell (p := ⟨w.heap.size + 1 + 1, 3, none⟩) (by simp; omega) (.int .i64 sz)).setCell (p := ⟨w.heap.size + 1 + 1, 4, none⟩) (by simp; omega) (.int .i64 cp)).setCell (p := ⟨w.heap.size + 1 + 1, 5, none⟩) (by simp; omega) (.int .i64 en))
  have hkk := ((((kept_set (S := fun b => b = w.heap.size + 1 + 1) w1 (w.heap.size + 1 + 1) 1 (.slice (some ⟨gp, 0, none⟩) ps.length ps.length) rfl).trans (kept_set _ (w.heap.size + 1 + 1) 2 (.int .i64 ed) rfl)).trans (kept_set _ (w.heap.size + 1 + 1) 3 (.int .i64 sz) rfl)).trans (kept_set _ (w.heap.size + 1 + 1) 4 (.int .i64 cp) rfl)).trans (kept_set _ (w.heap.size + 1 + 1) 5 (.int .i64 en) rfl)
  have hsz : w1.heap.size ≤ (((((w1.setCell ⟨w.heap.size + 1 + 1, 1, none⟩ (.slice (some ⟨gp, 0, none⟩) ps.length ps.length)).setCell ⟨w.heap.size + 1 + 1, 2, none⟩ (.int .i64 ed)).setCell ⟨w.heap.size + 1 + 1, 3, none⟩ (.int .i64 sz)).setCell ⟨w.heap.size + 1 + 1, 4, none⟩ (.int .i64 cp)).setCell ⟨w.heap.size + 1 + 1, 5, none⟩ (.int .i64 en)).heap.size := hkk.size
  have hown := HOWN.out.kept hkk (fun b e e' => hgw (e.symm.trans e'))
  clear hkk HOWN HB1 n1 n2 n3 c0 c1 c2 c3 c4 c5 c6 d0 d1 d2 d3 d4 d5 d6 z0 z1 z2 z3 z4 z5 z6
  generalize ((((w1.setCell ⟨w.heap.size + 1 + 1, 1, none⟩ (.slice (some ⟨gp, 0, none⟩) ps.length ps.length)).setCell ⟨w.heap.size + 1 + 1, 2, none⟩ (.int .i64 ed)).setCell ⟨w.heap.size + 1 + 1, 3, none⟩ (.int .i64 sz)).setCell ⟨w.heap.size + 1 + 1, 4, none⟩ (.int .i64 cp)).setCell ⟨w.heap.size + 1 + 1, 5, none⟩ (.int .i64 en) = Y at *
  (with_reducible refine (H2.out _ HB2.out).mono ?_); rintro e w2 ⟨gf, A, C, rfl, hg3, hg4, hfo, hb2⟩
  obtain ⟨d0, d1, d2, d3, d4, d5, d6⟩ := (k3.below hb2).seven
  obtain ⟨-, -, -, -, -, -, z6⟩ := (k3.below hb2).frz7
  obtain ⟨e0, e1, e2, e3, e4, e5, e6⟩ := (k2.below hb2).seven
  obtain ⟨y0, y1, y2, y3, y4, y5, y6⟩ := (k2.below hb2).frz7
  have HOWN := Lib.hid (hown.below hb2)
  have HB3 := Lib.hid (HB2.out.trans (hb2.mono HB2.out.size))
  have hs2 := hb2.size
  have HFO := Lib.hid hfo
  clear hown hb2 hfo H2 k2 k3 HB2
  go_wp2_with fail
  refine bodyPost_ret (v := rcvV rd (some ⟨gp, 0, none⟩) ps.length ps.length ed sz cp en (some ⟨gf, 0, none⟩) n.length n.length) (by simp [rcvV, results, Tryz.results51, go_sem, *]) rfl ?_
  have hK := (((((((kept_set (S := fun b => b = w.heap.size + 1 + 1 ∨ b = w.heap.size + 1) w2 (w.heap.size + 1 + 1) 6 (.slice (some ⟨gf, 0, none⟩) n.length n.length) (.inl rfl)).trans (kept_set _ (w.heap.size + 1) 0 (.int .i64 rd) (.inr rfl))).trans (kept_set _ (w.heap.size + 1) 1 (.slice (some ⟨gp, 0, none⟩) ps.length ps.length) (.inr rfl))).trans (kept_set _ (w.heap.size + 1) 2 (.int .i64 ed) (.inr rfl))).trans (kept_set _ (w.heap.size + 1) 3 (.int .i64 sz) (.inr rfl))).trans (kept_set _ (w.heap.size + 1) 4 (.int .i64 cp) (.inr rfl))).trans (kept_set _ (w.heap.size + 1) 5 (.int .i64 en) (.inr rfl))).trans (kept_set _ (w.heap.size + 1) 6 (.slice (some ⟨gf, 0, none⟩) n.length n.length) (.inr rfl))
  refine ⟨gp, gf, A, C, rfl, by omega, by omega, HOWN.out.kept hK (fun b e e' => by subst e; omega), ?_, ?_, ?_⟩
  · refine (HFO.out.kept hK (fun b e e' => by omega)).mono (fun b hb => ⟨by omega, Nat.lt_of_lt_of_le hb.2 hK.size, by omega⟩)
  · exact Nat.lt_of_lt_of_le (by omega) hK.size
  · exact HB3.out.trans (hK.toBelow HB3.out.size (fun b hb e => by omega))
end Go.Proofs.YtdcahilfmhkmiaaGreatDoor
