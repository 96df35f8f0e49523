/- The model's RcvNew. -/
import Derived.Test.YtdcahilfmhkmiaaGreatDoorRcvPlain
import Derived.Test.YtdcahilfmhkmiaaGreatDoorRcvR
import Derived.Deep.RegionLawGrows
namespace Go.Proofs.YtdcahilfmhkmiaaGreatDoor
open Go.RowKit

theorem made_froms (k i : Nat) (h : i < k) : (madeCells #[.int .i64 0, .slice none 0 0] (k * 2)).toList[i * 2]? = some (.int .i64 0) ∧ (madeCells #[.int .i64 0, .slice none 0 0] (k * 2)).toList[i * 2 + 1]? = some (.slice none 0 0) := by
  have h1 : i * 2 < k * 2 := by omega
  have h2 : i * 2 + 1 < k * 2 := by omega
  have m1 : i * 2 % 2 = 0 := by omega
  have m2 : (i * 2 + 1) % 2 = 1 := by omega
  constructor
  · simp [madeCells, h1]
  · simp [madeCells, h2, m2]
theorem frAt_rep (k i : Nat) (h : i < k) : frAt (List.replicate k (0, [])) i = (0, []) := by simp [frAt, List.getD, h]
/-- A row of Froms that is made new. -/
theorem made_own {w : World} {base : Nat} {k : Nat} {e : TypeId} (hb : base ≤ w.heap.size) (hk : k ≤ 2000000) :
    FrsOwn (fun b => b = w.heap.size) (w.alloc (.cells (madeCells #[.int .i64 0, .slice none 0 0] (k * 2)) e)) (some ⟨w.heap.size, 0, none⟩) k (List.replicate k (0, [])) (fun _ => none) (fun _ => 0) := by
  have ho := World.ownsRow_lit (size := 2) (base := base) (e := e) w (madeCells #[.int .i64 0, .slice none 0 0] (k * 2)) k hb (by simp [maxLen]; omega) (size_madeCells _ _)
  generalize w.alloc (.cells (madeCells #[.int .i64 0, .slice none 0 0] (k * 2)) e) = W at *
  generalize w.heap.size = g at *
  refine ⟨by simp, hk, fun _ => ⟨g, 0, rfl⟩, fun b o e i hi => ?_, fun b o e i hi => ?_, fun b hl => ?_, fun i hi => ?_, fun i hi b hl => ?_, fun i j hi hj hij b hl => ?_, fun i hi => ?_, fun i hi => ?_⟩
  · cases e
    rw [Nat.zero_add, frAt_rep k i hi]
    obtain ⟨e0, e1⟩ := made_froms k i hi
    exact ⟨(ho.cellAt (i * 2) (by omega)).trans e0, (ho.cellAt (i * 2 + 1) (by omega)).trans e1⟩
  · cases e
    rw [Nat.zero_add]
    exact ho.frozenAt i
  · obtain ⟨_, o, e⟩ := hl
    cases e
    rfl
  · rw [frAt_rep k i hi]; exact ⟨inLg_nil, lgFree_nil⟩
  · rw [frAt_rep k i hi] at hl; exact absurd hl.1 (by simp)
  · rw [frAt_rep k i hi] at hl; exact absurd hl.1 (by simp)
  · rw [frAt_rep k i hi]; exact ⟨by simp, by simp⟩
  · rw [frAt_rep k i hi]; simp

/-- It has no room behind any row. -/
theorem made_sp {w : World} {base : Nat} {k : Nat} {e : TypeId} (hb : base ≤ w.heap.size) (hk : k ≤ 2000000) :
    FrsSp (fun b => b = w.heap.size) (w.alloc (.cells (madeCells #[.int .i64 0, .slice none 0 0] (k * 2)) e)) (some ⟨w.heap.size, 0, none⟩) k (List.replicate k (0, [])) (fun _ => none) (fun _ => 0) :=
  ⟨made_own hb hk, fun i hi => spare_zero, fun i hi b hl => absurd hl.1 (by omega), fun i j hi hj hij b hl => absurd hl.1 (by omega)⟩

set_option maxHeartbeats 4000000 in
set_option maxRecDepth 100000 in
theorem rcvNewSp_calls (paths size most : Int) (w : World) :
    Calls Tryz.prog 17 #[.int .i64 paths, .int .i64 size, .int .i64 most] w (RcSp w (rcvNewN paths size most)) := by
  have H1 := Lib.hid (fun W => isC_calls paths 1 4 W)
  by_cases hp : 1 ≤ paths ∧ paths ≤ 4
  · obtain ⟨k, rfl⟩ : ∃ k : Nat, paths = (k : Int) := ⟨paths.toNat, by omega⟩
    rw [decide_eq_true hp] at H1
    have hzz : (Tryz.prog.info? 159).map (fun i => (i.zero, i.size, i.bytes)) = some (some (.agg #[.int .i64 0, .slice none 0 0]), 2, 32) := by kernel_rfl
    obtain ⟨i, hi, hzz⟩ := Option.map_eq_some_iff.1 hzz
    simp only [Prod.mk.injEq] at hzz
    have hmk := run_make_froms (P := Tryz.prog) Tryz.underlying24 hi hzz.1 hzz.2.1 hzz.2.2 k (k : Int) rfl (by omega) (w.alloc (.cells #[.int .i64 0, .slice none 0 0, .int .i64 0, .int .i64 0, .int .i64 0, .int .i64 0, .slice none 0 0, .int .i64 0, .int .i64 0, .int .i64 0, .int .i64 0, gs [], .bool false, .int .i64 0] 34))
    have how := made_sp (w := w.alloc (.cells #[.int .i64 0, .slice none 0 0, .int .i64 0, .int .i64 0, .int .i64 0, .int .i64 0, .slice none 0 0, .int .i64 0, .int .i64 0, .int .i64 0, .int .i64 0, gs [], .bool false, .int .i64 0] 34)) (base := w.heap.size) (k := k) (e := 159) (by simp) (by omega)
    rw [show (w.alloc (.cells #[.int .i64 0, .slice none 0 0, .int .i64 0, .int .i64 0, .int .i64 0, .int .i64 0, .slice none 0 0, .int .i64 0, .int .i64 0, .int .i64 0, .int .i64 0, gs [], .bool false, .int .i64 0] 34)).heap.size = w.heap.size + 1 by simp] at hmk how
    clear hi hzz
    have hbf : Below (w.alloc (.cells #[.int .i64 0, .slice none 0 0, .int .i64 0, .int .i64 0, .int .i64 0, .int .i64 0, .slice none 0 0, .int .i64 0, .int .i64 0, .int .i64 0, .int .i64 0, gs [], .bool false, .int .i64 0] 34)).heap.size (w.alloc (.cells #[.int .i64 0, .slice none 0 0, .int .i64 0, .int .i64 0, .int .i64 0, .int .i64 0, .slice none 0 0, .int .i64 0, .int .i64 0, .int .i64 0, .int .i64 0, gs [], .bool false, .int .i64 0] 34)) ((w.alloc (.cells #[.int .i64 0, .slice none 0 0, .int .i64 0, .int .i64 0, .int .i64 0, .int .i64 0, .slice none 0 0, .int .i64 0, .int .i64 0, .int .i64 0, .int .i64 0, gs [], .bool false, .int .i64 0] 34)).alloc (.cells (madeCells #[.int .i64 0, .slice none 0 0] (k * 2)) 159)) := (Below.refl _ _).alloc (Nat.le_refl _) _
    have n0 := (box_new w [.int .i64 0, .slice none 0 0, .int .i64 0, .int .i64 0, .int .i64 0, .int .i64 0, .slice none 0 0, .int .i64 0, .int .i64 0, .int .i64 0, .int .i64 0, gs [], .bool false, .int .i64 0] 34 (by simp)).below hbf
    have hbw : Below w.heap.size w ((w.alloc (.cells #[.int .i64 0, .slice none 0 0, .int .i64 0, .int .i64 0, .int .i64 0, .int .i64 0, .slice none 0 0, .int .i64 0, .int .i64 0, .int .i64 0, .int .i64 0, gs [], .bool false, .int .i64 0] 34)).alloc (.cells (madeCells #[.int .i64 0, .slice none 0 0] (k * 2)) 159)) := ((Below.refl _ _).alloc (Nat.le_refl _) _).alloc (by simp) _
    have hsz : ((w.alloc (.cells #[.int .i64 0, .slice none 0 0, .int .i64 0, .int .i64 0, .int .i64 0, .int .i64 0, .slice none 0 0, .int .i64 0, .int .i64 0, .int .i64 0, .int .i64 0, gs [], .bool false, .int .i64 0] 34)).alloc (.cells (madeCells #[.int .i64 0, .slice none 0 0] (k * 2)) 159)).heap.size = w.heap.size + 2 := by simp
    clear hbf
    generalize hW : (w.alloc (.cells #[.int .i64 0, .slice none 0 0, .int .i64 0, .int .i64 0, .int .i64 0, .int .i64 0, .slice none 0 0, .int .i64 0, .int .i64 0, .int .i64 0, .int .i64 0, gs [], .bool false, .int .i64 0] 34)).alloc (.cells (madeCells #[.int .i64 0, .slice none 0 0] (k * 2)) 159) = W at *
    clear hW
    have N0 := Lib.hid n0
    have HBW := Lib.hid hbw
    have HOW := Lib.hid how
    have HSZ := Lib.hid hsz
    clear n0 hbw how hsz
    go_enter Tryz.func17, Tryz.ntmps17
    go_wp2_with fail
    refine (H1.out _).mono ?_
    rintro e w1 ⟨rfl, rfl⟩
    go_wp2_with fail
    have n7 := box_new W [.int .i64 0, .slice none 0 0, .int .i64 size, .int .i64 size, .int .i64 most, .int .i64 (-1), .slice (some ⟨w.heap.size + 1, 0, none⟩) k k] 26 (by simp)
    have hb7 : Below W.heap.size W (W.alloc (.cells #[.int .i64 0, .slice none 0 0, .int .i64 size, .int .i64 size, .int .i64 most, .int .i64 (-1), .slice (some ⟨w.heap.size + 1, 0, none⟩) k k] 26)) := (Below.refl _ _).alloc (Nat.le_refl _) _
    have hR := rcvRightS_calls (rd := 0) (ed := size) (sz := size) (cp := most) (en := -1) (pc := 0) (fc := k) (pa := none) inPcs_none ((HOW.out.below hb7).in')
    unfold rcvV at hR
    have n0 := N0.out.below hb7
    have hsW : W.heap.size ≤ (W.alloc (.cells #[.int .i64 0, .slice none 0 0, .int .i64 size, .int .i64 size, .int .i64 most, .int .i64 (-1), .slice (some ⟨w.heap.size + 1, 0, none⟩) k k] 26)).heap.size := hb7.size
    have HR := Lib.hid hR
    have HOW2 := Lib.hid (HOW.out.below hb7)
    have HBV := Lib.hid (HBW.out.trans (hb7.mono HBW.out.size))
    clear hb7 hR N0 HOW HBW hmk
    generalize W.alloc (.cells #[.int .i64 0, .slice none 0 0, .int .i64 size, .int .i64 size, .int .i64 most, .int .i64 (-1), .slice (some ⟨w.heap.size + 1, 0, none⟩) k k] 26) = V at *
    rw [HSZ.out] at n7
    by_cases hok : rcvOk 0 [] size size most (-1) (List.replicate k (0, []))
    · rw [decide_eq_true hok] at HR
      have hr : rcvNewN (k : Int) size most = ⟨0, [], size, size, most, -1, List.replicate k (0, []), 0, 0, 0, 0, [], false, 0⟩ := by
        unfold rcvNewN
        rw [Int.toNat_natCast, if_pos ⟨hp.1, hp.2, hok⟩]
      have HRR := Lib.hid hr
      clear hr hok
      refine HR.out.mono ?_
      rintro e w2 ⟨rfl, hb2⟩
      obtain ⟨c0, c1, c2, c3, c4, c5, c6⟩ := (n7.below hb2).seven
      obtain ⟨⟨d0, d1, d2, d3, d4, d5, d6⟩, d7, d8, d9, da, db, dc, dd⟩ := (n0.below hb2).fourteen
      obtain ⟨z0, z1, z2, z3, z4, z5, z6, z7, z8, z9, za, zb, zc, zd⟩ := (n0.below hb2).frz14
      have HOW3 := Lib.hid (HOW2.out.below hb2)
      have HB2 := Lib.hid (HBV.out.trans (hb2.mono HBV.out.size))
      have hs2 := hb2.size
      have hs3 := HSZ.out
      clear hb2 n7 n0 HR HOW2 HBV H1
      go_wp2_with fail
      refine bodyPost_ret (v := rcvOutV 0 none 0 0 size size most (-1) (some ⟨w.heap.size + 1, 0, none⟩) k k 0 0 0 0 [] false 0) (by simp [rcvOutV, results, Tryz.results17, go_sem, *]) rfl ?_
      have hK := kept14 w2 w.heap.size (.int .i64 0) (.slice none 0 0) (.int .i64 size) (.int .i64 size) (.int .i64 most) (.int .i64 (-1)) (.slice (some ⟨w.heap.size + 1, 0, none⟩) k k) (.int .i64 0) (.int .i64 0) (.int .i64 0) (.int .i64 0) (gs []) (.bool false) (.int .i64 0)
      rw [HRR.out]
      have hsp := HOW3.out.kept hK (fun b e e' => by omega)
      refine ⟨none, 0, some ⟨w.heap.size + 1, 0, none⟩, k, fun _ => none, fun _ => 0, _, by simp, inPcs_none, World.ownsRow_nil _ _ _ _, by simpa using hsp, fun b e => ⟨⟨by omega, Nat.lt_of_lt_of_le (by omega) hK.size⟩, fun e' => by cases e'⟩, HB2.out.trans (hK.toBelow HB2.out.size (fun b hb e => by omega))⟩
    · rw [decide_eq_false hok] at HR
      have hr : rcvNewN (k : Int) size most = rcBad 1 := by
        unfold rcvNewN
        rw [Int.toNat_natCast, if_neg (fun h => hok h.2.2)]
      have HRR := Lib.hid hr
      clear hr hok
      refine HR.out.mono ?_
      rintro e w2 ⟨rfl, hb2⟩
      obtain ⟨⟨d0, d1, d2, d3, d4, d5, d6⟩, d7, d8, d9, da, db, dc, dd⟩ := (n0.below hb2).fourteen
      obtain ⟨z0, z1, z2, z3, z4, z5, z6, z7, z8, z9, za, zb, zc, zd⟩ := (n0.below hb2).frz14
      have HB2 := Lib.hid (HBV.out.trans (hb2.mono HBV.out.size))
      clear hb2 n7 n0 HR HOW2 HBV H1
      go_wp2_with fail
      refine bodyPost_ret (v := rcvOutV 0 none 0 0 0 0 0 0 none 0 0 0 0 0 0 [] false 1) (by simp [rcvOutV, results, Tryz.results17, go_sem, *]) rfl ?_
      rw [HRR.out]
      refine rcBad_sp ?_
      have hK := kept14 w2 w.heap.size (.int .i64 0) (.slice none 0 0) (.int .i64 0) (.int .i64 0) (.int .i64 0) (.int .i64 0) (.slice none 0 0) (.int .i64 0) (.int .i64 0) (.int .i64 0) (.int .i64 0) (gs []) (.bool false) (.int .i64 1)
      exact HB2.out.trans (hK.toBelow HB2.out.size (fun b hb e => by omega))
  · rw [decide_eq_false hp] at H1
    have hr : rcvNewN paths size most = rcBad 1 := by unfold rcvNewN; rw [if_neg (fun h => hp ⟨h.1, h.2.1⟩)]
    rw [hr]
    clear hr hp
    go_enter Tryz.func17, Tryz.ntmps17
    go_wp2_with fail
    refine (H1.out _).mono ?_
    rintro e w1 ⟨rfl, rfl⟩
    go_wp2_with fail
    refine bodyPost_ret (v := rcvOutV 0 none 0 0 0 0 0 0 none 0 0 0 0 0 0 [] false 1) (by simp [rcvOutV, results, Tryz.results17, go_sem]) rfl (rcBad_sp ((Below.refl _ _).alloc (Nat.le_refl _) _))
theorem rcvNewS_calls (paths size most : Int) (w : World) :
    Calls Tryz.prog 17 #[.int .i64 paths, .int .i64 size, .int .i64 most] w (RcGot w (rcvNewN paths size most)) :=
  (rcvNewSp_calls paths size most w).mono fun _ _ h => h.got
end Go.Proofs.YtdcahilfmhkmiaaGreatDoor
