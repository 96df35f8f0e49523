/- The program's RcvRead. -/
import Derived.Test.YtdcahilfmhkmiaaGreatDoorRcvJ
namespace Go.Proofs.YtdcahilfmhkmiaaGreatDoor
open Go.RowKit

set_option maxHeartbeats 4000000 in
set_option maxRecDepth 100000 in
theorem readBadI_calls {S : Nat → Prop} {rd ed sz cp en : Int} {pa fa : Option Addr} {pl pc fl fc : Nat} {ps : List Pc} {n : Frs} {w : World} (hp : InPcs w pa pl ps) (hf : InFrs S w fa fl n) (k : Int) (h : ¬ (rcvOk rd ps ed sz cp en n ∧ 1 ≤ k)) (hg : EtCell w) :
    Calls Tryz.prog 10 #[rcvV rd pa pl pc ed sz cp en fa fl fc, .int .i64 k] w (RcOwn w (rcBad 1)) := by
  by_cases hok : rcvOk rd ps ed sz cp en n
  · have H1 := Lib.hid (fun (W : World) (hb : Below w.heap.size w W) => openReader_calls (rd := rd) (ed := ed) (sz := sz) (cp := cp) (en := en) (pc := pc) (fc := fc) (hp.below hb) (hf.below hb) hok)
    have hk : k < 1 := by
      rcases Int.lt_or_le k 1 with h' | h'
      · exact h'
      · exact absurd ⟨hok, h'⟩ h
    unfold Opened at H1
    unfold readerV rcvV at *
    clear hp hf h hok hg
    go_enter Tryz.func10, Tryz.ntmps10
    go_wp2_with fail
    have n3 := box_two w [.int .i64 rd, .slice pa pl pc, .int .i64 ed, .int .i64 sz, .int .i64 cp, .int .i64 en, .slice fa fl fc] [.int .i64 0, .slice none 0 0, .int .i64 0, .int .i64 0, .int .i64 0, .int .i64 0, .slice none 0 0, .int .i64 0, .int .i64 0, .int .i64 0, .int .i64 0, gs [], .bool false, .int .i64 0] 26 34 (by simp) (by simp)
    dsimp only at n3
    generalize (w.alloc (.cells #[.int .i64 rd, .slice pa pl pc, .int .i64 ed, .int .i64 sz, .int .i64 cp, .int .i64 en, .slice fa fl fc] 26)).alloc (.cells #[.int .i64 0, .slice none 0 0, .int .i64 0, .int .i64 0, .int .i64 0, .int .i64 0, .slice none 0 0, .int .i64 0, .int .i64 0, .int .i64 0, .int .i64 0, gs [], .bool false, .int .i64 0] 34) = W at *
    obtain ⟨n1, n2, hs, hb0⟩ := n3
    obtain ⟨c0, c1, c2, c3, c4, c5, c6⟩ := n1.seven
    have HB0 := Lib.hid hb0
    have N2 := Lib.hid n2
    clear hb0 n1 n2
    (with_reducible refine (H1.out _ HB0.out).mono ?_); rintro e w1 ⟨xa, xc, gf, cf, A, C, rfl, hpo, hfo, hgf, hb1⟩
    have HB1 := Lib.hid (HB0.out.trans (hb1.mono HB0.out.size))
    have N3 := Lib.hid (N2.out.below hb1)
    clear hb1 hpo hfo hgf HB0 N2 H1 c0 c1 c2 c3 c4 c5 c6
    generalize n.length = fl2 at *
    have b4 : Below w1.heap.size w1 (w1.alloc (.cells #[.int .i64 rd, .int .i64 ed, .int .i64 sz, .int .i64 cp, .slice xa pl xc, .int .i64 en, .slice (some ⟨gf, 0, none⟩) fl2 cf] 101)) := (Below.refl _ _).alloc (Nat.le_refl _) _
    have N4 := Lib.hid (N3.out.below b4)
    have HB4 := Lib.hid (HB1.out.trans (b4.mono HB1.out.size))
    clear b4 N3
    obtain ⟨⟨d0, d1, d2, d3, d4, d5, d6⟩, d7, d8, d9, da, db, dc, dd⟩ := N4.out.fourteen
    obtain ⟨z0, z1, z2, z3, z4, z5, z6, z7, z8, z9, za, zb, zc, zd⟩ := N4.out.frz14
    go_wp2_with fail
    refine bodyPost_ret (v := rcvOutV 0 none 0 0 0 0 0 0 none 0 0 0 0 0 0 [] false 1) (by simp [rcvOutV, results, Tryz.results10, go_sem, *]) rfl ?_
    refine rcBad_own ?_
    have hK := kept14 (w1.alloc (.cells #[.int .i64 rd, .int .i64 ed, .int .i64 sz, .int .i64 cp, .slice xa pl xc, .int .i64 en, .slice (some ⟨gf, 0, none⟩) fl2 cf] 101)) (w.heap.size + 1) (.int .i64 0) (.slice none 0 0) (.int .i64 0) (.int .i64 0) (.int .i64 0) (.int .i64 0) (.slice none 0 0) (.int .i64 0) (.int .i64 0) (.int .i64 0) (.int .i64 0) (gs []) (.bool false) (.int .i64 1)
    exact HB4.out.trans (hK.toBelow HB4.out.size (fun b hb e => by omega))
  · have H1 := Lib.hid (fun (W : World) (hb : Below w.heap.size w W) => openBad_calls (rd := rd) (ed := ed) (sz := sz) (cp := cp) (en := en) (pc := pc) (fc := fc) (hp.below hb) (hf.below hb) hok)
    have HG := Lib.hid hg
    unfold readerV rcvV at *
    clear hp hf h hok hg
    go_enter Tryz.func10, Tryz.ntmps10
    go_wp2_with fail
    have n3 := box_two w [.int .i64 rd, .slice pa pl pc, .int .i64 ed, .int .i64 sz, .int .i64 cp, .int .i64 en, .slice fa fl fc] [.int .i64 0, .slice none 0 0, .int .i64 0, .int .i64 0, .int .i64 0, .int .i64 0, .slice none 0 0, .int .i64 0, .int .i64 0, .int .i64 0, .int .i64 0, gs [], .bool false, .int .i64 0] 26 34 (by simp) (by simp)
    dsimp only at n3
    generalize (w.alloc (.cells #[.int .i64 rd, .slice pa pl pc, .int .i64 ed, .int .i64 sz, .int .i64 cp, .int .i64 en, .slice fa fl fc] 26)).alloc (.cells #[.int .i64 0, .slice none 0 0, .int .i64 0, .int .i64 0, .int .i64 0, .int .i64 0, .slice none 0 0, .int .i64 0, .int .i64 0, .int .i64 0, .int .i64 0, gs [], .bool false, .int .i64 0] 34) = W at *
    obtain ⟨n1, n2, hs, hb0⟩ := n3
    obtain ⟨c0, c1, c2, c3, c4, c5, c6⟩ := n1.seven
    have HB0 := Lib.hid hb0
    have N2 := Lib.hid n2
    clear hb0 n1 n2
    (with_reducible refine (H1.out _ HB0.out).mono ?_); rintro e w1 ⟨rfl, hb1⟩
    have HB1 := Lib.hid (HB0.out.trans (hb1.mono HB0.out.size))
    have N3 := Lib.hid (N2.out.below hb1)
    clear hb1 HB0 N2 H1 c0 c1 c2 c3 c4 c5 c6
    have b4 : Below w1.heap.size w1 (w1.alloc (.cells #[.int .i64 0, .int .i64 0, .int .i64 0, .int .i64 0, .slice none 0 0, .int .i64 0, .slice none 0 0] 101)) := (Below.refl _ _).alloc (Nat.le_refl _) _
    have N4 := Lib.hid (N3.out.below b4)
    have HB4 := Lib.hid (HB1.out.trans (b4.mono HB1.out.size))
    clear b4 N3 HB1
    go_wp2_with fail
    generalize w1.alloc (.cells #[.int .i64 0, .int .i64 0, .int .i64 0, .int .i64 0, .slice none 0 0, .int .i64 0, .slice none 0 0] 101) = V at *
    (with_reducible refine (code_calls 1 _ (HG.out.below HB4.out)).mono ?_); rintro e w2 ⟨rfl, hb2⟩
    have NN := Lib.hid (N4.out.below hb2)
    have HH := Lib.hid (HB4.out.trans (hb2.mono HB4.out.size))
    clear hb2 N4 HB4
    obtain ⟨⟨d0, d1, d2, d3, d4, d5, d6⟩, d7, d8, d9, da, db, dc, dd⟩ := NN.out.fourteen
    obtain ⟨z0, z1, z2, z3, z4, z5, z6, z7, z8, z9, za, zb, zc, zd⟩ := NN.out.frz14
    clear NN
    go_wp2_with fail
    refine bodyPost_ret (v := rcvOutV 0 none 0 0 0 0 0 0 none 0 0 0 0 0 0 [] false 1) (by simp [rcvOutV, results, Tryz.results10, go_sem, *]) rfl ?_
    refine rcBad_own ?_
    have hK := kept14 w2 (w.heap.size + 1) (.int .i64 0) (.slice none 0 0) (.int .i64 0) (.int .i64 0) (.int .i64 0) (.int .i64 0) (.slice none 0 0) (.int .i64 0) (.int .i64 0) (.int .i64 0) (.int .i64 0) (gs []) (.bool false) (.int .i64 1)
    exact HH.out.trans (hK.toBelow HH.out.size (fun b hb e => by omega))

end Go.Proofs.YtdcahilfmhkmiaaGreatDoor
