/- The model's RcvTake. -/
import Derived.Test.YtdcahilfmhkmiaaGreatDoorTake6
import Derived.Test.YtdcahilfmhkmiaaGreatDoorSegRS
namespace Go.Proofs.YtdcahilfmhkmiaaGreatDoor
open Go.RowKit

set_option maxHeartbeats 4000000 in
set_option maxRecDepth 100000 in
theorem rcvTakeSp_calls {S : Nat → Prop} {rd ed sz cp en : Int} {pa fa : Option Addr} {pl pc fl fc : Nat} {ps : List Pc} {n : Frs} {w : World} (hp : InPcs w pa pl ps) (hf : InFrs S w fa fl n) (p s d : Int) (t : List UInt8) (e : Int) (ht : t.length ≤ 9223372036854775807) :
    Calls Tryz.prog 14 #[rcvV rd pa pl pc ed sz cp en fa fl fc, segV p s d t e] w (RcSp w (rcvTakeN rd ps ed sz cp en n p s d t e)) := by
  have hfl := hf.long
  have hfm := hf.most
  have H1 := Lib.hid (fun (W : World) (hb : Below w.heap.size w W) => rcvRightS_calls (rd := rd) (ed := ed) (sz := sz) (cp := cp) (en := en) (pc := pc) (fc := fc) (hp.below hb) (hf.below hb))
  have H2 := Lib.hid (fun W => segRightS_calls p s d t e W ht)
  obtain ⟨R, hR⟩ : ∃ R, R = rcvTakeN rd ps ed sz cp en n p s d t e := ⟨_, rfl⟩
  rw [← hR]
  unfold rcvTakeN at hR
  by_cases hok : rcvOk rd ps ed sz cp en n
  case neg =>
    rw [decide_eq_false hok] at H1
    rw [if_pos (.inl hok)] at hR
    have HR := Lib.hid hR
    clear hok hp hf hfl H2 hR
    unfold rcvV segV at *
    go_enter Tryz.func14, Tryz.ntmps14
    go_wp2_with fail
    have n3 := box_three w [.int .i64 rd, .slice pa pl pc, .int .i64 ed, .int .i64 sz, .int .i64 cp, .int .i64 en, .slice fa fl fc] [.int .i64 p, .int .i64 s, .int .i64 d, gs t, .int .i64 e] [.int .i64 0, .slice none 0 0, .int .i64 0, .int .i64 0, .int .i64 0, .int .i64 0, .slice none 0 0, .int .i64 0, .int .i64 0, .int .i64 0, .int .i64 0, gs [], .bool false, .int .i64 0] 26 28 34 (by simp) (by simp) (by simp)
    dsimp only at n3
    generalize ((w.alloc (.cells #[.int .i64 rd, .slice pa pl pc, .int .i64 ed, .int .i64 sz, .int .i64 cp, .int .i64 en, .slice fa fl fc] 26)).alloc (.cells #[.int .i64 p, .int .i64 s, .int .i64 d, gs t, .int .i64 e] 28)).alloc (.cells #[.int .i64 0, .slice none 0 0, .int .i64 0, .int .i64 0, .int .i64 0, .int .i64 0, .slice none 0 0, .int .i64 0, .int .i64 0, .int .i64 0, .int .i64 0, gs [], .bool false, .int .i64 0] 34) = W at *
    obtain ⟨n1, n2, n3, hs, hb0⟩ := n3
    (with_reducible refine (H1.out _ hb0).mono ?_); rintro x w1 ⟨rfl, hb1⟩
    have N1 := Lib.hid (n1.below hb1)
    have N2 := Lib.hid (n2.below hb1)
    have N3 := Lib.hid (n3.below hb1)
    have HB1 := Lib.hid (hb0.trans (hb1.mono hb0.size))
    clear n1 n2 n3 hs hb0 hb1 H1
    obtain ⟨c0, c1, c2, c3, c4, c5, c6⟩ := N1.out.seven
    obtain ⟨s0, s1, s2, s3, s4⟩ := N2.out.five
    have htwo : Box w1 (w.heap.size + 1 + 1) [.int .i64 0, .slice none 0 0, .int .i64 0, .int .i64 0, .int .i64 0, .int .i64 0, .slice none 0 0, .int .i64 0, .int .i64 0, .int .i64 0, .int .i64 0, gs [], .bool false, .int .i64 0] := N3.out
    obtain ⟨⟨d0, d1, d2, d3, d4, d5, d6⟩, d7, d8, d9, da, db, dc, dd⟩ := htwo.fourteen
    obtain ⟨z0, z1, z2, z3, z4, z5, z6, z7, z8, z9, za, zb, zc, zd⟩ := htwo.frz14
    clear htwo N3
    go_wp2_with fail
    refine bodyPost_ret (v := rcvOutV 0 none 0 0 0 0 0 0 none 0 0 0 0 0 0 [] false 1) (by simp [rcvOutV, results, Tryz.results14, go_sem, *]) rfl ?_
    rw [HR.out]
    refine rcBad_sp ?_
    have hK := kept14 w1 (w.heap.size + 1 + 1) (.int .i64 0) (.slice none 0 0) (.int .i64 0) (.int .i64 0) (.int .i64 0) (.int .i64 0) (.slice none 0 0) (.int .i64 0) (.int .i64 0) (.int .i64 0) (.int .i64 0) (gs []) (.bool false) (.int .i64 1)
    exact HB1.out.trans (hK.toBelow HB1.out.size (fun b hb e => by omega))
  rw [decide_eq_true hok] at H1
  by_cases hsg : segOk p s d t e
  case neg =>
    rw [decide_eq_false hsg] at H2
    rw [if_pos (.inr hsg)] at hR
    have HR := Lib.hid hR
    clear hok hp hf hfl hR hsg
    unfold rcvV segV at *
    go_enter Tryz.func14, Tryz.ntmps14
    go_wp2_with fail
    have n3 := box_three w [.int .i64 rd, .slice pa pl pc, .int .i64 ed, .int .i64 sz, .int .i64 cp, .int .i64 en, .slice fa fl fc] [.int .i64 p, .int .i64 s, .int .i64 d, gs t, .int .i64 e] [.int .i64 0, .slice none 0 0, .int .i64 0, .int .i64 0, .int .i64 0, .int .i64 0, .slice none 0 0, .int .i64 0, .int .i64 0, .int .i64 0, .int .i64 0, gs [], .bool false, .int .i64 0] 26 28 34 (by simp) (by simp) (by simp)
    dsimp only at n3
    generalize ((w.alloc (.cells #[.int .i64 rd, .slice pa pl pc, .int .i64 ed, .int .i64 sz, .int .i64 cp, .int .i64 en, .slice fa fl fc] 26)).alloc (.cells #[.int .i64 p, .int .i64 s, .int .i64 d, gs t, .int .i64 e] 28)).alloc (.cells #[.int .i64 0, .slice none 0 0, .int .i64 0, .int .i64 0, .int .i64 0, .int .i64 0, .slice none 0 0, .int .i64 0, .int .i64 0, .int .i64 0, .int .i64 0, gs [], .bool false, .int .i64 0] 34) = W at *
    obtain ⟨n1, n2, n3, hs, hb0⟩ := n3
    (with_reducible refine (H1.out _ hb0).mono ?_); rintro x w1 ⟨rfl, hb1⟩
    have N1 := Lib.hid (n1.below hb1)
    have N2 := Lib.hid (n2.below hb1)
    have N3 := Lib.hid (n3.below hb1)
    have HB1 := Lib.hid (hb0.trans (hb1.mono hb0.size))
    clear n1 n2 n3 hs hb0 hb1 H1
    obtain ⟨c0, c1, c2, c3, c4, c5, c6⟩ := N1.out.seven
    obtain ⟨s0, s1, s2, s3, s4⟩ := N2.out.five
    go_wp2_with fail
    (with_reducible refine (H2.out _).mono ?_); rintro x w2 ⟨rfl, hb2⟩
    have M1 := Lib.hid (N1.out.below hb2)
    have M2 := Lib.hid (N2.out.below hb2)
    have M3 := Lib.hid (N3.out.below hb2)
    have HB2 := Lib.hid (HB1.out.trans (hb2.mono HB1.out.size))
    clear hb2 N1 N2 N3 HB1 H2 c0 c1 c2 c3 c4 c5 c6 s0 s1 s2 s3 s4
    obtain ⟨c0, c1, c2, c3, c4, c5, c6⟩ := M1.out.seven
    obtain ⟨s0, s1, s2, s3, s4⟩ := M2.out.five
    have htwo : Box w2 (w.heap.size + 1 + 1) [.int .i64 0, .slice none 0 0, .int .i64 0, .int .i64 0, .int .i64 0, .int .i64 0, .slice none 0 0, .int .i64 0, .int .i64 0, .int .i64 0, .int .i64 0, gs [], .bool false, .int .i64 0] := M3.out
    obtain ⟨⟨d0, d1, d2, d3, d4, d5, d6⟩, d7, d8, d9, da, db, dc, dd⟩ := htwo.fourteen
    obtain ⟨z0, z1, z2, z3, z4, z5, z6, z7, z8, z9, za, zb, zc, zd⟩ := htwo.frz14
    clear htwo M3
    go_wp2_with fail
    refine bodyPost_ret (v := rcvOutV 0 none 0 0 0 0 0 0 none 0 0 0 0 0 0 [] false 1) (by simp [rcvOutV, results, Tryz.results14, go_sem, *]) rfl ?_
    rw [HR.out]
    refine rcBad_sp ?_
    have hK := kept14 w2 (w.heap.size + 1 + 1) (.int .i64 0) (.slice none 0 0) (.int .i64 0) (.int .i64 0) (.int .i64 0) (.int .i64 0) (.slice none 0 0) (.int .i64 0) (.int .i64 0) (.int .i64 0) (.int .i64 0) (gs []) (.bool false) (.int .i64 1)
    exact HB2.out.trans (hK.toBelow HB2.out.size (fun b hb e => by omega))
  rw [decide_eq_true hsg] at H2
  rw [if_neg (fun h => h.elim (fun h => h hok) (fun h => h hsg))] at hR
  by_cases hpl : (n.length : Int) ≤ p
  case pos =>
    rw [if_pos hpl] at hR
    have HR := Lib.hid hR
    have hpf : (fl : Int) ≤ p := by omega
    clear hok hp hf hfl hR hsg hpl
    unfold rcvV segV at *
    go_enter Tryz.func14, Tryz.ntmps14
    go_wp2_with fail
    have n3 := box_three w [.int .i64 rd, .slice pa pl pc, .int .i64 ed, .int .i64 sz, .int .i64 cp, .int .i64 en, .slice fa fl fc] [.int .i64 p, .int .i64 s, .int .i64 d, gs t, .int .i64 e] [.int .i64 0, .slice none 0 0, .int .i64 0, .int .i64 0, .int .i64 0, .int .i64 0, .slice none 0 0, .int .i64 0, .int .i64 0, .int .i64 0, .int .i64 0, gs [], .bool false, .int .i64 0] 26 28 34 (by simp) (by simp) (by simp)
    dsimp only at n3
    generalize ((w.alloc (.cells #[.int .i64 rd, .slice pa pl pc, .int .i64 ed, .int .i64 sz, .int .i64 cp, .int .i64 en, .slice fa fl fc] 26)).alloc (.cells #[.int .i64 p, .int .i64 s, .int .i64 d, gs t, .int .i64 e] 28)).alloc (.cells #[.int .i64 0, .slice none 0 0, .int .i64 0, .int .i64 0, .int .i64 0, .int .i64 0, .slice none 0 0, .int .i64 0, .int .i64 0, .int .i64 0, .int .i64 0, gs [], .bool false, .int .i64 0] 34) = W at *
    obtain ⟨n1, n2, n3, hs, hb0⟩ := n3
    (with_reducible refine (H1.out _ hb0).mono ?_); rintro x w1 ⟨rfl, hb1⟩
    have N1 := Lib.hid (n1.below hb1)
    have N2 := Lib.hid (n2.below hb1)
    have N3 := Lib.hid (n3.below hb1)
    have HB1 := Lib.hid (hb0.trans (hb1.mono hb0.size))
    clear n1 n2 n3 hs hb0 hb1 H1
    obtain ⟨c0, c1, c2, c3, c4, c5, c6⟩ := N1.out.seven
    obtain ⟨s0, s1, s2, s3, s4⟩ := N2.out.five
    go_wp2_with fail
    (with_reducible refine (H2.out _).mono ?_); rintro x w2 ⟨rfl, hb2⟩
    have M1 := Lib.hid (N1.out.below hb2)
    have M2 := Lib.hid (N2.out.below hb2)
    have M3 := Lib.hid (N3.out.below hb2)
    have HB2 := Lib.hid (HB1.out.trans (hb2.mono HB1.out.size))
    clear hb2 N1 N2 N3 HB1 H2 c0 c1 c2 c3 c4 c5 c6 s0 s1 s2 s3 s4
    obtain ⟨c0, c1, c2, c3, c4, c5, c6⟩ := M1.out.seven
    obtain ⟨s0, s1, s2, s3, s4⟩ := M2.out.five
    have htwo : Box w2 (w.heap.size + 1 + 1) [.int .i64 0, .slice none 0 0, .int .i64 0, .int .i64 0, .int .i64 0, .int .i64 0, .slice none 0 0, .int .i64 0, .int .i64 0, .int .i64 0, .int .i64 0, gs [], .bool false, .int .i64 0] := M3.out
    obtain ⟨⟨d0, d1, d2, d3, d4, d5, d6⟩, d7, d8, d9, da, db, dc, dd⟩ := htwo.fourteen
    obtain ⟨z0, z1, z2, z3, z4, z5, z6, z7, z8, z9, za, zb, zc, zd⟩ := htwo.frz14
    clear htwo M3
    go_wp2_with fail
    refine bodyPost_ret (v := rcvOutV 0 none 0 0 0 0 0 0 none 0 0 0 0 0 0 [] false 6) (by simp [rcvOutV, results, Tryz.results14, go_sem, *]) rfl ?_
    rw [HR.out]
    refine rcBad_sp ?_
    have hK := kept14 w2 (w.heap.size + 1 + 1) (.int .i64 0) (.slice none 0 0) (.int .i64 0) (.int .i64 0) (.int .i64 0) (.int .i64 0) (.slice none 0 0) (.int .i64 0) (.int .i64 0) (.int .i64 0) (.int .i64 0) (gs []) (.bool false) (.int .i64 6)
    exact HB2.out.trans (hK.toBelow HB2.out.size (fun b hb e => by omega))
  rw [if_neg hpl] at hR
  obtain ⟨pk, rfl⟩ : ∃ pk : Nat, p = (pk : Int) := ⟨p.toNat, by have := hsg.1.1; omega⟩
  have H3 := Lib.hid (fun (W : World) (hb : Below w.heap.size w W) => takeS_calls (rd := rd) (ed := ed) (sz := sz) (cp := cp) (en := en) (pc := pc) (fc := fc) (hp.below hb) (hf.below hb) hok pk s d t e hsg (by omega))
  rw [← hR] at H3
  have hpf : (pk : Int) < (fl : Int) := by omega
  unfold RcSp rcvOutV at H3
  clear hok hp hf hfl hR hsg hpl
  unfold rcvV segV at *
  go_enter Tryz.func14, Tryz.ntmps14
  go_wp2_with fail
  have n3 := box_three w [.int .i64 rd, .slice pa pl pc, .int .i64 ed, .int .i64 sz, .int .i64 cp, .int .i64 en, .slice fa fl fc] [.int .i64 (pk : Int), .int .i64 s, .int .i64 d, gs t, .int .i64 e] [.int .i64 0, .slice none 0 0, .int .i64 0, .int .i64 0, .int .i64 0, .int .i64 0, .slice none 0 0, .int .i64 0, .int .i64 0, .int .i64 0, .int .i64 0, gs [], .bool false, .int .i64 0] 26 28 34 (by simp) (by simp) (by simp)
  dsimp only at n3
  generalize ((w.alloc (.cells #[.int .i64 rd, .slice pa pl pc, .int .i64 ed, .int .i64 sz, .int .i64 cp, .int .i64 en, .slice fa fl fc] 26)).alloc (.cells #[.int .i64 (pk : Int), .int .i64 s, .int .i64 d, gs t, .int .i64 e] 28)).alloc (.cells #[.int .i64 0, .slice none 0 0, .int .i64 0, .int .i64 0, .int .i64 0, .int .i64 0, .slice none 0 0, .int .i64 0, .int .i64 0, .int .i64 0, .int .i64 0, gs [], .bool false, .int .i64 0] 34) = W at *
  obtain ⟨n1, n2, n3, hs, hb0⟩ := n3
  (with_reducible refine (H1.out _ hb0).mono ?_); rintro x w1 ⟨rfl, hb1⟩
  have N1 := Lib.hid (n1.below hb1)
  have N2 := Lib.hid (n2.below hb1)
  have N3 := Lib.hid (n3.below hb1)
  have HB1 := Lib.hid (hb0.trans (hb1.mono hb0.size))
  clear n1 n2 n3 hs hb0 hb1 H1
  obtain ⟨c0, c1, c2, c3, c4, c5, c6⟩ := N1.out.seven
  obtain ⟨s0, s1, s2, s3, s4⟩ := N2.out.five
  go_wp2_with fail
  (with_reducible refine (H2.out _).mono ?_); rintro x w2 ⟨rfl, hb2⟩
  have M1 := Lib.hid (N1.out.below hb2)
  have M2 := Lib.hid (N2.out.below hb2)
  have M3 := Lib.hid (N3.out.below hb2)
  have HB2 := Lib.hid (HB1.out.trans (hb2.mono HB1.out.size))
  clear hb2 N1 N2 N3 HB1 H2 c0 c1 c2 c3 c4 c5 c6 s0 s1 s2 s3 s4
  obtain ⟨c0, c1, c2, c3, c4, c5, c6⟩ := M1.out.seven
  obtain ⟨s0, s1, s2, s3, s4⟩ := M2.out.five
  go_wp2_with fail
  (with_reducible refine (H3.out _ HB2.out).mono ?_); rintro x w3 ⟨qa, qc, ga, gc, A, C, T, rfl, hpo, how, hfo, hT, hb3⟩
  have HB3 := Lib.hid (HB2.out.trans (hb3.mono HB2.out.size))
  have htwo : Box w3 (w.heap.size + 1 + 1) [.int .i64 0, .slice none 0 0, .int .i64 0, .int .i64 0, .int .i64 0, .int .i64 0, .slice none 0 0, .int .i64 0, .int .i64 0, .int .i64 0, .int .i64 0, gs [], .bool false, .int .i64 0] := M3.out.below hb3
  have hg3 : w.heap.size + 1 + 1 < w2.heap.size := M3.out.lt
  obtain ⟨⟨d0, d1, d2, d3, d4, d5, d6⟩, d7, d8, d9, da, db, dc, dd⟩ := htwo.fourteen
  obtain ⟨z0, z1, z2, z3, z4, z5, z6, z7, z8, z9, za, zb, zc, zd⟩ := htwo.frz14
  have HPO := Lib.hid hpo
  have HOW := Lib.hid how
  have HT := Lib.hid hT
  have HFO := Lib.hid hfo
  have hs2 := HB2.out.size
  clear htwo hpo how hT hfo hb3 M1 M2 M3 HB2 H3 c0 c1 c2 c3 c4 c5 c6 s0 s1 s2 s3 s4
  go_wp2_with fail
  refine bodyPost_ret (v := rcvOutV R.rd qa R.ps.length qc R.ed R.sz R.cp R.en ga R.n.length gc R.kp R.ks R.kd R.ke R.t R.dn R.c) (by simp [rcvOutV, results, Tryz.results14, go_sem, *]) rfl ?_
  have hK := kept14 w3 (w.heap.size + 1 + 1) (.int .i64 R.rd) (.slice qa R.ps.length qc) (.int .i64 R.ed) (.int .i64 R.sz) (.int .i64 R.cp) (.int .i64 R.en) (.slice ga R.n.length gc) (.int .i64 R.kp) (.int .i64 R.ks) (.int .i64 R.kd) (.int .i64 R.ke) (gs R.t) (.bool R.dn) (.int .i64 R.c)
  have hKs := hK.size
  exact ⟨qa, qc, ga, gc, A, C, T, rfl, HPO.out.blks (fun b hl hw => hK.block b hw (by have := HOW.out.lt b (lgB_own hl); omega)), own_base (own_kept HOW.out hK (fun b e e' => by have := HOW.out.lt b e; omega)) (by omega),
    HFO.out.kept hK (fun b e e' => by have := (HT.out b e).1; omega), fun b e => ⟨⟨by have := (HT.out b e).1; omega, Nat.lt_of_lt_of_le (HT.out b e).1.2 hKs⟩, (HT.out b e).2⟩, HB3.out.trans (hK.toBelow HB3.out.size (fun b hb e => by omega))⟩
theorem rcvTakeS_calls {S : Nat → Prop} {rd ed sz cp en : Int} {pa fa : Option Addr} {pl pc fl fc : Nat} {ps : List Pc} {n : Frs} {w : World} (hp : InPcs w pa pl ps) (hf : InFrs S w fa fl n) (p s d : Int) (t : List UInt8) (e : Int) (ht : t.length ≤ 9223372036854775807) :
    Calls Tryz.prog 14 #[rcvV rd pa pl pc ed sz cp en fa fl fc, segV p s d t e] w (RcGot w (rcvTakeN rd ps ed sz cp en n p s d t e)) :=
  (rcvTakeSp_calls hp hf p s d t e ht).mono fun _ _ h => h.got
end Go.Proofs.YtdcahilfmhkmiaaGreatDoor
