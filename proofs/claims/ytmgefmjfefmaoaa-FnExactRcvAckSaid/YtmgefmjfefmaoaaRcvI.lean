/- The program's RcvHeld, RcvAck, RcvNew. -/
import Derived.Test.YtmgefmjfefmaoaaRcvD
import Derived.Test.YtmgefmjfefmaoaaRcvNew
namespace Go.Proofs.Ytmgefmjfefmaoaa
open Go.RowKit

set_option maxHeartbeats 2000000 in
set_option maxRecDepth 100000 in
theorem rcvHeldI_calls {S : Nat → Prop} {rd ed sz cp en : Int} {pa fa : Option Addr} {pl pc fl fc : Nat} {ps : List Pc} {n : Frs} {w : World} (_ : I64 rd ∧ I64 ed ∧ I64 sz ∧ I64 cp ∧ I64 en) (hp : InPcs w pa pl ps) (hf : InFrs S w fa fl n) :
    Calls Try.prog 21 #[rcvV rd pa pl pc ed sz cp en fa fl fc] w fun e w' => e = .returned (.int .i64 (if rcvOk rd ps ed sz cp en n then (bytesN ps : Int) else -1)) ∧ Below w.heap.size w w' := by
  have H1 := Lib.hid (fun (W : World) (hb : Below w.heap.size w W) => rcvRightN_calls (rd := rd) (ed := ed) (sz := sz) (cp := cp) (en := en) (pc := pc) (fc := fc) (hp.below hb) (hf.below hb))
  have H2 := Lib.hid (fun (W : World) (hb : Below w.heap.size w W) => countI_calls (cap := pc) (hp.below hb))
  clear hp hf
  by_cases hok : rcvOk rd ps ed sz cp en n
  · rw [decide_eq_true hok] at H1
    rw [if_pos hok]
    rw [show countN ps = (bytesN ps : Int) by unfold countN; rw [if_pos hok.2.2.2.2.1]] at H2
    generalize (bytesN ps : Int) = q at *
    clear hok
    unfold rcvV at *
    go_enter Try.func21, Try.ntmps21
    go_wp2_with fail
    have n1 := box_new w [.int .i64 rd, .slice pa pl pc, .int .i64 ed, .int .i64 sz, .int .i64 cp, .int .i64 en, .slice fa fl fc] 31 (by simp)
    have hb0 : Below w.heap.size w (w.alloc (.cells #[.int .i64 rd, .slice pa pl pc, .int .i64 ed, .int .i64 sz, .int .i64 cp, .int .i64 en, .slice fa fl fc] 31)) := (Below.refl _ _).alloc (Nat.le_refl _) _
    generalize w.alloc (.cells #[.int .i64 rd, .slice pa pl pc, .int .i64 ed, .int .i64 sz, .int .i64 cp, .int .i64 en, .slice fa fl fc] 31) = W at *
    (with_reducible refine (H1.out _ hb0).mono ?_); rintro e w1 ⟨rfl, hb1⟩
    obtain ⟨c0, c1, c2, c3, c4, c5, c6⟩ := (n1.below hb1).seven
    have HB1 := Lib.hid (hb0.trans (hb1.mono hb0.size))
    clear hb0 hb1 n1
    go_wp2_with fail
    (with_reducible refine (H2.out _ HB1.out).mono ?_); rintro e w2 ⟨rfl, hb2⟩
    have HB2 := Lib.hid (HB1.out.trans (hb2.mono HB1.out.size))
    clear hb2 c0 c1 c2 c3 c4 c5 c6
    go_wp2_with fail
    go_ret
    exact ⟨rfl, HB2.out⟩
  · rw [decide_eq_false hok] at H1
    rw [if_neg hok]
    clear hok H2
    unfold rcvV at *
    go_enter Try.func21, Try.ntmps21
    go_wp2_with fail
    (with_reducible refine (H1.out _ ((Below.refl _ _).alloc (Nat.le_refl _) _)).mono ?_); rintro e w1 ⟨rfl, hb1⟩
    have HB1 := Lib.hid (((Below.refl w.heap.size w).alloc (Nat.le_refl _) _).trans (hb1.mono (by simp)))
    clear hb1
    go_wp2_with fail
    go_ret
    exact ⟨rfl, HB1.out⟩

set_option maxHeartbeats 4000000 in
set_option maxRecDepth 100000 in
theorem rcvAckI_calls {S : Nat → Prop} {rd ed sz cp en : Int} {pa fa : Option Addr} {pl pc fl fc : Nat} {ps : List Pc} {n : Frs} {w : World} (_ : I64 rd ∧ I64 ed ∧ I64 sz ∧ I64 cp ∧ I64 en) (hp : InPcs w pa pl ps) (hf : InFrs S w fa fl n) (k : Int) (_ : (Lit.int .i64 k).wf = true) :
    Calls Try.prog 18 #[rcvV rd pa pl pc ed sz cp en fa fl fc, .int .i64 k] w fun e w' => e = .returned (if rcvOk rd ps ed sz cp en n ∧ 0 ≤ k ∧ k < (n.length : Int) then ackN rd ps ed n k.toNat else ackV 0 0 0 0) ∧ Below w.heap.size w w' := by
  have hfl := hf.long
  have H0 := Lib.hid (fun W => readerOf_calls rd pa pl pc ed sz cp en fa fl fc W)
  have H1 := Lib.hid (fun (W : World) (hb : Below w.heap.size w W) => readerRight_calls (rd := rd) (ed := ed) (sz := sz) (cp := cp) (en := en) (pc := pc) (fc := fc) (hp.below hb) (hf.below hb))
  have H2 := Lib.hid (fun W => hasPath_calls (rd := rd) (ed := ed) (sz := sz) (cp := cp) (en := en) (pa := pa) (pl := pl) (pc := pc) (fa := fa) (fl := fl) (fc := fc) k W)
  unfold readerV rcvV at *
  by_cases hok : rcvOk rd ps ed sz cp en n
  · rw [decide_eq_true hok] at H1
    by_cases hk : 0 ≤ k ∧ k < (fl : Int)
    · rw [decide_eq_true hk] at H2
      rw [if_pos ⟨hok, hk.1, by omega⟩]
      obtain ⟨kn, rfl⟩ : ∃ kn : Nat, k = (kn : Int) := ⟨k.toNat, by omega⟩
      rw [Int.toNat_natCast]
      have H3 := Lib.hid (fun (W : World) (hb : Below w.heap.size w W) => readerAck_calls (rd := rd) (ed := ed) (sz := sz) (cp := cp) (en := en) (pc := pc) (fc := fc) (hp.below hb) (hf.below hb) hok.2.2.2.2.1 hok.1 kn (by omega))
      unfold readerV ackN at H3
      unfold ackN
      generalize rd + ((fromN ps rd).length : Int) = q1 at *
      generalize (frAt n kn).1 = q2 at *
      clear hok hk hp hf hfl
      go_enter Try.func18, Try.ntmps18
      go_wp2_with fail
      have n3 := box_two w [.int .i64 rd, .slice pa pl pc, .int .i64 ed, .int .i64 sz, .int .i64 cp, .int .i64 en, .slice fa fl fc] [.int .i64 0, .int .i64 0, .int .i64 0, .int .i64 0] 31 36 (by simp) (by simp)
      dsimp only at n3
      generalize (w.alloc (.cells #[.int .i64 rd, .slice pa pl pc, .int .i64 ed, .int .i64 sz, .int .i64 cp, .int .i64 en, .slice fa fl fc] 31)).alloc (.cells #[.int .i64 0, .int .i64 0, .int .i64 0, .int .i64 0] 36) = W at *
      obtain ⟨n1, n2, hs, hb0⟩ := n3
      obtain ⟨c0, c1, c2, c3, c4, c5, c6⟩ := n1.seven
      have HB0 := Lib.hid hb0
      have N2 := Lib.hid n2
      clear hb0 n1 n2 hs
      (with_reducible refine (H0.out _).mono ?_); rintro e w1 ⟨rfl, hb1⟩
      have HB1 := Lib.hid (HB0.out.trans (hb1.mono HB0.out.size))
      have M2 := Lib.hid (N2.out.below hb1)
      clear hb1 HB0 N2 c0 c1 c2 c3 c4 c5 c6
      have n5 := box_new w1 [.int .i64 rd, .int .i64 ed, .int .i64 sz, .int .i64 cp, .slice pa pl pc, .int .i64 en, .slice fa fl fc] 59 (by simp)
      have b5 : Below w1.heap.size w1 (w1.alloc (.cells #[.int .i64 rd, .int .i64 ed, .int .i64 sz, .int .i64 cp, .slice pa pl pc, .int .i64 en, .slice fa fl fc] 59)) := (Below.refl _ _).alloc (Nat.le_refl _) _
      have HB5 := Lib.hid (HB1.out.trans (b5.mono HB1.out.size))
      have K2 := Lib.hid (M2.out.below b5)
      have N5 := Lib.hid n5
      clear n5 b5 HB1 M2
      go_wp2_with fail
      generalize w1.alloc (.cells #[.int .i64 rd, .int .i64 ed, .int .i64 sz, .int .i64 cp, .slice pa pl pc, .int .i64 en, .slice fa fl fc] 59) = V at *
      (with_reducible refine (H1.out _ HB5.out).mono ?_); rintro e w2 ⟨rfl, hb2⟩
      have HB2 := Lib.hid (HB5.out.trans (hb2.mono HB5.out.size))
      have L2 := Lib.hid (K2.out.below hb2)
      have N6 := Lib.hid (N5.out.below hb2)
      clear hb2 HB5 K2 N5
      obtain ⟨c0, c1, c2, c3, c4, c5, c6⟩ := N6.out.seven
      go_wp2_with fail
      (with_reducible refine (H2.out _).mono ?_); rintro e w3 ⟨rfl, hb3⟩
      have HB3 := Lib.hid (HB2.out.trans (hb3.mono HB2.out.size))
      have L3 := Lib.hid (L2.out.below hb3)
      have N7 := Lib.hid (N6.out.below hb3)
      clear hb3 HB2 L2 N6 c0 c1 c2 c3 c4 c5 c6
      obtain ⟨c0, c1, c2, c3, c4, c5, c6⟩ := N7.out.seven
      go_wp2_with fail
      (with_reducible refine (H3.out _ HB3.out).mono ?_); rintro e w4 ⟨rfl, hb4⟩
      have HB4 := Lib.hid (HB3.out.trans (hb4.mono HB3.out.size))
      obtain ⟨e0, e1, e2, e3, z0, z1, z2, z3⟩ := (L3.out.below hb4).four
      clear hb4 HB3 L3 N7 c0 c1 c2 c3 c4 c5 c6
      go_wp2_with fail
      refine bodyPost_ret (v := ackV kn q2 q1 ed) (by simp [results, Try.results18, go_sem, *]) rfl ⟨rfl, ?_⟩
      exact (((HB4.out.setCell (Nat.le_succ _) _).setCell (Nat.le_succ _) _).setCell (Nat.le_succ _) _).setCell (Nat.le_succ _) _
    · rw [decide_eq_false hk] at H2
      rw [if_neg (fun h => hk ⟨h.2.1, by omega⟩)]
      clear hok hk hp hf hfl
      go_enter Try.func18, Try.ntmps18
      go_wp2_with fail
      have n3 := box_two w [.int .i64 rd, .slice pa pl pc, .int .i64 ed, .int .i64 sz, .int .i64 cp, .int .i64 en, .slice fa fl fc] [.int .i64 0, .int .i64 0, .int .i64 0, .int .i64 0] 31 36 (by simp) (by simp)
      dsimp only at n3
      generalize (w.alloc (.cells #[.int .i64 rd, .slice pa pl pc, .int .i64 ed, .int .i64 sz, .int .i64 cp, .int .i64 en, .slice fa fl fc] 31)).alloc (.cells #[.int .i64 0, .int .i64 0, .int .i64 0, .int .i64 0] 36) = W at *
      obtain ⟨n1, n2, hs, hb0⟩ := n3
      obtain ⟨c0, c1, c2, c3, c4, c5, c6⟩ := n1.seven
      have HB0 := Lib.hid hb0
      have N2 := Lib.hid n2
      clear hb0 n1 n2 hs
      (with_reducible refine (H0.out _).mono ?_); rintro e w1 ⟨rfl, hb1⟩
      have HB1 := Lib.hid (HB0.out.trans (hb1.mono HB0.out.size))
      have M2 := Lib.hid (N2.out.below hb1)
      clear hb1 HB0 N2 c0 c1 c2 c3 c4 c5 c6
      have n5 := box_new w1 [.int .i64 rd, .int .i64 ed, .int .i64 sz, .int .i64 cp, .slice pa pl pc, .int .i64 en, .slice fa fl fc] 59 (by simp)
      have b5 : Below w1.heap.size w1 (w1.alloc (.cells #[.int .i64 rd, .int .i64 ed, .int .i64 sz, .int .i64 cp, .slice pa pl pc, .int .i64 en, .slice fa fl fc] 59)) := (Below.refl _ _).alloc (Nat.le_refl _) _
      have HB5 := Lib.hid (HB1.out.trans (b5.mono HB1.out.size))
      have K2 := Lib.hid (M2.out.below b5)
      have N5 := Lib.hid n5
      clear n5 b5 HB1 M2
      go_wp2_with fail
      generalize w1.alloc (.cells #[.int .i64 rd, .int .i64 ed, .int .i64 sz, .int .i64 cp, .slice pa pl pc, .int .i64 en, .slice fa fl fc] 59) = V at *
      (with_reducible refine (H1.out _ HB5.out).mono ?_); rintro e w2 ⟨rfl, hb2⟩
      have HB2 := Lib.hid (HB5.out.trans (hb2.mono HB5.out.size))
      have L2 := Lib.hid (K2.out.below hb2)
      have N6 := Lib.hid (N5.out.below hb2)
      clear hb2 HB5 K2 N5
      obtain ⟨c0, c1, c2, c3, c4, c5, c6⟩ := N6.out.seven
      go_wp2_with fail
      (with_reducible refine (H2.out _).mono ?_); rintro e w3 ⟨rfl, hb3⟩
      have HB3 := Lib.hid (HB2.out.trans (hb3.mono HB2.out.size))
      have L3 := Lib.hid (L2.out.below hb3)
      clear hb3 HB2 L2 N6 c0 c1 c2 c3 c4 c5 c6
      obtain ⟨e0, e1, e2, e3, z0, z1, z2, z3⟩ := L3.out.four
      clear L3
      go_wp2_with fail
      refine bodyPost_ret (v := ackV 0 0 0 0) (by simp [results, Try.results18, go_sem, *]) rfl ⟨rfl, ?_⟩
      exact (((HB3.out.setCell (Nat.le_succ _) _).setCell (Nat.le_succ _) _).setCell (Nat.le_succ _) _).setCell (Nat.le_succ _) _
  · rw [decide_eq_false hok] at H1
    rw [if_neg (fun h => hok h.1)]
    clear hok hp hf hfl H2
    go_enter Try.func18, Try.ntmps18
    go_wp2_with fail
    have n3 := box_two w [.int .i64 rd, .slice pa pl pc, .int .i64 ed, .int .i64 sz, .int .i64 cp, .int .i64 en, .slice fa fl fc] [.int .i64 0, .int .i64 0, .int .i64 0, .int .i64 0] 31 36 (by simp) (by simp)
    dsimp only at n3
    generalize (w.alloc (.cells #[.int .i64 rd, .slice pa pl pc, .int .i64 ed, .int .i64 sz, .int .i64 cp, .int .i64 en, .slice fa fl fc] 31)).alloc (.cells #[.int .i64 0, .int .i64 0, .int .i64 0, .int .i64 0] 36) = W at *
    obtain ⟨n1, n2, hs, hb0⟩ := n3
    obtain ⟨c0, c1, c2, c3, c4, c5, c6⟩ := n1.seven
    have HB0 := Lib.hid hb0
    have N2 := Lib.hid n2
    clear hb0 n1 n2 hs
    (with_reducible refine (H0.out _).mono ?_); rintro e w1 ⟨rfl, hb1⟩
    have HB1 := Lib.hid (HB0.out.trans (hb1.mono HB0.out.size))
    have M2 := Lib.hid (N2.out.below hb1)
    clear hb1 HB0 N2 c0 c1 c2 c3 c4 c5 c6
    have n5 := box_new w1 [.int .i64 rd, .int .i64 ed, .int .i64 sz, .int .i64 cp, .slice pa pl pc, .int .i64 en, .slice fa fl fc] 59 (by simp)
    have b5 : Below w1.heap.size w1 (w1.alloc (.cells #[.int .i64 rd, .int .i64 ed, .int .i64 sz, .int .i64 cp, .slice pa pl pc, .int .i64 en, .slice fa fl fc] 59)) := (Below.refl _ _).alloc (Nat.le_refl _) _
    have HB5 := Lib.hid (HB1.out.trans (b5.mono HB1.out.size))
    have K2 := Lib.hid (M2.out.below b5)
    have N5 := Lib.hid n5
    clear n5 b5 HB1 M2
    go_wp2_with fail
    generalize w1.alloc (.cells #[.int .i64 rd, .int .i64 ed, .int .i64 sz, .int .i64 cp, .slice pa pl pc, .int .i64 en, .slice fa fl fc] 59) = V at *
    (with_reducible refine (H1.out _ HB5.out).mono ?_); rintro e w2 ⟨rfl, hb2⟩
    have HB2 := Lib.hid (HB5.out.trans (hb2.mono HB5.out.size))
    have L2 := Lib.hid (K2.out.below hb2)
    have N6 := Lib.hid (N5.out.below hb2)
    clear hb2 HB5 K2 N5
    obtain ⟨c0, c1, c2, c3, c4, c5, c6⟩ := N6.out.seven
    obtain ⟨e0, e1, e2, e3, z0, z1, z2, z3⟩ := L2.out.four
    clear L2
    go_wp2_with fail
    refine bodyPost_ret (v := ackV 0 0 0 0) (by simp [results, Try.results18, go_sem, *]) rfl ⟨rfl, ?_⟩
    exact (((HB2.out.setCell (Nat.le_succ _) _).setCell (Nat.le_succ _) _).setCell (Nat.le_succ _) _).setCell (Nat.le_succ _) _

set_option maxHeartbeats 4000000 in
set_option maxRecDepth 100000 in
theorem rcvNewI_calls (paths size most : Int) (w : World) (_ : (Lit.int .i64 paths).wf = true) (_ : (Lit.int .i64 size).wf = true) (_ : (Lit.int .i64 most).wf = true) :
    Calls Try.prog 13 #[.int .i64 paths, .int .i64 size, .int .i64 most] w (RcOwn w (rcvNewN paths size most)) := by
  by_cases hp : 1 ≤ paths ∧ paths ≤ 4
  · obtain ⟨k, rfl⟩ : ∃ k : Nat, paths = (k : Int) := ⟨paths.toNat, by omega⟩
    obtain ⟨hp1, hp2⟩ := id hp
    have hzz : (Try.prog.info? 74).map (fun i => (i.zero, i.size, i.bytes)) = some (some (.agg #[.int .i64 0, .slice none 0 0]), 2, 32) := by kernel_rfl
    obtain ⟨i, hi, hzz⟩ := Option.map_eq_some_iff.1 hzz
    simp only [Prod.mk.injEq] at hzz
    have hmk := run_make_froms (P := Try.prog) Try.underlying29 hi hzz.1 hzz.2.1 hzz.2.2 k (k : Int) rfl (by omega) (w.alloc (.cells #[.int .i64 0, .slice none 0 0, .int .i64 0, .int .i64 0, .int .i64 0, .int .i64 0, .slice none 0 0, .int .i64 0, .int .i64 0, .int .i64 0, .int .i64 0, gs [], .bool false, .int .i64 0] 38))
    have how := made_own (w := w.alloc (.cells #[.int .i64 0, .slice none 0 0, .int .i64 0, .int .i64 0, .int .i64 0, .int .i64 0, .slice none 0 0, .int .i64 0, .int .i64 0, .int .i64 0, .int .i64 0, gs [], .bool false, .int .i64 0] 38)) (base := w.heap.size) (k := k) (e := 74) (by simp) (by omega)
    rw [show (w.alloc (.cells #[.int .i64 0, .slice none 0 0, .int .i64 0, .int .i64 0, .int .i64 0, .int .i64 0, .slice none 0 0, .int .i64 0, .int .i64 0, .int .i64 0, .int .i64 0, gs [], .bool false, .int .i64 0] 38)).heap.size = w.heap.size + 1 by simp] at hmk how
    clear hi hzz
    have hbf : Below (w.alloc (.cells #[.int .i64 0, .slice none 0 0, .int .i64 0, .int .i64 0, .int .i64 0, .int .i64 0, .slice none 0 0, .int .i64 0, .int .i64 0, .int .i64 0, .int .i64 0, gs [], .bool false, .int .i64 0] 38)).heap.size (w.alloc (.cells #[.int .i64 0, .slice none 0 0, .int .i64 0, .int .i64 0, .int .i64 0, .int .i64 0, .slice none 0 0, .int .i64 0, .int .i64 0, .int .i64 0, .int .i64 0, gs [], .bool false, .int .i64 0] 38)) ((w.alloc (.cells #[.int .i64 0, .slice none 0 0, .int .i64 0, .int .i64 0, .int .i64 0, .int .i64 0, .slice none 0 0, .int .i64 0, .int .i64 0, .int .i64 0, .int .i64 0, gs [], .bool false, .int .i64 0] 38)).alloc (.cells (madeCells #[.int .i64 0, .slice none 0 0] (k * 2)) 74)) := (Below.refl _ _).alloc (Nat.le_refl _) _
    have n0 := (box_new w [.int .i64 0, .slice none 0 0, .int .i64 0, .int .i64 0, .int .i64 0, .int .i64 0, .slice none 0 0, .int .i64 0, .int .i64 0, .int .i64 0, .int .i64 0, gs [], .bool false, .int .i64 0] 38 (by simp)).below hbf
    have hbw : Below w.heap.size w ((w.alloc (.cells #[.int .i64 0, .slice none 0 0, .int .i64 0, .int .i64 0, .int .i64 0, .int .i64 0, .slice none 0 0, .int .i64 0, .int .i64 0, .int .i64 0, .int .i64 0, gs [], .bool false, .int .i64 0] 38)).alloc (.cells (madeCells #[.int .i64 0, .slice none 0 0] (k * 2)) 74)) := ((Below.refl _ _).alloc (Nat.le_refl _) _).alloc (by simp) _
    have hsz : ((w.alloc (.cells #[.int .i64 0, .slice none 0 0, .int .i64 0, .int .i64 0, .int .i64 0, .int .i64 0, .slice none 0 0, .int .i64 0, .int .i64 0, .int .i64 0, .int .i64 0, gs [], .bool false, .int .i64 0] 38)).alloc (.cells (madeCells #[.int .i64 0, .slice none 0 0] (k * 2)) 74)).heap.size = w.heap.size + 2 := by simp
    clear hbf
    generalize hW : (w.alloc (.cells #[.int .i64 0, .slice none 0 0, .int .i64 0, .int .i64 0, .int .i64 0, .int .i64 0, .slice none 0 0, .int .i64 0, .int .i64 0, .int .i64 0, .int .i64 0, gs [], .bool false, .int .i64 0] 38)).alloc (.cells (madeCells #[.int .i64 0, .slice none 0 0] (k * 2)) 74) = W at *
    clear hW
    have N0 := Lib.hid n0
    have HBW := Lib.hid hbw
    have HOW := Lib.hid how
    have HSZ := Lib.hid hsz
    clear n0 hbw how hsz
    go_enter Try.func13, Try.ntmps13
    go_wp2_with fail
    have n7 := box_new W [.int .i64 0, .slice none 0 0, .int .i64 size, .int .i64 size, .int .i64 most, .int .i64 (-1), .slice (some ⟨w.heap.size + 1, 0, none⟩) k k] 31 (by simp)
    have hb7 : Below W.heap.size W (W.alloc (.cells #[.int .i64 0, .slice none 0 0, .int .i64 size, .int .i64 size, .int .i64 most, .int .i64 (-1), .slice (some ⟨w.heap.size + 1, 0, none⟩) k k] 31)) := (Below.refl _ _).alloc (Nat.le_refl _) _
    have hR := rcvRightN_calls (rd := 0) (ed := size) (sz := size) (cp := most) (en := -1) (pc := 0) (fc := k) (pa := none) inPcs_none ((HOW.out.below hb7).in')
    unfold rcvV at hR
    have n0 := N0.out.below hb7
    have hsW : W.heap.size ≤ (W.alloc (.cells #[.int .i64 0, .slice none 0 0, .int .i64 size, .int .i64 size, .int .i64 most, .int .i64 (-1), .slice (some ⟨w.heap.size + 1, 0, none⟩) k k] 31)).heap.size := hb7.size
    have HR := Lib.hid hR
    have HOW2 := Lib.hid (HOW.out.below hb7)
    have HBV := Lib.hid (HBW.out.trans (hb7.mono HBW.out.size))
    clear hb7 hR N0 HOW HBW hmk
    generalize W.alloc (.cells #[.int .i64 0, .slice none 0 0, .int .i64 size, .int .i64 size, .int .i64 most, .int .i64 (-1), .slice (some ⟨w.heap.size + 1, 0, none⟩) k k] 31) = V at *
    rw [HSZ.out] at n7
    by_cases hok : rcvOk 0 [] size size most (-1) (List.replicate k (0, []))
    · rw [decide_eq_true hok] at HR
      have hr : rcvNewN (k : Int) size most = ⟨0, [], size, size, most, -1, List.replicate k (0, []), 0, 0, 0, 0, [], false, 0⟩ := by
        unfold rcvNewN
        rw [Int.toNat_natCast, if_pos ⟨hp.1, hp.2, hok⟩]
      have HRR := Lib.hid hr
      clear hr hok
      refine HR.out.mono ?_
      rintro e w2 ⟨rfl, hb2⟩
      obtain ⟨c0, c1, c2, c3, c4, c5, c6⟩ := (n7.below hb2).seven
      obtain ⟨⟨d0, d1, d2, d3, d4, d5, d6⟩, d7, d8, d9, da, db, dc, dd⟩ := (n0.below hb2).fourteen
      obtain ⟨z0, z1, z2, z3, z4, z5, z6, z7, z8, z9, za, zb, zc, zd⟩ := (n0.below hb2).frz14
      have HOW3 := Lib.hid (HOW2.out.below hb2)
      have HB2 := Lib.hid (HBV.out.trans (hb2.mono HBV.out.size))
      have hs2 := hb2.size
      have hs3 := HSZ.out
      clear hb2 n7 n0 HR HOW2 HBV
      go_wp2_with fail
      refine bodyPost_ret (v := rcvOutV 0 none 0 0 size size most (-1) (some ⟨w.heap.size + 1, 0, none⟩) k k 0 0 0 0 [] false 0) (by simp [rcvOutV, results, Try.results13, go_sem, *]) rfl ?_
      have hK := kept14 w2 w.heap.size (.int .i64 0) (.slice none 0 0) (.int .i64 size) (.int .i64 size) (.int .i64 most) (.int .i64 (-1)) (.slice (some ⟨w.heap.size + 1, 0, none⟩) k k) (.int .i64 0) (.int .i64 0) (.int .i64 0) (.int .i64 0) (gs []) (.bool false) (.int .i64 0)
      rw [HRR.out]
      refine ⟨none, 0, some ⟨w.heap.size + 1, 0, none⟩, k, fun _ => none, fun _ => 0, fun _ => False, fun b => b = w.heap.size + 1, by simp, pcsOwn_nil, ?_, (fun b (h : False) => h.elim), (fun b (h : False) => h.elim), (fun b e => ⟨by omega, Nat.lt_of_lt_of_le (by omega) hK.size⟩), HB2.out.trans (hK.toBelow HB2.out.size (fun b hb e => by omega))⟩
      have := HOW3.out.kept hK (fun b e e' => by omega)
      simpa using this
    · rw [decide_eq_false hok] at HR
      have hr : rcvNewN (k : Int) size most = rcBad 1 := by
        unfold rcvNewN
        rw [Int.toNat_natCast, if_neg (fun h => hok h.2.2)]
      have HRR := Lib.hid hr
      clear hr hok
      refine HR.out.mono ?_
      rintro e w2 ⟨rfl, hb2⟩
      obtain ⟨⟨d0, d1, d2, d3, d4, d5, d6⟩, d7, d8, d9, da, db, dc, dd⟩ := (n0.below hb2).fourteen
      obtain ⟨z0, z1, z2, z3, z4, z5, z6, z7, z8, z9, za, zb, zc, zd⟩ := (n0.below hb2).frz14
      have HB2 := Lib.hid (HBV.out.trans (hb2.mono HBV.out.size))
      clear hb2 n7 n0 HR HOW2 HBV
      go_wp2_with fail
      refine bodyPost_ret (v := rcvOutV 0 none 0 0 0 0 0 0 none 0 0 0 0 0 0 [] false 1) (by simp [rcvOutV, results, Try.results13, go_sem, *]) rfl ?_
      rw [HRR.out]
      refine rcBad_own ?_
      have hK := kept14 w2 w.heap.size (.int .i64 0) (.slice none 0 0) (.int .i64 0) (.int .i64 0) (.int .i64 0) (.int .i64 0) (.slice none 0 0) (.int .i64 0) (.int .i64 0) (.int .i64 0) (.int .i64 0) (gs []) (.bool false) (.int .i64 1)
      exact HB2.out.trans (hK.toBelow HB2.out.size (fun b hb e => by omega))
  · have hr : rcvNewN paths size most = rcBad 1 := by unfold rcvNewN; rw [if_neg (fun h => hp ⟨h.1, h.2.1⟩)]
    rw [hr]
    clear hr
    by_cases h1 : paths < 1
    all_goals
      go_enter Try.func13, Try.ntmps13
      go_wp2_with fail
      first
        | (exfalso; omega)
        | refine bodyPost_ret (v := rcvOutV 0 none 0 0 0 0 0 0 none 0 0 0 0 0 0 [] false 1) (by simp [rcvOutV, results, Try.results13, go_sem]) rfl (rcBad_own ((Below.refl _ _).alloc (Nat.le_refl _) _))
end Go.Proofs.Ytmgefmjfefmaoaa
