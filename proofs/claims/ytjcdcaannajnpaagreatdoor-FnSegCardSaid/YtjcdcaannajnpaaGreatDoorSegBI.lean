/- SegBytes and AckBytes, the program's. -/
import Derived.Test.YtjcdcaannajnpaaGreatDoorSegB
import Derived.Deep.RegionWith
import Derived.Deep.DeepCutAuto
namespace Go.Proofs.YtjcdcaannajnpaaGreatDoor
open Go.RowKit

theorem hasNums_three {w : World} {g : Nat} {p s d : Int} (h0 : w.cell? ⟨g, 0, none⟩ = some (.int .i64 p)) (h1 : w.cell? ⟨g, 1, none⟩ = some (.int .i64 s)) (h2 : w.cell? ⟨g, 2, none⟩ = some (.int .i64 d)) (hp : -9223372036854775808 ≤ p ∧ p ≤ 9223372036854775807) (hs : -9223372036854775808 ≤ s ∧ s ≤ 9223372036854775807) (hd : -9223372036854775808 ≤ d ∧ d ≤ 9223372036854775807) : HasNums w g [p, s, d] := by
  refine ⟨fun j hj => ?_, fun n hn => ?_⟩
  · match j, hj with
    | 0, _ => exact h0
    | 1, _ => exact h1
    | 2, _ => exact h2
    | j + 3, hj => simp at hj; omega
  · simp at hn
    rcases hn with rfl | rfl | rfl <;> assumption
theorem hasNums_one {w : World} {g : Nat} {e : Int} (h0 : w.cell? ⟨g, 0, none⟩ = some (.int .i64 e)) (he : -9223372036854775808 ≤ e ∧ e ≤ 9223372036854775807) : HasNums w g [e] := by
  refine ⟨fun j hj => ?_, fun n hn => ?_⟩
  · match j, hj with
    | 0, _ => exact h0
    | j + 1, hj => simp at hj
  · simp at hn
    subst hn; exact he

set_option maxHeartbeats 1000000 in
set_option maxRecDepth 100000 in
theorem headBytes_calls (p s d : Int) (l : List UInt8) (w : World) (h : headOk p s d) (hl : l.length ≤ 100) :
    Calls Tryz.prog 29 #[.agg #[.int .i64 p, .int .i64 s, .int .i64 d], gs l] w fun x w' => x = .returned (gs (l ++ numsN [p, s, d])) ∧ Below w.heap.size w w' := by
  have H := Lib.hid h
  have hlen := numsN_len [p, s, d]
  have hl3 : (numsN [p, s, d]).length ≤ 33 := by simpa using hlen
  have HP := Lib.hid (fun (W : World) (g cap : Nat) (hh : HasNums W g [p, s, d]) => putNums_calls (cap := cap) hh 3 rfl (by simp))
  clear h hlen
  generalize numsN [p, s, d] = R at *
  go_enter Tryz.func29, Tryz.ntmps29
  go_wp2_with fail
  (with_reducible refine (HP.out _ _ _ ?_).mono ?_)
  · refine hasNums_three (by simp) (by simp) (by simp) ?_ ?_ ?_
    · have := H.out.1; omega
    · have := H.out.2.1; omega
    · have := H.out.2.2; omega
  rintro e w1 ⟨rfl, hb1⟩
  have HB := Lib.hid (((((Below.refl _ _).alloc (Nat.le_refl _) _).alloc (by simp) _)).trans (hb1.mono (by simp; omega)) : Below w.heap.size w w1)
  clear hb1
  go_wp2_with fail
  refine (join_calls _ _ _ (by omega)).mono ?_
  rintro e w2 ⟨rfl, hb2⟩
  have HB2 := Lib.hid (HB.out.trans (hb2.mono HB.out.size))
  clear hb2
  go_wp2_with fail
  go_ret
  exact ⟨rfl, HB2.out⟩

theorem seg_sum (p s d : Int) (t : List UInt8) (e : Int) : ([83] ++ numsN [p, s, d]) ++ (putT t ++ numsN [e]) = segBody p s d t e := by simp [numsN, segBody]
theorem ack_sum (p s d e : Int) : ([65] ++ numsN [p, s, d]) ++ numsN [e] = ackBody p s d e := by simp [numsN, ackBody]

set_option maxHeartbeats 2000000 in
set_option maxRecDepth 100000 in
theorem segBytesI_calls (p s d : Int) (t : List UInt8) (e : Int) (w : World) (hl : t.length ≤ 9223372036854775807) :
    Calls Tryz.prog 6 #[segV p s d t e] w fun x w' => x = .returned (gs (segN p s d t e)) ∧ Below w.heap.size w w' := by
  have HO := Lib.hid (segOf_calls p s d t e)
  have hr := fun w => segRt_calls p s d t e w hl
  by_cases hk : segOk p s d t e
  · have hbl := segBody_len (p := p) (s := s) (d := d) (e := e) hk.2.1
    have HSL := Lib.hid (fun w => sealI_calls (segBody p s d t e) w (by omega))
    rw [← segN_yes hk] at HSL
    have HSUM := Lib.hid (seg_sum p s d t e)
    rw [decide_eq_true hk] at hr
    have HR := Lib.hid hr
    have HH := Lib.hid (fun w => headBytes_calls p s d [83] w hk.1 (by simp))
    have HT := Lib.hid (fun w => putTextI_calls t w (by have := hk.2.1; omega))
    have he : -9223372036854775808 ≤ e ∧ e ≤ 9223372036854775807 := by have := hk.2.2; omega
    have HP := Lib.hid (fun (W : World) (g cap : Nat) (hh : W.cell? ⟨g, 0, none⟩ = some (.int .i64 e)) => putNums_calls (cap := cap) (hasNums_one hh he) 1 rfl (by simp))
    have l1 : (numsN [e]).length ≤ 11 := by simpa using numsN_len [e]
    have l2 : ([83] ++ numsN [p, s, d]).length ≤ 34 := by have := numsN_len [p, s, d]; simp at this ⊢; omega
    have l3 := putT_len hk.2.1
    clear hk hr hbl he
    generalize segN p s d t e = R at *
    generalize segBody p s d t e = B at *
    generalize [83] ++ numsN [p, s, d] = nh at *
    generalize numsN [e] = ne at *
    generalize putT t = tt at *
    go_enter Tryz.func6, Tryz.ntmps6
    go_wp2_with fail
    (with_reducible refine (HO.out _).mono ?_); rintro x w1 ⟨rfl, hb1⟩
    have HB1 := Lib.hid (((Below.refl _ _).alloc (Nat.le_refl _) _).trans (hb1.mono (by simp)) : Below w.heap.size w w1)
    clear hb1
    go_wp2_with fail
    (with_reducible refine (HR.out _).mono ?_); rintro x w2 ⟨rfl, hb2⟩
    have hbz := (HB1.out.alloc HB1.out.size _).trans (hb2.mono (by have := HB1.out.size; simp; omega))
    have HB2 := Lib.hid hbz
    have c3 : w2.cell? ⟨w1.heap.size, 3, none⟩ = some (gs t) := (cell_kept hb2 3).trans (by simp)
    have c4 : w2.cell? ⟨w1.heap.size, 4, none⟩ = some (.int .i64 e) := (cell_kept hb2 4).trans (by simp)
    have c0 : w2.cell? ⟨w1.heap.size, 0, none⟩ = some (.int .i64 p) := (cell_kept hb2 0).trans (by simp)
    have c1 : w2.cell? ⟨w1.heap.size, 1, none⟩ = some (.int .i64 s) := (cell_kept hb2 1).trans (by simp)
    have c2 : w2.cell? ⟨w1.heap.size, 2, none⟩ = some (.int .i64 d) := (cell_kept hb2 2).trans (by simp)
    have hg := size_kept hb2
    clear hb2 hbz HB1
    generalize w1.heap.size = g at *
    go_upto_region 4 with fail
    go_cut [4] (fun v wx => v = gs (tt ++ ne) ∧ Below w2.heap.size w2 wx)
    case first =>
      go_region_with (first | (go_at_call 26; (with_reducible refine (HT.out _).mono ?_); rintro x wp ⟨rfl, hbp⟩; obtain ⟨hcp, hfp⟩ := bcell hbp; have hsp := hbp.size; (try simp at hsp); (try simp at hcp); (try simp at hfp)) | (go_at_call 27; (with_reducible refine (HP.out _ _ _ ?_).mono ?_); (· first | (simp; done) | (simp [hcp]; done)); rintro x wq ⟨rfl, hbq⟩; obtain ⟨hcq, hfq⟩ := bcell hbq; have hsq := hbq.size; (try simp at hsq); (try simp at hcq); (try simp at hfq)) | (go_at_call 25; (with_reducible refine (join_calls _ _ _ ?_).mono ?_); (· omega); rintro x wr ⟨rfl, hbr⟩))
      all_goals
        go_wp2_with fail
        go_meet
        first
          | exact ⟨rfl, ((((Below.refl _ _).drew.trans hbp).alloc (by first | omega | (simp; done) | (simp; omega)) _).trans (hbq.mono (by first | omega | (simp; done) | (simp; omega)))).trans (hbr.mono (by first | omega | (simp; done) | (simp; omega)))⟩
          | exact ⟨rfl, ((((Below.refl _ _).drew.alloc (by first | omega | (simp; done) | (simp; omega)) _).trans (hbp.mono (by first | omega | (simp; done) | (simp; omega)))).trans (hbq.mono (by first | omega | (simp; done) | (simp; omega)))).trans (hbr.mono (by first | omega | (simp; done) | (simp; omega)))⟩
    case rest =>
      obtain ⟨rfl, hb5⟩ := hcut
      obtain ⟨hc5, hf5⟩ := bcell hb5
      have HB5 := Lib.hid (HB2.out.trans (hb5.mono HB2.out.size))
      have d0 := (hc5 g 0 hg).trans c0
      have d1 := (hc5 g 1 hg).trans c1
      have d2 := (hc5 g 2 hg).trans c2
      clear hc5 hf5 hb5 c0 c1 c2 c3 c4 HB2
      have l4 : (tt ++ ne).length ≤ 40 := by simp; omega
      generalize tt ++ ne = tn at *
      go_wp2_with fail
      (with_reducible refine (HH.out _).mono ?_); rintro x w6 ⟨rfl, hb6⟩
      have HB6 := Lib.hid (HB5.out.trans (hb6.mono HB5.out.size))
      clear hb6 HB5 d0 d1 d2
      go_wp2_with fail
      refine (join_calls _ _ _ (by omega)).mono ?_
      rintro x w7 ⟨rfl, hb7⟩
      have HB7 := Lib.hid (HB6.out.trans (hb7.mono HB6.out.size))
      clear hb7 HB6
      rw [HSUM.out]
      go_wp2_with fail
      (with_reducible refine (HSL.out _).mono ?_); rintro x w8 ⟨rfl, hb8⟩
      have HB8 := Lib.hid (HB7.out.trans (hb8.mono HB7.out.size))
      clear hb8 HB7
      go_wp2_with fail
      go_ret
      exact ⟨rfl, HB8.out⟩
  · have hn := segN_no hk
    rw [decide_eq_false hk] at hr
    have HN := Lib.hid hn
    have HR := Lib.hid hr
    clear hk hr hn
    go_enter Tryz.func6, Tryz.ntmps6
    go_wp2_with fail
    (with_reducible refine (HO.out _).mono ?_); rintro x w1 ⟨rfl, hb1⟩
    have HB1 := Lib.hid (((Below.refl _ _).alloc (Nat.le_refl _) _).trans (hb1.mono (by simp)) : Below w.heap.size w w1)
    clear hb1
    go_wp2_with fail
    (with_reducible refine (HR.out _).mono ?_); rintro x w2 ⟨rfl, hb2⟩
    have hbz := (HB1.out.alloc HB1.out.size _).trans (hb2.mono (by have := HB1.out.size; simp; omega))
    have HB2 := Lib.hid hbz
    clear hb2 hbz
    go_wp2_with fail
    go_ret
    exact ⟨by rw [HN.out]; rfl, HB2.out⟩

set_option maxHeartbeats 2000000 in
set_option maxRecDepth 100000 in
theorem ackBytesI_calls (p s d e : Int) (w : World) :
    Calls Tryz.prog 7 #[ackV p s d e] w fun x w' => x = .returned (gs (ackN p s d e)) ∧ Below w.heap.size w w' := by
  have HO := Lib.hid (ansOf_calls p s d e)
  have hr := fun w => ansRt_calls p s d e w
  by_cases hk : ackOk p s d e
  · have hbl := ackBody_len p s d e
    have HSL := Lib.hid (fun w => sealI_calls (ackBody p s d e) w (by omega))
    rw [← ackN_yes hk, ← ack_sum] at HSL
    rw [decide_eq_true hk] at hr
    have HR := Lib.hid hr
    have HH := Lib.hid (fun w => headBytes_calls p s d [65] w hk.1 (by simp))
    have he : -9223372036854775808 ≤ e ∧ e ≤ 9223372036854775807 := by have := hk.2; omega
    have HP := Lib.hid (fun (W : World) (g cap : Nat) (hh : W.cell? ⟨g, 0, none⟩ = some (.int .i64 e)) => putNums_calls (cap := cap) (hasNums_one hh he) 1 rfl (by simp))
    have l1 : (numsN [e]).length ≤ 11 := by simpa using numsN_len [e]
    have l2 : ([65] ++ numsN [p, s, d]).length ≤ 34 := by have := numsN_len [p, s, d]; simp at this ⊢; omega
    clear hk hr hbl he
    generalize ackN p s d e = R at *
    generalize [65] ++ numsN [p, s, d] = nh at *
    generalize numsN [e] = ne at *
    go_enter Tryz.func7, Tryz.ntmps7
    go_wp2_with fail
    (with_reducible refine (HO.out _).mono ?_); rintro x w1 ⟨rfl, hb1⟩
    have HB1 := Lib.hid (((Below.refl _ _).alloc (Nat.le_refl _) _).trans (hb1.mono (by simp)) : Below w.heap.size w w1)
    clear hb1
    go_wp2_with fail
    (with_reducible refine (HR.out _).mono ?_); rintro x w2 ⟨rfl, hb2⟩
    have hbz := (HB1.out.alloc HB1.out.size _).trans (hb2.mono (by have := HB1.out.size; simp; omega))
    have HB2 := Lib.hid hbz
    have c3 : w2.cell? ⟨w1.heap.size, 3, none⟩ = some (.int .i64 e) := (cell_kept hb2 3).trans (by simp)
    have c0 : w2.cell? ⟨w1.heap.size, 0, none⟩ = some (.int .i64 p) := (cell_kept hb2 0).trans (by simp)
    have c1 : w2.cell? ⟨w1.heap.size, 1, none⟩ = some (.int .i64 s) := (cell_kept hb2 1).trans (by simp)
    have c2 : w2.cell? ⟨w1.heap.size, 2, none⟩ = some (.int .i64 d) := (cell_kept hb2 2).trans (by simp)
    have hg := size_kept hb2
    clear hb2 hbz HB1
    generalize w1.heap.size = g at *
    go_wp2_with fail
    go_region_with (first | (go_at_call 29; (with_reducible refine (HH.out _).mono ?_); rintro x wp ⟨rfl, hbp⟩; obtain ⟨hcp, hfp⟩ := bcell hbp; have hsp := hbp.size; (try simp at hsp); (try simp at hcp); (try simp at hfp)) | (go_at_call 27; (with_reducible refine (HP.out _ _ _ ?_).mono ?_); (· first | (simp; done) | (simp [hcp]; done)); rintro x wq ⟨rfl, hbq⟩; obtain ⟨hcq, hfq⟩ := bcell hbq; have hsq := hbq.size; (try simp at hsq); (try simp at hcq); (try simp at hfq)) | (go_at_call 25; (with_reducible refine (join_calls _ _ _ ?_).mono ?_); (· omega); rintro x wr ⟨rfl, hbr⟩) | (go_at_call 28; (with_reducible refine (HSL.out _).mono ?_); rintro x ws ⟨rfl, hbs⟩))
    all_goals
      go_wp2_with fail
      go_ret
      first
        | exact ⟨rfl, HB2.out.trans ((((((Below.refl _ _).drew.trans hbp).alloc (by first | omega | (simp; done) | (simp; omega)) _).trans (hbq.mono (by first | omega | (simp; done) | (simp; omega)))).trans (hbr.mono (by first | omega | (simp; done) | (simp; omega)))).trans (hbs.mono (by have := hbr.size; first | omega | (simp; omega))) |>.mono HB2.out.size)⟩
        | exact ⟨rfl, HB2.out.trans ((((((Below.refl _ _).drew.alloc (by first | omega | (simp; done) | (simp; omega)) _).trans (hbp.mono (by first | omega | (simp; done) | (simp; omega)))).trans (hbq.mono (by first | omega | (simp; done) | (simp; omega)))).trans (hbr.mono (by first | omega | (simp; done) | (simp; omega)))).trans (hbs.mono (by have := hbr.size; first | omega | (simp; omega))) |>.mono HB2.out.size)⟩
  · have hn := ackN_no hk
    rw [decide_eq_false hk] at hr
    have HN := Lib.hid hn
    have HR := Lib.hid hr
    clear hk hr hn
    go_enter Tryz.func7, Tryz.ntmps7
    go_wp2_with fail
    (with_reducible refine (HO.out _).mono ?_); rintro x w1 ⟨rfl, hb1⟩
    have HB1 := Lib.hid (((Below.refl _ _).alloc (Nat.le_refl _) _).trans (hb1.mono (by simp)) : Below w.heap.size w w1)
    clear hb1
    go_wp2_with fail
    (with_reducible refine (HR.out _).mono ?_); rintro x w2 ⟨rfl, hb2⟩
    have hbz := (HB1.out.alloc HB1.out.size _).trans (hb2.mono (by have := HB1.out.size; simp; omega))
    have HB2 := Lib.hid hbz
    clear hb2 hbz
    go_wp2_with fail
    go_ret
    exact ⟨by rw [HN.out]; rfl, HB2.out⟩
end Go.Proofs.YtjcdcaannajnpaaGreatDoor
