/- The model's l06Take. -/
import Derived.Test.YtdcahilfmhkmiaaGreatDoorTakeMem
import Derived.Test.YtdcahilfmhkmiaaGreatDoorRcvMath
import Derived.Test.YtdcahilfmhkmiaaGreatDoorSegR
import Derived.Deep.DeepCutAuto
namespace Go.Proofs.YtdcahilfmhkmiaaGreatDoor
open Go.RowKit

theorem Box.five {w : World} {g : Nat} {a b c d e : Value} (k : Box w g [a, b, c, d, e]) :
    w.cell? ⟨g, 0, none⟩ = some a ∧ w.cell? ⟨g, 1, none⟩ = some b ∧ w.cell? ⟨g, 2, none⟩ = some c ∧ w.cell? ⟨g, 3, none⟩ = some d ∧ w.cell? ⟨g, 4, none⟩ = some e :=
  ⟨k.cell 0 _ rfl, k.cell 1 _ rfl, k.cell 2 _ rfl, k.cell 3 _ rfl, k.cell 4 _ rfl⟩
theorem Box.st14 {W : World} {g : Nat} {u0 u1 u2 u3 u4 u5 u6 u7 u8 u9 u10 u11 u12 u13 : Value} (k : Box W g [u0, u1, u2, u3, u4, u5, u6, u7, u8, u9, u10, u11, u12, u13]) (v0 v1 v2 v3 v4 v5 v6 v7 v8 v9 v10 v11 v12 v13 : Value) : Box (((((((((((((((W).setCell ⟨g, 0, none⟩ v0).setCell ⟨g, 1, none⟩ v1).setCell ⟨g, 2, none⟩ v2).setCell ⟨g, 3, none⟩ v3).setCell ⟨g, 4, none⟩ v4).setCell ⟨g, 5, none⟩ v5).setCell ⟨g, 6, none⟩ v6).setCell ⟨g, 7, none⟩ v7).setCell ⟨g, 8, none⟩ v8).setCell ⟨g, 9, none⟩ v9).setCell ⟨g, 10, none⟩ v10).setCell ⟨g, 11, none⟩ v11).setCell ⟨g, 12, none⟩ v12).setCell ⟨g, 13, none⟩ v13) g [v0, v1, v2, v3, v4, v5, v6, v7, v8, v9, v10, v11, v12, v13] := ((((((((((((((k).set 0 v0).set 1 v1).set 2 v2).set 3 v3).set 4 v4).set 5 v5).set 6 v6).set 7 v7).set 8 v8).set 9 v9).set 10 v10).set 11 v11).set 12 v12).set 13 v13
theorem putR_right {l : List Pc} {n : Int} {t : List UInt8} (h : (putR l n t).2 = 0) : right (putR l n t).1 := by
  unfold putR at h ⊢
  split at h
  · simp at h
  · rename_i h1
    rw [if_neg h1]
    split at h
    · simp at h
    · rename_i h2
      rw [if_neg h2]
      unfold fullR at h ⊢
      split at h
      · rename_i h3
        rw [if_pos h3]
        exact h3
      · simp at h

set_option maxHeartbeats 8000000 in
set_option maxRecDepth 100000 in
theorem takeS_calls {S : Nat → Prop} {rd ed sz cp en : Int} {pa fa : Option Addr} {pl pc fl fc : Nat} {ps : List Pc} {n : Frs} {w : World} (hp : InPcs w pa pl ps) (hf : InFrs S w fa fl n) (hok : rcvOk rd ps ed sz cp en n)
    (pk : Nat) (s d : Int) (t : List UInt8) (e : Int) (hs : segOk (pk : Int) s d t e) (hpk : pk < n.length) :
    Calls Tryz.prog 71 #[rcvV rd pa pl pc ed sz cp en fa fl fc, segV (pk : Int) s d t e] w (RcSp w (takeN rd ps ed sz cp en n (pk : Int) s d t e)) := by
  have hpl := hp.long
  have hfl := hf.long
  obtain ⟨hrd, hed, hcp, hsz, hrt, -, -, -, hen, hfr, hfu⟩ := id hok
  obtain ⟨⟨hp0, hs0, hd0⟩, ht, he⟩ := hs
  have H3 := Lib.hid (fun (W : World) (hb : Below w.heap.size w W) => copyRS_calls (rd := rd) (ed := ed) (sz := sz) (cp := cp) (en := en) (pc := pc) (fc := fc) (hp.below hb) (hf.below hb) (by omega))
  have HMX := Lib.hid (fun W => maxS_calls d rd W)
  have HMN := Lib.hid (fun W => minT_calls (d + (t.length : Int)) ed W)
  have hby := rcv_bytes hok
  have H4 := Lib.hid (fun (W : World) (hb : Below w.heap.size w W) (x : List UInt8) (hx : x.length ≤ 2000000) => putRS_calls (cap := pc) (hp.below hb) (max d rd) x hx (by omega))
  have hpf := putR_len (l := ps) (max d rd) ((t.drop (max d rd - d).toNat).take (min (d + (t.length : Int)) ed - max d rd).toNat) (by omega)
  have HPF := Lib.hid hpf
  have HOK := Lib.hid hok
  have HFU := Lib.hid hfu
  have HEN := Lib.hid hen
  clear hpf hp hf hok hfu hen hby hrt
  have hR : takeN rd ps ed sz cp en n (pk : Int) s d t e = (if (takePs rd ps ed d t).2 ≠ 0 then rcBad 9 else if rcvOk rd (takePs rd ps ed d t).1 ed sz cp (takeEn rd (takePs rd ps ed d t).1 en e) (n.set pk (subN (frAt n pk) s)) then
    ⟨rd, (takePs rd ps ed d t).1, ed, sz, cp, takeEn rd (takePs rd ps ed d t).1 en e, n.set pk (subN (frAt n pk) s), (pk : Int), (frAt (n.set pk (subN (frAt n pk) s)) pk).1, rd + ((fromN (takePs rd ps ed d t).1 rd).length : Int), ed, [], false, 0⟩ else rcBad 9) := by
    unfold takeN
    simp only [Int.toNat_natCast]
  have hP : takePs rd ps ed d t = if max d rd < min (d + (t.length : Int)) ed then putR ps (max d rd) ((t.drop (max d rd - d).toNat).take (min (d + (t.length : Int)) ed - max d rd).toNat) else (ps, 0) := rfl
  generalize takePs rd ps ed d t = P at *
  generalize takeN rd ps ed sz cp en n (pk : Int) s d t e = R at *
  have HR := Lib.hid hR
  have HP := Lib.hid hP
  clear hR hP
  unfold rcvV at *
  go_enter Tryz.func71, Tryz.ntmps71
  go_wp2_with fail
  have n3 := box_three w [.int .i64 rd, .slice pa pl pc, .int .i64 ed, .int .i64 sz, .int .i64 cp, .int .i64 en, .slice fa fl fc] [.int .i64 (pk : Int), .int .i64 s, .int .i64 d, gs t, .int .i64 e] [.int .i64 0, .slice none 0 0, .int .i64 0, .int .i64 0, .int .i64 0, .int .i64 0, .slice none 0 0, .int .i64 0, .int .i64 0, .int .i64 0, .int .i64 0, gs [], .bool false, .int .i64 0] 26 28 34 (by simp) (by simp) (by simp)
  dsimp only at n3
  generalize ((w.alloc (.cells #[.int .i64 rd, .slice pa pl pc, .int .i64 ed, .int .i64 sz, .int .i64 cp, .int .i64 en, .slice fa fl fc] 26)).alloc (.cells #[.int .i64 (pk : Int), .int .i64 s, .int .i64 d, gs t, .int .i64 e] 28)).alloc (.cells #[.int .i64 0, .slice none 0 0, .int .i64 0, .int .i64 0, .int .i64 0, .int .i64 0, .slice none 0 0, .int .i64 0, .int .i64 0, .int .i64 0, .int .i64 0, gs [], .bool false, .int .i64 0] 34) = W at *
  obtain ⟨n1, n2, n3, hs3, hb0⟩ := n3
  (with_reducible refine (H3.out _ hb0).mono ?_); rintro e w4 ⟨gp, pc', g, cap, Q, C, rfl, hpo, hgp, hgp2, hpw, hfo, hb1⟩
  have hs4 : w.heap.size + 3 ≤ w4.heap.size := by have := hb1.size; omega
  have hb4 := hb0.trans (hb1.mono hb0.size)
  have n8 := box_new w4 [.int .i64 rd, .slice (some ⟨gp, 0, none⟩) pl pc', .int .i64 ed, .int .i64 sz, .int .i64 cp, .int .i64 en, .slice (some ⟨g, 0, none⟩) fl cap] 26 (by simp)
  have hb5 : Below w4.heap.size w4 (w4.alloc (.cells #[.int .i64 rd, .slice (some ⟨gp, 0, none⟩) pl pc', .int .i64 ed, .int .i64 sz, .int .i64 cp, .int .i64 en, .slice (some ⟨g, 0, none⟩) fl cap] 26)) := (Below.refl _ _).alloc (Nat.le_refl _) _
  have hs7 : w4.heap.size + 1 ≤ (w4.alloc (.cells #[.int .i64 rd, .slice (some ⟨gp, 0, none⟩) pl pc', .int .i64 ed, .int .i64 sz, .int .i64 cp, .int .i64 en, .slice (some ⟨g, 0, none⟩) fl cap] 26)).heap.size := by simp
  have hM : TkMem w w4.heap.size [.int .i64 rd, .slice pa pl pc, .int .i64 ed, .int .i64 sz, .int .i64 cp, .int .i64 en, .slice fa fl fc] [.int .i64 (pk : Int), .int .i64 s, .int .i64 d, gs t, .int .i64 e] [.int .i64 0, .slice none 0 0, .int .i64 0, .int .i64 0, .int .i64 0, .int .i64 0, .slice none 0 0, .int .i64 0, .int .i64 0, .int .i64 0, .int .i64 0, gs [], .bool false, .int .i64 0] [.int .i64 rd, .slice (some ⟨gp, 0, none⟩) ps.length pc', .int .i64 ed, .int .i64 sz, .int .i64 cp, .int .i64 en, .slice (some ⟨g, 0, none⟩) fl cap] ps (some ⟨gp, 0, none⟩) pc' g fl n (w4.alloc (.cells #[.int .i64 rd, .slice (some ⟨gp, 0, none⟩) pl pc', .int .i64 ed, .int .i64 sz, .int .i64 cp, .int .i64 en, .slice (some ⟨g, 0, none⟩) fl cap] 26)) :=
    ⟨hs4, hb4.trans (hb5.mono hb4.size), by rw [hpl]; exact n8, (n1.below hb1).below hb5, (n2.below hb1).below hb5, (n3.below hb1).below hb5, by rw [hpl]; exact (hpo.below hb5).in', by rw [hpl]; exact own_base (cp_own_below hpw hb5) (by omega), fun b e => by have e := Option.some.inj e; dsimp only at e; omega, _, _, _, hfo.below hb5, fun b hb => ⟨by omega, by omega, by omega, fun e => by have e := Option.some.inj e; dsimp only at e; omega⟩⟩
  obtain ⟨c0, c1, c2, c3, c4, c5, c6⟩ := hM.one.seven
  obtain ⟨s0, s1, s2, s3, s4⟩ := hM.seg.five
  have HM := Lib.hid hM
  have hbw := World.block_lt_of_cell? _ _ s2
  dsimp only at hbw
  clear hM n1 n2 n3 n8 hb0 hb1 hb4 hb5 hs3 hs4 hs7 hpo hpw hfo hgp hgp2 H3
  have hlo : 0 ≤ max d rd ∧ max d rd ≤ 1000000 ∧ d ≤ max d rd := by omega
  have hhi : min (d + (t.length : Int)) ed ≤ 1000000 ∧ min (d + (t.length : Int)) ed ≤ d + (t.length : Int) ∧ -1 ≤ min (d + (t.length : Int)) ed := by omega
  generalize max d rd = lo at *
  generalize min (d + (t.length : Int)) ed = hi at *
  go_upto_if 27 with (first | go_quiet (first | (go_at_call 76; exact Calls.quiet_of_same (HMX.out _)) | (go_at_call 73; exact Calls.quiet_of_same (HMN.out _))) | fail)
  generalize w4.alloc (.cells #[.int .i64 rd, .slice (some ⟨gp, 0, none⟩) pl pc', .int .i64 ed, .int .i64 sz, .int .i64 cp, .int .i64 en, .slice (some ⟨g, 0, none⟩) fl cap] 26) = V at *
  go_cut [] (fun wx => ∃ a c, P.2 = 0 ∧ TkMem w w4.heap.size [.int .i64 rd, .slice pa pl pc, .int .i64 ed, .int .i64 sz, .int .i64 cp, .int .i64 en, .slice fa fl fc] [.int .i64 (pk : Int), .int .i64 s, .int .i64 d, gs t, .int .i64 e] [.int .i64 0, .slice none 0 0, .int .i64 0, .int .i64 0, .int .i64 0, .int .i64 0, .slice none 0 0, .int .i64 0, .int .i64 0, .int .i64 0, .int .i64 0, gs [], .bool false, .int .i64 0] [.int .i64 rd, .slice a P.1.length c, .int .i64 ed, .int .i64 sz, .int .i64 cp, .int .i64 en, .slice (some ⟨g, 0, none⟩) fl cap] P.1 a c g fl n wx)
  case first =>
    by_cases hlt : lo < hi
    · have hzero := True.intro
      have hp' := HP.out
      rw [if_pos hlt] at hp'
      have hBt : ((lo - d).toNat : Int) = lo - d := by omega
      have hNt : ((lo - d).toNat : Int) + ((hi - lo).toNat : Int) = hi - d := by omega
      have hsl := slice_text (P := Tryz.prog) Tryz.underlying9 t (lo - d).toNat (hi - lo).toNat (by omega)
      rw [hNt, hBt] at hsl
      have hxl : ((t.drop (lo - d).toNat).take (hi - lo).toNat).length ≤ 2000000 := by simp; omega
      have H5 := Lib.hid (fun W hb => H4.out W hb _ hxl)
      generalize (t.drop (lo - d).toNat).take (hi - lo).toNat = x at *
      rw [← hp'] at H5
      rw [← hp'] at HPF
      have hw1 : IntKind.i64.wrap (lo - d) = lo - d := IntWalk.i64_in _ (by omega)
      have hw2 : IntKind.i64.wrap (hi - d) = hi - d := IntWalk.i64_in _ (by omega)
      have hd27 : decide (lo < hi) = true := by simp; omega
      clear hBt hNt hp' H4 HP
      go_upto_region 4 with fail
      refine wp_region_held_drew (S := (fun V => V.cell? ⟨w.heap.size, 1, none⟩ = some (.slice pa pl pc) ∧ V.cell? ⟨w.heap.size + 1, 2, none⟩ = some (.int .i64 d) ∧ V.cell? ⟨w.heap.size + 1, 3, none⟩ = some (gs t))) (by kernel_rfl) (⟨c1, s2, s3⟩) (fun hHeld => ?_)
      refine wpAnyH_take (i := 0) (oi := _) (v := ?v1x0) rfl (by kernel_rfl) (by kernel_rfl) (by kernel_rfl) (fun _ _ _ h => h) (Or.inl ⟨by kernel_rfl, ?hy1x0⟩) (by with_reducible assumption) ?rest1x0
      case hy1x0 => (intro w hSw; (try dsimp only at hSw); go_simp; (try with_reducible rfl))
      (try simp only [Act.put, List.getElem_toArray, List.getElem_cons_zero, List.setIfInBounds_toArray, List.set_cons_succ, List.set_cons_zero])
      refine wpAnyH_take (i := 1) (oi := _) (v := ?v1x1) rfl (by kernel_rfl) (by kernel_rfl) (by kernel_rfl) (fun _ _ _ h => h) (Or.inl ⟨by kernel_rfl, ?hy1x1⟩) (by with_reducible assumption) ?rest1x1
      case hy1x1 => (intro w hSw; (try dsimp only at hSw); go_simp; (try with_reducible rfl))
      (try simp only [Act.put, List.getElem_toArray, List.getElem_cons_succ, List.getElem_cons_zero, List.setIfInBounds_toArray, List.set_cons_succ, List.set_cons_zero])
      refine wpAnyH_take (i := 2) (oi := _) (v := ?v1x2) rfl (by kernel_rfl) (by kernel_rfl) (by kernel_rfl) (fun _ _ _ h => h) (Or.inl ⟨by kernel_rfl, ?hy1x2⟩) (by with_reducible assumption) ?rest1x2
      case hy1x2 => (intro w hSw; (try dsimp only at hSw); go_simp; (try with_reducible rfl))
      (try simp only [Act.put, List.getElem_toArray, List.getElem_cons_succ, List.getElem_cons_zero, List.setIfInBounds_toArray, List.set_cons_succ, List.set_cons_zero])
      refine wpAnyH_take (i := 3) (oi := _) (v := ?v1x3) rfl (by kernel_rfl) (by kernel_rfl) (by kernel_rfl) (fun _ _ _ h => h) (Or.inl ⟨by kernel_rfl, ?hy1x3⟩) (by with_reducible assumption) ?rest1x3
      case hy1x3 => (intro w hSw; (try dsimp only at hSw); go_simp; (try with_reducible rfl))
      (try simp only [Act.put, List.getElem_toArray, List.getElem_cons_succ, List.getElem_cons_zero, List.setIfInBounds_toArray, List.set_cons_succ, List.set_cons_zero])
      refine wpAnyH_take (i := 4) (oi := _) (v := ?v1x4) rfl (by kernel_rfl) (by kernel_rfl) (by kernel_rfl) (fun _ _ _ h => h) (Or.inl ⟨by kernel_rfl, ?hy1x4⟩) (by with_reducible assumption) ?rest1x4
      case hy1x4 => (intro w hSw; (try dsimp only at hSw); go_simp; (try with_reducible rfl))
      (try simp only [Act.put, List.getElem_toArray, List.getElem_cons_succ, List.getElem_cons_zero, List.setIfInBounds_toArray, List.set_cons_succ, List.set_cons_zero])
      refine wpAnyH_take (i := 5) (oi := _) (v := ?v1x5) rfl (by kernel_rfl) (by kernel_rfl) (by kernel_rfl) (fun _ _ _ h => h) (Or.inl ⟨by kernel_rfl, ?hy1x5⟩) (by with_reducible assumption) ?rest1x5
      case hy1x5 => (intro w hSw; (try dsimp only at hSw); go_simp; (try with_reducible rfl))
      (try simp only [Act.put, List.getElem_toArray, List.getElem_cons_succ, List.getElem_cons_zero, List.setIfInBounds_toArray, List.set_cons_succ, List.set_cons_zero])
      refine wpAnyH_take (i := 6) (oi := _) (v := ?v1x6) rfl (by kernel_rfl) (by kernel_rfl) (by kernel_rfl) (fun _ _ _ h => h) (Or.inl ⟨by kernel_rfl, ?hy1x6⟩) (by with_reducible assumption) ?rest1x6
      case hy1x6 => (intro w hSw; (try dsimp only at hSw); go_simp; (try with_reducible rfl))
      (try simp only [Act.put, List.getElem_toArray, List.getElem_cons_succ, List.getElem_cons_zero, List.setIfInBounds_toArray, List.set_cons_succ, List.set_cons_zero])
      refine wpAnyH_take (i := 7) (oi := _) (v := ?v1x7) rfl (by kernel_rfl) (by kernel_rfl) (by kernel_rfl) (fun _ _ _ h => h) (Or.inl ⟨by kernel_rfl, ?hy1x7⟩) (by with_reducible assumption) ?rest1x7
      case hy1x7 => (intro w hSw; (try dsimp only at hSw); go_simp; (try with_reducible rfl))
      (try simp only [Act.put, List.getElem_toArray, List.getElem_cons_succ, List.getElem_cons_zero, List.setIfInBounds_toArray, List.set_cons_succ, List.set_cons_zero])
      refine wpAnyH_take (i := 8) (oi := _) (v := ?v1x8) rfl (by kernel_rfl) (by kernel_rfl) (by kernel_rfl) (fun _ _ _ h => h) (Or.inl ⟨by kernel_rfl, ?hy1x8⟩) (by with_reducible assumption) ?rest1x8
      case hy1x8 => (intro w hSw; (try dsimp only at hSw); go_simp; (try with_reducible rfl))
      (try simp only [Act.put, List.getElem_toArray, List.getElem_cons_succ, List.getElem_cons_zero, List.setIfInBounds_toArray, List.set_cons_succ, List.set_cons_zero])
      refine wpAnyH_take (i := 9) (oi := _) (v := ?v1x9) rfl (by kernel_rfl) (by kernel_rfl) (by kernel_rfl) (fun _ _ _ h => h) (Or.inl ⟨by kernel_rfl, ?hy1x9⟩) (by with_reducible assumption) ?rest1x9
      case hy1x9 => (intro w hSw; (try dsimp only at hSw); go_simp; (try with_reducible rfl))
      (try simp only [Act.put, List.getElem_toArray, List.getElem_cons_succ, List.getElem_cons_zero, List.setIfInBounds_toArray, List.set_cons_succ, List.set_cons_zero])
      refine wpAnyH_take (i := 10) (oi := _) (v := ?v1x10) rfl (by kernel_rfl) (by kernel_rfl) (by kernel_rfl) (fun _ _ _ h => h) (Or.inl ⟨by kernel_rfl, ?hy1x10⟩) (by with_reducible assumption) ?rest1x10
      case hy1x10 => (intro w hSw; (try dsimp only at hSw); go_simp; (try with_reducible rfl))
      (try simp only [Act.put, List.getElem_toArray, List.getElem_cons_succ, List.getElem_cons_zero, List.setIfInBounds_toArray, List.set_cons_succ, List.set_cons_zero])
      refine wpAnyH_take (i := 11) (oi := _) (v := ?v1x11) rfl (by kernel_rfl) (by kernel_rfl) (by kernel_rfl) (fun _ _ _ h => h) (Or.inl ⟨by kernel_rfl, ?hy1x11⟩) (by with_reducible assumption) ?rest1x11
      case hy1x11 => (intro w hSw; (try dsimp only at hSw); go_simp; (try with_reducible rfl))
      (try simp only [Act.put, List.getElem_toArray, List.getElem_cons_succ, List.getElem_cons_zero, List.setIfInBounds_toArray, List.set_cons_succ, List.set_cons_zero])
      refine wpAnyH_take (i := 12) (oi := _) (v := ?v1x12) rfl (by kernel_rfl) (by kernel_rfl) (by kernel_rfl) (fun _ _ _ h => h) (Or.inl ⟨by kernel_rfl, ?hy1x12⟩) (by with_reducible assumption) ?rest1x12
      case hy1x12 => (intro w hSw; (try dsimp only at hSw); go_simp; (try with_reducible rfl))
      (try simp only [Act.put, List.getElem_toArray, List.getElem_cons_succ, List.getElem_cons_zero, List.setIfInBounds_toArray, List.set_cons_succ, List.set_cons_zero])
      refine wpAnyH_take (i := 13) (oi := _) (v := ?v1x13) rfl (by kernel_rfl) (by kernel_rfl) (by kernel_rfl) (fun _ _ _ h => h) (Or.inl ⟨by kernel_rfl, ?hy1x13⟩) (by with_reducible assumption) ?rest1x13
      case hy1x13 => (intro w hSw; (try dsimp only at hSw); go_simp; (try with_reducible rfl))
      (try simp only [Act.put, List.getElem_toArray, List.getElem_cons_succ, List.getElem_cons_zero, List.setIfInBounds_toArray, List.set_cons_succ, List.set_cons_zero])
      have HMD := Lib.hid (HM.out.drewN (nq + 1))
      have hbd : w.heap.size + 1 < (V.drewN (nq + 1)).heap.size := hbw
      refine wpAnyH_ready (rs := [14, 15]) (by kernel_rfl) (by simp) (AllReadyH.cons (o := _) rfl (fun K hK => ?cA) (AllReadyH.cons (o := _) rfl (fun K hK => ?cB) AllReadyH.nil))
      case cA =>
        go_simp
        refine (H5.out _ HMD.out.below).mono ?_
        rintro e5 w5 ⟨v, rfl, hown, hb5⟩
        obtain ⟨pv, cv, rfl, hin⟩ := inPcs_row hown HPF.out.1 HPF.out.2
        have hM5 := HMD.out.pieces hb5 hin hown
        have n9 := box_new w5 [.slice none 0 0, .int .i64 0] 167 (by simp)
        have k0 := n9.cell 0 _ rfl
        have k1 := n9.cell 1 _ rfl
        have x0 := n9.free 0 (by simp)
        have x1 := n9.free 1 (by simp)
        have hb6 : Below w5.heap.size w5 (w5.alloc (.cells #[.slice none 0 0, .int .i64 0] 167)) := (Below.refl _ _).alloc (Nat.le_refl _) _
        have hbe : w.heap.size + 1 < w5.heap.size := by have := hb5.size; omega
        go_simp
        refine hK.out _ _ (keepC hb5 (by dsimp only; omega) hbd hbd hHeld) (fun hHeld2 => ?_)
        clear hHeld
        have hHeld := hHeld2
        clear hK K hHeld2
        (try simp only [Act.put, List.getElem_toArray, List.getElem_cons_succ, List.getElem_cons_zero, List.setIfInBounds_toArray, List.set_cons_succ, List.set_cons_zero])
        refine wpAnyH_ready (rs := [15]) (by kernel_rfl) (by simp) (AllReadyH.cons (o := _) rfl (fun K hK => ?_) AllReadyH.nil)
        go_simp
        have hHeld5 := hHeld
        refine hK.out _ _ (keepC hb6 (by dsimp only; omega) hbe hbe hHeld) (fun hHeld2 => ?_)
        clear hHeld
        have hHeld := hHeld2
        clear hK K hHeld2
        (try simp only [Act.put, List.getElem_toArray, List.getElem_cons_succ, List.getElem_cons_zero, List.setIfInBounds_toArray, List.set_cons_succ, List.set_cons_zero])
        refine wpAnyH_ready (rs := [16]) (by kernel_rfl) (by simp) (AllReadyH.cons (o := _) rfl (fun K hK => ?_) AllReadyH.nil)
        go_simp
        have hb7 : Below w5.heap.size w5 (w5.alloc (.cells #[.slice pv P.1.length cv, .int .i64 P.2] 167)) := (Below.refl _ _).alloc (Nat.le_refl _) _
        have n10 := box_new w5 [.slice pv P.1.length cv, .int .i64 P.2] 167 (by simp)
        have y0 := n10.cell 0 _ rfl
        have y1 := n10.cell 1 _ rfl
        have hMU := hM5.next hb7
        refine hK.out _ _ (keepC hb7 (by dsimp only; omega) hbe hbe hHeld5) (fun hHeld2 => ?_)
        (try simp only [Act.put, List.getElem_toArray, List.getElem_cons_succ, List.getElem_cons_zero, List.setIfInBounds_toArray, List.set_cons_succ, List.set_cons_zero])
        clear hb7 n10 hM5 hHeld5 hHeld2 hb6 n9 k0 k1 x0 x1 hb5
        refine wpAnyH_done (by kernel_rfl) ?_ _
        clear hK K hHeld c0 c1 c2 c3 c4 c5 c6 s0 s1 s2 s3 s4
        generalize w5.alloc (.cells #[.slice pv P.1.length cv, .int .i64 P.2] 167) = U at *
        have HMU := Lib.hid hMU
        clear hMU
        by_cases hco : P.2 = 0
        · rw [hco] at y1
          obtain ⟨d0, d1, d2, d3, d4, d5, d6⟩ := HMU.out.box.seven
          obtain ⟨z0, z1, z2, z3, z4, z5, z6⟩ := HMU.out.box.frz7
          have HMV := Lib.hid (HMU.out.set 1 (.slice pv P.1.length cv))
          go_wp2_with fail
          go_meet
          exact ⟨pv, cv, hco, HMV.out⟩
        · obtain ⟨⟨d0, d1, d2, d3, d4, d5, d6⟩, d7, d8, d9, da, db, dc, dd⟩ := HMU.out.two.fourteen
          obtain ⟨z0, z1, z2, z3, z4, z5, z6, z7, z8, z9, za, zb, zc, zd⟩ := HMU.out.two.frz14
          have hR := HR.out
          rw [if_pos hco] at hR
          go_wp2_with fail
          refine bodyPost_ret (v := rcvOutV 0 none 0 0 0 0 0 0 none 0 0 0 0 0 0 [] false 9) (by simp [rcvOutV, results, Tryz.results71, go_sem, *]) rfl ?_
          rw [hR]
          refine rcBad_sp ?_
          have hK := kept14 U (w.heap.size + 2) (.int .i64 0) (.slice none 0 0) (.int .i64 0) (.int .i64 0) (.int .i64 0) (.int .i64 0) (.slice none 0 0) (.int .i64 0) (.int .i64 0) (.int .i64 0) (.int .i64 0) (gs []) (.bool false) (.int .i64 9)
          exact HMU.out.below.trans (hK.toBelow HMU.out.below.size (fun b hb e => by omega))
      case cB =>
        have hb6 : Below (V.drewN (nq + 1)).heap.size (V.drewN (nq + 1)) ((V.drewN (nq + 1)).alloc (.cells #[.slice none 0 0, .int .i64 0] 167)) := (Below.refl _ _).alloc (Nat.le_refl _) _
        have hM4 := HMD.out.next hb6
        have n9 := box_new (V.drewN (nq + 1)) [.slice none 0 0, .int .i64 0] 167 (by simp)
        have hbe : w.heap.size + 1 < ((V.drewN (nq + 1)).alloc (.cells #[.slice none 0 0, .int .i64 0] 167)).heap.size := by have := hb6.size; omega
        have hlt9 : w4.heap.size < (V.drewN (nq + 1)).heap.size := HMD.out.box.lt
        go_simp
        refine hK.out _ _ (keepC hb6 (by dsimp only; omega) hbd hbd hHeld) (fun hHeld2 => ?_)
        clear hHeld
        have hHeld := hHeld2
        clear hK K hHeld2
        (try simp only [Act.put, List.getElem_toArray, List.getElem_cons_succ, List.getElem_cons_zero, List.setIfInBounds_toArray, List.set_cons_succ, List.set_cons_zero])
        refine wpAnyH_ready (rs := [14]) (by kernel_rfl) (by simp) (AllReadyH.cons (o := _) rfl (fun K hK => ?_) AllReadyH.nil)
        go_simp
        refine (H5.out _ hM4.below).mono ?_
        rintro e5 w5 ⟨v, rfl, hown, hb5⟩
        obtain ⟨pv, cv, rfl, hin⟩ := inPcs_row hown HPF.out.1 HPF.out.2
        have hM5 := hM4.pieces hb5 hin hown
        have n10 := n9.below hb5
        have k0 : w5.cell? ⟨V.heap.size, 0, none⟩ = some (.slice none 0 0) := n10.cell 0 _ rfl
        have k1 : w5.cell? ⟨V.heap.size, 1, none⟩ = some (.int .i64 0) := n10.cell 1 _ rfl
        have x0 : w5.frozen? ⟨V.heap.size, 0, none⟩ = false := n10.free 0 (by simp)
        have x1 : w5.frozen? ⟨V.heap.size, 1, none⟩ = false := n10.free 1 (by simp)
        go_simp
        refine hK.out _ _ (keepC hb5 (by dsimp only; omega) hbe hbe hHeld) (fun hHeld2 => ?_)
        clear hHeld
        have hHeld := hHeld2
        clear hK K hHeld2
        (try simp only [Act.put, List.getElem_toArray, List.getElem_cons_succ, List.getElem_cons_zero, List.setIfInBounds_toArray, List.set_cons_succ, List.set_cons_zero])
        refine wpAnyH_ready (rs := [16]) (by kernel_rfl) (by simp) (AllReadyH.cons (o := _) rfl (fun K hK => ?_) AllReadyH.nil)
        go_simp
        have hkk : Kept (fun b => b = V.heap.size) w5 ((w5.setCell ⟨V.heap.size, 0, none⟩ (.slice pv P.1.length cv)).setCell ⟨V.heap.size, 1, none⟩ (.int .i64 P.2)) := (kept_set (S := fun b => b = V.heap.size) w5 V.heap.size 0 _ rfl).trans (kept_set _ V.heap.size 1 _ rfl)
        have hn5 : ∀ b, LgB pv P.1.length b → V.heap.size + 1 ≤ b ∧ b < w5.heap.size := fun b hl => by obtain ⟨_, o, e⟩ := hl; have := hown.lt b (by rw [e]; rfl); simpa using this
        have hMU := HMD.out.pieces (V' := (w5.setCell ⟨V.heap.size, 0, none⟩ (.slice pv P.1.length cv)).setCell ⟨V.heap.size, 1, none⟩ (.int .i64 P.2)) (((hb6.trans (hb5.mono hb6.size)).setCell (Nat.le_refl _) _).setCell (Nat.le_refl _) _) (hin.blks (fun b hl hw => hkk.block b hw (by have := (hn5 b hl).1; omega))) (own_kept (own_base hown (by simp)) hkk (fun b e e' => by have := hown.lt b e; simp at this; omega))
        have n11 : Box ((w5.setCell ⟨V.heap.size, 0, none⟩ (.slice pv P.1.length cv)).setCell ⟨V.heap.size, 1, none⟩ (.int .i64 P.2)) V.heap.size _ := (Box.set (g := V.heap.size) n10 0 (.slice pv P.1.length cv)).set 1 (.int .i64 P.2)
        have y0 := n11.cell 0 _ rfl
        have y1 := n11.cell 1 _ rfl
        have hv1 : w.heap.size < V.heap.size := by have := hbw; omega
        have hv2 : w.heap.size + 1 < V.heap.size := hbw
        refine hK.out _ _ ⟨(World.cell?_setCell_other _ _ _ _ (fun e => by injection e with e _ _; omega)).trans ((World.cell?_setCell_other _ _ _ _ (fun e => by injection e with e _ _; omega)).trans hHeld.1), (World.cell?_setCell_other _ _ _ _ (fun e => by injection e with e _ _; omega)).trans ((World.cell?_setCell_other _ _ _ _ (fun e => by injection e with e _ _; omega)).trans hHeld.2.1), (World.cell?_setCell_other _ _ _ _ (fun e => by injection e with e _ _; omega)).trans ((World.cell?_setCell_other _ _ _ _ (fun e => by injection e with e _ _; omega)).trans hHeld.2.2)⟩ (fun hHeld2 => ?_)
        (try simp only [Act.put, List.getElem_toArray, List.getElem_cons_succ, List.getElem_cons_zero, List.setIfInBounds_toArray, List.set_cons_succ, List.set_cons_zero])
        clear hHeld2 hkk hn5 n11 n10 n9 hM5 hM4 hb6 hb5 k0 k1 x0 x1 hin hown
        refine wpAnyH_done (by kernel_rfl) ?_ _
        clear hK K hHeld c0 c1 c2 c3 c4 c5 c6 s0 s1 s2 s3 s4
        generalize (w5.setCell ⟨V.heap.size, 0, none⟩ (.slice pv P.1.length cv)).setCell ⟨V.heap.size, 1, none⟩ (.int .i64 P.2) = U at *
        have HMU := Lib.hid hMU
        clear hMU
        by_cases hco : P.2 = 0
        · rw [hco] at y1
          obtain ⟨d0, d1, d2, d3, d4, d5, d6⟩ := HMU.out.box.seven
          obtain ⟨z0, z1, z2, z3, z4, z5, z6⟩ := HMU.out.box.frz7
          have HMV := Lib.hid (HMU.out.set 1 (.slice pv P.1.length cv))
          go_wp2_with fail
          go_meet
          exact ⟨pv, cv, hco, HMV.out⟩
        · obtain ⟨⟨d0, d1, d2, d3, d4, d5, d6⟩, d7, d8, d9, da, db, dc, dd⟩ := HMU.out.two.fourteen
          obtain ⟨z0, z1, z2, z3, z4, z5, z6, z7, z8, z9, za, zb, zc, zd⟩ := HMU.out.two.frz14
          have hR := HR.out
          rw [if_pos hco] at hR
          go_wp2_with fail
          refine bodyPost_ret (v := rcvOutV 0 none 0 0 0 0 0 0 none 0 0 0 0 0 0 [] false 9) (by simp [rcvOutV, results, Tryz.results71, go_sem, *]) rfl ?_
          rw [hR]
          refine rcBad_sp ?_
          have hK := kept14 U (w.heap.size + 2) (.int .i64 0) (.slice none 0 0) (.int .i64 0) (.int .i64 0) (.int .i64 0) (.int .i64 0) (.slice none 0 0) (.int .i64 0) (.int .i64 0) (.int .i64 0) (.int .i64 0) (gs []) (.bool false) (.int .i64 9)
          exact HMU.out.below.trans (hK.toBelow HMU.out.below.size (fun b hb e => by omega))
    · have hzero := True.intro
      have hp' := HP.out
      rw [if_neg hlt] at hp'
      subst hp'
      have hd27 : decide (lo < hi) = false := by simp; omega
      go_wp2_with fail
      go_meet
      exact ⟨some ⟨gp, 0, none⟩, pc', by simp, HM.out.drewN _⟩
  case rest =>
    obtain ⟨a, c, hc, hM⟩ := hcut
    have hR := HR.out
    rw [if_neg (fun h => h hc)] at hR
    have hpr : right P.1 := by
      have hp' := HP.out
      split at hp'
      · rw [hp'] at hc ⊢; exact putR_right hc
      · rw [hp']; exact HOK.out.2.2.2.2.1
    have HPR := Lib.hid hpr
    clear hpr
    have HM2 := Lib.hid hM
    obtain ⟨d0, d1, d2, d3, d4, d5, d6⟩ := hM.box.seven
    obtain ⟨s0, s1, s2, s3, s4⟩ := hM.seg.five
    have HRR := Lib.hid hR
    clear HR hR hM HP H4 HM HMX HMN c0 c1 c2 c3 c4 c5 c6 hbw
    have htk : takeEn rd P.1 en e = if e ≠ -1 ∧ en = -1 ∧ lastN rd P.1 ≤ e then e else en := rfl
    generalize takeEn rd P.1 en e = EN at *
    have HTK := Lib.hid htk
    clear htk
    go_upto_region 8 with fail
    go_cut [64] (fun v wx => v = .bool (decide (e ≠ -1 ∧ en = -1 ∧ lastN rd P.1 ≤ e)) ∧ TkMem w w4.heap.size [.int .i64 rd, .slice pa pl pc, .int .i64 ed, .int .i64 sz, .int .i64 cp, .int .i64 en, .slice fa fl fc] [.int .i64 (pk : Int), .int .i64 s, .int .i64 d, gs t, .int .i64 e] [.int .i64 0, .slice none 0 0, .int .i64 0, .int .i64 0, .int .i64 0, .int .i64 0, .slice none 0 0, .int .i64 0, .int .i64 0, .int .i64 0, .int .i64 0, gs [], .bool false, .int .i64 0] [.int .i64 rd, .slice a P.1.length c, .int .i64 ed, .int .i64 sz, .int .i64 cp, .int .i64 en, .slice (some ⟨g, 0, none⟩) fl cap] P.1 a c g fl n wx)
    case first =>
      have hdec : decide (e ≠ -1 ∧ en = -1 ∧ lastN rd P.1 ≤ e) = ((e != -1) && ((en == -1) && decide (lastN rd P.1 ≤ e))) := by
        rw [Bool.eq_iff_iff]; simp
      have HDEC := Lib.hid hdec
      clear hdec
      have HLA := Lib.hid (fun (V : World) (hb : Below wc.heap.size wc V) => lastS_calls (rd := rd) (ed := ed) (sz := sz) (cp := cp) (en := en) (pc := c) (fa := some ⟨g, 0, none⟩) (fl := fl) (fc := cap) (HM2.out.pcs.below hb) HPR.out)
      unfold rcvV at HLA
      cases hd1 : (e != -1) with
      | false =>
        clear HLA
        refine wp_region_held_drew (S := (fun V => Below wc.heap.size wc V ∧ V.cell? ⟨w.heap.size + 1, 4, none⟩ = some (.int .i64 e) ∧ V.cell? ⟨w4.heap.size, 0, none⟩ = some (.int .i64 rd) ∧ V.cell? ⟨w4.heap.size, 1, none⟩ = some (.slice a P.1.length c) ∧ V.cell? ⟨w4.heap.size, 2, none⟩ = some (.int .i64 ed) ∧ V.cell? ⟨w4.heap.size, 3, none⟩ = some (.int .i64 sz) ∧ V.cell? ⟨w4.heap.size, 4, none⟩ = some (.int .i64 cp) ∧ V.cell? ⟨w4.heap.size, 5, none⟩ = some (.int .i64 en) ∧ V.cell? ⟨w4.heap.size, 6, none⟩ = some (.slice (some ⟨g, 0, none⟩) fl cap))) (by kernel_rfl) (⟨(Below.refl _ _).drew, s4, d0, d1, d2, d3, d4, d5, d6⟩) (fun hHeld => ?_)
        refine wpAnyH_take (i := 0) (oi := _) (v := ?v41x0) rfl (by kernel_rfl) (by kernel_rfl) (by kernel_rfl) (fun _ _ _ h => h) (Or.inl ⟨by kernel_rfl, ?hy41x0⟩) (by with_reducible assumption) ?rest41x0
        case hy41x0 => (intro w hSw; (try dsimp only at hSw); go_simp; (try with_reducible rfl))
        (try simp only [Act.put, List.getElem_toArray, List.getElem_cons_zero, List.setIfInBounds_toArray, List.set_cons_succ, List.set_cons_zero])
        refine wpAnyH_take (i := 1) (oi := _) (v := ?v41x1) rfl (by kernel_rfl) (by kernel_rfl) (by kernel_rfl) (fun _ _ _ h => h) (Or.inl ⟨by kernel_rfl, ?hy41x1⟩) (by with_reducible assumption) ?rest41x1
        case hy41x1 => (intro w hSw; (try dsimp only at hSw); go_simp; (try with_reducible rfl))
        (try simp only [Act.put, List.getElem_toArray, List.getElem_cons_succ, List.getElem_cons_zero, List.setIfInBounds_toArray, List.set_cons_succ, List.set_cons_zero])
        refine wpAnyH_take (i := 2) (oi := _) (v := ?v41x2) rfl (by kernel_rfl) (by kernel_rfl) (by kernel_rfl) (fun _ _ _ h => h) (Or.inl ⟨by kernel_rfl, ?hy41x2⟩) (by with_reducible assumption) ?rest41x2
        case hy41x2 => (intro w hSw; (try dsimp only at hSw); go_simp; (try with_reducible rfl))
        (try simp only [Act.put, List.getElem_toArray, List.getElem_cons_succ, List.getElem_cons_zero, List.setIfInBounds_toArray, List.set_cons_succ, List.set_cons_zero])
        refine wpAnyH_take (i := 3) (oi := _) (v := ?v41x3) rfl (by kernel_rfl) (by kernel_rfl) (by kernel_rfl) (fun _ _ _ h => h) (Or.inl ⟨by kernel_rfl, ?hy41x3⟩) (by with_reducible assumption) ?rest41x3
        case hy41x3 => (intro w hSw; (try dsimp only at hSw); go_simp; (try with_reducible rfl))
        (try simp only [Act.put, List.getElem_toArray, List.getElem_cons_succ, List.getElem_cons_zero, List.setIfInBounds_toArray, List.set_cons_succ, List.set_cons_zero])
        refine wpAnyH_take (i := 4) (oi := _) (v := undef) rfl (by kernel_rfl) (by kernel_rfl) (by kernel_rfl) (fun _ _ _ h => h) (Or.inr ⟨by kernel_rfl, rfl⟩) (by with_reducible assumption) ?rest41x4
        (try simp only [Act.put, List.getElem_toArray, List.getElem_cons_succ, List.getElem_cons_zero, List.setIfInBounds_toArray, List.set_cons_succ, List.set_cons_zero])
        refine wpAnyH_take (i := 5) (oi := _) (v := undef) rfl (by kernel_rfl) (by kernel_rfl) (by kernel_rfl) (fun _ _ _ h => h) (Or.inr ⟨by kernel_rfl, rfl⟩) (by with_reducible assumption) ?rest41x5
        (try simp only [Act.put, List.getElem_toArray, List.getElem_cons_succ, List.getElem_cons_zero, List.setIfInBounds_toArray, List.set_cons_succ, List.set_cons_zero])
        refine wpAnyH_take (i := 6) (oi := _) (v := undef) rfl (by kernel_rfl) (by kernel_rfl) (by kernel_rfl) (fun _ _ _ h => h) (Or.inr ⟨by kernel_rfl, rfl⟩) (by with_reducible assumption) ?rest41x6
        (try simp only [Act.put, List.getElem_toArray, List.getElem_cons_succ, List.getElem_cons_zero, List.setIfInBounds_toArray, List.set_cons_succ, List.set_cons_zero])
        refine wpAnyH_take (i := 7) (oi := _) (v := ?v41x7) rfl (by kernel_rfl) (by kernel_rfl) (by kernel_rfl) (fun _ _ _ h => h) (Or.inl ⟨by kernel_rfl, ?hy41x7⟩) (by with_reducible assumption) ?rest41x7
        case hy41x7 => (intro w hSw; (try dsimp only at hSw); go_simp; (try with_reducible rfl))
        (try simp only [Act.put, List.getElem_toArray, List.getElem_cons_succ, List.getElem_cons_zero, List.setIfInBounds_toArray, List.set_cons_succ, List.set_cons_zero])
        refine wpAnyH_take (i := 8) (oi := _) (v := ?v41x8) rfl (by kernel_rfl) (by kernel_rfl) (by kernel_rfl) (fun _ _ _ h => h) (Or.inl ⟨by kernel_rfl, ?hy41x8⟩) (by with_reducible assumption) ?rest41x8
        case hy41x8 => (intro w hSw; (try dsimp only at hSw); go_simp; (try with_reducible rfl))
        (try simp only [Act.put, List.getElem_toArray, List.getElem_cons_succ, List.getElem_cons_zero, List.setIfInBounds_toArray, List.set_cons_succ, List.set_cons_zero])
        refine wpAnyH_take (i := 9) (oi := _) (v := undef) rfl (by kernel_rfl) (by kernel_rfl) (by kernel_rfl) (fun _ _ _ h => h) (Or.inr ⟨by kernel_rfl, rfl⟩) (by with_reducible assumption) ?rest41x9
        (try simp only [Act.put, List.getElem_toArray, List.getElem_cons_succ, List.getElem_cons_zero, List.setIfInBounds_toArray, List.set_cons_succ, List.set_cons_zero])
        refine wpAnyH_take (i := 10) (oi := _) (v := undef) rfl (by kernel_rfl) (by kernel_rfl) (by kernel_rfl) (fun _ _ _ h => h) (Or.inr ⟨by kernel_rfl, rfl⟩) (by with_reducible assumption) ?rest41x10
        (try simp only [Act.put, List.getElem_toArray, List.getElem_cons_succ, List.getElem_cons_zero, List.setIfInBounds_toArray, List.set_cons_succ, List.set_cons_zero])
        refine wpAnyH_take (i := 11) (oi := _) (v := undef) rfl (by kernel_rfl) (by kernel_rfl) (by kernel_rfl) (fun _ _ _ h => h) (Or.inr ⟨by kernel_rfl, rfl⟩) (by with_reducible assumption) ?rest41x11
        (try simp only [Act.put, List.getElem_toArray, List.getElem_cons_succ, List.getElem_cons_zero, List.setIfInBounds_toArray, List.set_cons_succ, List.set_cons_zero])
        refine wpAnyH_take (i := 12) (oi := _) (v := undef) rfl (by kernel_rfl) (by kernel_rfl) (by kernel_rfl) (fun _ _ _ h => h) (Or.inr ⟨by kernel_rfl, rfl⟩) (by with_reducible assumption) ?rest41x12
        (try simp only [Act.put, List.getElem_toArray, List.getElem_cons_succ, List.getElem_cons_zero, List.setIfInBounds_toArray, List.set_cons_succ, List.set_cons_zero])
        refine wpAnyH_take (i := 13) (oi := _) (v := undef) rfl (by kernel_rfl) (by kernel_rfl) (by kernel_rfl) (fun _ _ _ h => h) (Or.inr ⟨by kernel_rfl, rfl⟩) (by with_reducible assumption) ?rest41x13
        (try simp only [Act.put, List.getElem_toArray, List.getElem_cons_succ, List.getElem_cons_zero, List.setIfInBounds_toArray, List.set_cons_succ, List.set_cons_zero])
        refine wpAnyH_take (i := 14) (oi := _) (v := ?v41x14) rfl (by kernel_rfl) (by kernel_rfl) (by kernel_rfl) (fun _ _ _ h => h) (Or.inl ⟨by kernel_rfl, ?hy41x14⟩) (by with_reducible assumption) ?rest41x14
        case hy41x14 => (intro w hSw; (try dsimp only at hSw); go_simp; (try with_reducible rfl))
        (try simp only [Act.put, List.getElem_toArray, List.getElem_cons_succ, List.getElem_cons_zero, List.setIfInBounds_toArray, List.set_cons_succ, List.set_cons_zero])
        refine wpAnyH_done (by kernel_rfl) ?_ _
        clear hHeld
        go_wp2_with fail
        go_meet
        exact ⟨by rw [HDEC.out, hd1]; simp, HM2.out.drewN _⟩
      | true =>
        cases hd2 : (en == -1) with
        | false =>
          clear HLA
          refine wp_region_held_drew (S := (fun V => Below wc.heap.size wc V ∧ V.cell? ⟨w.heap.size + 1, 4, none⟩ = some (.int .i64 e) ∧ V.cell? ⟨w4.heap.size, 0, none⟩ = some (.int .i64 rd) ∧ V.cell? ⟨w4.heap.size, 1, none⟩ = some (.slice a P.1.length c) ∧ V.cell? ⟨w4.heap.size, 2, none⟩ = some (.int .i64 ed) ∧ V.cell? ⟨w4.heap.size, 3, none⟩ = some (.int .i64 sz) ∧ V.cell? ⟨w4.heap.size, 4, none⟩ = some (.int .i64 cp) ∧ V.cell? ⟨w4.heap.size, 5, none⟩ = some (.int .i64 en) ∧ V.cell? ⟨w4.heap.size, 6, none⟩ = some (.slice (some ⟨g, 0, none⟩) fl cap))) (by kernel_rfl) (⟨(Below.refl _ _).drew, s4, d0, d1, d2, d3, d4, d5, d6⟩) (fun hHeld => ?_)
          refine wpAnyH_take (i := 0) (oi := _) (v := ?v42x0) rfl (by kernel_rfl) (by kernel_rfl) (by kernel_rfl) (fun _ _ _ h => h) (Or.inl ⟨by kernel_rfl, ?hy42x0⟩) (by with_reducible assumption) ?rest42x0
          case hy42x0 => (intro w hSw; (try dsimp only at hSw); go_simp; (try with_reducible rfl))
          (try simp only [Act.put, List.getElem_toArray, List.getElem_cons_zero, List.setIfInBounds_toArray, List.set_cons_succ, List.set_cons_zero])
          refine wpAnyH_take (i := 1) (oi := _) (v := ?v42x1) rfl (by kernel_rfl) (by kernel_rfl) (by kernel_rfl) (fun _ _ _ h => h) (Or.inl ⟨by kernel_rfl, ?hy42x1⟩) (by with_reducible assumption) ?rest42x1
          case hy42x1 => (intro w hSw; (try dsimp only at hSw); go_simp; (try with_reducible rfl))
          (try simp only [Act.put, List.getElem_toArray, List.getElem_cons_succ, List.getElem_cons_zero, List.setIfInBounds_toArray, List.set_cons_succ, List.set_cons_zero])
          refine wpAnyH_take (i := 2) (oi := _) (v := ?v42x2) rfl (by kernel_rfl) (by kernel_rfl) (by kernel_rfl) (fun _ _ _ h => h) (Or.inl ⟨by kernel_rfl, ?hy42x2⟩) (by with_reducible assumption) ?rest42x2
          case hy42x2 => (intro w hSw; (try dsimp only at hSw); go_simp; (try with_reducible rfl))
          (try simp only [Act.put, List.getElem_toArray, List.getElem_cons_succ, List.getElem_cons_zero, List.setIfInBounds_toArray, List.set_cons_succ, List.set_cons_zero])
          refine wpAnyH_take (i := 3) (oi := _) (v := ?v42x3) rfl (by kernel_rfl) (by kernel_rfl) (by kernel_rfl) (fun _ _ _ h => h) (Or.inl ⟨by kernel_rfl, ?hy42x3⟩) (by with_reducible assumption) ?rest42x3
          case hy42x3 => (intro w hSw; (try dsimp only at hSw); go_simp; (try with_reducible rfl))
          (try simp only [Act.put, List.getElem_toArray, List.getElem_cons_succ, List.getElem_cons_zero, List.setIfInBounds_toArray, List.set_cons_succ, List.set_cons_zero])
          refine wpAnyH_take (i := 4) (oi := _) (v := ?v42x4) rfl (by kernel_rfl) (by kernel_rfl) (by kernel_rfl) (fun _ _ _ h => h) (Or.inl ⟨by kernel_rfl, ?hy42x4⟩) (by with_reducible assumption) ?rest42x4
          case hy42x4 => (intro w hSw; (try dsimp only at hSw); go_simp; (try with_reducible rfl))
          (try simp only [Act.put, List.getElem_toArray, List.getElem_cons_succ, List.getElem_cons_zero, List.setIfInBounds_toArray, List.set_cons_succ, List.set_cons_zero])
          refine wpAnyH_take (i := 5) (oi := _) (v := ?v42x5) rfl (by kernel_rfl) (by kernel_rfl) (by kernel_rfl) (fun _ _ _ h => h) (Or.inl ⟨by kernel_rfl, ?hy42x5⟩) (by with_reducible assumption) ?rest42x5
          case hy42x5 => (intro w hSw; (try dsimp only at hSw); go_simp; (try with_reducible rfl))
          (try simp only [Act.put, List.getElem_toArray, List.getElem_cons_succ, List.getElem_cons_zero, List.setIfInBounds_toArray, List.set_cons_succ, List.set_cons_zero])
          refine wpAnyH_take (i := 6) (oi := _) (v := ?v42x6) rfl (by kernel_rfl) (by kernel_rfl) (by kernel_rfl) (fun _ _ _ h => h) (Or.inl ⟨by kernel_rfl, ?hy42x6⟩) (by with_reducible assumption) ?rest42x6
          case hy42x6 => (intro w hSw; (try dsimp only at hSw); go_simp; (try with_reducible rfl))
          (try simp only [Act.put, List.getElem_toArray, List.getElem_cons_succ, List.getElem_cons_zero, List.setIfInBounds_toArray, List.set_cons_succ, List.set_cons_zero])
          refine wpAnyH_take (i := 7) (oi := _) (v := ?v42x7) rfl (by kernel_rfl) (by kernel_rfl) (by kernel_rfl) (fun _ _ _ h => h) (Or.inl ⟨by kernel_rfl, ?hy42x7⟩) (by with_reducible assumption) ?rest42x7
          case hy42x7 => (intro w hSw; (try dsimp only at hSw); go_simp; (try with_reducible rfl))
          (try simp only [Act.put, List.getElem_toArray, List.getElem_cons_succ, List.getElem_cons_zero, List.setIfInBounds_toArray, List.set_cons_succ, List.set_cons_zero])
          refine wpAnyH_take (i := 8) (oi := _) (v := ?v42x8) rfl (by kernel_rfl) (by kernel_rfl) (by kernel_rfl) (fun _ _ _ h => h) (Or.inl ⟨by kernel_rfl, ?hy42x8⟩) (by with_reducible assumption) ?rest42x8
          case hy42x8 => (intro w hSw; (try dsimp only at hSw); go_simp; (try with_reducible rfl))
          (try simp only [Act.put, List.getElem_toArray, List.getElem_cons_succ, List.getElem_cons_zero, List.setIfInBounds_toArray, List.set_cons_succ, List.set_cons_zero])
          refine wpAnyH_take (i := 9) (oi := _) (v := undef) rfl (by kernel_rfl) (by kernel_rfl) (by kernel_rfl) (fun _ _ _ h => h) (Or.inr ⟨by kernel_rfl, rfl⟩) (by with_reducible assumption) ?rest42x9
          (try simp only [Act.put, List.getElem_toArray, List.getElem_cons_succ, List.getElem_cons_zero, List.setIfInBounds_toArray, List.set_cons_succ, List.set_cons_zero])
          refine wpAnyH_take (i := 10) (oi := _) (v := undef) rfl (by kernel_rfl) (by kernel_rfl) (by kernel_rfl) (fun _ _ _ h => h) (Or.inr ⟨by kernel_rfl, rfl⟩) (by with_reducible assumption) ?rest42x10
          (try simp only [Act.put, List.getElem_toArray, List.getElem_cons_succ, List.getElem_cons_zero, List.setIfInBounds_toArray, List.set_cons_succ, List.set_cons_zero])
          refine wpAnyH_take (i := 11) (oi := _) (v := undef) rfl (by kernel_rfl) (by kernel_rfl) (by kernel_rfl) (fun _ _ _ h => h) (Or.inr ⟨by kernel_rfl, rfl⟩) (by with_reducible assumption) ?rest42x11
          (try simp only [Act.put, List.getElem_toArray, List.getElem_cons_succ, List.getElem_cons_zero, List.setIfInBounds_toArray, List.set_cons_succ, List.set_cons_zero])
          refine wpAnyH_take (i := 12) (oi := _) (v := undef) rfl (by kernel_rfl) (by kernel_rfl) (by kernel_rfl) (fun _ _ _ h => h) (Or.inr ⟨by kernel_rfl, rfl⟩) (by with_reducible assumption) ?rest42x12
          (try simp only [Act.put, List.getElem_toArray, List.getElem_cons_succ, List.getElem_cons_zero, List.setIfInBounds_toArray, List.set_cons_succ, List.set_cons_zero])
          refine wpAnyH_take (i := 13) (oi := _) (v := undef) rfl (by kernel_rfl) (by kernel_rfl) (by kernel_rfl) (fun _ _ _ h => h) (Or.inr ⟨by kernel_rfl, rfl⟩) (by with_reducible assumption) ?rest42x13
          (try simp only [Act.put, List.getElem_toArray, List.getElem_cons_succ, List.getElem_cons_zero, List.setIfInBounds_toArray, List.set_cons_succ, List.set_cons_zero])
          refine wpAnyH_take (i := 14) (oi := _) (v := ?v42x14) rfl (by kernel_rfl) (by kernel_rfl) (by kernel_rfl) (fun _ _ _ h => h) (Or.inl ⟨by kernel_rfl, ?hy42x14⟩) (by with_reducible assumption) ?rest42x14
          case hy42x14 => (intro w hSw; (try dsimp only at hSw); go_simp; (try with_reducible rfl))
          (try simp only [Act.put, List.getElem_toArray, List.getElem_cons_succ, List.getElem_cons_zero, List.setIfInBounds_toArray, List.set_cons_succ, List.set_cons_zero])
          refine wpAnyH_done (by kernel_rfl) ?_ _
          clear hHeld
          go_wp2_with fail
          go_meet
          exact ⟨by rw [HDEC.out, hd1, hd2]; simp, HM2.out.drewN _⟩
        | true =>
          generalize lastN rd P.1 = LN at *
          refine wp_region_held_drew (S := (fun V => Below wc.heap.size wc V ∧ V.cell? ⟨w.heap.size + 1, 4, none⟩ = some (.int .i64 e) ∧ V.cell? ⟨w4.heap.size, 0, none⟩ = some (.int .i64 rd) ∧ V.cell? ⟨w4.heap.size, 1, none⟩ = some (.slice a P.1.length c) ∧ V.cell? ⟨w4.heap.size, 2, none⟩ = some (.int .i64 ed) ∧ V.cell? ⟨w4.heap.size, 3, none⟩ = some (.int .i64 sz) ∧ V.cell? ⟨w4.heap.size, 4, none⟩ = some (.int .i64 cp) ∧ V.cell? ⟨w4.heap.size, 5, none⟩ = some (.int .i64 en) ∧ V.cell? ⟨w4.heap.size, 6, none⟩ = some (.slice (some ⟨g, 0, none⟩) fl cap))) (by kernel_rfl) (⟨(Below.refl _ _).drew, s4, d0, d1, d2, d3, d4, d5, d6⟩) (fun hHeld => ?_)
          refine wpAnyH_take (i := 0) (oi := _) (v := ?v43x0) rfl (by kernel_rfl) (by kernel_rfl) (by kernel_rfl) (fun _ _ _ h => h) (Or.inl ⟨by kernel_rfl, ?hy43x0⟩) (by with_reducible assumption) ?rest43x0
          case hy43x0 => (intro w hSw; (try dsimp only at hSw); go_simp; (try with_reducible rfl))
          (try simp only [Act.put, List.getElem_toArray, List.getElem_cons_zero, List.setIfInBounds_toArray, List.set_cons_succ, List.set_cons_zero])
          refine wpAnyH_take (i := 1) (oi := _) (v := ?v43x1) rfl (by kernel_rfl) (by kernel_rfl) (by kernel_rfl) (fun _ _ _ h => h) (Or.inl ⟨by kernel_rfl, ?hy43x1⟩) (by with_reducible assumption) ?rest43x1
          case hy43x1 => (intro w hSw; (try dsimp only at hSw); go_simp; (try with_reducible rfl))
          (try simp only [Act.put, List.getElem_toArray, List.getElem_cons_succ, List.getElem_cons_zero, List.setIfInBounds_toArray, List.set_cons_succ, List.set_cons_zero])
          refine wpAnyH_take (i := 2) (oi := _) (v := ?v43x2) rfl (by kernel_rfl) (by kernel_rfl) (by kernel_rfl) (fun _ _ _ h => h) (Or.inl ⟨by kernel_rfl, ?hy43x2⟩) (by with_reducible assumption) ?rest43x2
          case hy43x2 => (intro w hSw; (try dsimp only at hSw); go_simp; (try with_reducible rfl))
          (try simp only [Act.put, List.getElem_toArray, List.getElem_cons_succ, List.getElem_cons_zero, List.setIfInBounds_toArray, List.set_cons_succ, List.set_cons_zero])
          refine wpAnyH_take (i := 3) (oi := _) (v := ?v43x3) rfl (by kernel_rfl) (by kernel_rfl) (by kernel_rfl) (fun _ _ _ h => h) (Or.inl ⟨by kernel_rfl, ?hy43x3⟩) (by with_reducible assumption) ?rest43x3
          case hy43x3 => (intro w hSw; (try dsimp only at hSw); go_simp; (try with_reducible rfl))
          (try simp only [Act.put, List.getElem_toArray, List.getElem_cons_succ, List.getElem_cons_zero, List.setIfInBounds_toArray, List.set_cons_succ, List.set_cons_zero])
          refine wpAnyH_take (i := 4) (oi := _) (v := ?v43x4) rfl (by kernel_rfl) (by kernel_rfl) (by kernel_rfl) (fun _ _ _ h => h) (Or.inl ⟨by kernel_rfl, ?hy43x4⟩) (by with_reducible assumption) ?rest43x4
          case hy43x4 => (intro w hSw; (try dsimp only at hSw); go_simp; (try with_reducible rfl))
          (try simp only [Act.put, List.getElem_toArray, List.getElem_cons_succ, List.getElem_cons_zero, List.setIfInBounds_toArray, List.set_cons_succ, List.set_cons_zero])
          refine wpAnyH_take (i := 5) (oi := _) (v := ?v43x5) rfl (by kernel_rfl) (by kernel_rfl) (by kernel_rfl) (fun _ _ _ h => h) (Or.inl ⟨by kernel_rfl, ?hy43x5⟩) (by with_reducible assumption) ?rest43x5
          case hy43x5 => (intro w hSw; (try dsimp only at hSw); go_simp; (try with_reducible rfl))
          (try simp only [Act.put, List.getElem_toArray, List.getElem_cons_succ, List.getElem_cons_zero, List.setIfInBounds_toArray, List.set_cons_succ, List.set_cons_zero])
          refine wpAnyH_take (i := 6) (oi := _) (v := ?v43x6) rfl (by kernel_rfl) (by kernel_rfl) (by kernel_rfl) (fun _ _ _ h => h) (Or.inl ⟨by kernel_rfl, ?hy43x6⟩) (by with_reducible assumption) ?rest43x6
          case hy43x6 => (intro w hSw; (try dsimp only at hSw); go_simp; (try with_reducible rfl))
          (try simp only [Act.put, List.getElem_toArray, List.getElem_cons_succ, List.getElem_cons_zero, List.setIfInBounds_toArray, List.set_cons_succ, List.set_cons_zero])
          refine wpAnyH_take (i := 7) (oi := _) (v := ?v43x7) rfl (by kernel_rfl) (by kernel_rfl) (by kernel_rfl) (fun _ _ _ h => h) (Or.inl ⟨by kernel_rfl, ?hy43x7⟩) (by with_reducible assumption) ?rest43x7
          case hy43x7 => (intro w hSw; (try dsimp only at hSw); go_simp; (try with_reducible rfl))
          (try simp only [Act.put, List.getElem_toArray, List.getElem_cons_succ, List.getElem_cons_zero, List.setIfInBounds_toArray, List.set_cons_succ, List.set_cons_zero])
          refine wpAnyH_take (i := 8) (oi := _) (v := ?v43x8) rfl (by kernel_rfl) (by kernel_rfl) (by kernel_rfl) (fun _ _ _ h => h) (Or.inl ⟨by kernel_rfl, ?hy43x8⟩) (by with_reducible assumption) ?rest43x8
          case hy43x8 => (intro w hSw; (try dsimp only at hSw); go_simp; (try with_reducible rfl))
          (try simp only [Act.put, List.getElem_toArray, List.getElem_cons_succ, List.getElem_cons_zero, List.setIfInBounds_toArray, List.set_cons_succ, List.set_cons_zero])
          refine wpAnyH_take (i := 9) (oi := _) (v := ?v43x9) rfl (by kernel_rfl) (by kernel_rfl) (by kernel_rfl) (fun _ _ _ h => h) (Or.inl ⟨by kernel_rfl, ?hy43x9⟩) (by with_reducible assumption) ?rest43x9
          case hy43x9 => (intro w hSw; (try dsimp only at hSw); go_simp; (try with_reducible rfl))
          (try simp only [Act.put, List.getElem_toArray, List.getElem_cons_succ, List.getElem_cons_zero, List.setIfInBounds_toArray, List.set_cons_succ, List.set_cons_zero])
          refine wpAnyH_take (i := 10) (oi := _) (v := ?v43x10) rfl (by kernel_rfl) (by kernel_rfl) (by kernel_rfl) (fun _ _ _ h => h) (Or.inl ⟨by kernel_rfl, ?hy43x10⟩) (by with_reducible assumption) ?rest43x10
          case hy43x10 => (intro w hSw; (try dsimp only at hSw); go_simp; (try with_reducible rfl))
          (try simp only [Act.put, List.getElem_toArray, List.getElem_cons_succ, List.getElem_cons_zero, List.setIfInBounds_toArray, List.set_cons_succ, List.set_cons_zero])
          refine wpAnyH_take (i := 11) (oi := _) (v := ?v43x11) rfl (by kernel_rfl) (by kernel_rfl) (by kernel_rfl) (fun _ _ _ h => h) (Or.inl ⟨by kernel_rfl, ?hy43x11⟩) (by with_reducible assumption) ?rest43x11
          case hy43x11 => (intro w hSw; (try dsimp only at hSw); go_simp; (try with_reducible rfl))
          (try simp only [Act.put, List.getElem_toArray, List.getElem_cons_succ, List.getElem_cons_zero, List.setIfInBounds_toArray, List.set_cons_succ, List.set_cons_zero])
          refine wpAnyH_ready (rs := [12]) (by kernel_rfl) (by simp) (AllReadyH.cons (o := _) rfl (fun K hK => ?c43x12) AllReadyH.nil)
          go_simp
          refine (HLA.out _ hHeld.1).mono ?_
          rintro e9 w9 ⟨rfl, hb9⟩
          go_simp
          refine hK.out _ _ (keepR8 hb9 hHeld) (fun hHeld2 => ?_)
          clear hHeld
          have hHeld := hHeld2
          clear hK K hHeld2
          (try simp only [Act.put, List.getElem_toArray, List.getElem_cons_succ, List.getElem_cons_zero, List.setIfInBounds_toArray, List.set_cons_succ, List.set_cons_zero])
          refine wpAnyH_take (i := 13) (oi := _) (v := ?v43x13) rfl (by kernel_rfl) (by kernel_rfl) (by kernel_rfl) (fun _ _ _ h => h) (Or.inl ⟨by kernel_rfl, ?hy43x13⟩) (by with_reducible assumption) ?rest43x13
          case hy43x13 => (intro w hSw; (try dsimp only at hSw); go_simp; (try with_reducible rfl))
          (try simp only [Act.put, List.getElem_toArray, List.getElem_cons_succ, List.getElem_cons_zero, List.setIfInBounds_toArray, List.set_cons_succ, List.set_cons_zero])
          refine wpAnyH_take (i := 14) (oi := _) (v := ?v43x14) rfl (by kernel_rfl) (by kernel_rfl) (by kernel_rfl) (fun _ _ _ h => h) (Or.inl ⟨by kernel_rfl, ?hy43x14⟩) (by with_reducible assumption) ?rest43x14
          case hy43x14 => (intro w hSw; (try dsimp only at hSw); go_simp; (try with_reducible rfl))
          (try simp only [Act.put, List.getElem_toArray, List.getElem_cons_succ, List.getElem_cons_zero, List.setIfInBounds_toArray, List.set_cons_succ, List.set_cons_zero])
          refine wpAnyH_done (by kernel_rfl) ?_ _
          have HFI := Lib.hid hHeld.1
          clear hHeld
          go_wp2_with fail
          go_meet
          exact ⟨by rw [HDEC.out, hd1, hd2]; simp, HM2.out.next HFI.out⟩
    case rest =>
      obtain ⟨hv, hM⟩ := hcut
      have HM3 := Lib.hid hM
      clear hM HM2 d0 d1 d2 d3 d4 d5 d6 s0 s1 s2 s3 s4
      subst hv
      obtain ⟨d0, d1, d2, d3, d4, d5, d6⟩ := HM3.out.box.seven
      obtain ⟨z0, z1, z2, z3, z4, z5, z6⟩ := HM3.out.box.frz7
      obtain ⟨s0, s1, s2, s3, s4⟩ := HM3.out.seg.five
      go_upto_if 64 with fail
      go_cut [] (fun wx => TkMem w w4.heap.size [.int .i64 rd, .slice pa pl pc, .int .i64 ed, .int .i64 sz, .int .i64 cp, .int .i64 en, .slice fa fl fc] [.int .i64 (pk : Int), .int .i64 s, .int .i64 d, gs t, .int .i64 e] [.int .i64 0, .slice none 0 0, .int .i64 0, .int .i64 0, .int .i64 0, .int .i64 0, .slice none 0 0, .int .i64 0, .int .i64 0, .int .i64 0, .int .i64 0, gs [], .bool false, .int .i64 0] [.int .i64 rd, .slice a P.1.length c, .int .i64 ed, .int .i64 sz, .int .i64 cp, .int .i64 EN, .slice (some ⟨g, 0, none⟩) fl cap] P.1 a c g fl n wx)
      case first =>
        by_cases hD : e ≠ -1 ∧ en = -1 ∧ lastN rd P.1 ≤ e
        · have hEN := HTK.out
          rw [if_pos hD] at hEN
          have HMS := Lib.hid (HM3.out.set 5 (.int .i64 e))
          rw [decide_eq_true hD]
          clear hD
          go_wp2_with fail
          go_meet
          rw [hEN]
          exact HMS.out
        · have hEN := HTK.out
          rw [if_neg hD] at hEN
          rw [decide_eq_false hD]
          clear hD
          go_wp2_with fail
          go_meet
          rw [hEN]
          exact HM3.out
      case rest =>
        have HM4 := Lib.hid hcut
        clear hcut HM3 d0 d1 d2 d3 d4 d5 d6 s0 s1 s2 s3 s4 z0 z1 z2 z3 z4 z5 z6 HTK
        obtain ⟨-, -, -, -, -, -, d6⟩ := HM4.out.box.seven
        obtain ⟨s0, s1, -, -, -⟩ := HM4.out.seg.five
        have hpf : pk < fl := by omega
        have HFOK := Lib.hid (HFU.out pk hpk)
        have hs64 : I64 s := by unfold I64; omega
        have hg0 : g ≠ w4.heap.size ∧ w.heap.size + 3 ≤ g := by
          obtain ⟨F, FA, FC, hfr, hF⟩ := HM4.out.frs
          have := hF g (hfr.blk g ⟨by omega, 0, rfl⟩)
          exact ⟨this.2.2.1, this.1⟩
        have hgB : ¬ (w4.heap.size = g) := fun e => hg0.1 e.symm
        have hgS : ¬ (w.heap.size + 1 = g) := by omega
        have hk1 : (0 : Int) ≤ (pk : Int) := by omega
        have hk2 : (pk : Int) < (fl : Int) := by omega
        go_upto_region 10 with fail
        have HM5 := Lib.hid (HM4.out.drew)
        clear HM4
        refine wp_region_held_drew (S := (fun V => Kept (fun b => b = g) wc V ∧ V.cell? ⟨w4.heap.size, 6, none⟩ = some (.slice (some ⟨g, 0, none⟩) fl cap) ∧ V.cell? ⟨w.heap.size + 1, 0, none⟩ = some (.int .i64 (pk : Int)) ∧ V.cell? ⟨w.heap.size + 1, 1, none⟩ = some (.int .i64 s))) (by kernel_rfl) (⟨kept_below (Below.refl _ _).drew, d6, s0, s1⟩) (fun hHeld => ?_)
        refine wpAnyH_take (i := 0) (oi := _) (v := ?v44x0) rfl (by kernel_rfl) (by kernel_rfl) (by kernel_rfl) (fun _ _ _ h => h) (Or.inl ⟨by kernel_rfl, ?hy44x0⟩) (by with_reducible assumption) ?rest44x0
        case hy44x0 => (intro w hSw; (try dsimp only at hSw); go_simp; (try with_reducible rfl))
        (try simp only [Act.put, List.getElem_toArray, List.getElem_cons_zero, List.setIfInBounds_toArray, List.set_cons_succ, List.set_cons_zero])
        refine wpAnyH_take (i := 1) (oi := _) (v := ?v44x1) rfl (by kernel_rfl) (by kernel_rfl) (by kernel_rfl) (fun _ _ _ h => h) (Or.inl ⟨by kernel_rfl, ?hy44x1⟩) (by with_reducible assumption) ?rest44x1
        case hy44x1 => (intro w hSw; (try dsimp only at hSw); go_simp; (try with_reducible rfl))
        (try simp only [Act.put, List.getElem_toArray, List.getElem_cons_succ, List.getElem_cons_zero, List.setIfInBounds_toArray, List.set_cons_succ, List.set_cons_zero])
        refine wpAnyH_take (i := 2) (oi := _) (v := ?v44x2) rfl (by kernel_rfl) (by kernel_rfl) (by kernel_rfl) (fun _ _ _ h => h) (Or.inl ⟨by kernel_rfl, ?hy44x2⟩) (by with_reducible assumption) ?rest44x2
        case hy44x2 => (intro w hSw; (try dsimp only at hSw); go_simp; (try with_reducible rfl))
        (try simp only [Act.put, List.getElem_toArray, List.getElem_cons_succ, List.getElem_cons_zero, List.setIfInBounds_toArray, List.set_cons_succ, List.set_cons_zero])
        refine wpAnyH_take (i := 3) (oi := _) (v := ?v44x3) rfl (by kernel_rfl) (by kernel_rfl) (by kernel_rfl) (fun _ _ _ h => h) (Or.inl ⟨by kernel_rfl, ?hy44x3⟩) (by with_reducible assumption) ?rest44x3
        case hy44x3 => (intro w hSw; (try dsimp only at hSw); go_simp; (try with_reducible rfl))
        (try simp only [Act.put, List.getElem_toArray, List.getElem_cons_succ, List.getElem_cons_zero, List.setIfInBounds_toArray, List.set_cons_succ, List.set_cons_zero])
        refine wpAnyH_take (i := 4) (oi := _) (v := ?v44x4) rfl (by kernel_rfl) (by kernel_rfl) (by kernel_rfl) (fun _ _ _ h => h) (Or.inl ⟨by kernel_rfl, ?hy44x4⟩) (by with_reducible assumption) ?rest44x4
        case hy44x4 => (intro w hSw; (try dsimp only at hSw); go_simp; (try with_reducible rfl))
        (try simp only [Act.put, List.getElem_toArray, List.getElem_cons_succ, List.getElem_cons_zero, List.setIfInBounds_toArray, List.set_cons_succ, List.set_cons_zero])
        refine wpAnyH_take (i := 5) (oi := _) (v := ?v44x5) rfl (by kernel_rfl) (by kernel_rfl) (by kernel_rfl) (fun _ _ _ h => h) (Or.inl ⟨by kernel_rfl, ?hy44x5⟩) (by with_reducible assumption) ?rest44x5
        case hy44x5 => (intro w hSw; (try dsimp only at hSw); go_simp; (try with_reducible rfl))
        (try simp only [Act.put, List.getElem_toArray, List.getElem_cons_succ, List.getElem_cons_zero, List.setIfInBounds_toArray, List.set_cons_succ, List.set_cons_zero])
        refine wpAnyH_take (i := 6) (oi := _) (v := ?v44x6) rfl (by kernel_rfl) (by kernel_rfl) (by kernel_rfl) (fun _ _ _ h => h) (Or.inl ⟨by kernel_rfl, ?hy44x6⟩) (by with_reducible assumption) ?rest44x6
        case hy44x6 => (intro w hSw; (try dsimp only at hSw); go_simp; (try with_reducible rfl))
        (try simp only [Act.put, List.getElem_toArray, List.getElem_cons_succ, List.getElem_cons_zero, List.setIfInBounds_toArray, List.set_cons_succ, List.set_cons_zero])
        refine wpAnyH_ready (rs := [7]) (by kernel_rfl) (by simp) (AllReadyH.cons (o := _) rfl (fun K hK => ?c44x7) AllReadyH.nil)
        rw [if_pos (by kernel_rfl)]
        go_simp
        obtain ⟨F, FA, FC, hfr, hF⟩ := HM5.out.frs
        have HFF := Lib.hid hF
        refine (subS_calls hfr hpf (HFOK.out) s hs64).mono ?_
        rintro e9 w9 ⟨rfl, hfr9, hk9⟩
        have HFR9 := Lib.hid hfr9
        have HK9 := Lib.hid hk9
        have HFB := Lib.hid (hfr.blk g ⟨by omega, 0, rfl⟩)
        clear hfr hF hfr9 hk9
        go_simp
        refine hK.out _ _ ⟨hHeld.1.trans HK9.out, (World.cell?_of_block (HK9.out.block _ (by have := HM5.out.box.lt; exact this) hgB)).trans hHeld.2.1, (World.cell?_of_block (HK9.out.block _ (by have := HM5.out.seg.lt; exact this) hgS)).trans hHeld.2.2.1, (World.cell?_of_block (HK9.out.block _ (by have := HM5.out.seg.lt; exact this) hgS)).trans hHeld.2.2.2⟩ (fun _ => ?_)
        clear hK K hHeld
        (try simp only [Act.put, List.getElem_toArray, List.getElem_cons_succ, List.getElem_cons_zero, List.setIfInBounds_toArray, List.set_cons_succ, List.set_cons_zero])
        refine wpAnyH_done (by kernel_rfl) ?_ _
        have HM6 := Lib.hid (HM5.out.sub HFF.out HFB.out HK9.out HFR9.out)
        clear HM5 HFF HFB HK9 HFR9 d6 s0 s1
        generalize n.set pk (subN (frAt n pk) s) = n' at *
        obtain ⟨F, FA, FC, hfr, hF⟩ := HM6.out.frs
        have HIN := Lib.hid hfr.in'
        have hlen := hfr.long
        clear hfr hF
        obtain ⟨d0, d1, d2, d3, d4, d5, d6⟩ := HM6.out.box.seven
        obtain ⟨s0, s1, s2, s3, s4⟩ := HM6.out.seg.five
        have hr1 := rcvRightS_calls (rd := rd) (ed := ed) (sz := sz) (cp := cp) (en := EN) (pc := c) (fc := cap) HM6.out.pcs HIN.out
        unfold rcvV at hr1
        by_cases hok2 : rcvOk rd P.1 ed sz cp EN n'
        case neg =>
          rw [decide_eq_false hok2] at hr1
          have hR := HRR.out
          rw [if_neg hok2] at hR
          have HRX := Lib.hid hR
          have HR1 := Lib.hid hr1
          clear hr1 hR hok2
          go_wp2_with fail
          (with_reducible refine HR1.out.mono ?_); rintro e10 w10 ⟨rfl, hb10⟩
          have HM7 := Lib.hid (HM6.out.next hb10)
          clear hb10 HM6 d0 d1 d2 d3 d4 d5 d6 s0 s1 s2 s3 s4
          have htwo : Box w10 (w.heap.size + 1 + 1) [.int .i64 0, .slice none 0 0, .int .i64 0, .int .i64 0, .int .i64 0, .int .i64 0, .slice none 0 0, .int .i64 0, .int .i64 0, .int .i64 0, .int .i64 0, gs [], .bool false, .int .i64 0] := HM7.out.two
          obtain ⟨⟨d0, d1, d2, d3, d4, d5, d6⟩, d7, d8, d9, da, db, dc, dd⟩ := htwo.fourteen
          obtain ⟨z0, z1, z2, z3, z4, z5, z6, z7, z8, z9, za, zb, zc, zd⟩ := htwo.frz14
          clear htwo
          go_wp2_with fail
          refine bodyPost_ret (v := rcvOutV 0 none 0 0 0 0 0 0 none 0 0 0 0 0 0 [] false 9) (by simp [rcvOutV, results, Tryz.results71, go_sem, *]) rfl ?_
          rw [HRX.out]
          refine rcBad_sp ?_
          have hK := kept14 w10 (w.heap.size + 1 + 1) (.int .i64 0) (.slice none 0 0) (.int .i64 0) (.int .i64 0) (.int .i64 0) (.int .i64 0) (.slice none 0 0) (.int .i64 0) (.int .i64 0) (.int .i64 0) (.int .i64 0) (gs []) (.bool false) (.int .i64 9)
          exact HM7.out.below.trans (hK.toBelow HM7.out.below.size (fun b hb e => by omega))
        rw [decide_eq_true hok2] at hr1
        have hR := HRR.out
        rw [if_pos hok2] at hR
        have HRX := Lib.hid hR
        have HR1 := Lib.hid hr1
        have HA := Lib.hid (fun (V : World) (hb : Below w9.heap.size w9 V) => ackS_calls (rd := rd) (ed := ed) (sz := sz) (cp := cp) (en := EN) (pc := c) (fc := cap) (HM6.out.pcs.below hb) (HIN.out.below hb) HPR.out hrd pk hpf)
        unfold rcvV ackV at HA
        generalize rd + ((fromN P.1 rd).length : Int) = q1 at *
        generalize (frAt n' pk).1 = q2 at *
        clear hr1 hR hok2
        go_wp2_with fail
        (with_reducible refine HR1.out.mono ?_); rintro e10 w10 ⟨rfl, hb10⟩
        have HB10 := Lib.hid hb10
        have HM7 := Lib.hid (HM6.out.next hb10)
        clear hb10 HM6 d0 d1 d2 d3 d4 d5 d6 s0 s1 s2 s3 s4
        obtain ⟨d0, d1, d2, d3, d4, d5, d6⟩ := HM7.out.box.seven
        obtain ⟨s0, -, -, -, -⟩ := HM7.out.seg.five
        go_wp2_with fail
        refine wp_region_held_drew (S := (fun V => Below w.heap.size w V ∧ V.cell? ⟨w.heap.size + 1, 0, none⟩ = some (.int .i64 (pk : Int)) ∧ V.cell? ⟨w4.heap.size, 0, none⟩ = some (.int .i64 rd) ∧ V.cell? ⟨w4.heap.size, 1, none⟩ = some (.slice a P.1.length c) ∧ V.cell? ⟨w4.heap.size, 2, none⟩ = some (.int .i64 ed) ∧ V.cell? ⟨w4.heap.size, 3, none⟩ = some (.int .i64 sz) ∧ V.cell? ⟨w4.heap.size, 4, none⟩ = some (.int .i64 cp) ∧ V.cell? ⟨w4.heap.size, 5, none⟩ = some (.int .i64 EN) ∧ V.cell? ⟨w4.heap.size, 6, none⟩ = some (.slice (some ⟨g, 0, none⟩) fl cap))) (by kernel_rfl) (⟨HM7.out.below.drew, s0, d0, d1, d2, d3, d4, d5, d6⟩) (fun hHeld => ?_)
        refine wpAnyH_take (i := 0) (oi := _) (v := ?v45x0) rfl (by kernel_rfl) (by kernel_rfl) (by kernel_rfl) (fun _ _ _ h => h) (Or.inl ⟨by kernel_rfl, ?hy45x0⟩) (by with_reducible assumption) ?rest45x0
        case hy45x0 => (intro w hSw; (try dsimp only at hSw); go_simp; (try with_reducible rfl))
        (try simp only [Act.put, List.getElem_toArray, List.getElem_cons_zero, List.setIfInBounds_toArray, List.set_cons_succ, List.set_cons_zero])
        refine wpAnyH_take (i := 1) (oi := _) (v := ?v45x1) rfl (by kernel_rfl) (by kernel_rfl) (by kernel_rfl) (fun _ _ _ h => h) (Or.inl ⟨by kernel_rfl, ?hy45x1⟩) (by with_reducible assumption) ?rest45x1
        case hy45x1 => (intro w hSw; (try dsimp only at hSw); go_simp; (try with_reducible rfl))
        (try simp only [Act.put, List.getElem_toArray, List.getElem_cons_succ, List.getElem_cons_zero, List.setIfInBounds_toArray, List.set_cons_succ, List.set_cons_zero])
        refine wpAnyH_take (i := 2) (oi := _) (v := ?v45x2) rfl (by kernel_rfl) (by kernel_rfl) (by kernel_rfl) (fun _ _ _ h => h) (Or.inl ⟨by kernel_rfl, ?hy45x2⟩) (by with_reducible assumption) ?rest45x2
        case hy45x2 => (intro w hSw; (try dsimp only at hSw); go_simp; (try with_reducible rfl))
        (try simp only [Act.put, List.getElem_toArray, List.getElem_cons_succ, List.getElem_cons_zero, List.setIfInBounds_toArray, List.set_cons_succ, List.set_cons_zero])
        refine wpAnyH_take (i := 3) (oi := _) (v := ?v45x3) rfl (by kernel_rfl) (by kernel_rfl) (by kernel_rfl) (fun _ _ _ h => h) (Or.inl ⟨by kernel_rfl, ?hy45x3⟩) (by with_reducible assumption) ?rest45x3
        case hy45x3 => (intro w hSw; (try dsimp only at hSw); go_simp; (try with_reducible rfl))
        (try simp only [Act.put, List.getElem_toArray, List.getElem_cons_succ, List.getElem_cons_zero, List.setIfInBounds_toArray, List.set_cons_succ, List.set_cons_zero])
        refine wpAnyH_ready (rs := [4]) (by kernel_rfl) (by simp) (AllReadyH.cons (o := _) rfl (fun K hK => ?c45x4) AllReadyH.nil)
        go_simp
        refine (HA.out _ (HB10.out.trans (((Below.refl _ _).drew).mono HB10.out.size))).mono ?_
        rintro e11 w11 ⟨rfl, hb11⟩
        have HM8 := Lib.hid (HM7.out.drew.next hb11)
        have HB11 := Lib.hid hb11
        clear hb11
        go_simp
        refine hK.out _ _ (keepR8 HB11.out hHeld) (fun hHeld2 => ?_)
        clear hHeld
        have hHeld := hHeld2
        clear hK K hHeld2
        (try simp only [Act.put, List.getElem_toArray, List.getElem_cons_succ, List.getElem_cons_zero, List.setIfInBounds_toArray, List.set_cons_succ, List.set_cons_zero])
        refine wpAnyH_take (i := 5) (oi := _) (v := ?v45x5) rfl (by kernel_rfl) (by kernel_rfl) (by kernel_rfl) (fun _ _ _ h => h) (Or.inl ⟨by kernel_rfl, ?hy45x5⟩) (by with_reducible assumption) ?rest45x5
        case hy45x5 => (intro w hSw; (try dsimp only at hSw); go_simp; (try with_reducible rfl))
        (try simp only [Act.put, List.getElem_toArray, List.getElem_cons_succ, List.getElem_cons_zero, List.setIfInBounds_toArray, List.set_cons_succ, List.set_cons_zero])
        refine wpAnyH_ready (rs := [6]) (by kernel_rfl) (by simp) (AllReadyH.cons (o := _) rfl (fun K hK => ?c45x6) AllReadyH.nil)
        rw [if_pos (by kernel_rfl)]
        have htwo : Box w11 (w.heap.size + 1 + 1) [.int .i64 0, .slice none 0 0, .int .i64 0, .int .i64 0, .int .i64 0, .int .i64 0, .slice none 0 0, .int .i64 0, .int .i64 0, .int .i64 0, .int .i64 0, gs [], .bool false, .int .i64 0] := HM8.out.two
        obtain ⟨⟨f0, f1, f2, f3, f4, f5, f6⟩, f7, f8, f9, fA, fb, fC, fd⟩ := htwo.fourteen
        obtain ⟨z0, z1, z2, z3, z4, z5, z6, z7, z8, z9, za, zb, zc, zd⟩ := htwo.frz14
        have hK := kept14 w11 (w.heap.size + 1 + 1) (.int .i64 rd) (.slice a P.1.length c) (.int .i64 ed) (.int .i64 sz) (.int .i64 cp) (.int .i64 EN) (.slice (some ⟨g, 0, none⟩) fl cap) (.int .i64 (pk : Int)) (.int .i64 q2) (.int .i64 q1) (.int .i64 ed) (gs []) (.bool false) (.int .i64 0)
        have hX14 := htwo.st14 (.int .i64 rd) (.slice a P.1.length c) (.int .i64 ed) (.int .i64 sz) (.int .i64 cp) (.int .i64 EN) (.slice (some ⟨g, 0, none⟩) fl cap) (.int .i64 (pk : Int)) (.int .i64 q2) (.int .i64 q1) (.int .i64 ed) (gs []) (.bool false) (.int .i64 0)
        have hlow := HM8.out.low
        have hst : _ ∧ _ ∧ _ := ⟨hHeld.1.trans (hK.toBelow hHeld.1.size (fun b hb e => by omega)), (HM8.out.seg.kept (hK.block _ HM8.out.seg.lt (by omega))).five.1, (HM8.out.box.kept (hK.block _ HM8.out.box.lt (by omega))).seven⟩
        have HST := Lib.hid hst
        have HK14 := Lib.hid hK
        have HX14 := Lib.hid hX14
        clear hst hK hX14 hHeld htwo
        go_simp
        refine hK.out _ _ HST.out (fun _ => ?_)
        clear hK K
        (try simp only [Act.put, List.getElem_toArray, List.getElem_cons_succ, List.getElem_cons_zero, List.setIfInBounds_toArray, List.set_cons_succ, List.set_cons_zero])
        refine wpAnyH_done (by kernel_rfl) ?_ _
        clear f0 f1 f2 f3 f4 f5 f6 f7 f8 f9 fA fb fC fd HST z0 z1 z2 z3 z4 z5 z6 z7 z8 z9 za zb zc zd d0 d1 d2 d3 d4 d5 d6 s0 HM7 HA HR1 HB10 HB11
        obtain ⟨⟨f0, f1, f2, f3, f4, f5, f6⟩, f7, f8, f9, fA, fb, fC, fd⟩ := HX14.out.fourteen
        clear HX14
        go_wp2_with fail
        refine bodyPost_ret (v := rcvOutV rd a P.1.length c ed sz cp EN (some ⟨g, 0, none⟩) fl cap (pk : Int) q2 q1 ed [] false 0) (by simp [rcvOutV, results, Tryz.results71, go_sem, *]) rfl ?_
        rw [HRX.out]
        subst hlen
        exact TkMem.got HM8.out HK14.out


end Go.Proofs.YtdcahilfmhkmiaaGreatDoor
