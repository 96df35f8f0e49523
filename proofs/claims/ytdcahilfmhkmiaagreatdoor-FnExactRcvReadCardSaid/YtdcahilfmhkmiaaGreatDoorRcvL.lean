/- The program's RcvRead, where all is right. -/
import Derived.Test.YtdcahilfmhkmiaaGreatDoorRcvK
namespace Go.Proofs.YtdcahilfmhkmiaaGreatDoor
open Go.RowKit

set_option maxHeartbeats 8000000 in
set_option maxRecDepth 100000 in
theorem readGoodI_calls {S : Nat → Prop} {rd ed sz cp en : Int} {pa fa : Option Addr} {pl pc fl fc : Nat} {ps : List Pc} {n : Frs} {w : World} (hp : InPcs w pa pl ps) (hf : InFrs S w fa fl n) (k : Int) (hok : rcvOk rd ps ed sz cp en n) (hk : 1 ≤ k)
    (T : List UInt8) (hT : T = (fromN ps rd).take T.length) (hTl : T.length ≤ (fromN ps rd).length) (hcase : (k ≤ ((fromN ps rd).length : Int) ∧ k = (T.length : Int)) ∨ (((fromN ps rd).length : Int) < k ∧ (fromN ps rd).length = T.length)) :
    Calls Tryz.prog 10 #[rcvV rd pa pl pc ed sz cp en fa fl fc, .int .i64 k] w (RcOwn w ⟨rd + (T.length : Int), cutN ps (rd + (T.length : Int)), max ed (min (rd + (T.length : Int) + readSz sz cp (T.length : Int)) 1000000), readSz sz cp (T.length : Int), cp, en, n, 0, 0, 0, 0, T, decide (rd + (T.length : Int) = en), 0⟩) := by
  have hfl := hf.long
  have h0 : 0 < fl := by have := hok.2.2.2.2.2.2.2.2.2.1; omega
  have H1 := Lib.hid (fun (W : World) (hb : Below w.heap.size w W) => openReader_calls (rd := rd) (ed := ed) (sz := sz) (cp := cp) (en := en) (pc := pc) (fc := fc) (hp.below hb) (hf.below hb) hok)
  have hpos : ∀ b, LgB pa pl b → b < w.heap.size := fun b hb => hp.pos hb
  have HPOS := Lib.hid hpos
  have H2 := Lib.hid (fun (V : World) (g gf : Nat) (xa : Option Addr) (xc cf : Nat) (hpV : InPcs V xa pl ps) (hx : Box V g [.int .i64 rd, .int .i64 ed, .int .i64 sz, .int .i64 cp, .slice xa pl xc, .int .i64 en, .slice (some ⟨gf, 0, none⟩) n.length cf]) (hgg : ∀ b, LgB xa pl b → b ≠ g) => readOutN_calls hx hpV hgg hok k hk T hT hTl hcase)
  generalize hr2 : rd + (T.length : Int) = r2 at *
  generalize max ed (min (r2 + readSz sz cp (T.length : Int)) 1000000) = e2 at *
  generalize readSz sz cp (T.length : Int) = s2 at *
  generalize cutN ps r2 = CP at *
  generalize hdn : decide (r2 = en) = DN at *
  have hde : (r2 == en) = DN := by rw [← hdn, Bool.eq_iff_iff]; simp
  unfold Opened at H1
  unfold ReadsOut at H2
  unfold readerV rcvV at *
  have hkk : ¬ k < 1 := by omega
  clear hp hf hok hpos hT hTl hcase hr2 hdn
  rw [hfl] at H1 H2
  go_enter Tryz.func10, Tryz.ntmps10
  go_wp2_with fail
  have n3 := box_two w [.int .i64 rd, .slice pa pl pc, .int .i64 ed, .int .i64 sz, .int .i64 cp, .int .i64 en, .slice fa fl fc] [.int .i64 0, .slice none 0 0, .int .i64 0, .int .i64 0, .int .i64 0, .int .i64 0, .slice none 0 0, .int .i64 0, .int .i64 0, .int .i64 0, .int .i64 0, gs [], .bool false, .int .i64 0] 26 34 (by simp) (by simp)
  dsimp only at n3
  generalize (w.alloc (.cells #[.int .i64 rd, .slice pa pl pc, .int .i64 ed, .int .i64 sz, .int .i64 cp, .int .i64 en, .slice fa fl fc] 26)).alloc (.cells #[.int .i64 0, .slice none 0 0, .int .i64 0, .int .i64 0, .int .i64 0, .int .i64 0, .slice none 0 0, .int .i64 0, .int .i64 0, .int .i64 0, .int .i64 0, gs [], .bool false, .int .i64 0] 34) = W at *
  obtain ⟨n1, n2, hs, hb0⟩ := n3
  obtain ⟨c0, c1, c2, c3, c4, c5, c6⟩ := n1.seven
  have HB0 := Lib.hid hb0
  have N2 := Lib.hid n2
  clear hb0 n1 n2
  (with_reducible refine (H1.out _ HB0.out).mono ?_); rintro e w1 ⟨xa, xc, gf, cf, A, C, rfl, hpx, hfo, hgf, hb1⟩
  have HB1 := Lib.hid (HB0.out.trans (hb1.mono HB0.out.size))
  have N3 := Lib.hid (N2.out.below hb1)
  have n5 := box_new w1 [.int .i64 rd, .int .i64 ed, .int .i64 sz, .int .i64 cp, .slice xa pl xc, .int .i64 en, .slice (some ⟨gf, 0, none⟩) fl cf] 101 (by simp)
  have b5 : Below w1.heap.size w1 (w1.alloc (.cells #[.int .i64 rd, .int .i64 ed, .int .i64 sz, .int .i64 cp, .slice xa pl xc, .int .i64 en, .slice (some ⟨gf, 0, none⟩) fl cf] 101)) := (Below.refl _ _).alloc (Nat.le_refl _) _
  have s5 : (w1.alloc (.cells #[.int .i64 rd, .int .i64 ed, .int .i64 sz, .int .i64 cp, .slice xa pl xc, .int .i64 en, .slice (some ⟨gf, 0, none⟩) fl cf] 101)).heap.size = w1.heap.size + 1 := by simp
  have s1 := hb1.size
  have hx2 := N3.out.lt
  have N4 := Lib.hid (N3.out.below b5)
  have HB4 := Lib.hid (HB1.out.trans (b5.mono HB1.out.size))
  have hgw := (hfo.blk gf ⟨by omega, 0, rfl⟩).2
  have HFO := Lib.hid (hfo.below b5)
  have HPX := Lib.hid (hpx.below b5)
  have N5 := Lib.hid n5
  clear hb1 hfo hpx HB0 N2 H1 c0 c1 c2 c3 c4 c5 c6 n5 b5 N3 HB1
  go_wp2_with fail
  generalize w1.alloc (.cells #[.int .i64 rd, .int .i64 ed, .int .i64 sz, .int .i64 cp, .slice xa pl xc, .int .i64 en, .slice (some ⟨gf, 0, none⟩) fl cf] 101) = V at *
  generalize w1.heap.size = g5 at *
  have hgg : ∀ b, LgB xa pl b → b ≠ g5 := fun b hb => by have := HPX.out.blk b hb; omega
  (with_reducible refine (H2.out _ _ _ _ _ _ HPX.out.in' N5.out hgg).mono ?_); rintro e w2 ⟨qa, qc, rfl, hbx, hpc, hkp⟩
  have HB2 := Lib.hid (HB4.out.trans (hkp.toBelow HB4.out.size (fun b hb e => by omega)))
  have h5 := hbx
  obtain ⟨b0, b1, b2, b3, b4, b5, b6⟩ := hbx.seven
  have H5 := Lib.hid h5
  have HX := Lib.hid (N4.out.kept (hkp.block _ N4.out.lt (by omega)))
  have HPC := Lib.hid hpc
  have HFO2 := Lib.hid (HFO.out.kept hkp (fun b e e' => by omega))
  have hs2 := hkp.size
  have HRCV := Lib.hid (fun W => rcv_calls r2 e2 s2 cp qa CP.length qc en (some ⟨gf, 0, none⟩) fl cf W)
  unfold readerV rcvV at HRCV
  clear hbx hpc hkp h5 N4 N5 HB4 HFO H2 hgg
  go_wp2_with fail
  refine wp_region_held_drew (S := (fun X => Below w.heap.size w X ∧ X.cell? ⟨g5, 0, none⟩ = some (.int .i64 r2) ∧ X.cell? ⟨g5, 1, none⟩ = some (.int .i64 e2) ∧ X.cell? ⟨g5, 2, none⟩ = some (.int .i64 s2) ∧ X.cell? ⟨g5, 3, none⟩ = some (.int .i64 cp) ∧ X.cell? ⟨g5, 4, none⟩ = some (.slice qa CP.length qc) ∧ X.cell? ⟨g5, 5, none⟩ = some (.int .i64 en) ∧ X.cell? ⟨g5, 6, none⟩ = some (.slice (some ⟨gf, 0, none⟩) fl cf))) (by kernel_rfl) (⟨HB2.out.drew, b0, b1, b2, b3, b4, b5, b6⟩) (fun hHeld => ?_)
  refine wpAnyH_take (i := 0) (oi := _) (v := ?v1x0) rfl (by kernel_rfl) (by kernel_rfl) (by kernel_rfl) (fun _ _ _ h => h) (Or.inl ⟨by kernel_rfl, ?hy1x0⟩) (by with_reducible assumption) ?rest1x0
  case hy1x0 => (intro w hSw; (try dsimp only at hSw); go_simp; (try with_reducible rfl))
  (try simp only [Act.put, List.getElem_toArray, List.getElem_cons_zero, List.setIfInBounds_toArray, List.set_cons_succ, List.set_cons_zero])
  refine wpAnyH_take (i := 2) (oi := _) (v := ?v1x2) rfl (by kernel_rfl) (by kernel_rfl) (by kernel_rfl) (fun _ _ _ h => h) (Or.inl ⟨by kernel_rfl, ?hy1x2⟩) (by with_reducible assumption) ?rest1x2
  case hy1x2 => (intro w hSw; (try dsimp only at hSw); go_simp; (try with_reducible rfl))
  (try simp only [Act.put, List.getElem_toArray, List.getElem_cons_succ, List.getElem_cons_zero, List.setIfInBounds_toArray, List.set_cons_succ, List.set_cons_zero])
  refine wpAnyH_take (i := 3) (oi := _) (v := ?v1x3) rfl (by kernel_rfl) (by kernel_rfl) (by kernel_rfl) (fun _ _ _ h => h) (Or.inl ⟨by kernel_rfl, ?hy1x3⟩) (by with_reducible assumption) ?rest1x3
  case hy1x3 => (intro w hSw; (try dsimp only at hSw); go_simp; (try with_reducible rfl))
  (try simp only [Act.put, List.getElem_toArray, List.getElem_cons_succ, List.getElem_cons_zero, List.setIfInBounds_toArray, List.set_cons_succ, List.set_cons_zero])
  refine wpAnyH_take (i := 4) (oi := _) (v := ?v1x4) rfl (by kernel_rfl) (by kernel_rfl) (by kernel_rfl) (fun _ _ _ h => h) (Or.inl ⟨by kernel_rfl, ?hy1x4⟩) (by with_reducible assumption) ?rest1x4
  case hy1x4 => (intro w hSw; (try dsimp only at hSw); go_simp; (try with_reducible rfl))
  (try simp only [Act.put, List.getElem_toArray, List.getElem_cons_succ, List.getElem_cons_zero, List.setIfInBounds_toArray, List.set_cons_succ, List.set_cons_zero])
  refine wpAnyH_take (i := 5) (oi := _) (v := ?v1x5) rfl (by kernel_rfl) (by kernel_rfl) (by kernel_rfl) (fun _ _ _ h => h) (Or.inl ⟨by kernel_rfl, ?hy1x5⟩) (by with_reducible assumption) ?rest1x5
  case hy1x5 => (intro w hSw; (try dsimp only at hSw); go_simp; (try with_reducible rfl))
  (try simp only [Act.put, List.getElem_toArray, List.getElem_cons_succ, List.getElem_cons_zero, List.setIfInBounds_toArray, List.set_cons_succ, List.set_cons_zero])
  refine wpAnyH_take (i := 6) (oi := _) (v := ?v1x6) rfl (by kernel_rfl) (by kernel_rfl) (by kernel_rfl) (fun _ _ _ h => h) (Or.inl ⟨by kernel_rfl, ?hy1x6⟩) (by with_reducible assumption) ?rest1x6
  case hy1x6 => (intro w hSw; (try dsimp only at hSw); go_simp; (try with_reducible rfl))
  (try simp only [Act.put, List.getElem_toArray, List.getElem_cons_succ, List.getElem_cons_zero, List.setIfInBounds_toArray, List.set_cons_succ, List.set_cons_zero])
  refine wpAnyH_take (i := 7) (oi := _) (v := ?v1x7) rfl (by kernel_rfl) (by kernel_rfl) (by kernel_rfl) (fun _ _ _ h => h) (Or.inl ⟨by kernel_rfl, ?hy1x7⟩) (by with_reducible assumption) ?rest1x7
  case hy1x7 => (intro w hSw; (try dsimp only at hSw); go_simp; (try with_reducible rfl))
  (try simp only [Act.put, List.getElem_toArray, List.getElem_cons_succ, List.getElem_cons_zero, List.setIfInBounds_toArray, List.set_cons_succ, List.set_cons_zero])
  refine wpAnyH_take (i := 8) (oi := _) (v := ?v1x8) rfl (by kernel_rfl) (by kernel_rfl) (by kernel_rfl) (fun _ _ _ h => h) (Or.inl ⟨by kernel_rfl, ?hy1x8⟩) (by with_reducible assumption) ?rest1x8
  case hy1x8 => (intro w hSw; (try dsimp only at hSw); go_simp; (try with_reducible rfl))
  (try simp only [Act.put, List.getElem_toArray, List.getElem_cons_succ, List.getElem_cons_zero, List.setIfInBounds_toArray, List.set_cons_succ, List.set_cons_zero])
  refine wpAnyH_ready (rs := [1]) (by kernel_rfl) (by simp) (AllReadyH.cons (o := _) rfl (fun K hK => ?c1x1) AllReadyH.nil)
  go_simp
  refine (HRCV.out _).mono ?_
  rintro e w9 ⟨rfl, hb9⟩
  have HB9D := Lib.hid hb9
  have HB9 := Lib.hid (((Below.refl w2.heap.size w2).drew).trans (hb9.mono (Nat.le_refl _)))
  clear hb9
  go_simp
  refine hK.out _ _ (keepR7 HB9D.out hHeld) (fun hHeld2 => ?_)
  clear hHeld
  have hHeld := hHeld2
  clear hK K hHeld2
  (try simp only [Act.put, List.getElem_toArray, List.getElem_cons_succ, List.getElem_cons_zero, List.setIfInBounds_toArray, List.set_cons_succ, List.set_cons_zero])
  refine wpAnyH_take (i := 9) (oi := _) (v := ?v1x9) rfl (by kernel_rfl) (by kernel_rfl) (by kernel_rfl) (fun _ _ _ h => h) (Or.inl ⟨by kernel_rfl, ?hy1x9⟩) (by with_reducible assumption) ?rest1x9
  case hy1x9 => (intro w hSw; (try dsimp only at hSw); go_simp; (try with_reducible rfl))
  (try simp only [Act.put, List.getElem_toArray, List.getElem_cons_succ, List.getElem_cons_zero, List.setIfInBounds_toArray, List.set_cons_succ, List.set_cons_zero])
  refine wpAnyH_ready (rs := [10]) (by kernel_rfl) (by simp) (AllReadyH.cons (o := _) rfl (fun K hK => ?c1x10) AllReadyH.nil)
  rw [if_pos (by kernel_rfl)]
  have hx9 := HX.out.below HB9.out
  have h59 := H5.out.below HB9.out
  obtain ⟨⟨d0, d1, d2, d3, d4, d5, d6⟩, d7, d8, d9, da, db, dc, dd⟩ := hx9.fourteen
  obtain ⟨z0, z1, z2, z3, z4, z5, z6, z7, z8, z9, za, zb, zc, zd⟩ := hx9.frz14
  have hK := kept14 w9 (w.heap.size + 1) (.int .i64 r2) (.slice qa CP.length qc) (.int .i64 e2) (.int .i64 s2) (.int .i64 cp) (.int .i64 en) (.slice (some ⟨gf, 0, none⟩) fl cf) (.int .i64 0) (.int .i64 0) (.int .i64 0) (.int .i64 0) (gs T) (.bool DN) (.int .i64 0)
  have hX14 := hx9.store14 (.int .i64 r2) (.slice qa CP.length qc) (.int .i64 e2) (.int .i64 s2) (.int .i64 cp) (.int .i64 en) (.slice (some ⟨gf, 0, none⟩) fl cf) (.int .i64 0) (.int .i64 0) (.int .i64 0) (.int .i64 0) (gs T) (.bool DN) (.int .i64 0)
  have hst : _ ∧ _ := ⟨hHeld.1.trans (hK.toBelow hHeld.1.size (fun b hb e => by omega)), (h59.kept (hK.block _ h59.lt (by omega))).seven⟩
  have HST := Lib.hid hst
  have HK14 := Lib.hid hK
  have HX14 := Lib.hid hX14
  clear hst hK hX14 hHeld hx9 h59
  go_simp
  refine hK.out _ _ HST.out (fun _ => ?_)
  clear hK K
  (try simp only [Act.put, List.getElem_toArray, List.getElem_cons_succ, List.getElem_cons_zero, List.setIfInBounds_toArray, List.set_cons_succ, List.set_cons_zero])
  refine wpAnyH_done (by kernel_rfl) ?_ _
  have HB9W := Lib.hid (HB2.out.trans (HB9.out.mono HB2.out.size))
  have HPF := Lib.hid (HPC.out.below HB9.out)
  have HFF := Lib.hid (HFO2.out.below HB9.out)
  obtain ⟨⟨f0, f1, f2, f3, f4, f5, f6⟩, f7, f8, f9, fa', fb, fc', fd⟩ := HX14.out.fourteen
  have hs9 := HB9.out.size
  have HKK := Lib.hid HK14.out
  clear HST d0 d1 d2 d3 d4 d5 d6 d7 d8 d9 da db dc dd z0 z1 z2 z3 z4 z5 z6 z7 z8 z9 za zb zc zd b0 b1 b2 b3 b4 b5 b6
  go_wp2_with fail
  refine bodyPost_ret (v := rcvOutV r2 qa CP.length qc e2 s2 cp en (some ⟨gf, 0, none⟩) fl cf 0 0 0 0 T DN 0) (by simp [rcvOutV, results, Tryz.results10, go_sem, *]) rfl ?_
  have hbz := HKK.out.toBelow HB9W.out.size (fun b hb e => by omega)
  have hsz := HKK.out.size
  refine ⟨qa, qc, some ⟨gf, 0, none⟩, cf, A, C, fun b => V.heap.size ≤ b ∧ b < w2.heap.size, fun b => gf ≤ b ∧ b < g5, by rw [hfl], HPF.out.kept HKK.out (fun b e e' => by omega), ?_, fun b e e' => by omega, fun b e => ⟨by omega, Nat.lt_of_lt_of_le (by omega) hsz⟩, fun b e => ⟨by omega, Nat.lt_of_lt_of_le (by omega) hsz⟩, HB9W.out.trans hbz⟩
  show FrsOwn _ _ _ n.length n A C
  rw [hfl]
  exact HFF.out.kept HKK.out (fun b e e' => by omega)
theorem rcvReadI_calls {S : Nat → Prop} {rd ed sz cp en : Int} {pa fa : Option Addr} {pl pc fl fc : Nat} {ps : List Pc} {n : Frs} {w : World} (_ : I64 rd ∧ I64 ed ∧ I64 sz ∧ I64 cp ∧ I64 en) (hp : InPcs w pa pl ps) (hf : InFrs S w fa fl n) (k : Int) (_ : (Lit.int .i64 k).wf = true) (hg : EtCell w) :
    Calls Tryz.prog 10 #[rcvV rd pa pl pc ed sz cp en fa fl fc, .int .i64 k] w (RcOwn w (rcvReadN rd ps ed sz cp en n k)) := by
  unfold rcvReadN
  by_cases h : rcvOk rd ps ed sz cp en n ∧ 1 ≤ k
  · rw [if_pos h]
    refine readGoodI_calls hp hf k h.1 h.2 (readT rd ps k) ?_ ?_ ?_
    · unfold readT
      rw [List.length_take, List.take_eq_take_iff]
      omega
    · unfold readT
      rw [List.length_take]
      omega
    · unfold readT
      rw [List.length_take]
      omega
  · rw [if_neg h]
    exact readBadI_calls hp hf k h hg

end Go.Proofs.YtdcahilfmhkmiaaGreatDoor
