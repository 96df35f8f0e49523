/- The program's SndNew. -/
import Derived.Test.YtfjmcmdkmecgiaaSndS
namespace Go.Proofs.Ytfjmcmdkmecgiaa
open Go.RowKit

theorem run_make_lines {P : Program} {t e : TypeId} {i : TypeInfo} (ht : P.underlying t = some (.slice e)) (hi : P.info? e = some i) (hz : i.zero = some (.agg #[.int .i64 0, .int .i64 0, .int .i64 0, .int .i64 0, .int .i64 0, .slice none 0 0])) (h1 : i.size = 6) (h2 : i.bytes = 64)
    (n : Nat) (L : Int) (hL : L = (n : Int)) (hn : n ≤ 1000000000) (w : World) :
    (Instr.makeSlice t (.int .i64 L) (.int .i64 L)).run P w = .ok (.slice (some ⟨w.heap.size, 0, none⟩) n n) (w.alloc (.cells (madeCells #[.int .i64 0, .int .i64 0, .int .i64 0, .int .i64 0, .int .i64 0, .slice none 0 0] (n * 6)) e)) := by
  subst hL
  have h := run_make (P := P) w t e i (.agg #[.int .i64 0, .int .i64 0, .int .i64 0, .int .i64 0, .int .i64 0, .slice none 0 0]) ht hi hz .i64 .i64 n n (by omega) (by omega) (by rw [h2]; omega) (by omega)
  rw [h, h1]
  simp only [Int.toNat_natCast]
  rfl
/-- The first j lines of a row that the call makes are new ones. -/
structure NlNew (w : World) (g len j : Nat) : Prop where
  done : ∀ i, i < j → At5 w g (i * 6) newLn ∧ w.cell? ⟨g, i * 6 + 5, none⟩ = some (.slice none 0 0)
  op : OpenLg w g (len * 6)
  lt : g < w.heap.size
theorem NlNew.below {w w' : World} {g len j : Nat} (h : NlNew w g len j) (hb : Below w.heap.size w w') : NlNew w' g len j :=
  ⟨fun i hi => ⟨(h.done i hi).1.below hb, (hb.cell h.lt).trans (h.done i hi).2⟩, h.op.below h.lt hb, Nat.lt_of_lt_of_le h.lt hb.size⟩
theorem nlNew_succ {w : World} {g len j : Nat} (h : NlNew w g len j) (hj : j < len) : NlNew ((((((w.setCell ⟨g, j * 6, none⟩ (.int .i64 0)).setCell ⟨g, j * 6 + 1, none⟩ (.int .i64 0)).setCell ⟨g, j * 6 + 2, none⟩ (.int .i64 8)).setCell ⟨g, j * 6 + 3, none⟩ (.int .i64 2)).setCell ⟨g, j * 6 + 4, none⟩ (.int .i64 0)).setCell ⟨g, j * 6 + 5, none⟩ (.slice none 0 0)) g len (j + 1) := by
  have s {W : World} (hW : OpenLg W g (len * 6)) {q : Nat} (hq : q < len * 6) (v : Value) : (W.setCell ⟨g, q, none⟩ v).cell? ⟨g, q, none⟩ = some v := by
    obtain ⟨u, hu⟩ := hW.there q hq
    exact World.cell?_setCell_same _ _ _ hu
  have c {W : World} {q i : Nat} {v x : Value} (hi : q ≠ i) (h : W.cell? ⟨g, i, none⟩ = some x) : (W.setCell ⟨g, q, none⟩ v).cell? ⟨g, i, none⟩ = some x := (World.cell?_setCell_other _ _ _ _ (fun e => by injection e; omega)).trans h
  have hat := at5_put h.op (o := j * 6) (by omega) newLn
  refine ⟨fun i hi => ?_, (h.op.put5 (j * 6) newLn).put _, by simpa using h.lt⟩
  by_cases e : i = j
  · subst e
    exact ⟨hat.other (by omega) _, s (h.op.put5 (i * 6) newLn) (by omega) _⟩
  · obtain ⟨h1, h2⟩ := h.done i (by omega)
    exact ⟨(h1.put5 (q := j * 6) (r := newLn) (by omega)).other (by omega) _, c (by omega) (c (by omega) (c (by omega) (c (by omega) (c (by omega) (c (by omega) h2)))))⟩
theorem nlNew_all {w : World} {g len : Nat} (h : NlNew w g len len) : NL w g len (List.replicate len newLn) :=
  ⟨fun i hi => by rw [rep_at hi]; exact h.done i hi, h.op, h.lt⟩
set_option maxHeartbeats 8000000 in
set_option maxRecDepth 100000 in
theorem sndNewI_calls (p ms ed : Int) (w : World) : Calls Try.prog 12 #[.int .i64 p, .int .i64 ms, .int .i64 ed] w (SdGot w (sndNewN p ms ed)) := by
  have n1 := box_new w [.int .i64 0, gs [], .int .i64 0, .int .i64 0, .bool false, .int .i64 0, .slice none 0 0, .slice none 0 0, .int .i64 0] 35 (by simp)
  have hb0 : Below w.heap.size w (w.alloc (.cells #[.int .i64 0, gs [], .int .i64 0, .int .i64 0, .bool false, .int .i64 0, .slice none 0 0, .slice none 0 0, .int .i64 0] 35)) := (Below.refl _ _).alloc (Nat.le_refl _) _
  by_cases hp : 1 ≤ p ∧ p ≤ 4
  · obtain ⟨k, rfl⟩ : ∃ k : Nat, p = (k : Int) := ⟨p.toNat, by omega⟩
    have hk : 1 ≤ k ∧ k ≤ 4 := by omega
    have HRR : Hid (sndNewN (k : Int) ms ed = if (0 ≤ ed ∧ ed ≤ 1000000) ∧ (1 ≤ ms ∧ ms ≤ 16) then ⟨ed, true, ms, List.replicate k newLn, 0⟩ else ⟨0, false, 0, [], 1⟩) := Lib.hid (by
      unfold sndNewN
      rw [Int.toNat_natCast]
      by_cases h : (0 ≤ ed ∧ ed ≤ 1000000) ∧ (1 ≤ ms ∧ ms ≤ 16)
      · rw [if_pos ⟨hp, h⟩, if_pos h]
      · rw [if_neg (fun h' => h h'.2), if_neg h])
    generalize sndNewN (k : Int) ms ed = R at *
    have HCLK := Lib.hid (fun W => clkNewI_calls W)
    have hzz : (Try.prog.info? 57).map (fun i => (i.zero, i.size, i.bytes)) = some (some (.agg #[.int .i64 0, .int .i64 0, .int .i64 0, .int .i64 0, .int .i64 0, .slice none 0 0]), 6, 64) := by kernel_rfl
    obtain ⟨i, hi, hz⟩ := Option.map_eq_some_iff.1 hzz
    simp only [Prod.mk.injEq] at hz
    have hmk := run_make_lines (P := Try.prog) Try.underlying27 hi hz.1 hz.2.1 hz.2.2 k (k : Int) rfl (by omega) (w.alloc (.cells #[.int .i64 0, gs [], .int .i64 0, .int .i64 0, .bool false, .int .i64 0, .slice none 0 0, .slice none 0 0, .int .i64 0] 35))
    have ho := World.ownsRow_lit (size := 6) (base := w.heap.size) (e := 57) (w.alloc (.cells #[.int .i64 0, gs [], .int .i64 0, .int .i64 0, .bool false, .int .i64 0, .slice none 0 0, .slice none 0 0, .int .i64 0] 35)) (madeCells #[.int .i64 0, .int .i64 0, .int .i64 0, .int .i64 0, .int .i64 0, .slice none 0 0] (k * 6)) k (by simp) (by simp [maxLen]; omega) (size_madeCells _ _)
    have hop : OpenLg ((w.alloc (.cells #[.int .i64 0, gs [], .int .i64 0, .int .i64 0, .bool false, .int .i64 0, .slice none 0 0, .slice none 0 0, .int .i64 0] 35)).alloc (.cells (madeCells #[.int .i64 0, .int .i64 0, .int .i64 0, .int .i64 0, .int .i64 0, .slice none 0 0] (k * 6)) 57)) (w.alloc (.cells #[.int .i64 0, gs [], .int .i64 0, .int .i64 0, .bool false, .int .i64 0, .slice none 0 0, .slice none 0 0, .int .i64 0] 35)).heap.size (k * 6) :=
      ⟨fun q hq => ⟨_, (ho.cellAt q (by omega)).trans (List.getElem?_eq_getElem (by have := ho.1; omega))⟩, fun q _ => ho.frozenAt q⟩
    have hbf : Below (w.alloc (.cells #[.int .i64 0, gs [], .int .i64 0, .int .i64 0, .bool false, .int .i64 0, .slice none 0 0, .slice none 0 0, .int .i64 0] 35)).heap.size (w.alloc (.cells #[.int .i64 0, gs [], .int .i64 0, .int .i64 0, .bool false, .int .i64 0, .slice none 0 0, .slice none 0 0, .int .i64 0] 35)) ((w.alloc (.cells #[.int .i64 0, gs [], .int .i64 0, .int .i64 0, .bool false, .int .i64 0, .slice none 0 0, .slice none 0 0, .int .i64 0] 35)).alloc (.cells (madeCells #[.int .i64 0, .int .i64 0, .int .i64 0, .int .i64 0, .int .i64 0, .slice none 0 0] (k * 6)) 57)) := (Below.refl _ _).alloc (Nat.le_refl _) _
    have n0 := n1.below hbf
    have hbw : Below w.heap.size w ((w.alloc (.cells #[.int .i64 0, gs [], .int .i64 0, .int .i64 0, .bool false, .int .i64 0, .slice none 0 0, .slice none 0 0, .int .i64 0] 35)).alloc (.cells (madeCells #[.int .i64 0, .int .i64 0, .int .i64 0, .int .i64 0, .int .i64 0, .slice none 0 0] (k * 6)) 57)) := hb0.trans (hbf.mono hb0.size)
    have hsz : ((w.alloc (.cells #[.int .i64 0, gs [], .int .i64 0, .int .i64 0, .bool false, .int .i64 0, .slice none 0 0, .slice none 0 0, .int .i64 0] 35)).alloc (.cells (madeCells #[.int .i64 0, .int .i64 0, .int .i64 0, .int .i64 0, .int .i64 0, .slice none 0 0] (k * 6)) 57)).heap.size = w.heap.size + 2 := by simp
    rw [show (w.alloc (.cells #[.int .i64 0, gs [], .int .i64 0, .int .i64 0, .bool false, .int .i64 0, .slice none 0 0, .slice none 0 0, .int .i64 0] 35)).heap.size = w.heap.size + 1 by simp] at hmk hop
    clear hi hzz hz ho hbf n1 hb0 hp
    generalize hW : ((w.alloc (.cells #[.int .i64 0, gs [], .int .i64 0, .int .i64 0, .bool false, .int .i64 0, .slice none 0 0, .slice none 0 0, .int .i64 0] 35)).alloc (.cells (madeCells #[.int .i64 0, .int .i64 0, .int .i64 0, .int .i64 0, .int .i64 0, .slice none 0 0] (k * 6)) 57)) = W at *
    clear hW
    have N0 := Lib.hid n0
    have HBW := Lib.hid hbw
    have HOP := Lib.hid hop
    have HSZ := Lib.hid hsz
    have hg1 : ¬ (k : Int) < 1 := by omega
    have hg2 : ¬ 4 < (k : Int) := by omega
    clear n0 hbw hop hsz
    go_enter Try.func12, Try.ntmps12
    go_wp2_with fail
    have n7 := box_new W [.int .i64 0, gs [], .int .i64 0, .int .i64 ed, .bool true, .int .i64 ms, .slice (some ⟨w.heap.size + 1, 0, none⟩) k k] 29 (by simp)
    have hb7 : Below W.heap.size W (W.alloc (.cells #[.int .i64 0, gs [], .int .i64 0, .int .i64 ed, .bool true, .int .i64 ms, .slice (some ⟨w.heap.size + 1, 0, none⟩) k k] 29)) := (Below.refl _ _).alloc (Nat.le_refl _) _
    have hs7 : (W.alloc (.cells #[.int .i64 0, gs [], .int .i64 0, .int .i64 ed, .bool true, .int .i64 ms, .slice (some ⟨w.heap.size + 1, 0, none⟩) k k] 29)).heap.size = W.heap.size + 1 := by simp
    have hsw := HSZ.out
    have HM0 : Hid (NlNew (W.alloc (.cells #[.int .i64 0, gs [], .int .i64 0, .int .i64 ed, .bool true, .int .i64 ms, .slice (some ⟨w.heap.size + 1, 0, none⟩) k k] 29)) (w.heap.size + 1) k 0) := Lib.hid ⟨fun i hi => by omega, HOP.out.below (by omega) hb7, by omega⟩
    have HZ0 := Lib.hid (N0.out.below hb7)
    have HC0 := Lib.hid (HBW.out.trans (hb7.mono HBW.out.size))
    have HX0 := Lib.hid n7
    clear n7 hb7 N0 HOP HBW hmk HSZ
    generalize W.alloc (.cells #[.int .i64 0, gs [], .int .i64 0, .int .i64 ed, .bool true, .int .i64 ms, .slice (some ⟨w.heap.size + 1, 0, none⟩) k k] 29) = V at *
    generalize W.heap.size = SB at *
    have hSB : SB = w.heap.size + 2 := hsw
    have hSB1 : w.heap.size + 1 < SB := by omega
    clear hs7 hsw hSB
    go_loopw [24] (fun i wr => ∃ j : Nat, i = .int .i64 (j : Int) ∧ j ≤ k ∧ NlNew wr (w.heap.size + 1) k j ∧ Box wr w.heap.size [.int .i64 0, gs [], .int .i64 0, .int .i64 0, .bool false, .int .i64 0, .slice none 0 0, .slice none 0 0, .int .i64 0] ∧ Box wr SB [.int .i64 0, gs [], .int .i64 0, .int .i64 ed, .bool true, .int .i64 ms, .slice (some ⟨w.heap.size + 1, 0, none⟩) k k] ∧ Below w.heap.size w wr) (fun i _ => k - (intOf i).toNat)
    case atStart => exact ⟨0, rfl, Nat.zero_le _, HM0.out, HZ0.out, HX0.out, HC0.out⟩
    case round =>
      clear HM0 HZ0 HX0 HC0
      obtain ⟨j, rfl, hj, hM, hZ, hX, hC⟩ := hrel
      have hwS := hC.size
      by_cases hjk : j < k
      · have HM := Lib.hid hM
        have HZ := Lib.hid hZ
        have HX := Lib.hid hX
        have HC := Lib.hid hC
        have hj2 : (j : Int) < (k : Int) := by omega
        obtain ⟨c0, c1, c2, c3, c4, c5, c6⟩ := hX.seven
        clear hM hZ hX hC
        go_wp2_with fail
        refine wp_region_held_drew (S := (fun X => X.cell? ⟨SB, 6, none⟩ = some (.slice (some ⟨w.heap.size + 1, 0, none⟩) k k))) (by kernel_rfl) (c6) (fun hHeld => ?_)
        refine wpAnyH_take (i := 0) (oi := _) (v := ?v1x0) rfl (by kernel_rfl) (by kernel_rfl) (by kernel_rfl) (fun _ _ _ h => h) (Or.inl ⟨by kernel_rfl, ?hy1x0⟩) (by with_reducible assumption) ?rest1x0
        case hy1x0 => (intro w hSw; (try dsimp only at hSw); go_simp; (try with_reducible rfl))
        (try simp only [Act.put, List.getElem_toArray, List.getElem_cons_zero, List.setIfInBounds_toArray, List.set_cons_succ, List.set_cons_zero])
        refine wpAnyH_take (i := 1) (oi := _) (v := ?v1x1) rfl (by kernel_rfl) (by kernel_rfl) (by kernel_rfl) (fun _ _ _ h => h) (Or.inl ⟨by kernel_rfl, ?hy1x1⟩) (by with_reducible assumption) ?rest1x1
        case hy1x1 => (intro w hSw; (try dsimp only at hSw); go_simp; (try with_reducible rfl))
        (try simp only [Act.put, List.getElem_toArray, List.getElem_cons_succ, List.getElem_cons_zero, List.setIfInBounds_toArray, List.set_cons_succ, List.set_cons_zero])
        refine wpAnyH_take (i := 2) (oi := _) (v := ?v1x2) rfl (by kernel_rfl) (by kernel_rfl) (by kernel_rfl) (fun _ _ _ h => h) (Or.inl ⟨by kernel_rfl, ?hy1x2⟩) (by with_reducible assumption) ?rest1x2
        case hy1x2 => (intro w hSw; (try dsimp only at hSw); go_simp; (try with_reducible rfl))
        (try simp only [Act.put, List.getElem_toArray, List.getElem_cons_succ, List.getElem_cons_zero, List.setIfInBounds_toArray, List.set_cons_succ, List.set_cons_zero])
        refine wpAnyH_ready (rs := [3]) (by kernel_rfl) (by simp) (AllReadyH.cons (o := _) rfl (fun K hK => ?c1x3) AllReadyH.nil)
        go_simp
        refine (HCLK.out _).mono ?_
        rintro e9 w9 ⟨rfl, hbN⟩
        have HB9 := Lib.hid (((Below.refl wr.heap.size wr).drew).trans hbN)
        go_simp
        refine hK.out _ _ ((hbN.cell (World.block_lt_of_cell? _ _ hHeld)).trans hHeld) (fun hHeld2 => ?_)
        clear hHeld
        have hHeld := hHeld2
        clear hK K hHeld2
        (try simp only [Act.put, List.getElem_toArray, List.getElem_cons_succ, List.getElem_cons_zero, List.setIfInBounds_toArray, List.set_cons_succ, List.set_cons_zero])
        refine wpAnyH_take (i := 4) (oi := _) (v := ?v1x4) rfl (by kernel_rfl) (by kernel_rfl) (by kernel_rfl) (fun _ _ _ h => h) (Or.inl ⟨by kernel_rfl, ?hy1x4⟩) (by with_reducible assumption) ?rest1x4
        case hy1x4 => (intro w hSw; (try dsimp only at hSw); go_simp; (try with_reducible rfl))
        (try simp only [Act.put, List.getElem_toArray, List.getElem_cons_succ, List.getElem_cons_zero, List.setIfInBounds_toArray, List.set_cons_succ, List.set_cons_zero])
        refine wpAnyH_take (i := 5) (oi := _) (v := ?v1x5) rfl (by kernel_rfl) (by kernel_rfl) (by kernel_rfl) (fun _ _ _ h => h) (Or.inl ⟨by kernel_rfl, ?hy1x5⟩) (by with_reducible assumption) ?rest1x5
        case hy1x5 => (intro w hSw; (try dsimp only at hSw); go_simp; (try with_reducible rfl))
        (try simp only [Act.put, List.getElem_toArray, List.getElem_cons_succ, List.getElem_cons_zero, List.setIfInBounds_toArray, List.set_cons_succ, List.set_cons_zero])
        refine wpAnyH_ready (rs := [6]) (by kernel_rfl) (by simp) (AllReadyH.cons (o := _) rfl (fun K hK => ?c1x6) AllReadyH.nil)
        rw [if_pos (by kernel_rfl)]
        have hm := HM.out.below HB9.out
        obtain ⟨u0, d0⟩ := hm.op.there (j * 6) (by omega)
        obtain ⟨u1, d1⟩ := hm.op.there (j * 6 + 1) (by omega)
        obtain ⟨u2, d2⟩ := hm.op.there (j * 6 + 2) (by omega)
        obtain ⟨u3, d3⟩ := hm.op.there (j * 6 + 3) (by omega)
        obtain ⟨u4, d4⟩ := hm.op.there (j * 6 + 4) (by omega)
        obtain ⟨u5, d5⟩ := hm.op.there (j * 6 + 5) (by omega)
        have z0 := hm.op.free (j * 6) (by omega)
        have z1 := hm.op.free (j * 6 + 1) (by omega)
        have z2 := hm.op.free (j * 6 + 2) (by omega)
        have z3 := hm.op.free (j * 6 + 3) (by omega)
        have z4 := hm.op.free (j * 6 + 4) (by omega)
        have z5 := hm.op.free (j * 6 + 5) (by omega)
        have HMN := Lib.hid (nlNew_succ hm hjk)
        have hst : ((((((w9.setCell ⟨w.heap.size + 1, j * 6, none⟩ (.int .i64 0)).setCell ⟨w.heap.size + 1, j * 6 + 1, none⟩ (.int .i64 0)).setCell ⟨w.heap.size + 1, j * 6 + 2, none⟩ (.int .i64 8)).setCell ⟨w.heap.size + 1, j * 6 + 3, none⟩ (.int .i64 2)).setCell ⟨w.heap.size + 1, j * 6 + 4, none⟩ (.int .i64 0)).setCell ⟨w.heap.size + 1, j * 6 + 5, none⟩ (.slice none 0 0)).cell? ⟨SB, 6, none⟩ = some (.slice (some ⟨w.heap.size + 1, 0, none⟩) k k) := (World.cell?_of_block (a := ⟨SB, 6, none⟩) (by rw [Below.heap_setCell _ _ _ _ (by show SB ≠ w.heap.size + 1; omega)]; rw [Below.heap_setCell _ _ _ _ (by show SB ≠ w.heap.size + 1; omega)]; rw [Below.heap_setCell _ _ _ _ (by show SB ≠ w.heap.size + 1; omega)]; rw [Below.heap_setCell _ _ _ _ (by show SB ≠ w.heap.size + 1; omega)]; rw [Below.heap_setCell _ _ _ _ (by show SB ≠ w.heap.size + 1; omega)]; rw [Below.heap_setCell _ _ _ _ (by show SB ≠ w.heap.size + 1; omega)])).trans hHeld
        have HST := Lib.hid hst
        clear hst hHeld hm
        go_simp
        refine hK.out _ _ HST.out (fun _ => ?_)
        clear hK K d0 d1 d2 d3 d4 d5 z0 z1 z2 z3 z4 z5
        (try simp only [Act.put, List.getElem_toArray, List.getElem_cons_succ, List.getElem_cons_zero, List.setIfInBounds_toArray, List.set_cons_succ, List.set_cons_zero])
        refine wpAnyH_done (by kernel_rfl) ?_ _
        have HZ2 := Lib.hid ((((((((HZ.out.below HB9.out).other (p := ⟨w.heap.size + 1, j * 6, none⟩) (by show w.heap.size + 1 ≠ w.heap.size; omega) (.int .i64 0)).other (p := ⟨w.heap.size + 1, j * 6 + 1, none⟩) (by show w.heap.size + 1 ≠ w.heap.size; omega) (.int .i64 0)).other (p := ⟨w.heap.size + 1, j * 6 + 2, none⟩) (by show w.heap.size + 1 ≠ w.heap.size; omega) (.int .i64 8)).other (p := ⟨w.heap.size + 1, j * 6 + 3, none⟩) (by show w.heap.size + 1 ≠ w.heap.size; omega) (.int .i64 2)).other (p := ⟨w.heap.size + 1, j * 6 + 4, none⟩) (by show w.heap.size + 1 ≠ w.heap.size; omega) (.int .i64 0)).other (p := ⟨w.heap.size + 1, j * 6 + 5, none⟩) (by show w.heap.size + 1 ≠ w.heap.size; omega) (.slice none 0 0)))
        have HX2 := Lib.hid ((((((((HX.out.below HB9.out).other (p := ⟨w.heap.size + 1, j * 6, none⟩) (by show w.heap.size + 1 ≠ SB; omega) (.int .i64 0)).other (p := ⟨w.heap.size + 1, j * 6 + 1, none⟩) (by show w.heap.size + 1 ≠ SB; omega) (.int .i64 0)).other (p := ⟨w.heap.size + 1, j * 6 + 2, none⟩) (by show w.heap.size + 1 ≠ SB; omega) (.int .i64 8)).other (p := ⟨w.heap.size + 1, j * 6 + 3, none⟩) (by show w.heap.size + 1 ≠ SB; omega) (.int .i64 2)).other (p := ⟨w.heap.size + 1, j * 6 + 4, none⟩) (by show w.heap.size + 1 ≠ SB; omega) (.int .i64 0)).other (p := ⟨w.heap.size + 1, j * 6 + 5, none⟩) (by show w.heap.size + 1 ≠ SB; omega) (.slice none 0 0)))
        have HC2 := Lib.hid (((((((HC.out.trans (HB9.out.mono HC.out.size)).setCell (p := ⟨w.heap.size + 1, j * 6, none⟩) (by show w.heap.size ≤ w.heap.size + 1; omega) (.int .i64 0)).setCell (p := ⟨w.heap.size + 1, j * 6 + 1, none⟩) (by show w.heap.size ≤ w.heap.size + 1; omega) (.int .i64 0)).setCell (p := ⟨w.heap.size + 1, j * 6 + 2, none⟩) (by show w.heap.size ≤ w.heap.size + 1; omega) (.int .i64 8)).setCell (p := ⟨w.heap.size + 1, j * 6 + 3, none⟩) (by show w.heap.size ≤ w.heap.size + 1; omega) (.int .i64 2)).setCell (p := ⟨w.heap.size + 1, j * 6 + 4, none⟩) (by show w.heap.size ≤ w.heap.size + 1; omega) (.int .i64 0)).setCell (p := ⟨w.heap.size + 1, j * 6 + 5, none⟩) (by show w.heap.size ≤ w.heap.size + 1; omega) (.slice none 0 0))
        clear HM HZ HX HC HB9 HST c0 c1 c2 c3 c4 c5 c6
        generalize ((((((w9.setCell ⟨w.heap.size + 1, j * 6, none⟩ (.int .i64 0)).setCell ⟨w.heap.size + 1, j * 6 + 1, none⟩ (.int .i64 0)).setCell ⟨w.heap.size + 1, j * 6 + 2, none⟩ (.int .i64 8)).setCell ⟨w.heap.size + 1, j * 6 + 3, none⟩ (.int .i64 2)).setCell ⟨w.heap.size + 1, j * 6 + 4, none⟩ (.int .i64 0)).setCell ⟨w.heap.size + 1, j * 6 + 5, none⟩ (.slice none 0 0)) = W9 at *
        go_wp2_with fail
        go_roundw
        case rel => exact ⟨j + 1, by go_num, by omega, HMN.out, HZ2.out, HX2.out, HC2.out⟩
        case measure => simp [intOf]; omega
      · obtain rfl : j = k := by omega
        have hN := nlNew_all hM
        have hgl := hN.lt
        have HR := Lib.hid (sndRightI_new ed ms j hk hN)
        have HN := Lib.hid hN
        have HX := Lib.hid hX
        have HZ := Lib.hid hZ
        have HC := Lib.hid hC
        obtain ⟨c0, c1, c2, c3, c4, c5, c6⟩ := hX.seven
        clear hN hX hZ hC hM HCLK
        unfold sndNV at HR
        by_cases hok : (0 ≤ ed ∧ ed ≤ 1000000) ∧ (1 ≤ ms ∧ ms ≤ 16)
        · rw [decide_eq_true hok] at HR
          have hr := HRR.out
          rw [if_pos hok] at hr
          have HR2 := Lib.hid hr
          clear hok hr HRR
          go_wp2_with fail
          (with_reducible refine HR.out.mono ?_); rintro e9 w2 ⟨rfl, hb2⟩
          clear c0 c1 c2 c3 c4 c5 c6
          obtain ⟨c0, c1, c2, c3, c4, c5, c6⟩ := (HX.out.below hb2).seven
          have HZ2 := Lib.hid (HZ.out.below hb2)
          have HN2 := Lib.hid (HN.out.below hb2)
          have HC2 := Lib.hid (HC.out.trans (hb2.mono HC.out.size))
          have hs2 := hb2.size
          clear hb2 HX HZ HN HC HR
          obtain ⟨⟨d0, d1, d2, d3, d4, d5, d6, d7, d8⟩, z0, z1, z2, z3, z4, z5, z6, z7, z8⟩ := HZ2.out.nine
          go_wp2_with fail
          have hK := kept9 w2 w.heap.size (.int .i64 0) (gs []) (.int .i64 0) (.int .i64 ed) (.bool true) (.int .i64 ms) (.slice (some ⟨(w.heap.size + 1), 0, none⟩) j j) (.slice none 0 0) (.int .i64 0)
          have hX9 := (((((((((HZ2.out.set 0 (.int .i64 0)).set 1 (gs [])).set 2 (.int .i64 0)).set 3 (.int .i64 ed)).set 4 (.bool true)).set 5 (.int .i64 ms)).set 6 (.slice (some ⟨(w.heap.size + 1), 0, none⟩) j j)).set 7 (.slice none 0 0)).set 8 (.int .i64 0))
          simp only [List.set_cons_succ, List.set_cons_zero] at hX9
          have HK := Lib.hid hK
          have HX9 := Lib.hid hX9
          clear hK hX9 d0 d1 d2 d3 d4 d5 d6 d7 d8 z0 z1 z2 z3 z4 z5 z6 z7 z8
          generalize (((((((((w2.setCell ⟨w.heap.size, 0, none⟩ (.int .i64 0)).setCell ⟨w.heap.size, 1, none⟩ (gs [])).setCell ⟨w.heap.size, 2, none⟩ (.int .i64 0)).setCell ⟨w.heap.size, 3, none⟩ (.int .i64 ed)).setCell ⟨w.heap.size, 4, none⟩ (.bool true)).setCell ⟨w.heap.size, 5, none⟩ (.int .i64 ms)).setCell ⟨w.heap.size, 6, none⟩ (.slice (some ⟨(w.heap.size + 1), 0, none⟩) j j)).setCell ⟨w.heap.size, 7, none⟩ (.slice none 0 0)).setCell ⟨w.heap.size, 8, none⟩ (.int .i64 0)) = wf at *
          obtain ⟨⟨d0, d1, d2, d3, d4, d5, d6, d7, d8⟩, -⟩ := HX9.out.nine
          refine bodyPost_ret (v := sndOutV ed true ms (some ⟨(w.heap.size + 1), 0, none⟩) j j 0) (by simp [sndOutV, results, Try.results12, go_sem, d0, d1, d2, d3, d4, d5, d6, d7, d8]) rfl ?_
          have hK := HK.out
          rw [HR2.out]
          have hsz := hK.size
          have hgl := HN2.out.lt
          have hnl := HN2.out.blk (hK.block _ hgl (by omega)) hsz
          refine ⟨some ⟨(w.heap.size + 1), 0, none⟩, j, by simp, ⟨by simp, by simp; omega, fun i hi => by rw [rep_at (by simpa using hi)]; unfold newLn Fit5; dsimp only; omega, fun _ => ⟨(w.heap.size + 1), rfl⟩, fun b o e _ => ?_⟩, fun b hb => ?_, HC2.out.trans (hK.toBelow HC2.out.size (fun b hb e => by omega))⟩
          · cases e
            refine ⟨rfl, ?_⟩
            simpa using hnl
          · obtain ⟨_, o, e⟩ := hb
            cases e
            exact ⟨by omega, Nat.lt_of_lt_of_le hgl hsz⟩
        · rw [decide_eq_false hok] at HR
          have hr := HRR.out
          rw [if_neg hok] at hr
          have HR2 := Lib.hid hr
          clear hok hr HRR
          go_wp2_with fail
          (with_reducible refine HR.out.mono ?_); rintro e9 w2 ⟨rfl, hb2⟩
          have HZ2 := Lib.hid (HZ.out.below hb2)
          have HC2 := Lib.hid (HC.out.trans (hb2.mono HC.out.size))
          clear hb2 HX HZ HN HC HR c0 c1 c2 c3 c4 c5 c6
          obtain ⟨⟨d0, d1, d2, d3, d4, d5, d6, d7, d8⟩, z0, z1, z2, z3, z4, z5, z6, z7, z8⟩ := HZ2.out.nine
          go_wp2_with fail
          have hK := kept9 w2 w.heap.size (.int .i64 0) (gs []) (.int .i64 0) (.int .i64 0) (.bool false) (.int .i64 0) (.slice none 0 0) (.slice none 0 0) (.int .i64 1)
          have hX9 := (((((((((HZ2.out.set 0 (.int .i64 0)).set 1 (gs [])).set 2 (.int .i64 0)).set 3 (.int .i64 0)).set 4 (.bool false)).set 5 (.int .i64 0)).set 6 (.slice none 0 0)).set 7 (.slice none 0 0)).set 8 (.int .i64 1))
          simp only [List.set_cons_succ, List.set_cons_zero] at hX9
          have HK := Lib.hid hK
          have HX9 := Lib.hid hX9
          clear hK hX9 d0 d1 d2 d3 d4 d5 d6 d7 d8 z0 z1 z2 z3 z4 z5 z6 z7 z8
          generalize (((((((((w2.setCell ⟨w.heap.size, 0, none⟩ (.int .i64 0)).setCell ⟨w.heap.size, 1, none⟩ (gs [])).setCell ⟨w.heap.size, 2, none⟩ (.int .i64 0)).setCell ⟨w.heap.size, 3, none⟩ (.int .i64 0)).setCell ⟨w.heap.size, 4, none⟩ (.bool false)).setCell ⟨w.heap.size, 5, none⟩ (.int .i64 0)).setCell ⟨w.heap.size, 6, none⟩ (.slice none 0 0)).setCell ⟨w.heap.size, 7, none⟩ (.slice none 0 0)).setCell ⟨w.heap.size, 8, none⟩ (.int .i64 1)) = wf at *
          obtain ⟨⟨d0, d1, d2, d3, d4, d5, d6, d7, d8⟩, -⟩ := HX9.out.nine
          refine bodyPost_ret (v := sndOutV 0 false 0 none 0 0 1) (by simp [sndOutV, results, Try.results12, go_sem, d0, d1, d2, d3, d4, d5, d6, d7, d8]) rfl ?_
          have hK := HK.out
          rw [HR2.out]
          exact sdBad_got (HC2.out.trans (hK.toBelow HC2.out.size (fun b hb e => by omega)))
  · have hr : sndNewN p ms ed = ⟨0, false, 0, [], 1⟩ := by unfold sndNewN; rw [if_neg (fun h => hp h.1)]
    rw [hr]
    have N1 := Lib.hid n1
    have HB := Lib.hid hb0
    clear hr n1 hb0
    by_cases h1 : p < 1
    all_goals
      go_enter Try.func12, Try.ntmps12
      go_wp2_with fail
      first
        | (exfalso; omega)
        | refine bodyPost_ret (v := sndOutV 0 false 0 none 0 0 1) (by simp [sndOutV, results, Try.results12, go_sem]) rfl (sdBad_got ((Below.refl _ _).alloc (Nat.le_refl _) _))
end Go.Proofs.Ytfjmcmdkmecgiaa
