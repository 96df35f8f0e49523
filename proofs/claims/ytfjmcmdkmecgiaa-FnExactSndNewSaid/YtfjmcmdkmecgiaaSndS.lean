/- The model's SndNew. -/
import Derived.Test.YtfjmcmdkmecgiaaSndN
namespace Go.Proofs.Ytfjmcmdkmecgiaa
open Go.RowKit

theorem box_dr0 {w : World} {g : Nat} {vs : List Value} (h : Box w g vs) : Box w.drew g vs := ⟨h.cell, h.free, h.pos⟩
set_option maxHeartbeats 8000000 in
set_option maxRecDepth 100000 in
theorem sndNewS_calls (p ms ed : Int) (w : World) : Calls Try.prog 11 #[.int .i64 p, .int .i64 ms, .int .i64 ed] w (SdGot w (sndNewN p ms ed)) := by
  have H1 := Lib.hid (fun W => isC_calls p 1 4 W)
  have HILL := Lib.hid (fun W => illS_calls W)
  unfold sndOutV at HILL
  have n1 := box_new w [.int .i64 0, gs [], .int .i64 0, .int .i64 0, .bool false, .int .i64 0, .slice none 0 0, .slice none 0 0, .int .i64 0] 35 (by simp)
  have hb0 : Below w.heap.size w (w.alloc (.cells #[.int .i64 0, gs [], .int .i64 0, .int .i64 0, .bool false, .int .i64 0, .slice none 0 0, .slice none 0 0, .int .i64 0] 35)) := (Below.refl _ _).alloc (Nat.le_refl _) _
  by_cases hp : 1 ≤ p ∧ p ≤ 4
  · obtain ⟨k, rfl⟩ : ∃ k : Nat, p = (k : Int) := ⟨p.toNat, by omega⟩
    rw [decide_eq_true hp] at H1
    have hk : 1 ≤ k ∧ k ≤ 4 := by omega
    have HRR : Hid (sndNewN (k : Int) ms ed = if (0 ≤ ed ∧ ed ≤ 1000000) ∧ (1 ≤ ms ∧ ms ≤ 16) then ⟨ed, true, ms, List.replicate k newLn, 0⟩ else ⟨0, false, 0, [], 1⟩) := Lib.hid (by
      unfold sndNewN
      rw [Int.toNat_natCast]
      by_cases h : (0 ≤ ed ∧ ed ≤ 1000000) ∧ (1 ≤ ms ∧ ms ≤ 16)
      · rw [if_pos ⟨hp, h⟩, if_pos h]
      · rw [if_neg (fun h' => h h'.2), if_neg h])
    generalize sndNewN (k : Int) ms ed = R at *
    have HCLK := Lib.hid (fun W => clkNewS_calls W)
    have hzz : (Try.prog.info? 57).map (fun i => (i.zero, i.size, i.bytes)) = some (some (.agg #[.int .i64 0, .int .i64 0, .int .i64 0, .int .i64 0, .int .i64 0, .slice none 0 0]), 6, 64) := by kernel_rfl
    obtain ⟨i, hi, hz⟩ := Option.map_eq_some_iff.1 hzz
    simp only [Prod.mk.injEq] at hz
    have n2 := box_two w [.int .i64 0, gs [], .int .i64 0, .int .i64 0, .bool false, .int .i64 0, .slice none 0 0, .slice none 0 0, .int .i64 0] [.int .i64 0, gs [], .int .i64 0, .int .i64 ed, .bool true, .int .i64 ms, .slice none 0 0] 35 29 (by simp) (by simp)
    dsimp only at n2
    clear n1 hb0 hzz hp
    go_enter Try.func11, Try.ntmps11
    go_wp2_with fail
    (with_reducible refine (H1.out _).mono ?_); rintro e9 w1 ⟨rfl, rfl⟩
    go_wp2_with fail
    generalize (w.alloc (.cells #[.int .i64 0, gs [], .int .i64 0, .int .i64 0, .bool false, .int .i64 0, .slice none 0 0, .slice none 0 0, .int .i64 0] 35)).alloc (.cells #[.int .i64 0, gs [], .int .i64 0, .int .i64 ed, .bool true, .int .i64 ms, .slice none 0 0] 29) = W at *
    obtain ⟨n1, n2, hs, hb0⟩ := n2
    have HIN := Lib.hid (And.intro n1 (And.intro n2 hb0))
    clear n1 n2 hb0 H1
    go_loopw [8] (fun i wr => ∃ (j : Nat) (va : Option Addr) (vc : Nat), i = .int .i64 (j : Int) ∧ j ≤ k ∧ Box wr w.heap.size [.int .i64 0, gs [], .int .i64 0, .int .i64 0, .bool false, .int .i64 0, .slice none 0 0, .slice none 0 0, .int .i64 0] ∧ Box wr (w.heap.size + 1) [.int .i64 0, gs [], .int .i64 0, .int .i64 ed, .bool true, .int .i64 ms, .slice va j vc] ∧ wr.ownsRow (w.heap.size + 2) 57 6 (.slice va j vc) j (repC j) ∧ Below w.heap.size w wr) (fun i _ => k - (intOf i).toNat)
    case atStart => exact ⟨0, none, 0, rfl, Nat.zero_le _, HIN.out.1, HIN.out.2.1, World.ownsRow_nil _ _ _ _, HIN.out.2.2⟩
    case round =>
      clear HIN hs
      obtain ⟨j, va, vc, rfl, hj, hZ, hX, hOW, hC⟩ := hrel
      have hs0 : w.heap.size + 2 ≤ wr.heap.size := by have := hX.lt; omega
      by_cases hjk : j < k
      · have HIN := Lib.hid (And.intro hZ (And.intro hX (And.intro hOW hC)))
        clear hZ hX hOW hC
        go_wp2_with fail
        obtain ⟨hZ, hX, hOW, hC⟩ := HIN.out
        clear HIN
        refine wp_region_held_drew (S := (fun X => True)) (by kernel_rfl) trivial (fun hHeld => ?_)
        have HX := box_dr0 hX
        have HZ := box_dr0 hZ
        have HOW := own_keep hOW (w' := wr.drew) (fun b e => rfl)
        have HC : Below w.heap.size w wr.drew := hC.drew
        have hz0 : w.heap.size + 2 ≤ wr.drew.heap.size := hs0
        clear hX hZ hOW hC
        generalize wr.drew = v0 at *
        refine wpAnyH_take (i := 0) (oi := _) (v := ?vq0) rfl (by kernel_rfl) (by kernel_rfl) (by kernel_rfl) (fun _ _ _ h => h) (Or.inl ⟨by kernel_rfl, ?hyq0⟩) (by with_reducible assumption) ?restq0
        case hyq0 => (intro w hSw; (try dsimp only at hSw); go_simp; (try with_reducible rfl))
        (try simp only [Act.put, List.getElem_toArray, List.getElem_cons_zero, List.setIfInBounds_toArray, List.set_cons_succ, List.set_cons_zero])
        refine wpAnyH_ready (rs := [1, 2]) (by kernel_rfl) (by simp) (AllReadyH.cons (o := _) rfl (fun K hK => ?cA) (AllReadyH.cons (o := _) rfl (fun K hK => ?cB) AllReadyH.nil))
        case cA =>
          rw [if_pos (by kernel_rfl)]
          obtain ⟨c0, c1, c2, c3, c4, c5, c6⟩ := HX.seven
          go_simp
          refine hK.out _ _ trivial (fun hHeld2 => ?_)
          clear c0 c1 c2 c3 c4 c5 c6
          clear hHeld
          have hHeld := hHeld2
          clear hK K hHeld2
          (try simp only [Act.put, List.getElem_toArray, List.getElem_cons_succ, List.getElem_cons_zero, List.setIfInBounds_toArray, List.set_cons_succ, List.set_cons_zero])
          refine wpAnyH_ready (rs := [2]) (by kernel_rfl) (by simp) (AllReadyH.cons (o := _) rfl (fun K hK => ?cqa2) AllReadyH.nil)
          go_simp
          refine (HCLK.out _).mono ?_
          rintro e9 v1 ⟨rfl, hbN⟩
          replace HX := HX.below hbN
          replace HZ := HZ.below hbN
          replace HOW := own_under HOW hbN
          replace HC := HC.trans (hbN.mono HC.size)
          have hz1 := hbN.size
          go_simp
          refine hK.out _ _ trivial (fun hHeld2 => ?_)
          clear hbN
          clear hHeld
          have hHeld := hHeld2
          clear hK K hHeld2
          (try simp only [Act.put, List.getElem_toArray, List.getElem_cons_succ, List.getElem_cons_zero, List.setIfInBounds_toArray, List.set_cons_succ, List.set_cons_zero])
          refine wpAnyH_take (i := 3) (oi := _) (v := ?vqa3) rfl (by kernel_rfl) (by kernel_rfl) (by kernel_rfl) (fun _ _ _ h => h) (Or.inl ⟨by kernel_rfl, ?hyqa3⟩) (by with_reducible assumption) ?restqa3
          case hyqa3 => (intro w hSw; (try dsimp only at hSw); go_simp; (try with_reducible rfl))
          (try simp only [Act.put, List.getElem_toArray, List.getElem_cons_succ, List.getElem_cons_zero, List.setIfInBounds_toArray, List.set_cons_succ, List.set_cons_zero])
          refine wpAnyH_ready (rs := [4]) (by kernel_rfl) (by simp) (AllReadyH.cons (o := _) rfl (fun K hK => ?cqa4) AllReadyH.nil)
          rw [if_pos (by kernel_rfl)]
          have HBK := box_new v1 [.int .i64 0, .int .i64 0, .int .i64 8, .int .i64 2, .int .i64 0, .slice none 0 0] 57 (by simp)
          have hbN : Below v1.heap.size v1 (v1.alloc (.cells #[.int .i64 0, .int .i64 0, .int .i64 8, .int .i64 2, .int .i64 0, .slice none 0 0] 57)) := (Below.refl _ _).alloc (Nat.le_refl _) _
          replace HX := HX.below hbN
          replace HZ := HZ.below hbN
          replace HOW := own_under HOW hbN
          replace HC := HC.trans (hbN.mono HC.size)
          have hz2 := hbN.size
          go_simp
          refine hK.out _ _ trivial (fun hHeld2 => ?_)
          clear hbN
          generalize v1.alloc (.cells #[.int .i64 0, .int .i64 0, .int .i64 8, .int .i64 2, .int .i64 0, .slice none 0 0] 57) = v2 at *
          generalize v1.heap.size = g5 at *
          clear hHeld
          have hHeld := hHeld2
          clear hK K hHeld2
          (try simp only [Act.put, List.getElem_toArray, List.getElem_cons_succ, List.getElem_cons_zero, List.setIfInBounds_toArray, List.set_cons_succ, List.set_cons_zero])
          refine wpAnyH_ready (rs := [5]) (by kernel_rfl) (by simp) (AllReadyH.cons (o := _) rfl (fun K hK => ?cqa5) AllReadyH.nil)
          refine step_append_own _ rfl _ _ 27 rfl (w.heap.size + 2) 57 i _ 6 64 Try.underlying27 hi hz.1 hz.2.1 hz.2.2 rfl (by omega) (by omega) (v := .slice va j vc) (n := j) (xs := repC j) (by simp [Act.eval]) HOW (ad := ⟨g5, 0, none⟩) (m := 1) 1 (us := lineC) (by simp [Act.eval]) rfl (fun q u hq => by rw [Addr.add_lit, Nat.zero_add]; exact HBK.cell q u hq) (by simp [lineC, Value.oneCell']) (by omega) (by omega) ?_
          intro v9 w9 hown hgr
          have hvB : ∀ b, (Value.slice va j vc).ownBlock = some b → w.heap.size + 2 ≤ b := fun b e => (HOW.lt b e).1
          obtain ⟨va2, vc2, rfl⟩ := ownsRow_slice hown
          have hbN := grown_below hgr (B := w.heap.size + 2) (by omega) hvB
          have HX := HX.kept (hbN.block _ (by omega))
          have HZ := HZ.kept (hbN.block _ (by omega))
          have HC := HC.trans (hbN.mono (by omega))
          have hvB2 : ∀ b, (Value.slice va2 (j + 1) vc2).ownBlock = some b → w.heap.size + 2 ≤ b := fun b e => (hown.lt b e).1
          rw [← repC_succ] at hown
          refine hK.out _ _ trivial (fun hHeld2 => ?_)
          clear hbN hgr hvB HBK
          clear hHeld
          have hHeld := hHeld2
          clear hK K hHeld2
          (try simp only [Act.put, List.getElem_toArray, List.getElem_cons_succ, List.getElem_cons_zero, List.setIfInBounds_toArray, List.set_cons_succ, List.set_cons_zero])
          refine wpAnyH_take (i := 6) (oi := _) (v := ?vqa6) rfl (by kernel_rfl) (by kernel_rfl) (by kernel_rfl) (fun _ _ _ h => h) (Or.inl ⟨by kernel_rfl, ?hyqa6⟩) (by with_reducible assumption) ?restqa6
          case hyqa6 => (intro w hSw; (try dsimp only at hSw); go_simp; (try with_reducible rfl))
          (try simp only [Act.put, List.getElem_toArray, List.getElem_cons_succ, List.getElem_cons_zero, List.setIfInBounds_toArray, List.set_cons_succ, List.set_cons_zero])
          refine wpAnyH_ready (rs := [7]) (by kernel_rfl) (by simp) (AllReadyH.cons (o := _) rfl (fun K hK => ?cqa7) AllReadyH.nil)
          rw [if_pos (by kernel_rfl)]
          obtain ⟨c0, c1, c2, c3, c4, c5, c6⟩ := HX.seven
          have z6 := HX.free 6 (by simp)
          have HXS := HX.set 6 (.slice va2 (j + 1) vc2)
          simp only [List.set_cons_succ, List.set_cons_zero] at HXS
          have HZS := HZ.other (p := ⟨w.heap.size + 1, 6, none⟩) (by show w.heap.size + 1 ≠ w.heap.size; omega) (.slice va2 (j + 1) vc2)
          have HOS := own_keep hown (w' := w9.setCell ⟨w.heap.size + 1, 6, none⟩ (.slice va2 (j + 1) vc2)) (fun b e => Below.heap_setCell _ _ _ b (by have := hvB2 b e; show b ≠ w.heap.size + 1; omega))
          have HCS : Below w.heap.size w (w9.setCell ⟨w.heap.size + 1, 6, none⟩ (.slice va2 (j + 1) vc2)) := HC.setCell (by show w.heap.size ≤ w.heap.size + 1; omega) _
          have HE := Lib.hid (And.intro HXS (And.intro HZS (And.intro HOS HCS)))
          clear HXS HZS HOS HCS HX HZ HC hown HOW
          go_simp
          refine hK.out _ _ trivial (fun hHeld2 => ?_)
          clear hK K hHeld2 hHeld c0 c1 c2 c3 c4 c5 c6 z6
          (try simp only [Act.put, List.getElem_toArray, List.getElem_cons_succ, List.getElem_cons_zero, List.setIfInBounds_toArray, List.set_cons_succ, List.set_cons_zero])
          refine wpAnyH_done (by kernel_rfl) ?_ _
          go_wp2_with fail
          go_roundw
          case rel => exact ⟨j + 1, va2, vc2, by go_num, by omega, HE.out.2.1, HE.out.1, HE.out.2.2.1, HE.out.2.2.2⟩
          case measure => simp [intOf]; omega
        case cB =>
          go_simp
          refine (HCLK.out _).mono ?_
          rintro e9 v1 ⟨rfl, hbN⟩
          replace HX := HX.below hbN
          replace HZ := HZ.below hbN
          replace HOW := own_under HOW hbN
          replace HC := HC.trans (hbN.mono HC.size)
          have hz1 := hbN.size
          go_simp
          refine hK.out _ _ trivial (fun hHeld2 => ?_)
          clear hbN
          clear hHeld
          have hHeld := hHeld2
          clear hK K hHeld2
          (try simp only [Act.put, List.getElem_toArray, List.getElem_cons_succ, List.getElem_cons_zero, List.setIfInBounds_toArray, List.set_cons_succ, List.set_cons_zero])
          refine wpAnyH_take (i := 3) (oi := _) (v := ?vqb3) rfl (by kernel_rfl) (by kernel_rfl) (by kernel_rfl) (fun _ _ _ h => h) (Or.inl ⟨by kernel_rfl, ?hyqb3⟩) (by with_reducible assumption) ?restqb3
          case hyqb3 => (intro w hSw; (try dsimp only at hSw); go_simp; (try with_reducible rfl))
          (try simp only [Act.put, List.getElem_toArray, List.getElem_cons_succ, List.getElem_cons_zero, List.setIfInBounds_toArray, List.set_cons_succ, List.set_cons_zero])
          refine wpAnyH_ready (rs := [1, 4]) (by kernel_rfl) (by simp) (AllReadyH.cons (o := _) rfl (fun K hK => ?cB1) (AllReadyH.cons (o := _) rfl (fun K hK => ?cB2) AllReadyH.nil))
          case cB1 =>
            rw [if_pos (by kernel_rfl)]
            obtain ⟨c0, c1, c2, c3, c4, c5, c6⟩ := HX.seven
            go_simp
            refine hK.out _ _ trivial (fun hHeld2 => ?_)
            clear c0 c1 c2 c3 c4 c5 c6
            clear hHeld
            have hHeld := hHeld2
            clear hK K hHeld2
            (try simp only [Act.put, List.getElem_toArray, List.getElem_cons_succ, List.getElem_cons_zero, List.setIfInBounds_toArray, List.set_cons_succ, List.set_cons_zero])
            refine wpAnyH_ready (rs := [4]) (by kernel_rfl) (by simp) (AllReadyH.cons (o := _) rfl (fun K hK => ?cqc4) AllReadyH.nil)
            rw [if_pos (by kernel_rfl)]
            have HBK := box_new v1 [.int .i64 0, .int .i64 0, .int .i64 8, .int .i64 2, .int .i64 0, .slice none 0 0] 57 (by simp)
            have hbN : Below v1.heap.size v1 (v1.alloc (.cells #[.int .i64 0, .int .i64 0, .int .i64 8, .int .i64 2, .int .i64 0, .slice none 0 0] 57)) := (Below.refl _ _).alloc (Nat.le_refl _) _
            replace HX := HX.below hbN
            replace HZ := HZ.below hbN
            replace HOW := own_under HOW hbN
            replace HC := HC.trans (hbN.mono HC.size)
            have hz2 := hbN.size
            go_simp
            refine hK.out _ _ trivial (fun hHeld2 => ?_)
            clear hbN
            generalize v1.alloc (.cells #[.int .i64 0, .int .i64 0, .int .i64 8, .int .i64 2, .int .i64 0, .slice none 0 0] 57) = v2 at *
            generalize v1.heap.size = g5 at *
            clear hHeld
            have hHeld := hHeld2
            clear hK K hHeld2
            (try simp only [Act.put, List.getElem_toArray, List.getElem_cons_succ, List.getElem_cons_zero, List.setIfInBounds_toArray, List.set_cons_succ, List.set_cons_zero])
            refine wpAnyH_ready (rs := [5]) (by kernel_rfl) (by simp) (AllReadyH.cons (o := _) rfl (fun K hK => ?cqc5) AllReadyH.nil)
            refine step_append_own _ rfl _ _ 27 rfl (w.heap.size + 2) 57 i _ 6 64 Try.underlying27 hi hz.1 hz.2.1 hz.2.2 rfl (by omega) (by omega) (v := .slice va j vc) (n := j) (xs := repC j) (by simp [Act.eval]) HOW (ad := ⟨g5, 0, none⟩) (m := 1) 1 (us := lineC) (by simp [Act.eval]) rfl (fun q u hq => by rw [Addr.add_lit, Nat.zero_add]; exact HBK.cell q u hq) (by simp [lineC, Value.oneCell']) (by omega) (by omega) ?_
            intro v9 w9 hown hgr
            have hvB : ∀ b, (Value.slice va j vc).ownBlock = some b → w.heap.size + 2 ≤ b := fun b e => (HOW.lt b e).1
            obtain ⟨va2, vc2, rfl⟩ := ownsRow_slice hown
            have hbN := grown_below hgr (B := w.heap.size + 2) (by omega) hvB
            have HX := HX.kept (hbN.block _ (by omega))
            have HZ := HZ.kept (hbN.block _ (by omega))
            have HC := HC.trans (hbN.mono (by omega))
            have hvB2 : ∀ b, (Value.slice va2 (j + 1) vc2).ownBlock = some b → w.heap.size + 2 ≤ b := fun b e => (hown.lt b e).1
            rw [← repC_succ] at hown
            refine hK.out _ _ trivial (fun hHeld2 => ?_)
            clear hbN hgr hvB HBK
            clear hHeld
            have hHeld := hHeld2
            clear hK K hHeld2
            (try simp only [Act.put, List.getElem_toArray, List.getElem_cons_succ, List.getElem_cons_zero, List.setIfInBounds_toArray, List.set_cons_succ, List.set_cons_zero])
            refine wpAnyH_take (i := 6) (oi := _) (v := ?vqc6) rfl (by kernel_rfl) (by kernel_rfl) (by kernel_rfl) (fun _ _ _ h => h) (Or.inl ⟨by kernel_rfl, ?hyqc6⟩) (by with_reducible assumption) ?restqc6
            case hyqc6 => (intro w hSw; (try dsimp only at hSw); go_simp; (try with_reducible rfl))
            (try simp only [Act.put, List.getElem_toArray, List.getElem_cons_succ, List.getElem_cons_zero, List.setIfInBounds_toArray, List.set_cons_succ, List.set_cons_zero])
            refine wpAnyH_ready (rs := [7]) (by kernel_rfl) (by simp) (AllReadyH.cons (o := _) rfl (fun K hK => ?cqc7) AllReadyH.nil)
            rw [if_pos (by kernel_rfl)]
            obtain ⟨c0, c1, c2, c3, c4, c5, c6⟩ := HX.seven
            have z6 := HX.free 6 (by simp)
            have HXS := HX.set 6 (.slice va2 (j + 1) vc2)
            simp only [List.set_cons_succ, List.set_cons_zero] at HXS
            have HZS := HZ.other (p := ⟨w.heap.size + 1, 6, none⟩) (by show w.heap.size + 1 ≠ w.heap.size; omega) (.slice va2 (j + 1) vc2)
            have HOS := own_keep hown (w' := w9.setCell ⟨w.heap.size + 1, 6, none⟩ (.slice va2 (j + 1) vc2)) (fun b e => Below.heap_setCell _ _ _ b (by have := hvB2 b e; show b ≠ w.heap.size + 1; omega))
            have HCS : Below w.heap.size w (w9.setCell ⟨w.heap.size + 1, 6, none⟩ (.slice va2 (j + 1) vc2)) := HC.setCell (by show w.heap.size ≤ w.heap.size + 1; omega) _
            have HE := Lib.hid (And.intro HXS (And.intro HZS (And.intro HOS HCS)))
            clear HXS HZS HOS HCS HX HZ HC hown HOW
            go_simp
            refine hK.out _ _ trivial (fun hHeld2 => ?_)
            clear hK K hHeld2 hHeld c0 c1 c2 c3 c4 c5 c6 z6
            (try simp only [Act.put, List.getElem_toArray, List.getElem_cons_succ, List.getElem_cons_zero, List.setIfInBounds_toArray, List.set_cons_succ, List.set_cons_zero])
            refine wpAnyH_done (by kernel_rfl) ?_ _
            go_wp2_with fail
            go_roundw
            case rel => exact ⟨j + 1, va2, vc2, by go_num, by omega, HE.out.2.1, HE.out.1, HE.out.2.2.1, HE.out.2.2.2⟩
            case measure => simp [intOf]; omega
          case cB2 =>
            rw [if_pos (by kernel_rfl)]
            have HBK := box_new v1 [.int .i64 0, .int .i64 0, .int .i64 8, .int .i64 2, .int .i64 0, .slice none 0 0] 57 (by simp)
            have hbN : Below v1.heap.size v1 (v1.alloc (.cells #[.int .i64 0, .int .i64 0, .int .i64 8, .int .i64 2, .int .i64 0, .slice none 0 0] 57)) := (Below.refl _ _).alloc (Nat.le_refl _) _
            replace HX := HX.below hbN
            replace HZ := HZ.below hbN
            replace HOW := own_under HOW hbN
            replace HC := HC.trans (hbN.mono HC.size)
            have hz2 := hbN.size
            go_simp
            refine hK.out _ _ trivial (fun hHeld2 => ?_)
            clear hbN
            generalize v1.alloc (.cells #[.int .i64 0, .int .i64 0, .int .i64 8, .int .i64 2, .int .i64 0, .slice none 0 0] 57) = v2 at *
            generalize v1.heap.size = g5 at *
            clear hHeld
            have hHeld := hHeld2
            clear hK K hHeld2
            (try simp only [Act.put, List.getElem_toArray, List.getElem_cons_succ, List.getElem_cons_zero, List.setIfInBounds_toArray, List.set_cons_succ, List.set_cons_zero])
            refine wpAnyH_ready (rs := [1]) (by kernel_rfl) (by simp) (AllReadyH.cons (o := _) rfl (fun K hK => ?cqd1) AllReadyH.nil)
            rw [if_pos (by kernel_rfl)]
            obtain ⟨c0, c1, c2, c3, c4, c5, c6⟩ := HX.seven
            go_simp
            refine hK.out _ _ trivial (fun hHeld2 => ?_)
            clear c0 c1 c2 c3 c4 c5 c6
            clear hHeld
            have hHeld := hHeld2
            clear hK K hHeld2
            (try simp only [Act.put, List.getElem_toArray, List.getElem_cons_succ, List.getElem_cons_zero, List.setIfInBounds_toArray, List.set_cons_succ, List.set_cons_zero])
            refine wpAnyH_ready (rs := [5]) (by kernel_rfl) (by simp) (AllReadyH.cons (o := _) rfl (fun K hK => ?cqd5) AllReadyH.nil)
            refine step_append_own _ rfl _ _ 27 rfl (w.heap.size + 2) 57 i _ 6 64 Try.underlying27 hi hz.1 hz.2.1 hz.2.2 rfl (by omega) (by omega) (v := .slice va j vc) (n := j) (xs := repC j) (by simp [Act.eval]) HOW (ad := ⟨g5, 0, none⟩) (m := 1) 1 (us := lineC) (by simp [Act.eval]) rfl (fun q u hq => by rw [Addr.add_lit, Nat.zero_add]; exact HBK.cell q u hq) (by simp [lineC, Value.oneCell']) (by omega) (by omega) ?_
            intro v9 w9 hown hgr
            have hvB : ∀ b, (Value.slice va j vc).ownBlock = some b → w.heap.size + 2 ≤ b := fun b e => (HOW.lt b e).1
            obtain ⟨va2, vc2, rfl⟩ := ownsRow_slice hown
            have hbN := grown_below hgr (B := w.heap.size + 2) (by omega) hvB
            have HX := HX.kept (hbN.block _ (by omega))
            have HZ := HZ.kept (hbN.block _ (by omega))
            have HC := HC.trans (hbN.mono (by omega))
            have hvB2 : ∀ b, (Value.slice va2 (j + 1) vc2).ownBlock = some b → w.heap.size + 2 ≤ b := fun b e => (hown.lt b e).1
            rw [← repC_succ] at hown
            refine hK.out _ _ trivial (fun hHeld2 => ?_)
            clear hbN hgr hvB HBK
            clear hHeld
            have hHeld := hHeld2
            clear hK K hHeld2
            (try simp only [Act.put, List.getElem_toArray, List.getElem_cons_succ, List.getElem_cons_zero, List.setIfInBounds_toArray, List.set_cons_succ, List.set_cons_zero])
            refine wpAnyH_take (i := 6) (oi := _) (v := ?vqd6) rfl (by kernel_rfl) (by kernel_rfl) (by kernel_rfl) (fun _ _ _ h => h) (Or.inl ⟨by kernel_rfl, ?hyqd6⟩) (by with_reducible assumption) ?restqd6
            case hyqd6 => (intro w hSw; (try dsimp only at hSw); go_simp; (try with_reducible rfl))
            (try simp only [Act.put, List.getElem_toArray, List.getElem_cons_succ, List.getElem_cons_zero, List.setIfInBounds_toArray, List.set_cons_succ, List.set_cons_zero])
            refine wpAnyH_ready (rs := [7]) (by kernel_rfl) (by simp) (AllReadyH.cons (o := _) rfl (fun K hK => ?cqd7) AllReadyH.nil)
            rw [if_pos (by kernel_rfl)]
            obtain ⟨c0, c1, c2, c3, c4, c5, c6⟩ := HX.seven
            have z6 := HX.free 6 (by simp)
            have HXS := HX.set 6 (.slice va2 (j + 1) vc2)
            simp only [List.set_cons_succ, List.set_cons_zero] at HXS
            have HZS := HZ.other (p := ⟨w.heap.size + 1, 6, none⟩) (by show w.heap.size + 1 ≠ w.heap.size; omega) (.slice va2 (j + 1) vc2)
            have HOS := own_keep hown (w' := w9.setCell ⟨w.heap.size + 1, 6, none⟩ (.slice va2 (j + 1) vc2)) (fun b e => Below.heap_setCell _ _ _ b (by have := hvB2 b e; show b ≠ w.heap.size + 1; omega))
            have HCS : Below w.heap.size w (w9.setCell ⟨w.heap.size + 1, 6, none⟩ (.slice va2 (j + 1) vc2)) := HC.setCell (by show w.heap.size ≤ w.heap.size + 1; omega) _
            have HE := Lib.hid (And.intro HXS (And.intro HZS (And.intro HOS HCS)))
            clear HXS HZS HOS HCS HX HZ HC hown HOW
            go_simp
            refine hK.out _ _ trivial (fun hHeld2 => ?_)
            clear hK K hHeld2 hHeld c0 c1 c2 c3 c4 c5 c6 z6
            (try simp only [Act.put, List.getElem_toArray, List.getElem_cons_succ, List.getElem_cons_zero, List.setIfInBounds_toArray, List.set_cons_succ, List.set_cons_zero])
            refine wpAnyH_done (by kernel_rfl) ?_ _
            go_wp2_with fail
            go_roundw
            case rel => exact ⟨j + 1, va2, vc2, by go_num, by omega, HE.out.2.1, HE.out.1, HE.out.2.2.1, HE.out.2.2.2⟩
            case measure => simp [intOf]; omega
      · obtain rfl : j = k := by omega
        obtain ⟨g, cap, hv⟩ : ∃ g cap, Value.slice va j vc = .slice (some ⟨g, 0, none⟩) j cap := by
          rcases hOW.2 with ⟨h, h0⟩ | ⟨g, cap, cur, e, _⟩
          · omega
          · exact ⟨g, cap, e⟩
        injection hv with hv1 _ hv3
        subst hv1
        subst hv3
        have hgB := (hOW.lt g rfl).1
        have hN := nl_own hOW
        have HR := Lib.hid (sndRightS_new ed ms vc hk hN)
        have HN := Lib.hid hN
        have HX := Lib.hid hX
        have HZ := Lib.hid hZ
        have HC := Lib.hid hC
        obtain ⟨c0, c1, c2, c3, c4, c5, c6⟩ := hX.seven
        clear hN hX hZ hC hOW hi hz HCLK
        unfold sndNV at HR
        by_cases hok : (0 ≤ ed ∧ ed ≤ 1000000) ∧ (1 ≤ ms ∧ ms ≤ 16)
        · rw [decide_eq_true hok] at HR
          have hr := HRR.out
          rw [if_pos hok] at hr
          have HR2 := Lib.hid hr
          clear hok hr HRR
          go_wp2_with fail
          (with_reducible refine HR.out.mono ?_); rintro e9 w2 ⟨rfl, hb2⟩
          clear c0 c1 c2 c3 c4 c5 c6
          obtain ⟨c0, c1, c2, c3, c4, c5, c6⟩ := (HX.out.below hb2).seven
          have HZ2 := Lib.hid (HZ.out.below hb2)
          have HN2 := Lib.hid (HN.out.below hb2)
          have HC2 := Lib.hid (HC.out.trans (hb2.mono HC.out.size))
          clear hb2 HX HZ HN HC HR
          obtain ⟨⟨d0, d1, d2, d3, d4, d5, d6, d7, d8⟩, z0, z1, z2, z3, z4, z5, z6, z7, z8⟩ := HZ2.out.nine
          go_wp2_with fail
          have hK := kept9 w2 w.heap.size (.int .i64 0) (gs []) (.int .i64 0) (.int .i64 ed) (.bool true) (.int .i64 ms) (.slice (some ⟨g, 0, none⟩) j vc) (.slice none 0 0) (.int .i64 0)
          have hX9 := (((((((((HZ2.out.set 0 (.int .i64 0)).set 1 (gs [])).set 2 (.int .i64 0)).set 3 (.int .i64 ed)).set 4 (.bool true)).set 5 (.int .i64 ms)).set 6 (.slice (some ⟨g, 0, none⟩) j vc)).set 7 (.slice none 0 0)).set 8 (.int .i64 0))
          simp only [List.set_cons_succ, List.set_cons_zero] at hX9
          have HK := Lib.hid hK
          have HX9 := Lib.hid hX9
          clear hK hX9 d0 d1 d2 d3 d4 d5 d6 d7 d8 z0 z1 z2 z3 z4 z5 z6 z7 z8
          generalize (((((((((w2.setCell ⟨w.heap.size, 0, none⟩ (.int .i64 0)).setCell ⟨w.heap.size, 1, none⟩ (gs [])).setCell ⟨w.heap.size, 2, none⟩ (.int .i64 0)).setCell ⟨w.heap.size, 3, none⟩ (.int .i64 ed)).setCell ⟨w.heap.size, 4, none⟩ (.bool true)).setCell ⟨w.heap.size, 5, none⟩ (.int .i64 ms)).setCell ⟨w.heap.size, 6, none⟩ (.slice (some ⟨g, 0, none⟩) j vc)).setCell ⟨w.heap.size, 7, none⟩ (.slice none 0 0)).setCell ⟨w.heap.size, 8, none⟩ (.int .i64 0)) = wf at *
          obtain ⟨⟨d0, d1, d2, d3, d4, d5, d6, d7, d8⟩, -⟩ := HX9.out.nine
          refine bodyPost_ret (v := sndOutV ed true ms (some ⟨g, 0, none⟩) j vc 0) (by simp [sndOutV, results, Try.results11, go_sem, d0, d1, d2, d3, d4, d5, d6, d7, d8]) rfl ?_
          have hK := HK.out
          rw [HR2.out]
          have hsz := hK.size
          have hgl := HN2.out.lt
          have hnl := HN2.out.blk (hK.block _ hgl (by omega)) hsz
          refine ⟨some ⟨g, 0, none⟩, vc, by simp, ⟨by simp, by simp; omega, fun i hi => by rw [rep_at (by simpa using hi)]; unfold newLn Fit5; dsimp only; omega, fun _ => ⟨g, rfl⟩, fun b o e _ => ?_⟩, fun b hb => ?_, HC2.out.trans (hK.toBelow HC2.out.size (fun b hb e => by omega))⟩
          · cases e
            refine ⟨rfl, ?_⟩
            simpa using hnl
          · obtain ⟨_, o, e⟩ := hb
            cases e
            exact ⟨by omega, Nat.lt_of_lt_of_le hgl hsz⟩
        · rw [decide_eq_false hok] at HR
          have hr := HRR.out
          rw [if_neg hok] at hr
          have HR2 := Lib.hid hr
          clear hok hr HRR
          go_wp2_with fail
          (with_reducible refine HR.out.mono ?_); rintro e9 w2 ⟨rfl, hb2⟩
          have HZ2 := Lib.hid (HZ.out.below hb2)
          have HC2 := Lib.hid (HC.out.trans (hb2.mono HC.out.size))
          clear hb2 HX HZ HN HC HR c0 c1 c2 c3 c4 c5 c6
          go_wp2_with fail
          (with_reducible refine (HILL.out _).mono ?_); rintro e9 w3 ⟨rfl, hb3⟩
          have HZ3 := Lib.hid (HZ2.out.below hb3)
          have HC3 := Lib.hid (HC2.out.trans (hb3.mono HC2.out.size))
          clear hb3 HZ2 HC2
          obtain ⟨⟨d0, d1, d2, d3, d4, d5, d6, d7, d8⟩, z0, z1, z2, z3, z4, z5, z6, z7, z8⟩ := HZ3.out.nine
          go_wp2_with fail
          have hK := kept9 w3 w.heap.size (.int .i64 0) (gs []) (.int .i64 0) (.int .i64 0) (.bool false) (.int .i64 0) (.slice none 0 0) (.slice none 0 0) (.int .i64 1)
          have hX9 := (((((((((HZ3.out.set 0 (.int .i64 0)).set 1 (gs [])).set 2 (.int .i64 0)).set 3 (.int .i64 0)).set 4 (.bool false)).set 5 (.int .i64 0)).set 6 (.slice none 0 0)).set 7 (.slice none 0 0)).set 8 (.int .i64 1))
          simp only [List.set_cons_succ, List.set_cons_zero] at hX9
          have HK := Lib.hid hK
          have HX9 := Lib.hid hX9
          clear hK hX9 d0 d1 d2 d3 d4 d5 d6 d7 d8 z0 z1 z2 z3 z4 z5 z6 z7 z8
          generalize (((((((((w3.setCell ⟨w.heap.size, 0, none⟩ (.int .i64 0)).setCell ⟨w.heap.size, 1, none⟩ (gs [])).setCell ⟨w.heap.size, 2, none⟩ (.int .i64 0)).setCell ⟨w.heap.size, 3, none⟩ (.int .i64 0)).setCell ⟨w.heap.size, 4, none⟩ (.bool false)).setCell ⟨w.heap.size, 5, none⟩ (.int .i64 0)).setCell ⟨w.heap.size, 6, none⟩ (.slice none 0 0)).setCell ⟨w.heap.size, 7, none⟩ (.slice none 0 0)).setCell ⟨w.heap.size, 8, none⟩ (.int .i64 1)) = wf at *
          obtain ⟨⟨d0, d1, d2, d3, d4, d5, d6, d7, d8⟩, -⟩ := HX9.out.nine
          refine bodyPost_ret (v := sndOutV 0 false 0 none 0 0 1) (by simp [sndOutV, results, Try.results11, go_sem, d0, d1, d2, d3, d4, d5, d6, d7, d8]) rfl ?_
          have hK := HK.out
          rw [HR2.out]
          exact sdBad_got (HC3.out.trans (hK.toBelow HC3.out.size (fun b hb e => by omega)))
  · have hr : sndNewN p ms ed = ⟨0, false, 0, [], 1⟩ := by unfold sndNewN; rw [if_neg (fun h => hp h.1)]
    rw [hr]
    rw [decide_eq_false hp] at H1
    have N1 := Lib.hid n1
    have HB := Lib.hid hb0
    clear hr hp n1 hb0
    go_enter Try.func11, Try.ntmps11
    go_wp2_with fail
    (with_reducible refine (H1.out _).mono ?_); rintro e9 w1 ⟨rfl, rfl⟩
    go_wp2_with fail
    (with_reducible refine (HILL.out _).mono ?_); rintro e9 w3 ⟨rfl, hb3⟩
    have HZ3 := Lib.hid (N1.out.below hb3)
    have HC3 := Lib.hid (HB.out.trans (hb3.mono HB.out.size))
    clear hb3 N1 HB
    obtain ⟨⟨d0, d1, d2, d3, d4, d5, d6, d7, d8⟩, z0, z1, z2, z3, z4, z5, z6, z7, z8⟩ := HZ3.out.nine
    go_wp2_with fail
    have hK := kept9 w3 w.heap.size (.int .i64 0) (gs []) (.int .i64 0) (.int .i64 0) (.bool false) (.int .i64 0) (.slice none 0 0) (.slice none 0 0) (.int .i64 1)
    have hX9 := (((((((((HZ3.out.set 0 (.int .i64 0)).set 1 (gs [])).set 2 (.int .i64 0)).set 3 (.int .i64 0)).set 4 (.bool false)).set 5 (.int .i64 0)).set 6 (.slice none 0 0)).set 7 (.slice none 0 0)).set 8 (.int .i64 1))
    simp only [List.set_cons_succ, List.set_cons_zero] at hX9
    have HK := Lib.hid hK
    have HX9 := Lib.hid hX9
    clear hK hX9 d0 d1 d2 d3 d4 d5 d6 d7 d8 z0 z1 z2 z3 z4 z5 z6 z7 z8
    generalize (((((((((w3.setCell ⟨w.heap.size, 0, none⟩ (.int .i64 0)).setCell ⟨w.heap.size, 1, none⟩ (gs [])).setCell ⟨w.heap.size, 2, none⟩ (.int .i64 0)).setCell ⟨w.heap.size, 3, none⟩ (.int .i64 0)).setCell ⟨w.heap.size, 4, none⟩ (.bool false)).setCell ⟨w.heap.size, 5, none⟩ (.int .i64 0)).setCell ⟨w.heap.size, 6, none⟩ (.slice none 0 0)).setCell ⟨w.heap.size, 7, none⟩ (.slice none 0 0)).setCell ⟨w.heap.size, 8, none⟩ (.int .i64 1)) = wf at *
    obtain ⟨⟨d0, d1, d2, d3, d4, d5, d6, d7, d8⟩, -⟩ := HX9.out.nine
    refine bodyPost_ret (v := sndOutV 0 false 0 none 0 0 1) (by simp [sndOutV, results, Try.results11, go_sem, d0, d1, d2, d3, d4, d5, d6, d7, d8]) rfl ?_
    have hK := HK.out
    exact sdBad_got (HC3.out.trans (hK.toBelow HC3.out.size (fun b hb e => by omega)))
end Go.Proofs.Ytfjmcmdkmecgiaa
