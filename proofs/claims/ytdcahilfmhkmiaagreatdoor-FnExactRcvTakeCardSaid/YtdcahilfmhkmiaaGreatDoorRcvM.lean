/- The program's take: what is refused at once. -/
import Derived.Test.YtdcahilfmhkmiaaGreatDoorOpenR
import Derived.Test.YtdcahilfmhkmiaaGreatDoorSegRI
import Derived.Test.YtdcahilfmhkmiaaGreatDoorPutNil
namespace Go.Proofs.YtdcahilfmhkmiaaGreatDoor
open Go.RowKit

set_option maxHeartbeats 2000000 in
set_option maxRecDepth 100000 in
theorem takeForm_calls {w : World} (g : Nat) (p s d : Int) (t : List UInt8) (e : Int) (hl : t.length ≤ 9223372036854775807) (hno : ¬ segOk p s d t e) :
    Calls Tryz.prog 64 #[.pointer (some ⟨g, 0, none⟩), segV p s d t e] w fun x w' => x = .returned (faultV 1) ∧ Below w.heap.size w w' := by
  have h1 := fun V => segRightI_calls p s d t e V hl
  rw [decide_eq_false hno] at h1
  have H1 := Lib.hid h1
  clear h1 hno
  unfold segV faultV at *
  go_enter Tryz.func64, Tryz.ntmps64
  go_wp2_with fail
  have b1 : Below w.heap.size w (w.alloc (.cells #[.int .i64 p, .int .i64 s, .int .i64 d, gs t, .int .i64 e] 28)) := (Below.refl _ _).alloc (Nat.le_refl _) _
  (with_reducible refine (H1.out _).mono ?_); rintro x w1 ⟨rfl, hb⟩
  have HB := Lib.hid (b1.trans (hb.mono b1.size))
  clear b1 hb H1
  go_wp2_with fail
  exact bodyPost_ret (v := faultV 1) (by simp [results, Tryz.results64, go_sem]) rfl ⟨rfl, HB.out⟩
set_option maxHeartbeats 2000000 in
set_option maxRecDepth 100000 in
theorem takePath_calls {w : World} {g : Nat} {rd ed sz cp en : Int} {pa fa : Option Addr} {pl pc fl fc : Nat} (hx : Box w g [.int .i64 rd, .int .i64 ed, .int .i64 sz, .int .i64 cp, .slice pa pl pc, .int .i64 en, .slice fa fl fc])
    (p s d : Int) (t : List UInt8) (e : Int) (hl : t.length ≤ 9223372036854775807) (hok : segOk p s d t e) (hno : ¬ (0 ≤ p ∧ p < (fl : Int))) :
    Calls Tryz.prog 64 #[.pointer (some ⟨g, 0, none⟩), segV p s d t e] w fun x w' => x = .returned (faultV 6) ∧ Below w.heap.size w w' := by
  have h1 := fun V => segRightI_calls p s d t e V hl
  rw [decide_eq_true hok] at h1
  have H1 := Lib.hid h1
  have h2 := fun V => hasPath_calls (rd := rd) (ed := ed) (sz := sz) (cp := cp) (en := en) (pa := pa) (fa := fa) (pl := pl) (pc := pc) (fl := fl) (fc := fc) p V
  rw [decide_eq_false hno] at h2
  unfold readerV at h2
  have H2 := Lib.hid h2
  clear h1 h2 hno hok
  unfold segV faultV at *
  go_enter Tryz.func64, Tryz.ntmps64
  go_wp2_with fail
  have b1 : Below w.heap.size w (w.alloc (.cells #[.int .i64 p, .int .i64 s, .int .i64 d, gs t, .int .i64 e] 28)) := (Below.refl _ _).alloc (Nat.le_refl _) _
  have n1 := box_new w [.int .i64 p, .int .i64 s, .int .i64 d, gs t, .int .i64 e] 28 (by simp)
  (with_reducible refine (H1.out _).mono ?_); rintro x w1 ⟨rfl, hb⟩
  have HB := Lib.hid (b1.trans (hb.mono b1.size))
  have hn := n1.below hb
  have hy := hx.below HB.out
  obtain ⟨c0, c1, c2, c3, c4, c5, c6⟩ := hy.seven
  have e0 := hn.cell 0 _ rfl
  clear b1 n1 hb H1 hn hy
  go_wp2_with fail
  refine wp_region_held_drew (S := (fun X => ((X.cell? ⟨g, 0, none⟩ = some (.int .i64 rd) ∧ X.cell? ⟨g, 1, none⟩ = some (.int .i64 ed) ∧ X.cell? ⟨g, 2, none⟩ = some (.int .i64 sz) ∧ X.cell? ⟨g, 3, none⟩ = some (.int .i64 cp) ∧ X.cell? ⟨g, 4, none⟩ = some (.slice pa pl pc) ∧ X.cell? ⟨g, 5, none⟩ = some (.int .i64 en) ∧ X.cell? ⟨g, 6, none⟩ = some (.slice fa fl fc)) ∧ X.cell? ⟨w.heap.size, 0, none⟩ = some (.int .i64 p)) ∧ Below w.heap.size w X)) (by kernel_rfl) (⟨⟨⟨c0, c1, c2, c3, c4, c5, c6⟩, e0⟩, HB.out.drew⟩) (fun hHeld => ?_)
  refine wpAnyH_take (i := 0) (oi := _) (v := ?v1x0) rfl (by kernel_rfl) (by kernel_rfl) (by kernel_rfl) (fun _ _ _ h => h) (Or.inl ⟨by kernel_rfl, ?hy1x0⟩) (by with_reducible assumption) ?rest1x0
  case hy1x0 => (intro w hSw; (try dsimp only at hSw); go_simp; (try with_reducible rfl))
  (try simp only [Act.put, List.getElem_toArray, List.getElem_cons_zero, List.setIfInBounds_toArray, List.set_cons_succ, List.set_cons_zero])
  refine wpAnyH_take (i := 1) (oi := _) (v := ?v1x1) rfl (by kernel_rfl) (by kernel_rfl) (by kernel_rfl) (fun _ _ _ h => h) (Or.inl ⟨by kernel_rfl, ?hy1x1⟩) (by with_reducible assumption) ?rest1x1
  case hy1x1 => (intro w hSw; (try dsimp only at hSw); go_simp; (try with_reducible rfl))
  (try simp only [Act.put, List.getElem_toArray, List.getElem_cons_succ, List.getElem_cons_zero, List.setIfInBounds_toArray, List.set_cons_succ, List.set_cons_zero])
  refine wpAnyH_take (i := 2) (oi := _) (v := ?v1x2) rfl (by kernel_rfl) (by kernel_rfl) (by kernel_rfl) (fun _ _ _ h => h) (Or.inl ⟨by kernel_rfl, ?hy1x2⟩) (by with_reducible assumption) ?rest1x2
  case hy1x2 => (intro w hSw; (try dsimp only at hSw); go_simp; (try with_reducible rfl))
  (try simp only [Act.put, List.getElem_toArray, List.getElem_cons_succ, List.getElem_cons_zero, List.setIfInBounds_toArray, List.set_cons_succ, List.set_cons_zero])
  refine wpAnyH_take (i := 3) (oi := _) (v := ?v1x3) rfl (by kernel_rfl) (by kernel_rfl) (by kernel_rfl) (fun _ _ _ h => h) (Or.inl ⟨by kernel_rfl, ?hy1x3⟩) (by with_reducible assumption) ?rest1x3
  case hy1x3 => (intro w hSw; (try dsimp only at hSw); go_simp; (try with_reducible rfl))
  (try simp only [Act.put, List.getElem_toArray, List.getElem_cons_succ, List.getElem_cons_zero, List.setIfInBounds_toArray, List.set_cons_succ, List.set_cons_zero])
  refine wpAnyH_take (i := 4) (oi := _) (v := ?v1x4) rfl (by kernel_rfl) (by kernel_rfl) (by kernel_rfl) (fun _ _ _ h => h) (Or.inl ⟨by kernel_rfl, ?hy1x4⟩) (by with_reducible assumption) ?rest1x4
  case hy1x4 => (intro w hSw; (try dsimp only at hSw); go_simp; (try with_reducible rfl))
  (try simp only [Act.put, List.getElem_toArray, List.getElem_cons_succ, List.getElem_cons_zero, List.setIfInBounds_toArray, List.set_cons_succ, List.set_cons_zero])
  refine wpAnyH_ready (rs := [5]) (by kernel_rfl) (by simp) (AllReadyH.cons (o := _) rfl (fun K hK => ?c1x5) AllReadyH.nil)
  go_simp
  refine (H2.out _).mono ?_
  rintro e9 w9 ⟨rfl, hb9⟩
  have HB9 := Lib.hid (HB.out.drew.trans (hb9.mono HB.out.size))
  have hz9 : Below w1.heap.size w1 w9 := ((Below.refl w1.heap.size w1).drew).trans hb9
  have hk9 : w.heap.size < w1.heap.size := World.block_lt_of_cell? _ _ e0
  have hg9 : g < w1.heap.size := World.block_lt_of_cell? _ _ c0
  clear hb9
  go_simp
  refine hK.out _ _ (⟨⟨⟨(hz9.cell (p := ⟨g, 0, none⟩) hg9).trans c0, (hz9.cell (p := ⟨g, 1, none⟩) hg9).trans c1, (hz9.cell (p := ⟨g, 2, none⟩) hg9).trans c2, (hz9.cell (p := ⟨g, 3, none⟩) hg9).trans c3, (hz9.cell (p := ⟨g, 4, none⟩) hg9).trans c4, (hz9.cell (p := ⟨g, 5, none⟩) hg9).trans c5, (hz9.cell (p := ⟨g, 6, none⟩) hg9).trans c6⟩, (hz9.cell (p := ⟨w.heap.size, 0, none⟩) hk9).trans e0⟩, HB9.out⟩) (fun hHeld2 => ?_)
  clear hHeld
  have hHeld := hHeld2
  clear hK K hHeld2
  (try simp only [Act.put, List.getElem_toArray, List.getElem_cons_succ, List.getElem_cons_zero, List.setIfInBounds_toArray, List.set_cons_succ, List.set_cons_zero])
  refine wpAnyH_take (i := 6) (oi := _) (v := ?v1x6) rfl (by kernel_rfl) (by kernel_rfl) (by kernel_rfl) (fun _ _ _ h => h) (Or.inl ⟨by kernel_rfl, ?hy1x6⟩) (by with_reducible assumption) ?rest1x6
  case hy1x6 => (intro w hSw; (try dsimp only at hSw); go_simp; (try with_reducible rfl))
  (try simp only [Act.put, List.getElem_toArray, List.getElem_cons_succ, List.getElem_cons_zero, List.setIfInBounds_toArray, List.set_cons_succ, List.set_cons_zero])
  refine wpAnyH_done (by kernel_rfl) ?_ _
  clear c0 c1 c2 c3 c4 c5 c6 e0 HB hz9
  go_wp2_with fail
  exact bodyPost_ret (v := faultV 6) (by simp [results, Tryz.results64, go_sem]) rfl ⟨rfl, HB9.out⟩
end Go.Proofs.YtdcahilfmhkmiaaGreatDoor
