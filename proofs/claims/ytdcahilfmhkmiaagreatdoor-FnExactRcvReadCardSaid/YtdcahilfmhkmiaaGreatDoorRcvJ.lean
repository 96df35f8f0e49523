/- The program's readOut and RcvRead. -/
import Derived.Test.YtdcahilfmhkmiaaGreatDoorOpenR
import Derived.Test.YtdcahilfmhkmiaaGreatDoorTakeB
import Derived.Test.YtdcahilfmhkmiaaGreatDoorCutP
import Derived.Test.YtdcahilfmhkmiaaGreatDoorRcvRead
import Derived.Test.YtdcahilfmhkmiaaGreatDoorRcvCopy
namespace Go.Proofs.YtdcahilfmhkmiaaGreatDoor
open Go.RowKit

theorem field_pcs (a : Option Addr) (l c : Nat) (W : World) : (Instr.field 167 (.agg #[.slice a l c, .int .i64 0]) 0).run Tryz.prog W = .ok (.slice a l c) W := by kernel_rfl
/-- What readOut answers, and leaves in the reader. -/
def ReadsOut (w : World) (g : Nat) (r2 e2 s2 cp en : Int) (CP : List Pc) (fa : Option Addr) (fl fc : Nat) (T : List UInt8) (e : Ending) (w' : World) : Prop :=
  ∃ qa qc, e = .returned (gs T) ∧ Box w' g [.int .i64 r2, .int .i64 e2, .int .i64 s2, .int .i64 cp, .slice qa CP.length qc, .int .i64 en, .slice fa fl fc] ∧
    PcsOwn (fun b => w.heap.size ≤ b ∧ b < w'.heap.size) w' qa CP.length CP ∧ Kept (fun b => b = g) w w'
set_option maxHeartbeats 4000000 in
set_option maxRecDepth 100000 in
theorem readOutN_calls {rd ed sz cp en : Int} {pa fa : Option Addr} {pl pc fl fc g : Nat} {ps : List Pc} {n : Frs} {w : World} (hb : Box w g [.int .i64 rd, .int .i64 ed, .int .i64 sz, .int .i64 cp, .slice pa pl pc, .int .i64 en, .slice fa fl fc]) (hp : InPcs w pa pl ps) (hpg : ∀ b, LgB pa pl b → b ≠ g) (hok : rcvOk rd ps ed sz cp en n) (k : Int) (hk : 1 ≤ k)
    (T : List UInt8) (hT : T = (fromN ps rd).take T.length) (hTl : T.length ≤ (fromN ps rd).length) (hcase : (k ≤ ((fromN ps rd).length : Int) ∧ k = (T.length : Int)) ∨ (((fromN ps rd).length : Int) < k ∧ (fromN ps rd).length = T.length)) :
    Calls Tryz.prog 69 #[.pointer (some ⟨g, 0, none⟩), .int .i64 k] w
      (ReadsOut w g (rd + (T.length : Int)) (max ed (min (rd + (T.length : Int) + readSz sz cp (T.length : Int)) 1000000)) (readSz sz cp (T.length : Int)) cp en (cutN ps (rd + (T.length : Int))) fa fl fc T) := by
  have hl := fromN_len ps rd (inPcs_small hp)
  obtain ⟨hrd, hed, hcp, hsz, hrt, -, -, -, hen, -⟩ := id hok
  have H1 := Lib.hid (ready_calls (rd := rd) (ed := ed) (sz := sz) (cp := cp) (en := en) (pc := pc) (fa := fa) (fl := fl) (fc := fc) hp hrt)
  have hcut := fun (W : World) (a : Option Addr) (c : Nat) (h : InPcs W a pl ps) => cutRI_calls (cap := c) h (rd + (T.length : Int))
  rw [show cutR ps (rd + (T.length : Int)) = (cutN ps (rd + (T.length : Int)), 0) by unfold cutR; rw [if_neg (by have := hrt.1; omega), if_pos hrt]] at hcut
  have HCUT := Lib.hid (fun (W : World) (c : Nat) (h : InPcs W pa pl ps) => hcut W pa c h)
  have hcf := cutN_fit hp (rd + (T.length : Int)) (by omega) (by omega)
  have HCF := Lib.hid hcf
  have hsl := fun (L : Int) (hL : L = (T.length : Int)) (W : World) => slice_head (P := Tryz.prog) Tryz.underlying9 (fromN ps rd) T.length L hL hTl W
  rw [← hT] at hsl
  have hgw : g < w.heap.size := hb.lt
  have HLT := Lib.hid hp
  have HPG := Lib.hid hpg
  have HB := Lib.hid hb
  have hn2 : 0 ≤ (T.length : Int) ∧ (T.length : Int) ≤ 2000000 := by omega
  have HPASS := Lib.hid (fun (W : World) (h : Box W g [.int .i64 rd, .int .i64 ed, .int .i64 sz, .int .i64 cp, .slice pa pl pc, .int .i64 en, .slice fa fl fc]) => pass_calls h (T.length : Int) hrd hed hsz hcp.2 hn2)
  generalize hr2 : rd + (T.length : Int) = r2 at *
  generalize max ed (min (r2 + readSz sz cp (T.length : Int)) 1000000) = e2 at *
  generalize readSz sz cp (T.length : Int) = s2 at *
  generalize cutN ps r2 = CP at *
  generalize fromN ps rd = t at *
  have HSL := Lib.hid hsl
  clear hok hp hcut hcf hpg hb hT hTl hsl hr2
  unfold readerV at *
  obtain ⟨c0, c1, c2, c3, c4, c5, c6⟩ := HB.out.seven
  go_enter Tryz.func69, Tryz.ntmps69
  go_wp2_with fail
  (with_reducible refine H1.out.mono ?_); rintro e w1 ⟨rfl, hb1⟩
  have N1 := Lib.hid (HB.out.below hb1)
  have HP1 := Lib.hid (HLT.out.below hb1)
  have HK1 := Lib.hid (kept_below (S := fun b => b = g) hb1)
  clear hb1 HB HLT H1 c0 c1 c2 c3 c4 c5 c6
  rcases hcase with ⟨hc1, hc2⟩ | ⟨hc1, hc2⟩
  · have hsl := HSL.out _ hc2
    subst hc2
    go_wp2_with fail
    (with_reducible refine (HPASS.out _ N1.out).mono ?_); rintro e w2 ⟨rfl, hbx, hkp⟩
    have N3 := Lib.hid hbx
    have HK3 := Lib.hid (HK1.out.trans hkp)
    have HP3 := Lib.hid (HP1.out.blks (fun b hl hw => hkp.block b hw (HPG.out b hl)))
    obtain ⟨a0, a1, a2, a3, a4, a5, a6⟩ := N3.out.seven
    clear hbx hkp HK1 HP1 HPASS hsl HSL
    go_wp2_with fail
    refine wp_region_held_drew (S := (fun V => Kept (fun b => b = g) w V ∧ V.cell? ⟨g, 0, none⟩ = some (.int .i64 r2))) (by kernel_rfl) (⟨(HK3.out.trans (kept_below (below_drew' _))), a0⟩) (fun hHeld => ?_)
    refine wpAnyH_take (i := 0) (oi := _) (v := ?v1x0) rfl (by kernel_rfl) (by kernel_rfl) (by kernel_rfl) (fun _ _ _ h => h) (Or.inl ⟨by kernel_rfl, ?hy1x0⟩) (by with_reducible assumption) ?rest1x0
    case hy1x0 => (intro w hSw; (try dsimp only at hSw); go_simp; (try with_reducible rfl))
    (try simp only [Act.put, List.getElem_toArray, List.getElem_cons_zero, List.setIfInBounds_toArray, List.set_cons_succ, List.set_cons_zero])
    refine wpAnyH_take (i := 1) (oi := _) (v := ?v1x1) rfl (by kernel_rfl) (by kernel_rfl) (by kernel_rfl) (fun _ _ _ h => h) (Or.inl ⟨by kernel_rfl, ?hy1x1⟩) (by with_reducible assumption) ?rest1x1
    case hy1x1 => (intro w hSw; (try dsimp only at hSw); go_simp; (try with_reducible rfl))
    (try simp only [Act.put, List.getElem_toArray, List.getElem_cons_succ, List.getElem_cons_zero, List.setIfInBounds_toArray, List.set_cons_succ, List.set_cons_zero])
    refine wpAnyH_take (i := 2) (oi := _) (v := ?v1x2) rfl (by kernel_rfl) (by kernel_rfl) (by kernel_rfl) (fun _ _ _ h => h) (Or.inl ⟨by kernel_rfl, ?hy1x2⟩) (by with_reducible assumption) ?rest1x2
    case hy1x2 => (intro w hSw; (try dsimp only at hSw); go_simp; (try with_reducible rfl))
    (try simp only [Act.put, List.getElem_toArray, List.getElem_cons_succ, List.getElem_cons_zero, List.setIfInBounds_toArray, List.set_cons_succ, List.set_cons_zero])
    refine wpAnyH_take (i := 3) (oi := _) (v := ?v1x3) rfl (by kernel_rfl) (by kernel_rfl) (by kernel_rfl) (fun _ _ _ h => h) (Or.inl ⟨by kernel_rfl, ?hy1x3⟩) (by with_reducible assumption) ?rest1x3
    case hy1x3 => (intro w hSw; (try dsimp only at hSw); go_simp; (try with_reducible rfl))
    (try simp only [Act.put, List.getElem_toArray, List.getElem_cons_succ, List.getElem_cons_zero, List.setIfInBounds_toArray, List.set_cons_succ, List.set_cons_zero])
    refine wpAnyH_take (i := 5) (oi := _) (v := ?v1x5) rfl (by kernel_rfl) (by kernel_rfl) (by kernel_rfl) (fun _ _ _ h => h) (Or.inl ⟨by kernel_rfl, ?hy1x5⟩) (by with_reducible assumption) ?rest1x5
    case hy1x5 => (intro w hSw; (try dsimp only at hSw); go_simp; (try with_reducible rfl))
    (try simp only [Act.put, List.getElem_toArray, List.getElem_cons_succ, List.getElem_cons_zero, List.setIfInBounds_toArray, List.set_cons_succ, List.set_cons_zero])
    refine wpAnyH_take (i := 6) (oi := _) (v := ?v1x6) rfl (by kernel_rfl) (by kernel_rfl) (by kernel_rfl) (fun _ _ _ h => h) (Or.inl ⟨by kernel_rfl, ?hy1x6⟩) (by with_reducible assumption) ?rest1x6
    case hy1x6 => (intro w hSw; (try dsimp only at hSw); go_simp; (try with_reducible rfl))
    (try simp only [Act.put, List.getElem_toArray, List.getElem_cons_succ, List.getElem_cons_zero, List.setIfInBounds_toArray, List.set_cons_succ, List.set_cons_zero])
    refine wpAnyH_take (i := 7) (oi := _) (v := ?v1x7) rfl (by kernel_rfl) (by kernel_rfl) (by kernel_rfl) (fun _ _ _ h => h) (Or.inl ⟨by kernel_rfl, ?hy1x7⟩) (by with_reducible assumption) ?rest1x7
    case hy1x7 => (intro w hSw; (try dsimp only at hSw); go_simp; (try with_reducible rfl))
    (try simp only [Act.put, List.getElem_toArray, List.getElem_cons_succ, List.getElem_cons_zero, List.setIfInBounds_toArray, List.set_cons_succ, List.set_cons_zero])
    refine wpAnyH_take (i := 8) (oi := _) (v := ?v1x8) rfl (by kernel_rfl) (by kernel_rfl) (by kernel_rfl) (fun _ _ _ h => h) (Or.inl ⟨by kernel_rfl, ?hy1x8⟩) (by with_reducible assumption) ?rest1x8
    case hy1x8 => (intro w hSw; (try dsimp only at hSw); go_simp; (try with_reducible rfl))
    (try simp only [Act.put, List.getElem_toArray, List.getElem_cons_succ, List.getElem_cons_zero, List.setIfInBounds_toArray, List.set_cons_succ, List.set_cons_zero])
    refine wpAnyH_take (i := 9) (oi := _) (v := ?v1x9) rfl (by kernel_rfl) (by kernel_rfl) (by kernel_rfl) (fun _ _ _ h => h) (Or.inl ⟨by kernel_rfl, ?hy1x9⟩) (by with_reducible assumption) ?rest1x9
    case hy1x9 => (intro w hSw; (try dsimp only at hSw); go_simp; (try with_reducible rfl))
    (try simp only [Act.put, List.getElem_toArray, List.getElem_cons_succ, List.getElem_cons_zero, List.setIfInBounds_toArray, List.set_cons_succ, List.set_cons_zero])
    refine wpAnyH_ready (rs := [4]) (by kernel_rfl) (by simp) (AllReadyH.cons (o := _) rfl (fun K hK => ?c1x4) AllReadyH.nil)
    rw [if_pos (by kernel_rfl)]
    go_simp
    refine hK.out _ _ hHeld (fun hHeld2 => ?_)
    clear hHeld
    have hHeld := hHeld2
    clear hK K hHeld2
    (try simp only [Act.put, List.getElem_toArray, List.getElem_cons_succ, List.getElem_cons_zero, List.setIfInBounds_toArray, List.set_cons_succ, List.set_cons_zero])
    refine wpAnyH_ready (rs := [10]) (by kernel_rfl) (by simp) (AllReadyH.cons (o := _) rfl (fun K hK => ?c1x10) AllReadyH.nil)
    go_simp
    refine (HCUT.out _ _ (HP3.out.below (below_drew' _))).mono ?_
    rintro e w9 ⟨v, rfl, hown, hb9⟩
    obtain ⟨qa, qc, rfl⟩ := ownsRow_slice hown
    have HOWN := Lib.hid hown
    have HB9 := Lib.hid hb9
    have M9 := Lib.hid ((box_drew N3.out).below hb9)
    clear hown hb9
    go_simp
    refine hK.out _ _ (⟨hHeld.1.trans (kept_below HB9.out), (HB9.out.cell (World.block_lt_of_cell? _ _ hHeld.2)).trans hHeld.2⟩) (fun hHeld2 => ?_)
    clear hHeld
    have hHeld := hHeld2
    clear hK K hHeld2
    (try simp only [Act.put, List.getElem_toArray, List.getElem_cons_succ, List.getElem_cons_zero, List.setIfInBounds_toArray, List.set_cons_succ, List.set_cons_zero])
    refine wpAnyH_take (i := 11) (oi := _) (v := ?v1x11) rfl (by kernel_rfl) (by kernel_rfl) (by kernel_rfl) (fun _ _ _ h => h) (Or.inl ⟨by kernel_rfl, ?hy1x11⟩) (by with_reducible assumption) ?rest1x11
    case hy1x11 => (intro w hSw; (try dsimp only at hSw); (have hfp := fun W => field_pcs qa CP.length qc W); go_simp; (try with_reducible rfl))
    (try simp only [Act.put, List.getElem_toArray, List.getElem_cons_succ, List.getElem_cons_zero, List.setIfInBounds_toArray, List.set_cons_succ, List.set_cons_zero])
    refine wpAnyH_take (i := 12) (oi := _) (v := ?v1x12) rfl (by kernel_rfl) (by kernel_rfl) (by kernel_rfl) (fun _ _ _ h => h) (Or.inl ⟨by kernel_rfl, ?hy1x12⟩) (by with_reducible assumption) ?rest1x12
    case hy1x12 => (intro w hSw; (try dsimp only at hSw); go_simp; (try with_reducible rfl))
    (try simp only [Act.put, List.getElem_toArray, List.getElem_cons_succ, List.getElem_cons_zero, List.setIfInBounds_toArray, List.set_cons_succ, List.set_cons_zero])
    refine wpAnyH_take (i := 13) (oi := _) (v := ?v1x13) rfl (by kernel_rfl) (by kernel_rfl) (by kernel_rfl) (fun _ _ _ h => h) (Or.inl ⟨by kernel_rfl, ?hy1x13⟩) (by with_reducible assumption) ?rest1x13
    case hy1x13 => (intro w hSw; (try dsimp only at hSw); go_simp; (try with_reducible rfl))
    (try simp only [Act.put, List.getElem_toArray, List.getElem_cons_succ, List.getElem_cons_zero, List.setIfInBounds_toArray, List.set_cons_succ, List.set_cons_zero])
    refine wpAnyH_ready (rs := [14]) (by kernel_rfl) (by simp) (AllReadyH.cons (o := _) rfl (fun K hK => ?c1x14) AllReadyH.nil)
    rw [if_pos (by kernel_rfl)]
    obtain ⟨e0, e1, e2, e3, e4, e5, e6⟩ := M9.out.seven
    obtain ⟨z0, z1, z2, z3, z4, z5, z6⟩ := M9.out.frz7
    have hst : _ ∧ _ := ⟨hHeld.1.trans (kept_set (S := fun b => b = g) w9 g 4 (.slice qa CP.length qc) rfl), (World.cell?_setCell_other w9 ⟨g, 4, none⟩ ⟨g, 0, none⟩ (.slice qa CP.length qc) (fun e => by injection e; omega)).trans hHeld.2⟩
    have HST := Lib.hid hst
    clear hst hHeld
    go_simp
    refine hK.out _ _ HST.out (fun _ => ?_)
    clear hK K
    (try simp only [Act.put, List.getElem_toArray, List.getElem_cons_succ, List.getElem_cons_zero, List.setIfInBounds_toArray, List.set_cons_succ, List.set_cons_zero])
    refine wpAnyH_done (by kernel_rfl) ?_ _
    go_wp2_with fail
    go_ret
    refine ⟨qa, qc, rfl, M9.out.set 4 _, ?_, HST.out.1⟩
    have hpo := pcs_of_own HOWN.out rfl HCF.out.1 (fun i hi => HCF.out.2 _ (pcAt_mem hi))
    have hks := kept_set (S := fun b => b = g) w9 g 4 (.slice qa CP.length qc) rfl
    have h3 := HK3.out.size
    have h9 := HB9.out.size
    exact (hpo.kept hks (fun b e e' => by simp at e; omega)).mono (fun b e => ⟨by simp at e; omega, by simpa using e.2⟩)
  · have hsl := HSL.out _ (by omega : ((t.length : Int)) = (T.length : Int))
    clear hc2
    go_wp2_with fail
    (with_reducible refine (HPASS.out _ N1.out).mono ?_); rintro e w2 ⟨rfl, hbx, hkp⟩
    have N3 := Lib.hid hbx
    have HK3 := Lib.hid (HK1.out.trans hkp)
    have HP3 := Lib.hid (HP1.out.blks (fun b hl hw => hkp.block b hw (HPG.out b hl)))
    obtain ⟨a0, a1, a2, a3, a4, a5, a6⟩ := N3.out.seven
    clear hbx hkp HK1 HP1 HPASS hsl HSL
    go_wp2_with fail
    refine wp_region_held_drew (S := (fun V => Kept (fun b => b = g) w V ∧ V.cell? ⟨g, 0, none⟩ = some (.int .i64 r2))) (by kernel_rfl) (⟨(HK3.out.trans (kept_below (below_drew' _))), a0⟩) (fun hHeld => ?_)
    refine wpAnyH_take (i := 0) (oi := _) (v := ?v2x0) rfl (by kernel_rfl) (by kernel_rfl) (by kernel_rfl) (fun _ _ _ h => h) (Or.inl ⟨by kernel_rfl, ?hy2x0⟩) (by with_reducible assumption) ?rest2x0
    case hy2x0 => (intro w hSw; (try dsimp only at hSw); go_simp; (try with_reducible rfl))
    (try simp only [Act.put, List.getElem_toArray, List.getElem_cons_zero, List.setIfInBounds_toArray, List.set_cons_succ, List.set_cons_zero])
    refine wpAnyH_take (i := 1) (oi := _) (v := ?v2x1) rfl (by kernel_rfl) (by kernel_rfl) (by kernel_rfl) (fun _ _ _ h => h) (Or.inl ⟨by kernel_rfl, ?hy2x1⟩) (by with_reducible assumption) ?rest2x1
    case hy2x1 => (intro w hSw; (try dsimp only at hSw); go_simp; (try with_reducible rfl))
    (try simp only [Act.put, List.getElem_toArray, List.getElem_cons_succ, List.getElem_cons_zero, List.setIfInBounds_toArray, List.set_cons_succ, List.set_cons_zero])
    refine wpAnyH_take (i := 2) (oi := _) (v := ?v2x2) rfl (by kernel_rfl) (by kernel_rfl) (by kernel_rfl) (fun _ _ _ h => h) (Or.inl ⟨by kernel_rfl, ?hy2x2⟩) (by with_reducible assumption) ?rest2x2
    case hy2x2 => (intro w hSw; (try dsimp only at hSw); go_simp; (try with_reducible rfl))
    (try simp only [Act.put, List.getElem_toArray, List.getElem_cons_succ, List.getElem_cons_zero, List.setIfInBounds_toArray, List.set_cons_succ, List.set_cons_zero])
    refine wpAnyH_take (i := 3) (oi := _) (v := ?v2x3) rfl (by kernel_rfl) (by kernel_rfl) (by kernel_rfl) (fun _ _ _ h => h) (Or.inl ⟨by kernel_rfl, ?hy2x3⟩) (by with_reducible assumption) ?rest2x3
    case hy2x3 => (intro w hSw; (try dsimp only at hSw); go_simp; (try with_reducible rfl))
    (try simp only [Act.put, List.getElem_toArray, List.getElem_cons_succ, List.getElem_cons_zero, List.setIfInBounds_toArray, List.set_cons_succ, List.set_cons_zero])
    refine wpAnyH_take (i := 5) (oi := _) (v := ?v2x5) rfl (by kernel_rfl) (by kernel_rfl) (by kernel_rfl) (fun _ _ _ h => h) (Or.inl ⟨by kernel_rfl, ?hy2x5⟩) (by with_reducible assumption) ?rest2x5
    case hy2x5 => (intro w hSw; (try dsimp only at hSw); go_simp; (try with_reducible rfl))
    (try simp only [Act.put, List.getElem_toArray, List.getElem_cons_succ, List.getElem_cons_zero, List.setIfInBounds_toArray, List.set_cons_succ, List.set_cons_zero])
    refine wpAnyH_take (i := 6) (oi := _) (v := ?v2x6) rfl (by kernel_rfl) (by kernel_rfl) (by kernel_rfl) (fun _ _ _ h => h) (Or.inl ⟨by kernel_rfl, ?hy2x6⟩) (by with_reducible assumption) ?rest2x6
    case hy2x6 => (intro w hSw; (try dsimp only at hSw); go_simp; (try with_reducible rfl))
    (try simp only [Act.put, List.getElem_toArray, List.getElem_cons_succ, List.getElem_cons_zero, List.setIfInBounds_toArray, List.set_cons_succ, List.set_cons_zero])
    refine wpAnyH_take (i := 7) (oi := _) (v := ?v2x7) rfl (by kernel_rfl) (by kernel_rfl) (by kernel_rfl) (fun _ _ _ h => h) (Or.inl ⟨by kernel_rfl, ?hy2x7⟩) (by with_reducible assumption) ?rest2x7
    case hy2x7 => (intro w hSw; (try dsimp only at hSw); go_simp; (try with_reducible rfl))
    (try simp only [Act.put, List.getElem_toArray, List.getElem_cons_succ, List.getElem_cons_zero, List.setIfInBounds_toArray, List.set_cons_succ, List.set_cons_zero])
    refine wpAnyH_take (i := 8) (oi := _) (v := ?v2x8) rfl (by kernel_rfl) (by kernel_rfl) (by kernel_rfl) (fun _ _ _ h => h) (Or.inl ⟨by kernel_rfl, ?hy2x8⟩) (by with_reducible assumption) ?rest2x8
    case hy2x8 => (intro w hSw; (try dsimp only at hSw); go_simp; (try with_reducible rfl))
    (try simp only [Act.put, List.getElem_toArray, List.getElem_cons_succ, List.getElem_cons_zero, List.setIfInBounds_toArray, List.set_cons_succ, List.set_cons_zero])
    refine wpAnyH_take (i := 9) (oi := _) (v := ?v2x9) rfl (by kernel_rfl) (by kernel_rfl) (by kernel_rfl) (fun _ _ _ h => h) (Or.inl ⟨by kernel_rfl, ?hy2x9⟩) (by with_reducible assumption) ?rest2x9
    case hy2x9 => (intro w hSw; (try dsimp only at hSw); go_simp; (try with_reducible rfl))
    (try simp only [Act.put, List.getElem_toArray, List.getElem_cons_succ, List.getElem_cons_zero, List.setIfInBounds_toArray, List.set_cons_succ, List.set_cons_zero])
    refine wpAnyH_ready (rs := [4]) (by kernel_rfl) (by simp) (AllReadyH.cons (o := _) rfl (fun K hK => ?c2x4) AllReadyH.nil)
    rw [if_pos (by kernel_rfl)]
    go_simp
    refine hK.out _ _ hHeld (fun hHeld2 => ?_)
    clear hHeld
    have hHeld := hHeld2
    clear hK K hHeld2
    (try simp only [Act.put, List.getElem_toArray, List.getElem_cons_succ, List.getElem_cons_zero, List.setIfInBounds_toArray, List.set_cons_succ, List.set_cons_zero])
    refine wpAnyH_ready (rs := [10]) (by kernel_rfl) (by simp) (AllReadyH.cons (o := _) rfl (fun K hK => ?c2x10) AllReadyH.nil)
    go_simp
    refine (HCUT.out _ _ (HP3.out.below (below_drew' _))).mono ?_
    rintro e w9 ⟨v, rfl, hown, hb9⟩
    obtain ⟨qa, qc, rfl⟩ := ownsRow_slice hown
    have HOWN := Lib.hid hown
    have HB9 := Lib.hid hb9
    have M9 := Lib.hid ((box_drew N3.out).below hb9)
    clear hown hb9
    go_simp
    refine hK.out _ _ (⟨hHeld.1.trans (kept_below HB9.out), (HB9.out.cell (World.block_lt_of_cell? _ _ hHeld.2)).trans hHeld.2⟩) (fun hHeld2 => ?_)
    clear hHeld
    have hHeld := hHeld2
    clear hK K hHeld2
    (try simp only [Act.put, List.getElem_toArray, List.getElem_cons_succ, List.getElem_cons_zero, List.setIfInBounds_toArray, List.set_cons_succ, List.set_cons_zero])
    refine wpAnyH_take (i := 11) (oi := _) (v := ?v2x11) rfl (by kernel_rfl) (by kernel_rfl) (by kernel_rfl) (fun _ _ _ h => h) (Or.inl ⟨by kernel_rfl, ?hy2x11⟩) (by with_reducible assumption) ?rest2x11
    case hy2x11 => (intro w hSw; (try dsimp only at hSw); (have hfp := fun W => field_pcs qa CP.length qc W); go_simp; (try with_reducible rfl))
    (try simp only [Act.put, List.getElem_toArray, List.getElem_cons_succ, List.getElem_cons_zero, List.setIfInBounds_toArray, List.set_cons_succ, List.set_cons_zero])
    refine wpAnyH_take (i := 12) (oi := _) (v := ?v2x12) rfl (by kernel_rfl) (by kernel_rfl) (by kernel_rfl) (fun _ _ _ h => h) (Or.inl ⟨by kernel_rfl, ?hy2x12⟩) (by with_reducible assumption) ?rest2x12
    case hy2x12 => (intro w hSw; (try dsimp only at hSw); go_simp; (try with_reducible rfl))
    (try simp only [Act.put, List.getElem_toArray, List.getElem_cons_succ, List.getElem_cons_zero, List.setIfInBounds_toArray, List.set_cons_succ, List.set_cons_zero])
    refine wpAnyH_take (i := 13) (oi := _) (v := ?v2x13) rfl (by kernel_rfl) (by kernel_rfl) (by kernel_rfl) (fun _ _ _ h => h) (Or.inl ⟨by kernel_rfl, ?hy2x13⟩) (by with_reducible assumption) ?rest2x13
    case hy2x13 => (intro w hSw; (try dsimp only at hSw); go_simp; (try with_reducible rfl))
    (try simp only [Act.put, List.getElem_toArray, List.getElem_cons_succ, List.getElem_cons_zero, List.setIfInBounds_toArray, List.set_cons_succ, List.set_cons_zero])
    refine wpAnyH_ready (rs := [14]) (by kernel_rfl) (by simp) (AllReadyH.cons (o := _) rfl (fun K hK => ?c2x14) AllReadyH.nil)
    rw [if_pos (by kernel_rfl)]
    obtain ⟨e0, e1, e2, e3, e4, e5, e6⟩ := M9.out.seven
    obtain ⟨z0, z1, z2, z3, z4, z5, z6⟩ := M9.out.frz7
    have hst : _ ∧ _ := ⟨hHeld.1.trans (kept_set (S := fun b => b = g) w9 g 4 (.slice qa CP.length qc) rfl), (World.cell?_setCell_other w9 ⟨g, 4, none⟩ ⟨g, 0, none⟩ (.slice qa CP.length qc) (fun e => by injection e; omega)).trans hHeld.2⟩
    have HST := Lib.hid hst
    clear hst hHeld
    go_simp
    refine hK.out _ _ HST.out (fun _ => ?_)
    clear hK K
    (try simp only [Act.put, List.getElem_toArray, List.getElem_cons_succ, List.getElem_cons_zero, List.setIfInBounds_toArray, List.set_cons_succ, List.set_cons_zero])
    refine wpAnyH_done (by kernel_rfl) ?_ _
    go_wp2_with fail
    go_ret
    refine ⟨qa, qc, rfl, M9.out.set 4 _, ?_, HST.out.1⟩
    have hpo := pcs_of_own HOWN.out rfl HCF.out.1 (fun i hi => HCF.out.2 _ (pcAt_mem hi))
    have hks := kept_set (S := fun b => b = g) w9 g 4 (.slice qa CP.length qc) rfl
    have h3 := HK3.out.size
    have h9 := HB9.out.size
    exact (hpo.kept hks (fun b e e' => by simp at e; omega)).mono (fun b e => ⟨by simp at e; omega, by simpa using e.2⟩)
end Go.Proofs.YtdcahilfmhkmiaaGreatDoor
