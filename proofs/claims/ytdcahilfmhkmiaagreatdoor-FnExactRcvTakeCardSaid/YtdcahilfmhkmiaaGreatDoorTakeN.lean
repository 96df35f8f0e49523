/- The program's RcvTake. -/
import Derived.Test.YtdcahilfmhkmiaaGreatDoorPackU
import Derived.Test.YtdcahilfmhkmiaaGreatDoorOpenR
import Derived.Test.YtdcahilfmhkmiaaGreatDoorRcvD
namespace Go.Proofs.YtdcahilfmhkmiaaGreatDoor
open Go.RowKit

/-- What the take of a right Rcv comes to. -/
def takeAllN (rd : Int) (ps : List Pc) (ed sz cp en : Int) (n : Frs) (p s d : Int) (t : List UInt8) (e : Int) : RcR :=
  if ¬ segOk p s d t e then rcBad 1 else if (n.length : Int) ≤ p then rcBad 6 else takeN rd ps ed sz cp en n p s d t e
theorem takeAll_calls {S : Nat → Prop} {w : World} {g gf fl fc : Nat} {rd ed sz cp en : Int} {pa : Option Addr} {pl pc : Nat} {ps : List Pc} {n : Frs} {A : Nat → Option Addr} {C : Nat → Nat} (hx : Box w g [.int .i64 rd, .int .i64 ed, .int .i64 sz, .int .i64 cp, .slice pa pl pc, .int .i64 en, .slice (some ⟨gf, 0, none⟩) fl fc])
    (hp : InPcs w pa pl ps) (hf : FrsOwn S w (some ⟨gf, 0, none⟩) fl n A C) (hS : ∀ b, S b → b < w.heap.size ∧ b ≠ g) (hok : rcvOk rd ps ed sz cp en n)
    (p s d : Int) (t : List UInt8) (e : Int) (ht : t.length ≤ 9223372036854775807) (hTab : TzTab w) (hGg : 1 ≠ g ∧ 1 ≠ gf) :
    Calls Tryz.prog 64 #[.pointer (some ⟨g, 0, none⟩), segV p s d t e] w (TakeEnd w S g gf fl fc rd ed sz cp p (takeAllN rd ps ed sz cp en n p s d t e)) := by
  unfold takeAllN
  have hl := hf.long
  by_cases h1 : segOk p s d t e
  · rw [if_neg (fun h => h h1)]
    have hp0 : 0 ≤ p := h1.1.1.1
    by_cases h2 : (n.length : Int) ≤ p
    · rw [if_pos h2]
      refine (takePath_calls hx p s d t e ht h1 (fun h => by omega)).mono ?_
      rintro x w' ⟨rfl, hb⟩
      exact ⟨kept_below hb, .inl ⟨6, rfl, rfl⟩⟩
    · rw [if_neg h2]
      obtain ⟨k, rfl⟩ : ∃ k : Nat, p = (k : Int) := ⟨p.toNat, by omega⟩
      exact takeGood_calls hx hp hf hS hok k s d t e h1 (by omega) hTab hGg
  · rw [if_pos h1]
    refine (takeForm_calls g p s d t e ht h1).mono ?_
    rintro x w' ⟨rfl, hb⟩
    exact ⟨kept_below hb, .inl ⟨1, rfl, rfl⟩⟩
/-- What region 6 reads, behind a call. -/
theorem keepT8 {a w w' : World} {g q : Nat} {x0 x1 x2 x3 x4 x5 x6 y : Value} (hb : Below w.heap.size w w') (h : Below a.heap.size a w ∧ (w.cell? ⟨g, 0, none⟩ = some x0 ∧ w.cell? ⟨g, 1, none⟩ = some x1 ∧ w.cell? ⟨g, 2, none⟩ = some x2 ∧ w.cell? ⟨g, 3, none⟩ = some x3 ∧ w.cell? ⟨g, 4, none⟩ = some x4 ∧ w.cell? ⟨g, 5, none⟩ = some x5 ∧ w.cell? ⟨g, 6, none⟩ = some x6) ∧ w.cell? ⟨q, 0, none⟩ = some y) :
    Below a.heap.size a w' ∧ (w'.cell? ⟨g, 0, none⟩ = some x0 ∧ w'.cell? ⟨g, 1, none⟩ = some x1 ∧ w'.cell? ⟨g, 2, none⟩ = some x2 ∧ w'.cell? ⟨g, 3, none⟩ = some x3 ∧ w'.cell? ⟨g, 4, none⟩ = some x4 ∧ w'.cell? ⟨g, 5, none⟩ = some x5 ∧ w'.cell? ⟨g, 6, none⟩ = some x6) ∧ w'.cell? ⟨q, 0, none⟩ = some y :=
  have c {p : Addr} {x : Value} (h : w.cell? p = some x) : w'.cell? p = some x := (hb.cell (World.block_lt_of_cell? w _ h)).trans h
  ⟨h.1.trans (hb.mono h.1.size), ⟨c h.2.1.1, c h.2.1.2.1, c h.2.1.2.2.1, c h.2.1.2.2.2.1, c h.2.1.2.2.2.2.1, c h.2.1.2.2.2.2.2.1, c h.2.1.2.2.2.2.2.2⟩, c h.2.2⟩
set_option maxHeartbeats 8000000 in
set_option maxRecDepth 100000 in
theorem rcvTakeI_calls {S : Nat → Prop} {rd ed sz cp en : Int} {pa fa : Option Addr} {pl pc fl fc : Nat} {ps : List Pc} {n : Frs} {w : World} (hp : InPcs w pa pl ps) (hf : InFrs S w fa fl n) (p s d : Int) (t : List UInt8) (e : Int) (ht : t.length ≤ 9223372036854775807) (hg : EtCell w) (hTab : TzTab w) :
    Calls Tryz.prog 8 #[rcvV rd pa pl pc ed sz cp en fa fl fc, segV p s d t e] w (RcOwn w (rcvTakeN rd ps ed sz cp en n p s d t e)) := by
  have HG := Lib.hid hg
  have HTAB := Lib.hid hTab
  obtain rfl := hf.long
  by_cases hok : rcvOk rd ps ed sz cp en n
  · have H1 := Lib.hid (fun (W : World) (hb : Below w.heap.size w W) => openReader_calls (rd := rd) (ed := ed) (sz := sz) (cp := cp) (en := en) (pc := pc) (fc := fc) (hp.below hb) (hf.below hb) hok)
    obtain ⟨hrd, -, -, -, -, -, -, -, -, hfr, -⟩ := id hok
    have hR : rcvTakeN rd ps ed sz cp en n p s d t e = takeAllN rd ps ed sz cp en n p s d t e := by
      unfold rcvTakeN takeAllN
      by_cases h1 : segOk p s d t e
      · rw [if_neg (show ¬ (¬ rcvOk rd ps ed sz cp en n ∨ ¬ segOk p s d t e) from fun h => h.elim (fun h => h hok) (fun h => h h1)), if_neg (show ¬ ¬ segOk p s d t e from fun h => h h1)]
      · rw [if_pos (show ¬ rcvOk rd ps ed sz cp en n ∨ ¬ segOk p s d t e from .inr h1), if_pos h1]
    rw [hR]
    have H2 := Lib.hid (fun (V : World) (g gf : Nat) (xa : Option Addr) (xc cf : Nat) (S : Nat → Prop) (A : Nat → Option Addr) (C : Nat → Nat) (hx : Box V g [.int .i64 rd, .int .i64 ed, .int .i64 sz, .int .i64 cp, .slice xa pl xc, .int .i64 en, .slice (some ⟨gf, 0, none⟩) n.length cf]) (hpV : InPcs V xa pl ps) (hfV : FrsOwn S V (some ⟨gf, 0, none⟩) n.length n A C) (hS : ∀ b, S b → b < V.heap.size ∧ b ≠ g) (hT : TzTab V) (hGg : 1 ≠ g ∧ 1 ≠ gf) => takeAll_calls hx hpV hfV hS hok p s d t e ht hT hGg)
    generalize takeAllN rd ps ed sz cp en n p s d t e = R at *
    have HP := Lib.hid hp
    unfold Opened at H1
    unfold readerV rcvV segV at *
    clear hp hf hg hTab hR hok
    have n3 := box_three w [.int .i64 rd, .slice pa pl pc, .int .i64 ed, .int .i64 sz, .int .i64 cp, .int .i64 en, .slice fa n.length fc] [.int .i64 p, .int .i64 s, .int .i64 d, gs t, .int .i64 e] [.int .i64 0, .slice none 0 0, .int .i64 0, .int .i64 0, .int .i64 0, .int .i64 0, .slice none 0 0, .int .i64 0, .int .i64 0, .int .i64 0, .int .i64 0, gs [], .bool false, .int .i64 0] 26 28 34 (by simp) (by simp) (by simp)
    dsimp only at n3
    go_enter Tryz.func8, Tryz.ntmps8
    go_wp2_with fail
    generalize ((w.alloc (.cells #[.int .i64 rd, .slice pa pl pc, .int .i64 ed, .int .i64 sz, .int .i64 cp, .int .i64 en, .slice fa n.length fc] 26)).alloc (.cells #[.int .i64 p, .int .i64 s, .int .i64 d, gs t, .int .i64 e] 28)).alloc (.cells #[.int .i64 0, .slice none 0 0, .int .i64 0, .int .i64 0, .int .i64 0, .int .i64 0, .slice none 0 0, .int .i64 0, .int .i64 0, .int .i64 0, .int .i64 0, gs [], .bool false, .int .i64 0] 34) = W at *
    obtain ⟨n1, n2, n3, hs, hb0⟩ := n3
    obtain ⟨c0, c1, c2, c3, c4, c5, c6⟩ := n1.seven
    have HB0 := Lib.hid hb0
    have N2 := Lib.hid n2
    have N3 := Lib.hid n3
    clear hb0 n1 n2 n3
    (with_reducible refine (H1.out _ HB0.out).mono ?_); rintro e9 w1 ⟨xa, xc, gf, cf, A, C, rfl, hpx, hfo, hgf, hb1⟩
    have hgfw : W.heap.size ≤ gf ∧ gf < w1.heap.size := ⟨hgf, (hfo.blk gf ⟨by omega, 0, rfl⟩).2⟩
    have HB1 := Lib.hid (HB0.out.trans (hb1.mono HB0.out.size))
    have n5 := box_new w1 [.int .i64 rd, .int .i64 ed, .int .i64 sz, .int .i64 cp, .slice xa pl xc, .int .i64 en, .slice (some ⟨gf, 0, none⟩) n.length cf] 101 (by simp)
    have b5 : Below w1.heap.size w1 (w1.alloc (.cells #[.int .i64 rd, .int .i64 ed, .int .i64 sz, .int .i64 cp, .slice xa pl xc, .int .i64 en, .slice (some ⟨gf, 0, none⟩) n.length cf] 101)) := (Below.refl _ _).alloc (Nat.le_refl _) _
    have s5 : (w1.alloc (.cells #[.int .i64 rd, .int .i64 ed, .int .i64 sz, .int .i64 cp, .slice xa pl xc, .int .i64 en, .slice (some ⟨gf, 0, none⟩) n.length cf] 101)).heap.size = w1.heap.size + 1 := by simp
    have s1 := hb1.size
    have hx2 := N3.out.lt
    have hx1 := N2.out.lt
    have hT5 := HTAB.out.below (HB1.out.trans (b5.mono HB1.out.size))
    have hTl := HTAB.out.lt
    have N24 := Lib.hid ((N2.out.below hb1).below b5)
    have N4 := Lib.hid ((N3.out.below hb1).below b5)
    have HB4 := Lib.hid (HB1.out.trans (b5.mono HB1.out.size))
    have hfo5 := hfo.below b5
    obtain ⟨e0, e1, e2, e3, e4⟩ := N24.out.five
    have HTK := Lib.hid (H2.out _ _ _ _ _ _ _ _ _ n5 (hpx.in'.below b5) hfo5 (fun b (e : gf ≤ b ∧ b < w1.heap.size) => ⟨by omega, by omega⟩) hT5 ⟨by omega, by omega⟩)
    clear hb1 hpx HB0 N2 N3 H1 H2 c0 c1 c2 c3 c4 c5 c6 b5 hfo hfo5 hT5 n5
    go_wp2_with fail
    generalize w1.alloc (.cells #[.int .i64 rd, .int .i64 ed, .int .i64 sz, .int .i64 cp, .slice xa pl xc, .int .i64 en, .slice (some ⟨gf, 0, none⟩) n.length cf] 101) = V at *
    generalize w1.heap.size = g5 at *
    (with_reducible refine HTK.out.mono ?_); rintro e9 w3 ⟨hkp, hcase⟩
    have N43 := Lib.hid (N4.out.kept (hkp.block _ N4.out.lt (fun e => by omega)))
    have N23 := Lib.hid (N24.out.kept (hkp.block _ N24.out.lt (fun e => by omega)))
    have HB3 := Lib.hid (HB4.out.trans (hkp.toBelow HB4.out.size (fun b hb e => by omega)))
    have hs3 := hkp.size
    clear hkp HTK N4 N24 HB4 e0 e1 e2 e3 e4
    have N4 := N43
    clear N43
    rcases hcase with ⟨c, rfl, rfl⟩ | ⟨ps2, en2, n2, rfl, hok2, rfl, hp0, hpn, qa, qc, q, A2, C2, hbx, hpo, hfo, hq0, hq⟩
    · go_wp2_with fail
      (with_reducible refine (code_calls c _ (HG.out.below HB3.out)).mono ?_); rintro e9 w9 ⟨rfl, hb9⟩
      have NN := Lib.hid (N4.out.below hb9)
      have HH := Lib.hid (HB3.out.trans (hb9.mono HB3.out.size))
      clear hb9 N4
      obtain ⟨⟨d0, d1, d2, d3, d4, d5, d6⟩, d7, d8, d9, da, db, dc, dd⟩ := NN.out.fourteen
      obtain ⟨z0, z1, z2, z3, z4, z5, z6, z7, z8, z9, za, zb, zc, zd⟩ := NN.out.frz14
      clear NN
      go_wp2_with fail
      refine bodyPost_ret (v := rcvOutV 0 none 0 0 0 0 0 0 none 0 0 0 0 0 0 [] false c) (by simp [rcvOutV, results, Tryz.results8, go_sem, *]) rfl ?_
      refine rcBad_own ?_
      have hK := kept14 w9 (w.heap.size + 1 + 1) (.int .i64 0) (.slice none 0 0) (.int .i64 0) (.int .i64 0) (.int .i64 0) (.int .i64 0) (.slice none 0 0) (.int .i64 0) (.int .i64 0) (.int .i64 0) (.int .i64 0) (gs []) (.bool false) (.int .i64 c)
      exact HH.out.trans (hK.toBelow HH.out.size (fun b hb e => by omega))
    · obtain ⟨k, rfl⟩ : ∃ k : Nat, p = (k : Int) := ⟨p.toNat, by omega⟩
      have hn2 := hfo.long
      have hr2 : right ps2 := hok2.2.2.2.2.1
      have HRCV := Lib.hid (fun W => rcv_calls rd ed sz cp qa ps2.length qc en2 (some ⟨gf, 0, none⟩) n.length cf W)
      have hack := (fun (V : World) (hb : Below w3.heap.size w3 V) => readerAck_calls (ed := ed) (sz := sz) (cp := cp) (en := en2) (pc := qc) (fc := cf) (hpo.in'.below hb) (hfo.in'.below hb) hr2 hrd k (by rw [← hn2]; omega))
      unfold ackN ackV readerV at hack
      rw [show (frAt n2 k).1 = (frAt n2 ((k : Int)).toNat).1 by rw [Int.toNat_natCast]] at hack
      have HACK := Lib.hid hack
      clear hack
      unfold readerV rcvV at HRCV
      have HBX := Lib.hid hbx
      have HPO := Lib.hid hpo
      have HFO := Lib.hid hfo
      have HOK := Lib.hid hok2
      obtain ⟨c0, c1, c2, c3, c4, c5, c6⟩ := hbx.seven
      obtain ⟨e0, e1, e2, e3, e4⟩ := N23.out.five
      clear hbx hpo hfo hok2 e1 e2 e3 e4 hr2
      have HN2 := Lib.hid hn2
      clear hn2
      generalize (frAt n2 ((k : Int)).toNat).1 = KS at *
      generalize rd + ((fromN ps2 rd).length : Int) = KD at *
      go_wp2_with fail
      refine wp_region_held_drew (S := (fun X => Below w.heap.size w X ∧ (X.cell? ⟨g5, 0, none⟩ = some (.int .i64 rd) ∧ X.cell? ⟨g5, 1, none⟩ = some (.int .i64 ed) ∧ X.cell? ⟨g5, 2, none⟩ = some (.int .i64 sz) ∧ X.cell? ⟨g5, 3, none⟩ = some (.int .i64 cp) ∧ X.cell? ⟨g5, 4, none⟩ = some (.slice qa ps2.length qc) ∧ X.cell? ⟨g5, 5, none⟩ = some (.int .i64 en2) ∧ X.cell? ⟨g5, 6, none⟩ = some (.slice (some ⟨gf, 0, none⟩) n.length cf)) ∧ X.cell? ⟨w.heap.size + 1, 0, none⟩ = some (.int .i64 (k : Int)))) (by kernel_rfl) (⟨HB3.out.drew, ⟨c0, c1, c2, c3, c4, c5, c6⟩, e0⟩) (fun hHeld => ?_)
      refine wpAnyH_take (i := 0) (oi := _) (v := ?v1x0) rfl (by kernel_rfl) (by kernel_rfl) (by kernel_rfl) (fun _ _ _ h => h) (Or.inl ⟨by kernel_rfl, ?hy1x0⟩) (by with_reducible assumption) ?rest1x0
      case hy1x0 => (intro w hSw; (try dsimp only at hSw); go_simp; (try with_reducible rfl))
      (try simp only [Act.put, List.getElem_toArray, List.getElem_cons_zero, List.setIfInBounds_toArray, List.set_cons_succ, List.set_cons_zero])
      refine wpAnyH_take (i := 2) (oi := _) (v := ?v1x2) rfl (by kernel_rfl) (by kernel_rfl) (by kernel_rfl) (fun _ _ _ h => h) (Or.inl ⟨by kernel_rfl, ?hy1x2⟩) (by with_reducible assumption) ?rest1x2
      case hy1x2 => (intro w hSw; (try dsimp only at hSw); go_simp; (try with_reducible rfl))
      (try simp only [Act.put, List.getElem_toArray, List.getElem_cons_succ, List.getElem_cons_zero, List.setIfInBounds_toArray, List.set_cons_succ, List.set_cons_zero])
      refine wpAnyH_take (i := 3) (oi := _) (v := ?v1x3) rfl (by kernel_rfl) (by kernel_rfl) (by kernel_rfl) (fun _ _ _ h => h) (Or.inl ⟨by kernel_rfl, ?hy1x3⟩) (by with_reducible assumption) ?rest1x3
      case hy1x3 => (intro w hSw; (try dsimp only at hSw); go_simp; (try with_reducible rfl))
      (try simp only [Act.put, List.getElem_toArray, List.getElem_cons_succ, List.getElem_cons_zero, List.setIfInBounds_toArray, List.set_cons_succ, List.set_cons_zero])
      refine wpAnyH_take (i := 4) (oi := _) (v := ?v1x4) rfl (by kernel_rfl) (by kernel_rfl) (by kernel_rfl) (fun _ _ _ h => h) (Or.inl ⟨by kernel_rfl, ?hy1x4⟩) (by with_reducible assumption) ?rest1x4
      case hy1x4 => (intro w hSw; (try dsimp only at hSw); go_simp; (try with_reducible rfl))
      (try simp only [Act.put, List.getElem_toArray, List.getElem_cons_succ, List.getElem_cons_zero, List.setIfInBounds_toArray, List.set_cons_succ, List.set_cons_zero])
      refine wpAnyH_ready (rs := [1]) (by kernel_rfl) (by simp) (AllReadyH.cons (o := _) rfl (fun K hK => ?c1x1) AllReadyH.nil)
      go_simp
      refine (HRCV.out _).mono ?_
      rintro e9 w4 ⟨rfl, hb4⟩
      have HB4D := Lib.hid hb4
      have HB34 := Lib.hid (((Below.refl w3.heap.size w3).drew).trans hb4)
      clear hb4
      go_simp
      refine hK.out _ _ (keepT8 HB4D.out hHeld) (fun hHeld2 => ?_)
      clear hHeld
      have hHeld := hHeld2
      clear hK K hHeld2
      (try simp only [Act.put, List.getElem_toArray, List.getElem_cons_succ, List.getElem_cons_zero, List.setIfInBounds_toArray, List.set_cons_succ, List.set_cons_zero])
      refine wpAnyH_ready (rs := [5]) (by kernel_rfl) (by simp) (AllReadyH.cons (o := _) rfl (fun K hK => ?c1x5) AllReadyH.nil)
      go_simp
      refine (HACK.out _ HB34.out).mono ?_
      rintro e9 w5 ⟨rfl, hb5⟩
      have HB5D := Lib.hid hb5
      have HB35 := Lib.hid (HB34.out.trans (hb5.mono HB34.out.size))
      clear hb5
      go_simp
      refine hK.out _ _ (keepT8 HB5D.out hHeld) (fun hHeld2 => ?_)
      clear hHeld
      have hHeld := hHeld2
      clear hK K hHeld2
      (try simp only [Act.put, List.getElem_toArray, List.getElem_cons_succ, List.getElem_cons_zero, List.setIfInBounds_toArray, List.set_cons_succ, List.set_cons_zero])
      refine wpAnyH_take (i := 6) (oi := _) (v := ?v1x6) rfl (by kernel_rfl) (by kernel_rfl) (by kernel_rfl) (fun _ _ _ h => h) (Or.inl ⟨by kernel_rfl, ?hy1x6⟩) (by with_reducible assumption) ?rest1x6
      case hy1x6 => (intro w hSw; (try dsimp only at hSw); go_simp; (try with_reducible rfl))
      (try simp only [Act.put, List.getElem_toArray, List.getElem_cons_succ, List.getElem_cons_zero, List.setIfInBounds_toArray, List.set_cons_succ, List.set_cons_zero])
      refine wpAnyH_ready (rs := [7]) (by kernel_rfl) (by simp) (AllReadyH.cons (o := _) rfl (fun K hK => ?c1x7) AllReadyH.nil)
      rw [if_pos (by kernel_rfl)]
      have hx9 := N4.out.below HB35.out
      have h59 := HBX.out.below HB35.out
      have h29 := N23.out.below HB35.out
      obtain ⟨⟨d0, d1, d2, d3, d4, d5, d6⟩, d7, d8, d9, da, db, dc, dd⟩ := hx9.fourteen
      obtain ⟨z0, z1, z2, z3, z4, z5, z6, z7, z8, z9, za, zb, zc, zd⟩ := hx9.frz14
      have hK := kept14 w5 (w.heap.size + 1 + 1) (.int .i64 rd) (.slice qa ps2.length qc) (.int .i64 ed) (.int .i64 sz) (.int .i64 cp) (.int .i64 en2) (.slice (some ⟨gf, 0, none⟩) n.length cf) (.int .i64 (k : Int)) (.int .i64 KS) (.int .i64 KD) (.int .i64 ed) (gs []) (.bool false) (.int .i64 0)
      have hX14 := hx9.store14 (.int .i64 rd) (.slice qa ps2.length qc) (.int .i64 ed) (.int .i64 sz) (.int .i64 cp) (.int .i64 en2) (.slice (some ⟨gf, 0, none⟩) n.length cf) (.int .i64 (k : Int)) (.int .i64 KS) (.int .i64 KD) (.int .i64 ed) (gs []) (.bool false) (.int .i64 0)
      have hst : _ ∧ _ ∧ _ := ⟨hHeld.1.trans (hK.toBelow hHeld.1.size (fun b hb e => by omega)), (h59.kept (hK.block _ h59.lt (by omega))).seven, ((h29.kept (hK.block _ h29.lt (by omega))).five).1⟩
      have HST := Lib.hid hst
      have HK14 := Lib.hid hK
      have HX14 := Lib.hid hX14
      clear hst hK hX14 hHeld hx9 h59 h29
      go_simp
      refine hK.out _ _ HST.out (fun _ => ?_)
      clear hK K
      (try simp only [Act.put, List.getElem_toArray, List.getElem_cons_succ, List.getElem_cons_zero, List.setIfInBounds_toArray, List.set_cons_succ, List.set_cons_zero])
      refine wpAnyH_done (by kernel_rfl) ?_ _
      have HB5W := Lib.hid (HB3.out.trans (HB35.out.mono HB3.out.size))
      have HPF := Lib.hid (HPO.out.below HB35.out)
      have HFF := Lib.hid (HFO.out.below HB35.out)
      obtain ⟨⟨f0, f1, f2, f3, f4, f5, f6⟩, f7, f8, f9, fa', fb, fc', fd⟩ := HX14.out.fourteen
      have hs5 := HB35.out.size
      have HKK := Lib.hid HK14.out
      clear HST d0 d1 d2 d3 d4 d5 d6 d7 d8 d9 da db dc dd z0 z1 z2 z3 z4 z5 z6 z7 z8 z9 za zb zc zd c0 c1 c2 c3 c4 c5 c6 e0 HK14 HX14
      go_wp2_with fail
      refine bodyPost_ret (v := rcvOutV rd qa ps2.length qc ed sz cp en2 (some ⟨gf, 0, none⟩) n.length cf (k : Int) KS KD ed [] false 0) (by simp [rcvOutV, results, Tryz.results8, go_sem, *]) rfl ?_
      have hbz := HKK.out.toBelow HB5W.out.size (fun b hb e => by omega)
      have hsz := HKK.out.size
      refine ⟨qa, qc, some ⟨gf, 0, none⟩, cf, A2, C2, fun b => V.heap.size ≤ b ∧ b < q, fun b => (gf ≤ b ∧ b < g5) ∨ (q ≤ b ∧ b < w3.heap.size), by show _ = Ending.returned (rcvOutV rd qa ps2.length qc ed sz cp en2 (some ⟨gf, 0, none⟩) n2.length cf (k : Int) KS KD ed [] false 0); rw [HN2.out], HPF.out.kept HKK.out (fun b e e' => by omega), ?_, (fun b (e : V.heap.size ≤ b ∧ b < q) (e' : (gf ≤ b ∧ b < g5) ∨ (q ≤ b ∧ b < w3.heap.size)) => by omega), (fun b (e : V.heap.size ≤ b ∧ b < q) => ⟨by omega, Nat.lt_of_lt_of_le (by omega) hsz⟩), (fun b (e : (gf ≤ b ∧ b < g5) ∨ (q ≤ b ∧ b < w3.heap.size)) => ⟨by omega, Nat.lt_of_lt_of_le (by omega) hsz⟩), HB5W.out.trans hbz⟩
      show FrsOwn _ _ _ n2.length n2 A2 C2
      rw [HN2.out]
      exact HFF.out.kept HKK.out (fun b e e' => by omega)
  · have H1 := Lib.hid (fun (W : World) (hb : Below w.heap.size w W) => openBad_calls (rd := rd) (ed := ed) (sz := sz) (cp := cp) (en := en) (pc := pc) (fc := fc) (hp.below hb) (hf.below hb) hok)
    have hR : rcvTakeN rd ps ed sz cp en n p s d t e = rcBad 1 := by
      unfold rcvTakeN
      rw [if_pos (.inl hok)]
    rw [hR]
    unfold readerV rcvV segV at *
    clear hp hf hg hok hR hTab HTAB
    have n3 := box_three w [.int .i64 rd, .slice pa pl pc, .int .i64 ed, .int .i64 sz, .int .i64 cp, .int .i64 en, .slice fa n.length fc] [.int .i64 p, .int .i64 s, .int .i64 d, gs t, .int .i64 e] [.int .i64 0, .slice none 0 0, .int .i64 0, .int .i64 0, .int .i64 0, .int .i64 0, .slice none 0 0, .int .i64 0, .int .i64 0, .int .i64 0, .int .i64 0, gs [], .bool false, .int .i64 0] 26 28 34 (by simp) (by simp) (by simp)
    dsimp only at n3
    go_enter Tryz.func8, Tryz.ntmps8
    go_wp2_with fail
    generalize ((w.alloc (.cells #[.int .i64 rd, .slice pa pl pc, .int .i64 ed, .int .i64 sz, .int .i64 cp, .int .i64 en, .slice fa n.length fc] 26)).alloc (.cells #[.int .i64 p, .int .i64 s, .int .i64 d, gs t, .int .i64 e] 28)).alloc (.cells #[.int .i64 0, .slice none 0 0, .int .i64 0, .int .i64 0, .int .i64 0, .int .i64 0, .slice none 0 0, .int .i64 0, .int .i64 0, .int .i64 0, .int .i64 0, gs [], .bool false, .int .i64 0] 34) = W at *
    obtain ⟨n1, -, n3, hs, hb0⟩ := n3
    obtain ⟨c0, c1, c2, c3, c4, c5, c6⟩ := n1.seven
    have HB0 := Lib.hid hb0
    have N2 := Lib.hid n3
    clear hb0 n1 n3
    (with_reducible refine (H1.out _ HB0.out).mono ?_); rintro e9 w1 ⟨rfl, hb1⟩
    have HB1 := Lib.hid (HB0.out.trans (hb1.mono HB0.out.size))
    have N3 := Lib.hid (N2.out.below hb1)
    clear hb1 HB0 N2 H1 c0 c1 c2 c3 c4 c5 c6
    have b4 : Below w1.heap.size w1 (w1.alloc (.cells #[.int .i64 0, .int .i64 0, .int .i64 0, .int .i64 0, .slice none 0 0, .int .i64 0, .slice none 0 0] 101)) := (Below.refl _ _).alloc (Nat.le_refl _) _
    have N4 := Lib.hid (N3.out.below b4)
    have HB4 := Lib.hid (HB1.out.trans (b4.mono HB1.out.size))
    clear b4 N3 HB1
    go_wp2_with fail
    generalize w1.alloc (.cells #[.int .i64 0, .int .i64 0, .int .i64 0, .int .i64 0, .slice none 0 0, .int .i64 0, .slice none 0 0] 101) = V at *
    (with_reducible refine (code_calls 1 _ (HG.out.below HB4.out)).mono ?_); rintro e9 w9 ⟨rfl, hb9⟩
    have NN := Lib.hid (N4.out.below hb9)
    have HH := Lib.hid (HB4.out.trans (hb9.mono HB4.out.size))
    clear hb9 N4
    obtain ⟨⟨d0, d1, d2, d3, d4, d5, d6⟩, d7, d8, d9, da, db, dc, dd⟩ := NN.out.fourteen
    obtain ⟨z0, z1, z2, z3, z4, z5, z6, z7, z8, z9, za, zb, zc, zd⟩ := NN.out.frz14
    clear NN
    go_wp2_with fail
    refine bodyPost_ret (v := rcvOutV 0 none 0 0 0 0 0 0 none 0 0 0 0 0 0 [] false 1) (by simp [rcvOutV, results, Tryz.results8, go_sem, *]) rfl ?_
    refine rcBad_own ?_
    have hK := kept14 w9 (w.heap.size + 1 + 1) (.int .i64 0) (.slice none 0 0) (.int .i64 0) (.int .i64 0) (.int .i64 0) (.int .i64 0) (.slice none 0 0) (.int .i64 0) (.int .i64 0) (.int .i64 0) (.int .i64 0) (gs []) (.bool false) (.int .i64 1)
    exact HH.out.trans (hK.toBelow HH.out.size (fun b hb e => by omega))
end Go.Proofs.YtdcahilfmhkmiaaGreatDoor
