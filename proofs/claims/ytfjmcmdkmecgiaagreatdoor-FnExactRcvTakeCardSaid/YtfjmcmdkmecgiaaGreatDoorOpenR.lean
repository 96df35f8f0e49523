/- The program opens a reader: a copy of the Froms in memory of its own. -/
import Derived.Test.YtfjmcmdkmecgiaaGreatDoorClone
import Derived.Test.YtfjmcmdkmecgiaaGreatDoorPass
import Derived.Test.YtfjmcmdkmecgiaaGreatDoorAs
import Derived.Test.YtfjmcmdkmecgiaaGreatDoorRcvNew
namespace Go.Proofs.YtfjmcmdkmecgiaaGreatDoor
open Go.RowKit

/-- What lies in memory while a reader is opened: the reader in block g4, the answer in g2, the Froms in gf and behind it. -/
structure OpMem (w : World) (g2 g4 gf fl : Nat) (B4 B2 : List Value) (n : Frs) (V : World) : Prop where
  low : w.heap.size ≤ g2 ∧ g2 < g4 ∧ g4 < gf
  below : Below w.heap.size w V
  own : Box V g4 B4
  out : Box V g2 B2
  frs : ∃ A C, FrsOwn (fun b => gf ≤ b ∧ b < V.heap.size) V (some ⟨gf, 0, none⟩) fl n A C
theorem OpMem.next {w V V' : World} {g2 g4 gf fl : Nat} {B4 B2 : List Value} {n : Frs} (h : OpMem w g2 g4 gf fl B4 B2 n V) (hb : Below V.heap.size V V') : OpMem w g2 g4 gf fl B4 B2 n V' := by
  obtain ⟨A, C, hf⟩ := h.frs
  exact ⟨h.low, h.below.trans (hb.mono h.below.size), h.own.below hb, h.out.below hb, A, C, (hf.below hb).mono (fun b e => ⟨e.1, Nat.lt_of_lt_of_le e.2 hb.size⟩)⟩
theorem OpMem.drew {w V : World} {g2 g4 gf fl : Nat} {B4 B2 : List Value} {n : Frs} (h : OpMem w g2 g4 gf fl B4 B2 n V) : OpMem w g2 g4 gf fl B4 B2 n V.drew := h.next (Below.refl _ _).drew
theorem OpMem.slot {w V : World} {g2 g4 gf fl k : Nat} {B4 B2 : List Value} {n : Frs} (h : OpMem w g2 g4 gf fl B4 B2 n V) (hk : k < fl) :
    ∃ u v, V.cell? ⟨gf, k * 2, none⟩ = some u ∧ V.cell? ⟨gf, k * 2 + 1, none⟩ = some v ∧ V.frozen? ⟨gf, k * 2, none⟩ = false ∧ V.frozen? ⟨gf, k * 2 + 1, none⟩ = false := by
  obtain ⟨A, C, hf⟩ := h.frs
  obtain ⟨c0, c1⟩ := hf.cell gf 0 rfl k hk
  have z0 := hf.free gf 0 rfl (k * 2) (by omega)
  have z1 := hf.free gf 0 rfl (k * 2 + 1) (by omega)
  rw [Nat.zero_add] at c0 c1 z0 z1
  exact ⟨_, _, c0, c1, z0, z1⟩
/-- A From is stored. -/
theorem OpMem.put {w V V' : World} {g2 g4 gf fl k : Nat} {B4 B2 : List Value} {m : Frs} (h : OpMem w g2 g4 gf fl B4 B2 m V) (hb : Below V.heap.size V V') (hk : k < fl) {x : Option Addr} {c : Nat} {wt : Int} {l : Lg} (hw : I64 wt)
    (i1 : InLg V' x l.length l) (f1 : LgFree V' x l.length) (hx : ∀ b, LgB x l.length b → V.heap.size ≤ b ∧ b < V'.heap.size) (hc : l.length ≤ c) :
    OpMem w g2 g4 gf fl B4 B2 (m.set k (wt, l)) ((V'.setCell ⟨gf, k * 2, none⟩ (.int .i64 wt)).setCell ⟨gf, k * 2 + 1, none⟩ (.slice x l.length c)) := by
  have h' := h.next hb
  have hlow := h.low
  have hbs := h.below.size
  obtain ⟨A, C, hf⟩ := h.frs
  have hml := hf.long
  have hgV : gf < V.heap.size := hf.lt ⟨by omega, 0, rfl⟩
  have hwn := (hf.below hb).want_set hk hw
  have hat : ∀ j, frAt (m.set k (wt, (frAt m k).2)) j = if j = k then (wt, (frAt m k).2) else frAt m j := fun j => frAt_set (by omega)
  have hpt := hwn.late_put (T := fun b => gf ≤ b ∧ b < V'.heap.size) (x' := x) (c' := c) (t := l) hk
    (i1.blk (fun b e => Below.heap_setCell _ _ _ _ (by have := hx b e; dsimp only; omega))) (f1.set _ _) (fun b' hb' => ⟨by have := hx b' hb'; omega, by have := hx b' hb'; omega, fun j hj hjk hl => by
      have := hx b' hb'
      rw [hat, if_neg hjk] at hl
      have := ((hf.below hb).lblk j hj b' hl).1
      omega⟩) (fun b e => ⟨e.1, Nat.lt_of_lt_of_le e.2 hb.size⟩) hc
  rw [hat, if_pos rfl, List.set_set, Nat.zero_add] at hpt
  exact ⟨hlow, (h'.below.setCell (by dsimp only; omega) _).setCell (by dsimp only; omega) _, (h'.own.other (by dsimp only; omega) _).other (by dsimp only; omega) _, (h'.out.other (by dsimp only; omega) _).other (by dsimp only; omega) _, _, _, hpt.mono (fun b e => ⟨e.1, by simpa using e.2⟩)⟩
def PartN (n m : Frs) (k : Nat) : Prop := m.length = n.length ∧ ∀ i, i < k → frAt m i = frAt n i
theorem partN_all {n m : Frs} (h : PartN n m n.length) : m = n := frs_ext h.1 (fun i hi => h.2 i (by have := h.1; omega))
theorem partN_set {n m : Frs} {k : Nat} (h : PartN n m k) (hk : k < n.length) (p : Fr) : PartN n (m.set k p) k := ⟨by simpa using h.1, fun i hi => by rw [frAt_set (by have := h.1; omega), if_neg (by omega)]; exact h.2 i hi⟩
theorem partN_succ {n m : Frs} {k : Nat} (h : PartN n m k) (hk : k < n.length) : PartN n (m.set k (frAt n k)) (k + 1) := ⟨by simpa using h.1, fun i hi => by
  rw [frAt_set (by have := h.1; omega)]
  split
  · rename_i e; rw [e]
  · exact h.2 i (by omega)⟩

theorem cell_off {w9 : World} {g h i j k : Nat} {u v y : Value} (_ : g ≠ h) (_ : g ≠ h) (hc : w9.cell? ⟨h, i, none⟩ = some y) : ((w9.setCell ⟨g, j, none⟩ u).setCell ⟨g, k, none⟩ v).cell? ⟨h, i, none⟩ = some y :=
  (World.cell?_setCell_other _ _ _ _ (fun e => by injection e; omega)).trans ((World.cell?_setCell_other _ _ _ _ (fun e => by injection e; omega)).trans hc)

theorem kept7 (W : World) (g : Nat) (v0 v1 v2 v3 v4 v5 v6 : Value) : Kept (fun b => b = g) W ((((((((W).setCell ⟨g, 0, none⟩ v0).setCell ⟨g, 1, none⟩ v1).setCell ⟨g, 2, none⟩ v2).setCell ⟨g, 3, none⟩ v3).setCell ⟨g, 4, none⟩ v4).setCell ⟨g, 5, none⟩ v5).setCell ⟨g, 6, none⟩ v6) :=
  ((((((kept_set (S := fun b => b = g) _ g 0 v0 rfl).trans (kept_set (S := fun b => b = g) _ g 1 v1 rfl)).trans (kept_set (S := fun b => b = g) _ g 2 v2 rfl)).trans (kept_set (S := fun b => b = g) _ g 3 v3 rfl)).trans (kept_set (S := fun b => b = g) _ g 4 v4 rfl)).trans (kept_set (S := fun b => b = g) _ g 5 v5 rfl)).trans (kept_set (S := fun b => b = g) _ g 6 v6 rfl)
/-- What opening a reader answers, where the Rcv is right. -/
def Opened (w : World) (rd : Int) (pa : Option Addr) (pl pc : Nat) (ed sz cp en : Int) (n : Frs) (e : Ending) (w' : World) : Prop :=
  ∃ gf A C, e = .returned (.tuple #[readerV rd ed sz cp pa pl pc en (some ⟨gf, 0, none⟩) n.length n.length, .nilIface]) ∧ FrsOwn (fun b => w.heap.size ≤ b ∧ b < w'.heap.size) w' (some ⟨gf, 0, none⟩) n.length n A C ∧ Below w.heap.size w w'
set_option maxHeartbeats 4000000 in
set_option maxRecDepth 100000 in
theorem openReader_calls {S : Nat → Prop} {rd ed sz cp en : Int} {pa fa : Option Addr} {pl pc fl fc : Nat} {ps : List Pc} {n : Frs} {w : World} (hp : InPcs w pa pl ps) (hf : InFrs S w fa fl n) (hok : rcvOk rd ps ed sz cp en n) :
    Calls Tryz.prog 72 #[rcvV rd pa pl pc ed sz cp en fa fl fc] w (Opened w rd pa pl pc ed sz cp en n) := by
  have hfl := hf.long
  have hm := hf.most
  have HFIT := Lib.hid hf.fit
  have H0 := Lib.hid (fun W => readerOf_calls rd pa pl pc ed sz cp en fa fl fc W)
  have h1 := fun (W : World) (hb : Below w.heap.size w W) => readerRight_calls (rd := rd) (ed := ed) (sz := sz) (cp := cp) (en := en) (pc := pc) (fc := fc) (hp.below hb) (hf.below hb)
  rw [decide_eq_true hok] at h1
  have H1 := Lib.hid h1
  have HFRS := Lib.hid hf
  have HFL := Lib.hid hfl
  have hzz : (Tryz.prog.info? 175).map (fun i => (i.zero, i.size, i.bytes)) = some (some (.agg #[.int .i64 0, .slice none 0 0]), 2, 32) := by kernel_rfl
  obtain ⟨i, hi, hzz⟩ := Option.map_eq_some_iff.1 hzz
  simp only [Prod.mk.injEq] at hzz
  have hmk := fun W => run_make_froms (P := Tryz.prog) Tryz.underlying24 hi hzz.1 hzz.2.1 hzz.2.2 fl (fl : Int) rfl (by omega) W
  unfold readerV rcvV at *
  clear hp hf h1 hok hi hzz
  go_enter Tryz.func72, Tryz.ntmps72
  go_wp2_with fail
  have n3 := box_two w [.int .i64 rd, .slice pa pl pc, .int .i64 ed, .int .i64 sz, .int .i64 cp, .int .i64 en, .slice fa fl fc] [.int .i64 0, .int .i64 0, .int .i64 0, .int .i64 0, .slice none 0 0, .int .i64 0, .slice none 0 0] 26 112 (by simp) (by simp)
  dsimp only at n3
  generalize (w.alloc (.cells #[.int .i64 rd, .slice pa pl pc, .int .i64 ed, .int .i64 sz, .int .i64 cp, .int .i64 en, .slice fa fl fc] 26)).alloc (.cells #[.int .i64 0, .int .i64 0, .int .i64 0, .int .i64 0, .slice none 0 0, .int .i64 0, .slice none 0 0] 112) = W at *
  obtain ⟨n1, n2, hs, hb0⟩ := n3
  obtain ⟨c0, c1, c2, c3, c4, c5, c6⟩ := n1.seven
  (with_reducible refine (H0.out _).mono ?_); rintro e w1 ⟨rfl, hb1⟩
  have N1 := Lib.hid (n1.below hb1)
  have N2 := Lib.hid (n2.below hb1)
  have HB1 := Lib.hid (hb0.trans (hb1.mono hb0.size))
  have hs1 : w.heap.size + 2 ≤ w1.heap.size := by have := hb1.size; omega
  clear n1 n2 hb0 hb1 hs c0 c1 c2 c3 c4 c5 c6 H0
  have n4 := box_new w1 [.int .i64 rd, .int .i64 ed, .int .i64 sz, .int .i64 cp, .slice pa pl pc, .int .i64 en, .slice fa fl fc] 112 (by simp)
  have b4 : Below w1.heap.size w1 (w1.alloc (.cells #[.int .i64 rd, .int .i64 ed, .int .i64 sz, .int .i64 cp, .slice pa pl pc, .int .i64 en, .slice fa fl fc] 112)) := (Below.refl _ _).alloc (Nat.le_refl _) _
  have N4 := Lib.hid n4
  have M1 := Lib.hid (N1.out.below b4)
  have M2 := Lib.hid (N2.out.below b4)
  have HB4 := Lib.hid (HB1.out.trans (b4.mono HB1.out.size))
  clear n4 b4 N1 N2 HB1
  go_wp2_with fail
  generalize hg4 : w1.heap.size = g4 at *
  generalize w1.alloc (.cells #[.int .i64 rd, .int .i64 ed, .int .i64 sz, .int .i64 cp, .slice pa pl pc, .int .i64 en, .slice fa fl fc] 112) = V at *
  (with_reducible refine (H1.out _ HB4.out).mono ?_); rintro e w2 ⟨rfl, hb2⟩
  have K1 := Lib.hid (M1.out.below hb2)
  have K2 := Lib.hid (M2.out.below hb2)
  have K4 := Lib.hid (N4.out.below hb2)
  have HB2 := Lib.hid (HB4.out.trans (hb2.mono HB4.out.size))
  clear hb2 M1 M2 N4 HB4 H1
  obtain ⟨c0, c1, c2, c3, c4, c5, c6⟩ := K1.out.seven
  obtain ⟨d0, d1, d2, d3, d4, d5, d6⟩ := K4.out.seven
  obtain ⟨z0, z1, z2, z3, z4, z5, z6⟩ := K4.out.frz7
  have hg42 : g4 < w2.heap.size := K4.out.lt
  have hmk2 := hmk w2
  have s0 : (w2.setCell ⟨g4, 6, none⟩ (.slice (some ⟨w2.heap.size, 0, none⟩) fl fl)).heap.size = w2.heap.size := by simp
  have hfr := made_own (w := w2.setCell ⟨g4, 6, none⟩ (.slice (some ⟨w2.heap.size, 0, none⟩) fl fl)) (base := w2.heap.size) (k := fl) (e := 175) (by simp) hm
  have b5 : Below (w2.setCell ⟨g4, 6, none⟩ (.slice (some ⟨w2.heap.size, 0, none⟩) fl fl)).heap.size (w2.setCell ⟨g4, 6, none⟩ (.slice (some ⟨w2.heap.size, 0, none⟩) fl fl)) ((w2.setCell ⟨g4, 6, none⟩ (.slice (some ⟨w2.heap.size, 0, none⟩) fl fl)).alloc (.cells (madeCells #[.int .i64 0, .slice none 0 0] (fl * 2)) 175)) := (Below.refl _ _).alloc (Nat.le_refl _) _
  have s5 : ((w2.setCell ⟨g4, 6, none⟩ (.slice (some ⟨w2.heap.size, 0, none⟩) fl fl)).alloc (.cells (madeCells #[.int .i64 0, .slice none 0 0] (fl * 2)) 175)).heap.size = w2.heap.size + 1 := by simp
  have hset := HB2.out.setCell (p := ⟨g4, 6, none⟩) (by dsimp only; omega) (.slice (some ⟨w2.heap.size, 0, none⟩) fl fl)
  have hM : OpMem w (w.heap.size + 1) g4 w2.heap.size fl [.int .i64 rd, .int .i64 ed, .int .i64 sz, .int .i64 cp, .slice pa pl pc, .int .i64 en, .slice (some ⟨w2.heap.size, 0, none⟩) fl fl] [.int .i64 0, .int .i64 0, .int .i64 0, .int .i64 0, .slice none 0 0, .int .i64 0, .slice none 0 0] (List.replicate fl (0, [])) ((w2.setCell ⟨g4, 6, none⟩ (.slice (some ⟨w2.heap.size, 0, none⟩) fl fl)).alloc (.cells (madeCells #[.int .i64 0, .slice none 0 0] (fl * 2)) 175)) := by
    rw [s0] at hfr
    exact ⟨⟨by omega, by omega, hg42⟩, hset.trans (b5.mono hset.size), (K4.out.set 6 _).below b5, (K2.out.other (by dsimp only; omega) _).below b5, _, _, hfr.mono (fun b e => ⟨by omega, by omega⟩)⟩
  have HM := Lib.hid hM
  have hone := ((K1.out.other (p := ⟨g4, 6, none⟩) (by dsimp only; omega) (.slice (some ⟨w2.heap.size, 0, none⟩) fl fl)).below b5).seven
  obtain ⟨-, -, -, -, -, -, k6⟩ := hone
  clear hM hfr b5 K1 K2 HB2 hmk hset s0
  go_wp2_with fail
  clear c0 c1 c2 c3 c4 c5 c6 d0 d1 d2 d3 d4 d5 d6 z0 z1 z2 z3 z4 z5 z6 hmk2 k6
  generalize (w2.setCell ⟨g4, 6, none⟩ (.slice (some ⟨w2.heap.size, 0, none⟩) fl fl)).alloc (.cells (madeCells #[.int .i64 0, .slice none 0 0] (fl * 2)) 175) = Y at *
  clear s5
  generalize w2.heap.size = gf at *
  go_loopw [23] (fun i wr => ∃ (k : Nat) (m : Frs), i = .int .i64 (k : Int) ∧ k ≤ fl ∧ PartN n m k ∧ OpMem w (w.heap.size + 1) g4 gf fl [.int .i64 rd, .int .i64 ed, .int .i64 sz, .int .i64 cp, .slice pa pl pc, .int .i64 en, .slice (some ⟨gf, 0, none⟩) fl fl] [.int .i64 0, .int .i64 0, .int .i64 0, .int .i64 0, .slice none 0 0, .int .i64 0, .slice none 0 0] m wr) (fun i _ => fl - (intOf i).toNat)
  case atStart => exact ⟨0, _, rfl, Nat.zero_le _, ⟨by simp; exact HFL.out.symm, fun i hi => by omega⟩, HM.out⟩
  case round =>
    clear HM
    obtain ⟨k, m, rfl, hk, hpt, hmm⟩ := hrel
    by_cases hkl : k < fl
    · obtain ⟨b, o, rfl⟩ := HFRS.out.there (by omega)
      obtain ⟨-, x, cx, p0, p1, r0, -⟩ := HFRS.out.cell b o rfl k hkl
      have hw := HFIT.out k hkl
      have hfr : ∃ f, frAt n k = f := ⟨_, rfl⟩
      obtain ⟨⟨wt, l⟩, hfr⟩ := hfr
      rw [hfr] at p0 p1 r0 hw
      dsimp only at p0 p1 r0 hw
      have q0 := (hmm.below.cell (World.block_lt_of_cell? w _ p0)).trans p0
      have q1 := (hmm.below.cell (World.block_lt_of_cell? w _ p1)).trans p1
      have HROW := Lib.hid (fun (V : World) (hb : Below w.heap.size w V) => r0.below hb)
      have HW := Lib.hid hw
      have HFR := Lib.hid hfr
      have HPT := Lib.hid hpt
      have HMM := Lib.hid hmm
      have h1 : (k : Int) < (fl : Int) := by omega
      have hlow := hmm.low
      have hgfw : gf < wr.heap.size := World.block_lt_of_cell? wr _ (hmm.slot hkl).choose_spec.choose_spec.1
      clear p0 p1 r0 hw hfr hpt hmm
      go_wp2_with fail
      have m1 := box_new wr [.int .i64 wt, .slice x l.length cx] 175 (by simp)
      have b1 : Below wr.heap.size wr (wr.alloc (.cells #[.int .i64 wt, .slice x l.length cx] 175)) := (Below.refl _ _).alloc (Nat.le_refl _) _
      have HM1 := Lib.hid (HMM.out.next b1)
      obtain ⟨-, -, -, -, -, -, q6⟩ := HM1.out.own.seven
      have q0 := m1.cell 0 _ rfl
      have q1 := m1.cell 1 _ rfl
      generalize wr.alloc (.cells #[.int .i64 wt, .slice x l.length cx] 175) = V1 at *
      clear m1 b1 HMM
      refine wp_region_held_drew (S := (fun V => (∃ m, PartN n m k ∧ OpMem w (w.heap.size + 1) g4 gf fl [.int .i64 rd, .int .i64 ed, .int .i64 sz, .int .i64 cp, .slice pa pl pc, .int .i64 en, .slice (some ⟨gf, 0, none⟩) fl fl] [.int .i64 0, .int .i64 0, .int .i64 0, .int .i64 0, .slice none 0 0, .int .i64 0, .slice none 0 0] m V) ∧ V.cell? ⟨g4, 6, none⟩ = some (.slice (some ⟨gf, 0, none⟩) fl fl) ∧ V.cell? ⟨wr.heap.size, 0, none⟩ = some (.int .i64 wt) ∧ V.cell? ⟨wr.heap.size, 1, none⟩ = some (.slice x l.length cx))) (by kernel_rfl) (⟨⟨m, HPT.out, HM1.out.drew⟩, q6, q0, q1⟩) (fun hHeld => ?_)
      refine wpAnyH_take (i := 0) (oi := _) (v := ?v1x0) rfl (by kernel_rfl) (by kernel_rfl) (by kernel_rfl) (fun _ _ _ h => h) (Or.inl ⟨by kernel_rfl, ?hy1x0⟩) (by with_reducible assumption) ?rest1x0
      case hy1x0 => (intro w hSw; (try dsimp only at hSw); go_simp; (try with_reducible rfl))
      (try simp only [Act.put, List.getElem_toArray, List.getElem_cons_zero, List.setIfInBounds_toArray, List.set_cons_succ, List.set_cons_zero])
      refine wpAnyH_take (i := 1) (oi := _) (v := ?v1x1) rfl (by kernel_rfl) (by kernel_rfl) (by kernel_rfl) (fun _ _ _ h => h) (Or.inl ⟨by kernel_rfl, ?hy1x1⟩) (by with_reducible assumption) ?rest1x1
      case hy1x1 => (intro w hSw; (try dsimp only at hSw); go_simp; (try with_reducible rfl))
      (try simp only [Act.put, List.getElem_toArray, List.getElem_cons_succ, List.getElem_cons_zero, List.setIfInBounds_toArray, List.set_cons_succ, List.set_cons_zero])
      refine wpAnyH_take (i := 2) (oi := _) (v := ?v1x2) rfl (by kernel_rfl) (by kernel_rfl) (by kernel_rfl) (fun _ _ _ h => h) (Or.inl ⟨by kernel_rfl, ?hy1x2⟩) (by with_reducible assumption) ?rest1x2
      case hy1x2 => (intro w hSw; (try dsimp only at hSw); go_simp; (try with_reducible rfl))
      (try simp only [Act.put, List.getElem_toArray, List.getElem_cons_succ, List.getElem_cons_zero, List.setIfInBounds_toArray, List.set_cons_succ, List.set_cons_zero])
      refine wpAnyH_take (i := 3) (oi := _) (v := ?v1x3) rfl (by kernel_rfl) (by kernel_rfl) (by kernel_rfl) (fun _ _ _ h => h) (Or.inl ⟨by kernel_rfl, ?hy1x3⟩) (by with_reducible assumption) ?rest1x3
      case hy1x3 => (intro w hSw; (try dsimp only at hSw); go_simp; (try with_reducible rfl))
      (try simp only [Act.put, List.getElem_toArray, List.getElem_cons_succ, List.getElem_cons_zero, List.setIfInBounds_toArray, List.set_cons_succ, List.set_cons_zero])
      refine wpAnyH_take (i := 4) (oi := _) (v := ?v1x4) rfl (by kernel_rfl) (by kernel_rfl) (by kernel_rfl) (fun _ _ _ h => h) (Or.inl ⟨by kernel_rfl, ?hy1x4⟩) (by with_reducible assumption) ?rest1x4
      case hy1x4 => (intro w hSw; (try dsimp only at hSw); go_simp; (try with_reducible rfl))
      (try simp only [Act.put, List.getElem_toArray, List.getElem_cons_succ, List.getElem_cons_zero, List.setIfInBounds_toArray, List.set_cons_succ, List.set_cons_zero])
      refine wpAnyH_take (i := 5) (oi := _) (v := ?v1x5) rfl (by kernel_rfl) (by kernel_rfl) (by kernel_rfl) (fun _ _ _ h => h) (Or.inl ⟨by kernel_rfl, ?hy1x5⟩) (by with_reducible assumption) ?rest1x5
      case hy1x5 => (intro w hSw; (try dsimp only at hSw); go_simp; (try with_reducible rfl))
      (try simp only [Act.put, List.getElem_toArray, List.getElem_cons_succ, List.getElem_cons_zero, List.setIfInBounds_toArray, List.set_cons_succ, List.set_cons_zero])
      refine wpAnyH_take (i := 6) (oi := _) (v := ?v1x6) rfl (by kernel_rfl) (by kernel_rfl) (by kernel_rfl) (fun _ _ _ h => h) (Or.inl ⟨by kernel_rfl, ?hy1x6⟩) (by with_reducible assumption) ?rest1x6
      case hy1x6 => (intro w hSw; (try dsimp only at hSw); go_simp; (try with_reducible rfl))
      (try simp only [Act.put, List.getElem_toArray, List.getElem_cons_succ, List.getElem_cons_zero, List.setIfInBounds_toArray, List.set_cons_succ, List.set_cons_zero])
      refine wpAnyH_ready (rs := [7]) (by kernel_rfl) (by simp) (AllReadyH.cons (o := _) rfl (fun K hK => ?c1x7) AllReadyH.nil)
      go_simp
      obtain ⟨m2, hp2, hm2⟩ := hHeld.1
      have HP2 := Lib.hid hp2
      have HM2 := Lib.hid hm2
      have hrow := HROW.out _ hm2.below
      (with_reducible refine (clone_calls (cap := cx) hrow).mono ?_); rintro e w9 ⟨x2, c2, rfl, i2, f2, b2, hc2, hb9⟩
      have HI := Lib.hid i2
      have HF2 := Lib.hid f2
      have HB2 := Lib.hid b2
      have HC2 := Lib.hid hc2
      have HB9 := Lib.hid hb9
      clear i2 f2 b2 hc2 hrow hp2 hm2
      go_simp
      refine hK.out _ _ (⟨⟨m2, HP2.out, HM2.out.next HB9.out⟩, (HB9.out.cell (World.block_lt_of_cell? _ _ hHeld.2.1)).trans hHeld.2.1, (HB9.out.cell (World.block_lt_of_cell? _ _ hHeld.2.2.1)).trans hHeld.2.2.1, (HB9.out.cell (World.block_lt_of_cell? _ _ hHeld.2.2.2)).trans hHeld.2.2.2⟩) (fun hHeld2 => ?_)
      clear hHeld
      have hHeld := hHeld2
      clear hK K hHeld2
      (try simp only [Act.put, List.getElem_toArray, List.getElem_cons_succ, List.getElem_cons_zero, List.setIfInBounds_toArray, List.set_cons_succ, List.set_cons_zero])
      refine wpAnyH_take (i := 8) (oi := _) (v := ?v1x8) rfl (by kernel_rfl) (by kernel_rfl) (by kernel_rfl) (fun _ _ _ h => h) (Or.inl ⟨by kernel_rfl, ?hy1x8⟩) (by with_reducible assumption) ?rest1x8
      case hy1x8 => (intro w hSw; (try dsimp only at hSw); go_simp; (try with_reducible rfl))
      (try simp only [Act.put, List.getElem_toArray, List.getElem_cons_succ, List.getElem_cons_zero, List.setIfInBounds_toArray, List.set_cons_succ, List.set_cons_zero])
      refine wpAnyH_take (i := 9) (oi := _) (v := ?v1x9) rfl (by kernel_rfl) (by kernel_rfl) (by kernel_rfl) (fun _ _ _ h => h) (Or.inl ⟨by kernel_rfl, ?hy1x9⟩) (by with_reducible assumption) ?rest1x9
      case hy1x9 => (intro w hSw; (try dsimp only at hSw); go_simp; (try with_reducible rfl))
      (try simp only [Act.put, List.getElem_toArray, List.getElem_cons_succ, List.getElem_cons_zero, List.setIfInBounds_toArray, List.set_cons_succ, List.set_cons_zero])
      refine wpAnyH_ready (rs := [10]) (by kernel_rfl) (by simp) (AllReadyH.cons (o := _) rfl (fun K hK => ?c1x10) AllReadyH.nil)
      rw [if_pos (by kernel_rfl)]
      obtain ⟨u0, v0, e0, e1, z0, z1⟩ := (HM2.out.next HB9.out).slot hkl
      have hput := HM2.out.put HB9.out hkl HW.out HI.out HF2.out HB2.out HC2.out
      have hnew : PartN n (m2.set k (wt, l)) (k + 1) := (by have := partN_succ HP2.out (by omega : k < n.length); rw [HFR.out] at this; exact this)
      have hold : PartN n (m2.set k (wt, l)) k := partN_set HP2.out (by omega) _
      have HPUT := Lib.hid hput
      have HNEW := Lib.hid hnew
      clear hput hnew
      have hne4 : gf ≠ g4 := by omega
      have hneW : gf ≠ wr.heap.size := by omega
      go_simp
      refine hK.out _ _ ⟨⟨_, hold, HPUT.out⟩, cell_off hne4 hne4 hHeld.2.1, cell_off hneW hneW hHeld.2.2.1, cell_off hneW hneW hHeld.2.2.2⟩ (fun _ => ?_)
      clear hK K hold hHeld
      (try simp only [Act.put, List.getElem_toArray, List.getElem_cons_succ, List.getElem_cons_zero, List.setIfInBounds_toArray, List.set_cons_succ, List.set_cons_zero])
      refine wpAnyH_done (by kernel_rfl) ?_ _
      go_wp2_with fail
      go_roundw
      case rel => exact ⟨k + 1, _, by go_num, by omega, HNEW.out, HPUT.out⟩
      case measure => simp [intOf]; omega
    · have hkl' : k = fl := by omega
      subst hkl'
      obtain rfl : m = n := partN_all (by rw [HFL.out]; exact hpt)
      have HMM := Lib.hid hmm
      obtain ⟨d0, d1, d2, d3, d4, d5, d6⟩ := hmm.own.seven
      obtain ⟨y0, y1, y2, y3, y4, y5, y6⟩ := hmm.out.seven
      obtain ⟨z0, z1, z2, z3, z4, z5, z6⟩ := hmm.out.frz7
      have hlow := hmm.low
      clear hpt hmm HFRS HFIT
      go_wp2_with fail
      refine bodyPost_ret (v := .tuple #[.agg #[.int .i64 rd, .int .i64 ed, .int .i64 sz, .int .i64 cp, .slice pa pl pc, .int .i64 en, .slice (some ⟨gf, 0, none⟩) k k], .nilIface]) (by simp [results, Tryz.results72, go_sem, *]) rfl ?_
      have hK := kept7 wr (w.heap.size + 1) (.int .i64 rd) (.int .i64 ed) (.int .i64 sz) (.int .i64 cp) (.slice pa pl pc) (.int .i64 en) (.slice (some ⟨gf, 0, none⟩) k k)
      obtain ⟨A, C, hfo⟩ := HMM.out.frs
      refine ⟨gf, A, C, by rw [HFL.out]; rfl, ?_, HMM.out.below.trans (hK.toBelow HMM.out.below.size (fun b hb e => by omega))⟩
      rw [HFL.out]
      exact (hfo.kept hK (fun b e e' => by omega)).mono (fun b e => ⟨by omega, Nat.lt_of_lt_of_le e.2 hK.size⟩)

/-- What opening a reader answers, where the Rcv is not right. -/
theorem openBad_calls {S : Nat → Prop} {rd ed sz cp en : Int} {pa fa : Option Addr} {pl pc fl fc : Nat} {ps : List Pc} {n : Frs} {w : World} (hp : InPcs w pa pl ps) (hf : InFrs S w fa fl n) (hok : ¬ rcvOk rd ps ed sz cp en n) :
    Calls Tryz.prog 72 #[rcvV rd pa pl pc ed sz cp en fa fl fc] w fun e w' => e = .returned (.tuple #[readerV 0 0 0 0 none 0 0 0 none 0 0, faultV 1]) ∧ Below w.heap.size w w' := by
  have H0 := Lib.hid (fun W => readerOf_calls rd pa pl pc ed sz cp en fa fl fc W)
  have h1 := fun (W : World) (hb : Below w.heap.size w W) => readerRight_calls (rd := rd) (ed := ed) (sz := sz) (cp := cp) (en := en) (pc := pc) (fc := fc) (hp.below hb) (hf.below hb)
  rw [decide_eq_false hok] at h1
  have H1 := Lib.hid h1
  unfold readerV rcvV at *
  clear hp hf h1 hok
  go_enter Tryz.func72, Tryz.ntmps72
  go_wp2_with fail
  have n3 := box_two w [.int .i64 rd, .slice pa pl pc, .int .i64 ed, .int .i64 sz, .int .i64 cp, .int .i64 en, .slice fa fl fc] [.int .i64 0, .int .i64 0, .int .i64 0, .int .i64 0, .slice none 0 0, .int .i64 0, .slice none 0 0] 26 112 (by simp) (by simp)
  dsimp only at n3
  generalize (w.alloc (.cells #[.int .i64 rd, .slice pa pl pc, .int .i64 ed, .int .i64 sz, .int .i64 cp, .int .i64 en, .slice fa fl fc] 26)).alloc (.cells #[.int .i64 0, .int .i64 0, .int .i64 0, .int .i64 0, .slice none 0 0, .int .i64 0, .slice none 0 0] 112) = W at *
  obtain ⟨n1, n2, hs, hb0⟩ := n3
  obtain ⟨c0, c1, c2, c3, c4, c5, c6⟩ := n1.seven
  (with_reducible refine (H0.out _).mono ?_); rintro e w1 ⟨rfl, hb1⟩
  have N2 := Lib.hid (n2.below hb1)
  have HB1 := Lib.hid (hb0.trans (hb1.mono hb0.size))
  clear n1 n2 hb0 hb1 hs c0 c1 c2 c3 c4 c5 c6 H0
  have n4 := box_new w1 [.int .i64 rd, .int .i64 ed, .int .i64 sz, .int .i64 cp, .slice pa pl pc, .int .i64 en, .slice fa fl fc] 112 (by simp)
  have b4 : Below w1.heap.size w1 (w1.alloc (.cells #[.int .i64 rd, .int .i64 ed, .int .i64 sz, .int .i64 cp, .slice pa pl pc, .int .i64 en, .slice fa fl fc] 112)) := (Below.refl _ _).alloc (Nat.le_refl _) _
  have N4 := Lib.hid n4
  have M2 := Lib.hid (N2.out.below b4)
  have HB4 := Lib.hid (HB1.out.trans (b4.mono HB1.out.size))
  clear n4 b4 N2 HB1
  go_wp2_with fail
  generalize w1.alloc (.cells #[.int .i64 rd, .int .i64 ed, .int .i64 sz, .int .i64 cp, .slice pa pl pc, .int .i64 en, .slice fa fl fc] 112) = V at *
  (with_reducible refine (H1.out _ HB4.out).mono ?_); rintro e w2 ⟨rfl, hb2⟩
  have K2 := Lib.hid (M2.out.below hb2)
  have HB2 := Lib.hid (HB4.out.trans (hb2.mono HB4.out.size))
  clear hb2 M2 N4 HB4 H1
  obtain ⟨d0, d1, d2, d3, d4, d5, d6⟩ := K2.out.seven
  obtain ⟨z0, z1, z2, z3, z4, z5, z6⟩ := K2.out.frz7
  go_wp2_with fail
  refine bodyPost_ret (v := .tuple #[.agg #[.int .i64 0, .int .i64 0, .int .i64 0, .int .i64 0, .slice none 0 0, .int .i64 0, .slice none 0 0], faultV 1]) (by simp [results, Tryz.results72, go_sem, faultV, *]) rfl ⟨rfl, ?_⟩
  have hK := kept7 w2 (w.heap.size + 1) (.int .i64 0) (.int .i64 0) (.int .i64 0) (.int .i64 0) (.slice none 0 0) (.int .i64 0) (.slice none 0 0)
  exact HB2.out.trans (hK.toBelow HB2.out.size (fun b hb e => by omega))
end Go.Proofs.YtfjmcmdkmecgiaaGreatDoor
