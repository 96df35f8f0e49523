/- The model's l06Copy. -/
import Derived.Test.YtdcahilfmhkmiaaGreatDoorPackA
import Derived.Test.YtdcahilfmhkmiaaGreatDoorRcv
import Derived.Test.YtdcahilfmhkmiaaGreatDoorPackB
import Derived.Deep.RegionLawGrows
namespace Go.Proofs.YtdcahilfmhkmiaaGreatDoor
open Go.RowKit

theorem pv_at : ∀ (l : List Pc) (i : Nat), i < l.length → (pv l)[i * 2]? = some (.int .i64 (pcAt l i).1) ∧ (pv l)[i * 2 + 1]? = some (gs (pcAt l i).2)
  | [], i, h => by simp at h
  | p :: l, 0, _ => by simp [pv, pcAt, List.getD]
  | p :: l, i + 1, h => by
    have ih := pv_at l i (by simpa using h)
    have e : pcAt (p :: l) (i + 1) = pcAt l i := by simp [pcAt, List.getD]
    rw [e, show (i + 1) * 2 = i * 2 + 1 + 1 by omega, show i * 2 + 1 + 1 + 1 = (i * 2 + 1) + 1 + 1 by omega]
    simpa [pv] using ih
theorem pv_one : ∀ (l : List Pc), ∀ u ∈ pv l, u.oneCell' = true
  | [], u, h => by cases h
  | p :: l, u, h => by
    simp only [pv, List.mem_cons] at h
    rcases h with rfl | rfl | h
    · rfl
    · rfl
    · exact pv_one l u h
theorem InPcs.cells {w : World} {a : Option Addr} {len : Nat} {l : List Pc} (h : InPcs w a len l) : CellRow w 2 a len (pv l) :=
  ⟨by rw [pv_length, h.long], h.most, h.there, fun b o e j u hj => by
    have hjl : j < (pv l).length := (List.getElem?_eq_some_iff.1 hj).1
    rw [pv_length] at hjl
    have hl := h.long
    obtain ⟨c0, c1⟩ := h.cell b o e (j / 2) (by omega)
    obtain ⟨e0, e1⟩ := pv_at l (j / 2) (by omega)
    rcases Nat.mod_two_eq_zero_or_one j with hm | hm
    · rw [show j / 2 * 2 = j by omega] at e0 c0
      rw [e0] at hj; cases hj; exact c0
    · rw [show j / 2 * 2 + 1 = j by omega] at e1
      rw [show o + j / 2 * 2 + 1 = o + j by omega] at c1
      rw [e1] at hj; cases hj; exact c1, pv_one l⟩
theorem pcs_own {w : World} {base g len cap : Nat} {e : TypeId} {l : List Pc} (ho : w.ownsRow base e 2 (.slice (some ⟨g, 0, none⟩) len cap) len (pv l)) (hl : l.length = len) (hm : len ≤ 2000000)
    (hf : ∀ i, i < len → -9223372036854775808 ≤ (pcAt l i).1 ∧ (pcAt l i).1 ≤ 9223372036854775807 ∧ (pcAt l i).2.length ≤ 2000000) : PcsOwn (fun b => b = g) w (some ⟨g, 0, none⟩) len l ∧ base ≤ g ∧ g < w.heap.size := by
  obtain ⟨hop, h1, h2⟩ := pcs_open_own ho
  refine ⟨⟨inPcs_own ho (fun j hj => pv_at l j (by omega)) hl hm hf, fun b o e i hi => by cases e; exact hop.free i hi, fun b hb => by obtain ⟨_, o, e⟩ := hb; cases e; rfl⟩, h1, h2⟩
theorem box_drew {w : World} {g : Nat} {vs : List Value} (h : Box w g vs) : Box w.drew g vs := ⟨h.cell, h.free, h.pos⟩
theorem below_drew' (w : World) : Below w.heap.size w w.drew := (Below.refl _ _).drew
/-- What holds while the Froms are copied: W: the world at the loop's head. -/
structure CpL (W : World) (g : Nat) (out : List Value) (k : Nat) (v : Value) (xs : List Value) (n : Frs) (Q C : Nat → Nat) (V : World) : Prop where
  keep : Kept (fun b => b = g) W V
  box : Box V g (out ++ [v])
  cp : FrsCp V W.heap.size v k xs n Q C
/-- Three cells, kept by what is done above them. -/
theorem keepC {V V' : World} {p0 p1 p2 : Addr} {x0 x1 x2 : Value} {N : Nat} (hb : Below N V V') (h0 : p0.block < N) (h1 : p1.block < N) (h2 : p2.block < N) (h : V.cell? p0 = some x0 ∧ V.cell? p1 = some x1 ∧ V.cell? p2 = some x2) :
    V'.cell? p0 = some x0 ∧ V'.cell? p1 = some x1 ∧ V'.cell? p2 = some x2 := ⟨(hb.cell h0).trans h.1, (hb.cell h1).trans h.2.1, (hb.cell h2).trans h.2.2⟩

/-- The row's append keeps what lies elsewhere. -/
theorem cpL_mid {Y V U U' : World} {g k : Nat} {out xs : List Value} {v : Value} {n : Frs} {Q C : Nat → Nat} (h : CpL Y g out k v xs n Q C V) (hb : Below V.heap.size V U) (hgr : U.grownBy U' v.ownBlock) (hg : g < Y.heap.size) :
    Kept (fun b => b = g) Y U' ∧ Box U' g (out ++ [v]) := by
  have hYV := h.keep.size
  have hk2 : ∀ b, b < Y.heap.size → U'.heap[b]? = V.heap[b]? := fun b hb' =>
    (hgr.block b (Nat.lt_of_lt_of_le (by omega) hb.size) (fun e => by have := (h.cp.own.lt b e.symm).1; omega)).trans (hb.block b (by omega))
  refine ⟨⟨hgr.os.trans (hb.os.trans h.keep.os), hgr.tape.trans (hb.tape.trans h.keep.tape), hgr.output.trans (hb.output.trans h.keep.output), Nat.le_trans hYV (Nat.le_trans hb.size hgr.size), fun b hb' hs => (hk2 b hb').trans (h.keep.block b hb' hs)⟩, h.box.kept (hk2 g hg)⟩
theorem cpL_succ {Y V U U' : World} {g k p c g' cap' : Nat} {out xs : List Value} {v : Value} {n : Frs} {Q C : Nat → Nat} (h : CpL Y g out k v xs n Q C V) (ho : out.length = 6) (hb : Below V.heap.size V U)
    (hown : U'.ownsRow Y.heap.size 159 2 (.slice (some ⟨g', 0, none⟩) (k + 1) cap') (k + 1) (xs ++ [.int .i64 (frAt n k).1, .slice (some ⟨p, 0, none⟩) (frAt n k).2.length c]))
    (hgr : U.grownBy U' v.ownBlock) (hat : v.ownBlock = some g' ∨ g' = U.heap.size) (i1 : InLg U (some ⟨p, 0, none⟩) (frAt n k).2.length (frAt n k).2) (o1 : LgFree U (some ⟨p, 0, none⟩) (frAt n k).2.length)
    (hp : V.heap.size ≤ p) (hpw : p < U.heap.size) (hg : g < Y.heap.size) (hroom : (frAt n k).2.length ≤ c) (hsp : Spare U (some ⟨p, 0, none⟩) c) :
    CpL Y g out (k + 1) (.slice (some ⟨g', 0, none⟩) (k + 1) cap') (xs ++ [.int .i64 (frAt n k).1, .slice (some ⟨p, 0, none⟩) (frAt n k).2.length c]) n (fun i => if i = k then p else Q i) (fun i => if i = k then c else C i) (U'.setCell ⟨g, 6, none⟩ (.slice (some ⟨g', 0, none⟩) (k + 1) cap')) := by
  obtain ⟨h1, h2⟩ := cpL_mid h hb hgr hg
  have hYV := h.keep.size
  refine ⟨h1.trans (kept_set _ g 6 _ rfl), ?_, ?_⟩
  · have := h2.set 6 (.slice (some ⟨g', 0, none⟩) (k + 1) cap')
    rwa [List.set_append_right _ _ (by omega), ho] at this
  · refine (frsCp_succ (h.cp.below hb) hown hgr hat i1 o1 (by omega) hpw (fun e => by have := (h.cp.own.lt p e).2; omega) (fun i hi => by have := (h.cp.blk i hi).2.1; omega) hroom hsp).store (p := ⟨g, 6, none⟩) hg _

set_option maxHeartbeats 8000000 in
set_option maxRecDepth 100000 in
theorem copyRS_calls {S : Nat → Prop} {rd ed sz cp en : Int} {pa fa : Option Addr} {pl pc fl fc : Nat} {ps : List Pc} {n : Frs} {w : World} (hp : InPcs w pa pl ps) (hf : InFrs S w fa fl n) (h0 : 0 < fl) :
    Calls Tryz.prog 74 #[rcvV rd pa pl pc ed sz cp en fa fl fc] w fun e w' => ∃ (gp pc' g cap : Nat) (Q C : Nat → Nat), e = .returned (rcvV rd (some ⟨gp, 0, none⟩) pl pc' ed sz cp en (some ⟨g, 0, none⟩) fl cap) ∧
      PcsOwn (fun b => b = gp) w' (some ⟨gp, 0, none⟩) pl ps ∧ w.heap.size ≤ gp ∧ gp < w'.heap.size ∧ w'.ownsRow w.heap.size 121 2 (.slice (some ⟨gp, 0, none⟩) pl pc') pl (pv ps) ∧ FrsSp (fun b => gp < b ∧ b < w'.heap.size) w' (some ⟨g, 0, none⟩) fl n (fun i => some ⟨Q i, 0, none⟩) C ∧ Below w.heap.size w w' := by
  have hm := hf.most
  have hpl := hp.long
  have hpm := hp.most
  have hfl := hf.long
  have hfit := hf.fit
  have hpf := hp.fit
  obtain ⟨b, o, rfl⟩ := hf.there h0
  obtain ⟨-, _, _, qq, -⟩ := hf.cell b o rfl 0 h0
  have hbw : b < w.heap.size := World.block_lt_of_cell? w _ qq
  clear qq
  have hzz : (Tryz.prog.info? 121).map (fun i => (i.zero, i.size, i.bytes)) = some (some (.agg #[.int .i64 0, gs []]), 2, 24) := by kernel_rfl
  obtain ⟨i0, hi0, hzz⟩ := Option.map_eq_some_iff.1 hzz
  simp only [Prod.mk.injEq] at hzz
  obtain ⟨hz0, hz1, hz2⟩ := hzz
  have hyy : (Tryz.prog.info? 2).map (fun i => (i.zero, i.size, i.bytes)) = some (some (.int .i64 0), 1, 8) := by kernel_rfl
  obtain ⟨i1, hi1, hyy⟩ := Option.map_eq_some_iff.1 hyy
  simp only [Prod.mk.injEq] at hyy
  obtain ⟨hy0, hy1, hy2⟩ := hyy
  have hxx : (Tryz.prog.info? 159).map (fun i => (i.zero, i.size, i.bytes)) = some (some (.agg #[.int .i64 0, .slice none 0 0]), 2, 32) := by kernel_rfl
  obtain ⟨i2, hi2, hxx⟩ := Option.map_eq_some_iff.1 hxx
  simp only [Prod.mk.injEq] at hxx
  obtain ⟨hx0, hx1, hx2⟩ := hxx
  have HI := Lib.hid (And.intro hi0 (And.intro hz0 (And.intro hz1 hz2)))
  have HJ := Lib.hid (And.intro hi1 (And.intro hy0 (And.intro hy1 hy2)))
  have HK := Lib.hid (And.intro hi2 (And.intro hx0 (And.intro hx1 hx2)))
  clear hi0 hz0 hz1 hz2 hi1 hy0 hy1 hy2 hi2 hx0 hx1 hx2
  have HP := Lib.hid hp
  have HFR := Lib.hid hf
  have HFIT := Lib.hid hfit
  have HPF := Lib.hid hpf
  clear hp hf hfit hpf
  unfold rcvV
  go_enter Tryz.func74, Tryz.ntmps74

  have hw3 := box_three w [.int .i64 rd, .slice pa pl pc, .int .i64 ed, .int .i64 sz, .int .i64 cp, .int .i64 en, .slice (some ⟨b, o, none⟩) fl fc] [.int .i64 0, .slice none 0 0, .int .i64 0, .int .i64 0, .int .i64 0, .int .i64 0, .slice none 0 0] [.int .i64 rd, .slice pa pl pc, .int .i64 ed, .int .i64 sz, .int .i64 cp, .int .i64 en, .slice (some ⟨b, o, none⟩) fl fc] 26 26 26 (by simp) (by simp) (by simp)
  dsimp only at hw3
  have hw4 : (((w.alloc (.cells #[.int .i64 rd, .slice pa pl pc, .int .i64 ed, .int .i64 sz, .int .i64 cp, .int .i64 en, .slice (some ⟨b, o, none⟩) fl fc] 26)).alloc (.cells #[.int .i64 0, .slice none 0 0, .int .i64 0, .int .i64 0, .int .i64 0, .int .i64 0, .slice none 0 0] 26)).alloc (.cells #[.int .i64 rd, .slice pa pl pc, .int .i64 ed, .int .i64 sz, .int .i64 cp, .int .i64 en, .slice (some ⟨b, o, none⟩) fl fc] 26)).alloc (.cells #[] 121) = (((w.alloc (.cells #[.int .i64 rd, .slice pa pl pc, .int .i64 ed, .int .i64 sz, .int .i64 cp, .int .i64 en, .slice (some ⟨b, o, none⟩) fl fc] 26)).alloc (.cells #[.int .i64 0, .slice none 0 0, .int .i64 0, .int .i64 0, .int .i64 0, .int .i64 0, .slice none 0 0] 26)).alloc (.cells #[.int .i64 rd, .slice pa pl pc, .int .i64 ed, .int .i64 sz, .int .i64 cp, .int .i64 en, .slice (some ⟨b, o, none⟩) fl fc] 26)).alloc (.cells #[] 121) := rfl
  have hlook : ((((w.alloc (.cells #[.int .i64 rd, .slice pa pl pc, .int .i64 ed, .int .i64 sz, .int .i64 cp, .int .i64 en, .slice (some ⟨b, o, none⟩) fl fc] 26)).alloc (.cells #[.int .i64 0, .slice none 0 0, .int .i64 0, .int .i64 0, .int .i64 0, .int .i64 0, .slice none 0 0] 26)).alloc (.cells #[.int .i64 rd, .slice pa pl pc, .int .i64 ed, .int .i64 sz, .int .i64 cp, .int .i64 en, .slice (some ⟨b, o, none⟩) fl fc] 26)).alloc (.cells #[] 121)).heap[w.heap.size + 1 + 1 + 1]? = some (.cells #[] 121 (0, 0)) := by
    have h := heap_alloc_new (((w.alloc (.cells #[.int .i64 rd, .slice pa pl pc, .int .i64 ed, .int .i64 sz, .int .i64 cp, .int .i64 en, .slice (some ⟨b, o, none⟩) fl fc] 26)).alloc (.cells #[.int .i64 0, .slice none 0 0, .int .i64 0, .int .i64 0, .int .i64 0, .int .i64 0, .slice none 0 0] 26)).alloc (.cells #[.int .i64 rd, .slice pa pl pc, .int .i64 ed, .int .i64 sz, .int .i64 cp, .int .i64 en, .slice (some ⟨b, o, none⟩) fl fc] 26)) (.cells #[] 121)
    rwa [show (((w.alloc (.cells #[.int .i64 rd, .slice pa pl pc, .int .i64 ed, .int .i64 sz, .int .i64 cp, .int .i64 en, .slice (some ⟨b, o, none⟩) fl fc] 26)).alloc (.cells #[.int .i64 0, .slice none 0 0, .int .i64 0, .int .i64 0, .int .i64 0, .int .i64 0, .slice none 0 0] 26)).alloc (.cells #[.int .i64 rd, .slice pa pl pc, .int .i64 ed, .int .i64 sz, .int .i64 cp, .int .i64 en, .slice (some ⟨b, o, none⟩) fl fc] 26)).heap.size = w.heap.size + 1 + 1 + 1 by simp] at h
  have hba : Below (((w.alloc (.cells #[.int .i64 rd, .slice pa pl pc, .int .i64 ed, .int .i64 sz, .int .i64 cp, .int .i64 en, .slice (some ⟨b, o, none⟩) fl fc] 26)).alloc (.cells #[.int .i64 0, .slice none 0 0, .int .i64 0, .int .i64 0, .int .i64 0, .int .i64 0, .slice none 0 0] 26)).alloc (.cells #[.int .i64 rd, .slice pa pl pc, .int .i64 ed, .int .i64 sz, .int .i64 cp, .int .i64 en, .slice (some ⟨b, o, none⟩) fl fc] 26)).heap.size (((w.alloc (.cells #[.int .i64 rd, .slice pa pl pc, .int .i64 ed, .int .i64 sz, .int .i64 cp, .int .i64 en, .slice (some ⟨b, o, none⟩) fl fc] 26)).alloc (.cells #[.int .i64 0, .slice none 0 0, .int .i64 0, .int .i64 0, .int .i64 0, .int .i64 0, .slice none 0 0] 26)).alloc (.cells #[.int .i64 rd, .slice pa pl pc, .int .i64 ed, .int .i64 sz, .int .i64 cp, .int .i64 en, .slice (some ⟨b, o, none⟩) fl fc] 26)) ((((w.alloc (.cells #[.int .i64 rd, .slice pa pl pc, .int .i64 ed, .int .i64 sz, .int .i64 cp, .int .i64 en, .slice (some ⟨b, o, none⟩) fl fc] 26)).alloc (.cells #[.int .i64 0, .slice none 0 0, .int .i64 0, .int .i64 0, .int .i64 0, .int .i64 0, .slice none 0 0] 26)).alloc (.cells #[.int .i64 rd, .slice pa pl pc, .int .i64 ed, .int .i64 sz, .int .i64 cp, .int .i64 en, .slice (some ⟨b, o, none⟩) fl fc] 26)).alloc (.cells #[] 121)) := (Below.refl _ _).alloc (Nat.le_refl _) _
  have hsz4 : ((((w.alloc (.cells #[.int .i64 rd, .slice pa pl pc, .int .i64 ed, .int .i64 sz, .int .i64 cp, .int .i64 en, .slice (some ⟨b, o, none⟩) fl fc] 26)).alloc (.cells #[.int .i64 0, .slice none 0 0, .int .i64 0, .int .i64 0, .int .i64 0, .int .i64 0, .slice none 0 0] 26)).alloc (.cells #[.int .i64 rd, .slice pa pl pc, .int .i64 ed, .int .i64 sz, .int .i64 cp, .int .i64 en, .slice (some ⟨b, o, none⟩) fl fc] 26)).alloc (.cells #[] 121)).heap.size = w.heap.size + 4 := by simp
  obtain ⟨n1, n2, n3, hs3, hb3⟩ := hw3
  replace n1 := n1.below hba
  replace n2 := n2.below hba
  replace n3 := n3.below hba
  have hb4 := hb3.trans (hba.mono hb3.size)
  have HW := Lib.hid (And.intro n1 (And.intro n2 (And.intro n3 hb4)))
  have HL := Lib.hid hlook
  have HS4 := Lib.hid hsz4
  clear n1 n2 n3 hb3 hb4 hlook hs3 hba hw4 hsz4
  go_wp2_with (at_builtin; refine wpList_copy_cells _ rfl _ _ 23 rfl w.heap.size 121 i0 _ 2 24 Tryz.underlying23 HI.out.1 HI.out.2.1 HI.out.2.2.1 HI.out.2.2.2 rfl (by decide) (by decide) rfl (cells_empty HL.out (by omega)) _ rfl (HP.out.below HW.out.2.2.2).cells HW.out.2.2.2.size ?_; intro gp pc' w1 hown1 hgr1 hat1; have hgp : w.heap.size + 1 + 1 + 1 ≤ gp := (by have := HS4.out; omega); have m1 := Lib.hid (HW.out.1.kept (hgr1.block _ HW.out.1.lt (fun e => by have := Option.some.inj e; omega))); have m2 := Lib.hid (HW.out.2.1.kept (hgr1.block _ HW.out.2.1.lt (fun e => by have := Option.some.inj e; omega))); have m3 := HW.out.2.2.1.kept (hgr1.block _ HW.out.2.2.1.lt (fun e => by have := Option.some.inj e; omega)); obtain ⟨d0, d1, d2, d3, d4, d5, d6⟩ := m3.seven; obtain ⟨z0, z1, z2, z3, z4, z5, z6⟩ := m3.frz7; have M3 := Lib.hid m3; have HB1 := Lib.hid (HW.out.2.2.2.grown hgr1 HW.out.2.2.2.size (fun k e => by cases e; omega)); have HO1 := Lib.hid (pcs_own hown1 hpl hpm HPF.out); have HW1 := Lib.hid hown1; clear m3 hown1)

  have k3 : Box _ (w.heap.size + 1 + 1) ([.int .i64 rd, .slice (some ⟨gp, 0, none⟩) pl pc', .int .i64 ed, .int .i64 sz, .int .i64 cp, .int .i64 en] ++ [.slice none 0 0]) := (M3.out.set 1 (.slice (some ⟨gp, 0, none⟩) pl pc')).set 6 (.slice none 0 0)
  have k1 := (m1.out.other (p := ⟨w.heap.size + 1 + 1, 1, none⟩) (by dsimp only; omega) (.slice (some ⟨gp, 0, none⟩) pl pc')).other (p := ⟨w.heap.size + 1 + 1, 6, none⟩) (by dsimp only; omega) (.slice none 0 0)
  have k2 := (m2.out.other (p := ⟨w.heap.size + 1 + 1, 1, none⟩) (by dsimp only; omega) (.slice (some ⟨gp, 0, none⟩) pl pc')).other (p := ⟨w.heap.size + 1 + 1, 6, none⟩) (by dsimp only; omega) (.slice none 0 0)
  have kk := (kept_set (S := fun b => b = w.heap.size + 1 + 1) w1 (w.heap.size + 1 + 1) 1 (.slice (some ⟨gp, 0, none⟩) pl pc') rfl).trans (kept_set _ (w.heap.size + 1 + 1) 6 (.slice none 0 0) rfl)
  have hPO := HO1.out.1.kept kk (fun b e e' => by omega)
  have HPW := Lib.hid (own_kept HW1.out kk (fun b e e' => by have e := Option.some.inj e; dsimp only at e; omega))
  have hBY := (HB1.out.setCell (p := ⟨w.heap.size + 1 + 1, 1, none⟩) (by dsimp only; omega) (.slice (some ⟨gp, 0, none⟩) pl pc')).setCell (p := ⟨w.heap.size + 1 + 1, 6, none⟩) (by dsimp only; omega) (.slice none 0 0)
  have hgY : gp < ((w1.setCell ⟨w.heap.size + 1 + 1, 1, none⟩ (.slice (some ⟨gp, 0, none⟩) pl pc')).setCell ⟨w.heap.size + 1 + 1, 6, none⟩ (.slice none 0 0)).heap.size := Nat.lt_of_lt_of_le HO1.out.2.2 kk.size
  clear kk m1 m2 M3 HO1 HW1 HB1 HW HL HS4 hgr1 hat1 d0 d1 d2 d3 d4 d5 d6 z0 z1 z2 z3 z4 z5 z6
  generalize (w1.setCell ⟨w.heap.size + 1 + 1, 1, none⟩ (.slice (some ⟨gp, 0, none⟩) pl pc')).setCell ⟨w.heap.size + 1 + 1, 6, none⟩ (.slice none 0 0) = Y at *
  have K1 := Lib.hid k1
  have K2 := Lib.hid k2
  have K3 := Lib.hid k3
  have HPO := Lib.hid hPO
  have HBY := Lib.hid hBY
  clear k1 k2 k3 hPO hBY
  go_loopw [4] (fun i V => ∃ (k : Nat) (v : Value) (xs : List Value) (Q C : Nat → Nat), i = .int .i64 (k : Int) ∧ k ≤ fl ∧ CpL Y (w.heap.size + 1 + 1) [.int .i64 rd, .slice (some ⟨gp, 0, none⟩) pl pc', .int .i64 ed, .int .i64 sz, .int .i64 cp, .int .i64 en] k v xs n Q C V) (fun i _ => fl - (intOf i).toNat)
  case atStart => exact ⟨0, .slice none 0 0, [], id, id, rfl, Nat.zero_le _, Kept.refl _ _, K3.out, frsCp_zero _ _ _ _ _⟩
  case round =>
    obtain ⟨k, v, xs, Q, C, rfl, hk, hcp⟩ := hrel
    clear K3
    have hYV := hcp.keep.size
    have hBV : Below w.heap.size w wr := HBY.out.trans (hcp.keep.toBelow HBY.out.size (fun b hb e => by omega))
    have n1 := K1.out.kept (hcp.keep.block _ K1.out.lt (by omega))
    obtain ⟨-, -, -, -, -, -, c6⟩ := n1.seven
    by_cases hkl : k < fl
    · obtain ⟨-, x, cx, q0, q1, r0, -⟩ := (HFR.out.below hBV).cell b o rfl k hkl
      obtain ⟨d0, d1, d2, d3, d4, d5, d6⟩ := hcp.box.seven
      have hx1 : (0 : Int) ≤ (k : Int) := by omega
      have hx2 : (k : Int) < (fl : Int) := by omega
      have hfitk := HFIT.out
      have hgw : w.heap.size + 1 + 1 < Y.heap.size := by omega
      have hbV : b < wr.heap.size := Nat.lt_of_lt_of_le hbw hBV.size
      have hgV : w.heap.size < wr.heap.size := by omega
      have hoV : w.heap.size + 1 + 1 < wr.heap.size := by omega
      have e8 : ((wr.alloc (.cells #[] 2)).drew).heap[wr.heap.size]? = some (.cells #[] 2 (0, 0)) := heap_alloc_new wr _
      have b8 : Below wr.heap.size wr ((wr.alloc (.cells #[] 2)).drew) := ((Below.refl _ _).alloc (Nat.le_refl _) _).drew
      have s8 : ((wr.alloc (.cells #[] 2)).drew).heap.size = wr.heap.size + 1 := by simp
      have HCP := Lib.hid hcp
      have R0 := Lib.hid r0
      have HBV := Lib.hid hBV
      have E8 := Lib.hid e8
      have B8 := Lib.hid b8
      have S8 := Lib.hid s8
      clear hcp r0 hBV n1 d0 d1 d2 d3 d4 d5 e8 b8 s8
      go_wp2_with fail

      have d6w := (HCP.out.box.seven).2.2.2.2.2.2
      have q0w : w.cell? ⟨b, o + k * 2, none⟩ = some (.int .i64 (frAt n k).1) := (HBV.out.cell (p := ⟨b, o + k * 2, none⟩) hbw).symm.trans q0
      have q1w : w.cell? ⟨b, o + k * 2 + 1, none⟩ = some (.slice x (frAt n k).2.length cx) := (HBV.out.cell (p := ⟨b, o + k * 2 + 1, none⟩) hbw).symm.trans q1
      refine wp_region_held_drew (S := (fun V => V.cell? ⟨w.heap.size, 6, none⟩ = some (.slice (some ⟨b, o, none⟩) fl fc) ∧ V.cell? ⟨b, o + k * 2, none⟩ = some (.int .i64 (frAt n k).1) ∧ V.cell? ⟨b, o + k * 2 + 1, none⟩ = some (.slice x (frAt n k).2.length cx))) (by kernel_rfl) ⟨c6, q0, q1⟩ (fun hHeld => ?_)
      refine wpAnyH_take (i := 0) (oi := _) (v := ?va1x0) rfl (by kernel_rfl) (by kernel_rfl) (by kernel_rfl) (fun _ _ _ h => h) (Or.inl ⟨by kernel_rfl, ?hya1x0⟩) (by with_reducible assumption) ?resta1x0
      case hya1x0 => (intro w hSw; (try dsimp only at hSw); go_simp; (try with_reducible rfl))
      (try simp only [Act.put, List.getElem_toArray, List.getElem_cons_zero, List.setIfInBounds_toArray, List.set_cons_succ, List.set_cons_zero])
      refine wpAnyH_take (i := 2) (oi := _) (v := ?va2x2) rfl (by kernel_rfl) (by kernel_rfl) (by kernel_rfl) (fun _ _ _ h => h) (Or.inl ⟨by kernel_rfl, ?hya2x2⟩) (by with_reducible assumption) ?resta2x2
      case hya2x2 => (intro w hSw; (try dsimp only at hSw); go_simp; (try with_reducible rfl))
      (try simp only [Act.put, List.getElem_toArray, List.getElem_cons_succ, List.getElem_cons_zero, List.setIfInBounds_toArray, List.set_cons_succ, List.set_cons_zero])
      refine wpAnyH_take (i := 3) (oi := _) (v := ?va3x3) rfl (by kernel_rfl) (by kernel_rfl) (by kernel_rfl) (fun _ _ _ h => h) (Or.inl ⟨by kernel_rfl, ?hya3x3⟩) (by with_reducible assumption) ?resta3x3
      case hya3x3 => (intro w hSw; (try dsimp only at hSw); go_simp; (try with_reducible rfl))
      (try simp only [Act.put, List.getElem_toArray, List.getElem_cons_succ, List.getElem_cons_zero, List.setIfInBounds_toArray, List.set_cons_succ, List.set_cons_zero])
      refine wpAnyH_take (i := 4) (oi := _) (v := ?va4x4) rfl (by kernel_rfl) (by kernel_rfl) (by kernel_rfl) (fun _ _ _ h => h) (Or.inl ⟨by kernel_rfl, ?hya4x4⟩) (by with_reducible assumption) ?resta4x4
      case hya4x4 => (intro w hSw; (try dsimp only at hSw); go_simp; (try with_reducible rfl))
      (try simp only [Act.put, List.getElem_toArray, List.getElem_cons_succ, List.getElem_cons_zero, List.setIfInBounds_toArray, List.set_cons_succ, List.set_cons_zero])
      refine wpAnyH_take (i := 5) (oi := _) (v := ?va5x5) rfl (by kernel_rfl) (by kernel_rfl) (by kernel_rfl) (fun _ _ _ h => h) (Or.inl ⟨by kernel_rfl, ?hya5x5⟩) (by with_reducible assumption) ?resta5x5
      case hya5x5 => (intro w hSw; (try dsimp only at hSw); go_simp; (try with_reducible rfl))
      (try simp only [Act.put, List.getElem_toArray, List.getElem_cons_succ, List.getElem_cons_zero, List.setIfInBounds_toArray, List.set_cons_succ, List.set_cons_zero])
      refine wpAnyH_take (i := 6) (oi := _) (v := ?va6x6) rfl (by kernel_rfl) (by kernel_rfl) (by kernel_rfl) (fun _ _ _ h => h) (Or.inl ⟨by kernel_rfl, ?hya6x6⟩) (by with_reducible assumption) ?resta6x6
      case hya6x6 => (intro w hSw; (try dsimp only at hSw); go_simp; (try with_reducible rfl))
      (try simp only [Act.put, List.getElem_toArray, List.getElem_cons_succ, List.getElem_cons_zero, List.setIfInBounds_toArray, List.set_cons_succ, List.set_cons_zero])
      refine wpAnyH_take (i := 7) (oi := _) (v := ?va7x7) rfl (by kernel_rfl) (by kernel_rfl) (by kernel_rfl) (fun _ _ _ h => h) (Or.inl ⟨by kernel_rfl, ?hya7x7⟩) (by with_reducible assumption) ?resta7x7
      case hya7x7 => (intro w hSw; (try dsimp only at hSw); go_simp; (try with_reducible rfl))
      (try simp only [Act.put, List.getElem_toArray, List.getElem_cons_succ, List.getElem_cons_zero, List.setIfInBounds_toArray, List.set_cons_succ, List.set_cons_zero])
      refine wpAnyH_take (i := 9) (oi := _) (v := ?va8x9) rfl (by kernel_rfl) (by kernel_rfl) (by kernel_rfl) (fun _ _ _ h => h) (Or.inl ⟨by kernel_rfl, ?hya8x9⟩) (by with_reducible assumption) ?resta8x9
      case hya8x9 => (intro w hSw; (try dsimp only at hSw); go_simp; (try with_reducible rfl))
      (try simp only [Act.put, List.getElem_toArray, List.getElem_cons_succ, List.getElem_cons_zero, List.setIfInBounds_toArray, List.set_cons_succ, List.set_cons_zero])
      refine wpAnyH_take (i := 10) (oi := _) (v := ?va9x10) rfl (by kernel_rfl) (by kernel_rfl) (by kernel_rfl) (fun _ _ _ h => h) (Or.inl ⟨by kernel_rfl, ?hya9x10⟩) (by with_reducible assumption) ?resta9x10
      case hya9x10 => (intro w hSw; (try dsimp only at hSw); go_simp; (try with_reducible rfl))
      (try simp only [Act.put, List.getElem_toArray, List.getElem_cons_succ, List.getElem_cons_zero, List.setIfInBounds_toArray, List.set_cons_succ, List.set_cons_zero])
      refine wpAnyH_take (i := 11) (oi := _) (v := ?va10x11) rfl (by kernel_rfl) (by kernel_rfl) (by kernel_rfl) (fun _ _ _ h => h) (Or.inl ⟨by kernel_rfl, ?hya10x11⟩) (by with_reducible assumption) ?resta10x11
      case hya10x11 => (intro w hSw; (try dsimp only at hSw); go_simp; (try with_reducible rfl))
      (try simp only [Act.put, List.getElem_toArray, List.getElem_cons_succ, List.getElem_cons_zero, List.setIfInBounds_toArray, List.set_cons_succ, List.set_cons_zero])
      refine wpAnyH_take (i := 12) (oi := _) (v := ?va11x12) rfl (by kernel_rfl) (by kernel_rfl) (by kernel_rfl) (fun _ _ _ h => h) (Or.inl ⟨by kernel_rfl, ?hya11x12⟩) (by with_reducible assumption) ?resta11x12
      case hya11x12 => (intro w hSw; (try dsimp only at hSw); go_simp; (try with_reducible rfl))
      (try simp only [Act.put, List.getElem_toArray, List.getElem_cons_succ, List.getElem_cons_zero, List.setIfInBounds_toArray, List.set_cons_succ, List.set_cons_zero])
      refine wpAnyH_take (i := 13) (oi := _) (v := ?va12x13) rfl (by kernel_rfl) (by kernel_rfl) (by kernel_rfl) (fun _ _ _ h => h) (Or.inl ⟨by kernel_rfl, ?hya12x13⟩) (by with_reducible assumption) ?resta12x13
      case hya12x13 => (intro w hSw; (try dsimp only at hSw); go_simp; (try with_reducible rfl))
      (try simp only [Act.put, List.getElem_toArray, List.getElem_cons_succ, List.getElem_cons_zero, List.setIfInBounds_toArray, List.set_cons_succ, List.set_cons_zero])
      refine wpAnyH_take (i := 14) (oi := _) (v := ?va13x14) rfl (by kernel_rfl) (by kernel_rfl) (by kernel_rfl) (fun _ _ _ h => h) (Or.inl ⟨by kernel_rfl, ?hya13x14⟩) (by with_reducible assumption) ?resta13x14
      case hya13x14 => (intro w hSw; (try dsimp only at hSw); go_simp; (try with_reducible rfl))
      (try simp only [Act.put, List.getElem_toArray, List.getElem_cons_succ, List.getElem_cons_zero, List.setIfInBounds_toArray, List.set_cons_succ, List.set_cons_zero])
      refine wpAnyH_ready (rs := [1, 8]) (by kernel_rfl) (by simp) (AllReadyH.cons (o := _) rfl (fun K hK => ?cb14A) (AllReadyH.cons (o := _) rfl (fun K hK => ?cb14B) AllReadyH.nil))
      case cb14A =>
        go_simp
        refine hK.out _ _ (hHeld) (fun hHeld2 => ?_)
        clear hHeld
        have hHeld := hHeld2
        clear hK K hHeld2
        (try simp only [Act.put, List.getElem_toArray, List.getElem_cons_succ, List.getElem_cons_zero, List.setIfInBounds_toArray, List.set_cons_succ, List.set_cons_zero])
        refine wpAnyH_ready (rs := [8]) (by kernel_rfl) (by simp) (AllReadyH.cons (o := _) rfl (fun K hK => ?_) AllReadyH.nil)
        go_simp
        refine hK.out _ _ (keepC (N := wr.heap.size) B8.out hgV hbV hbV ⟨c6, q0, q1⟩) (fun hHeld2 => ?_)
        clear hHeld
        have hHeld := hHeld2
        clear hK K hHeld2
        (try simp only [Act.put, List.getElem_toArray, List.getElem_cons_succ, List.getElem_cons_zero, List.setIfInBounds_toArray, List.set_cons_succ, List.set_cons_zero])
        have d6 := (B8.out.cell (p := ⟨w.heap.size + 1 + 1, 6, none⟩) hoV).trans d6
        generalize (wr.alloc (.cells #[] 2)).drew = U8 at *
        refine wpAnyH_ready (rs := [15]) (by kernel_rfl) (by simp) (AllReadyH.cons (o := _) rfl (fun K hK => ?_) AllReadyH.nil)
        refine step_copy_cells _ rfl (.tmp 27) (.tmp 33) 130 rfl Y.heap.size 2 i1 _ 1 8 Tryz.underlying130 HJ.out.1 HJ.out.2.1 HJ.out.2.2.1 HJ.out.2.2.2 rfl (by decide) (by decide) rfl (cells_empty E8.out hYV) cx rfl (R0.out.below B8.out).cells (Nat.le_trans hYV B8.out.size) ?_
        intro p15 c15 U15 own15 gr15 at15
        have hl15 := lg_own own15 R0.out.small R0.out.fit; have HSP15 := Lib.hid (own_spare own15)
        have hb15 : Below wr.heap.size wr U15 := B8.out.grown gr15 B8.out.size (fun k e => by cases e; exact Nat.le_refl _)
        have hp15 : wr.heap.size ≤ p15 := by have := S8.out; omega
        have HR15 := Lib.hid (own_room own15)
        have HL15 := Lib.hid hl15
        have B15 := Lib.hid hb15
        clear own15 hl15 hb15
        refine hK.out _ _ (keepC (N := wr.heap.size) B15.out hgV hbV hbV ⟨c6, q0, q1⟩) (fun hHeld2 => ?_)
        clear hHeld
        have hHeld := hHeld2
        clear hK K hHeld2
        (try simp only [Act.put, List.getElem_toArray, List.getElem_cons_succ, List.getElem_cons_zero, List.setIfInBounds_toArray, List.set_cons_succ, List.set_cons_zero])
        have d6 := (B15.out.cell (p := ⟨w.heap.size + 1 + 1, 6, none⟩) hoV).trans d6w
        refine wpAnyH_take (i := 16) (oi := _) (v := ?va15x16) rfl (by kernel_rfl) (by kernel_rfl) (by kernel_rfl) (fun _ _ _ h => h) (Or.inl ⟨by kernel_rfl, ?hya15x16⟩) (by with_reducible assumption) ?resta15x16
        case hya15x16 => (intro w hSw; (try dsimp only at hSw); go_simp; (try with_reducible rfl))
        (try simp only [Act.put, List.getElem_toArray, List.getElem_cons_succ, List.getElem_cons_zero, List.setIfInBounds_toArray, List.set_cons_succ, List.set_cons_zero])
        refine wpAnyH_ready (rs := [17]) (by kernel_rfl) (by simp) (AllReadyH.cons (o := _) rfl (fun K hK => ?_) AllReadyH.nil)
        have B17 := Lib.hid (B15.out.alloc B15.out.size (.cells #[.int .i64 (frAt n k).1, .slice (some ⟨p15, 0, none⟩) (frAt n k).2.length c15] 159))
        have E17 := Lib.hid (heap_alloc_new U15 (.cells #[.int .i64 (frAt n k).1, .slice (some ⟨p15, 0, none⟩) (frAt n k).2.length c15] 159))
        have b17 : Below U15.heap.size U15 (U15.alloc (.cells #[.int .i64 (frAt n k).1, .slice (some ⟨p15, 0, none⟩) (frAt n k).2.length c15] 159)) := (Below.refl _ _).alloc (Nat.le_refl _) _
        have hl17 := And.intro (HL15.out.1.below b17) (And.intro (HL15.out.2.1.blk (fun b hb => b17.block b (HL15.out.1.lt hb))) (Nat.lt_of_lt_of_le HL15.out.2.2.2 b17.size))
        have HL17 := Lib.hid hl17
        clear b17 hl17
        go_simp
        refine hK.out _ _ (keepC (N := wr.heap.size) B17.out hgV hbV hbV ⟨c6, q0, q1⟩) (fun hHeld2 => ?_)
        clear hHeld
        have hHeld := hHeld2
        clear hK K hHeld2
        (try simp only [Act.put, List.getElem_toArray, List.getElem_cons_succ, List.getElem_cons_zero, List.setIfInBounds_toArray, List.set_cons_succ, List.set_cons_zero])
        have d6 := (B17.out.cell (p := ⟨w.heap.size + 1 + 1, 6, none⟩) hoV).trans d6w
        refine wpAnyH_ready (rs := [18]) (by kernel_rfl) (by simp) (AllReadyH.cons (o := _) rfl (fun K hK => ?_) AllReadyH.nil)
        refine step_append_lies _ rfl (.tmp 20) (.tmp 36) 24 rfl Y.heap.size 159 i2 (.agg #[.int .i64 0, .slice none 0 0]) 2 32 Tryz.underlying24 HK.out.1 HK.out.2.1 HK.out.2.2.1 HK.out.2.2.2 rfl (by decide) v k xs rfl (HCP.out.cp.below B17.out).own ⟨U15.heap.size, 0, none⟩ 1 1 [.int .i64 (frAt n k).1, .slice (some ⟨p15, 0, none⟩) (frAt n k).2.length c15] rfl rfl (World.news_of_block E17.out) (by intro u hu; simp at hu; rcases hu with rfl | rfl <;> rfl) (by decide) (by simp [maxLen]; omega) (by omega) (Nat.le_trans hYV B17.out.size) _ rfl ?_
        intro g18 cap18 U18 own18 gr18 at18 _
        have hmid := cpL_mid HCP.out B17.out gr18 hgw
        have hsuc := cpL_succ HCP.out rfl B17.out own18 gr18 at18 HL17.out.1 HL17.out.2.1 hp15 HL17.out.2.2 hgw HR15.out (HSP15.out.below ((Below.refl _ _).alloc (Nat.le_refl _) _))
        have hb18 : Below w.heap.size w U18 := HBY.out.trans (hmid.1.toBelow HBY.out.size (fun b hb e => by omega))
        have hc18 : U18.cell? ⟨w.heap.size, 6, none⟩ = some (.slice (some ⟨b, o, none⟩) fl fc) := (K1.out.kept (hmid.1.block _ K1.out.lt (by omega))).seven.2.2.2.2.2.2
        have hq18 := (hb18.cell (p := ⟨b, o + k * 2, none⟩) hbw)
        have hr18 := (hb18.cell (p := ⟨b, o + k * 2 + 1, none⟩) hbw)
        have d6 := hmid.2.seven.2.2.2.2.2.2
        have z6 := hmid.2.frz7.2.2.2.2.2.2
        have HSUC := Lib.hid hsuc
        clear own18 hmid hsuc hb18
        refine hK.out _ _ (⟨hc18, hq18.trans q0w, hr18.trans q1w⟩) (fun hHeld2 => ?_)
        clear hHeld
        have hHeld := hHeld2
        clear hK K hHeld2
        (try simp only [Act.put, List.getElem_toArray, List.getElem_cons_succ, List.getElem_cons_zero, List.setIfInBounds_toArray, List.set_cons_succ, List.set_cons_zero])
        refine wpAnyH_take (i := 19) (oi := _) (v := ?va16x19) rfl (by kernel_rfl) (by kernel_rfl) (by kernel_rfl) (fun _ _ _ h => h) (Or.inl ⟨by kernel_rfl, ?hya16x19⟩) (by with_reducible assumption) ?resta16x19
        case hya16x19 => (intro w hSw; (try dsimp only at hSw); go_simp; (try with_reducible rfl))
        (try simp only [Act.put, List.getElem_toArray, List.getElem_cons_succ, List.getElem_cons_zero, List.setIfInBounds_toArray, List.set_cons_succ, List.set_cons_zero])
        refine wpAnyH_ready (rs := [20]) (by kernel_rfl) (by simp) (AllReadyH.cons (o := _) rfl (fun K hK => ?_) AllReadyH.nil)
        go_simp
        refine hK.out _ _ ⟨(World.cell?_setCell_other _ _ _ _ (fun e => by injection e with e _ _; omega)).trans hc18, (World.cell?_setCell_other _ _ _ _ (fun e => by injection e with e _ _; omega)).trans (hq18.trans q0w), (World.cell?_setCell_other _ _ _ _ (fun e => by injection e with e _ _; omega)).trans (hr18.trans q1w)⟩ (fun _ => ?_)
        (try simp only [Act.put, List.getElem_toArray, List.getElem_cons_succ, List.getElem_cons_zero, List.setIfInBounds_toArray, List.set_cons_succ, List.set_cons_zero])
        refine wpAnyH_done (by kernel_rfl) ?_ _
        clear hK K hHeld hc18 hq18 hr18 d6 z6 HL15 HL17 B15 B17 E17 HCP
        go_wp2_with fail
        go_roundw
        case rel => exact ⟨k + 1, _, _, _, _, by go_num, by omega, HSUC.out⟩
        case measure => simp [intOf]; omega
      case cb14B =>
        go_simp
        refine hK.out _ _ (keepC (N := wr.heap.size) B8.out hgV hbV hbV ⟨c6, q0, q1⟩) (fun hHeld2 => ?_)
        clear hHeld
        have hHeld := hHeld2
        clear hK K hHeld2
        (try simp only [Act.put, List.getElem_toArray, List.getElem_cons_succ, List.getElem_cons_zero, List.setIfInBounds_toArray, List.set_cons_succ, List.set_cons_zero])
        have d6 := (B8.out.cell (p := ⟨w.heap.size + 1 + 1, 6, none⟩) hoV).trans d6
        generalize (wr.alloc (.cells #[] 2)).drew = U8 at *
        refine wpAnyH_ready (rs := [1, 15]) (by kernel_rfl) (by simp) (AllReadyH.cons (o := _) rfl (fun K hK => ?cb17A) (AllReadyH.cons (o := _) rfl (fun K hK => ?cb17B) AllReadyH.nil))
        case cb17A =>
          go_simp
          refine hK.out _ _ (hHeld) (fun hHeld2 => ?_)
          clear hHeld
          have hHeld := hHeld2
          clear hK K hHeld2
          (try simp only [Act.put, List.getElem_toArray, List.getElem_cons_succ, List.getElem_cons_zero, List.setIfInBounds_toArray, List.set_cons_succ, List.set_cons_zero])
          refine wpAnyH_ready (rs := [15]) (by kernel_rfl) (by simp) (AllReadyH.cons (o := _) rfl (fun K hK => ?_) AllReadyH.nil)
          refine step_copy_cells _ rfl (.tmp 27) (.tmp 33) 130 rfl Y.heap.size 2 i1 _ 1 8 Tryz.underlying130 HJ.out.1 HJ.out.2.1 HJ.out.2.2.1 HJ.out.2.2.2 rfl (by decide) (by decide) rfl (cells_empty E8.out hYV) cx rfl (R0.out.below B8.out).cells (Nat.le_trans hYV B8.out.size) ?_
          intro p15 c15 U15 own15 gr15 at15
          have hl15 := lg_own own15 R0.out.small R0.out.fit; have HSP15 := Lib.hid (own_spare own15)
          have hb15 : Below wr.heap.size wr U15 := B8.out.grown gr15 B8.out.size (fun k e => by cases e; exact Nat.le_refl _)
          have hp15 : wr.heap.size ≤ p15 := by have := S8.out; omega
          have HR15 := Lib.hid (own_room own15)
          have HL15 := Lib.hid hl15
          have B15 := Lib.hid hb15
          clear own15 hl15 hb15
          refine hK.out _ _ (keepC (N := wr.heap.size) B15.out hgV hbV hbV ⟨c6, q0, q1⟩) (fun hHeld2 => ?_)
          clear hHeld
          have hHeld := hHeld2
          clear hK K hHeld2
          (try simp only [Act.put, List.getElem_toArray, List.getElem_cons_succ, List.getElem_cons_zero, List.setIfInBounds_toArray, List.set_cons_succ, List.set_cons_zero])
          have d6 := (B15.out.cell (p := ⟨w.heap.size + 1 + 1, 6, none⟩) hoV).trans d6w
          refine wpAnyH_take (i := 16) (oi := _) (v := ?va18x16) rfl (by kernel_rfl) (by kernel_rfl) (by kernel_rfl) (fun _ _ _ h => h) (Or.inl ⟨by kernel_rfl, ?hya18x16⟩) (by with_reducible assumption) ?resta18x16
          case hya18x16 => (intro w hSw; (try dsimp only at hSw); go_simp; (try with_reducible rfl))
          (try simp only [Act.put, List.getElem_toArray, List.getElem_cons_succ, List.getElem_cons_zero, List.setIfInBounds_toArray, List.set_cons_succ, List.set_cons_zero])
          refine wpAnyH_ready (rs := [17]) (by kernel_rfl) (by simp) (AllReadyH.cons (o := _) rfl (fun K hK => ?_) AllReadyH.nil)
          have B17 := Lib.hid (B15.out.alloc B15.out.size (.cells #[.int .i64 (frAt n k).1, .slice (some ⟨p15, 0, none⟩) (frAt n k).2.length c15] 159))
          have E17 := Lib.hid (heap_alloc_new U15 (.cells #[.int .i64 (frAt n k).1, .slice (some ⟨p15, 0, none⟩) (frAt n k).2.length c15] 159))
          have b17 : Below U15.heap.size U15 (U15.alloc (.cells #[.int .i64 (frAt n k).1, .slice (some ⟨p15, 0, none⟩) (frAt n k).2.length c15] 159)) := (Below.refl _ _).alloc (Nat.le_refl _) _
          have hl17 := And.intro (HL15.out.1.below b17) (And.intro (HL15.out.2.1.blk (fun b hb => b17.block b (HL15.out.1.lt hb))) (Nat.lt_of_lt_of_le HL15.out.2.2.2 b17.size))
          have HL17 := Lib.hid hl17
          clear b17 hl17
          go_simp
          refine hK.out _ _ (keepC (N := wr.heap.size) B17.out hgV hbV hbV ⟨c6, q0, q1⟩) (fun hHeld2 => ?_)
          clear hHeld
          have hHeld := hHeld2
          clear hK K hHeld2
          (try simp only [Act.put, List.getElem_toArray, List.getElem_cons_succ, List.getElem_cons_zero, List.setIfInBounds_toArray, List.set_cons_succ, List.set_cons_zero])
          have d6 := (B17.out.cell (p := ⟨w.heap.size + 1 + 1, 6, none⟩) hoV).trans d6w
          refine wpAnyH_ready (rs := [18]) (by kernel_rfl) (by simp) (AllReadyH.cons (o := _) rfl (fun K hK => ?_) AllReadyH.nil)
          refine step_append_lies _ rfl (.tmp 20) (.tmp 36) 24 rfl Y.heap.size 159 i2 (.agg #[.int .i64 0, .slice none 0 0]) 2 32 Tryz.underlying24 HK.out.1 HK.out.2.1 HK.out.2.2.1 HK.out.2.2.2 rfl (by decide) v k xs rfl (HCP.out.cp.below B17.out).own ⟨U15.heap.size, 0, none⟩ 1 1 [.int .i64 (frAt n k).1, .slice (some ⟨p15, 0, none⟩) (frAt n k).2.length c15] rfl rfl (World.news_of_block E17.out) (by intro u hu; simp at hu; rcases hu with rfl | rfl <;> rfl) (by decide) (by simp [maxLen]; omega) (by omega) (Nat.le_trans hYV B17.out.size) _ rfl ?_
          intro g18 cap18 U18 own18 gr18 at18 _
          have hmid := cpL_mid HCP.out B17.out gr18 hgw
          have hsuc := cpL_succ HCP.out rfl B17.out own18 gr18 at18 HL17.out.1 HL17.out.2.1 hp15 HL17.out.2.2 hgw HR15.out (HSP15.out.below ((Below.refl _ _).alloc (Nat.le_refl _) _))
          have hb18 : Below w.heap.size w U18 := HBY.out.trans (hmid.1.toBelow HBY.out.size (fun b hb e => by omega))
          have hc18 : U18.cell? ⟨w.heap.size, 6, none⟩ = some (.slice (some ⟨b, o, none⟩) fl fc) := (K1.out.kept (hmid.1.block _ K1.out.lt (by omega))).seven.2.2.2.2.2.2
          have hq18 := (hb18.cell (p := ⟨b, o + k * 2, none⟩) hbw)
          have hr18 := (hb18.cell (p := ⟨b, o + k * 2 + 1, none⟩) hbw)
          have d6 := hmid.2.seven.2.2.2.2.2.2
          have z6 := hmid.2.frz7.2.2.2.2.2.2
          have HSUC := Lib.hid hsuc
          clear own18 hmid hsuc hb18
          refine hK.out _ _ (⟨hc18, hq18.trans q0w, hr18.trans q1w⟩) (fun hHeld2 => ?_)
          clear hHeld
          have hHeld := hHeld2
          clear hK K hHeld2
          (try simp only [Act.put, List.getElem_toArray, List.getElem_cons_succ, List.getElem_cons_zero, List.setIfInBounds_toArray, List.set_cons_succ, List.set_cons_zero])
          refine wpAnyH_take (i := 19) (oi := _) (v := ?va19x19) rfl (by kernel_rfl) (by kernel_rfl) (by kernel_rfl) (fun _ _ _ h => h) (Or.inl ⟨by kernel_rfl, ?hya19x19⟩) (by with_reducible assumption) ?resta19x19
          case hya19x19 => (intro w hSw; (try dsimp only at hSw); go_simp; (try with_reducible rfl))
          (try simp only [Act.put, List.getElem_toArray, List.getElem_cons_succ, List.getElem_cons_zero, List.setIfInBounds_toArray, List.set_cons_succ, List.set_cons_zero])
          refine wpAnyH_ready (rs := [20]) (by kernel_rfl) (by simp) (AllReadyH.cons (o := _) rfl (fun K hK => ?_) AllReadyH.nil)
          go_simp
          refine hK.out _ _ ⟨(World.cell?_setCell_other _ _ _ _ (fun e => by injection e with e _ _; omega)).trans hc18, (World.cell?_setCell_other _ _ _ _ (fun e => by injection e with e _ _; omega)).trans (hq18.trans q0w), (World.cell?_setCell_other _ _ _ _ (fun e => by injection e with e _ _; omega)).trans (hr18.trans q1w)⟩ (fun _ => ?_)
          (try simp only [Act.put, List.getElem_toArray, List.getElem_cons_succ, List.getElem_cons_zero, List.setIfInBounds_toArray, List.set_cons_succ, List.set_cons_zero])
          refine wpAnyH_done (by kernel_rfl) ?_ _
          clear hK K hHeld hc18 hq18 hr18 d6 z6 HL15 HL17 B15 B17 E17 HCP
          go_wp2_with fail
          go_roundw
          case rel => exact ⟨k + 1, _, _, _, _, by go_num, by omega, HSUC.out⟩
          case measure => simp [intOf]; omega
        case cb17B =>
          refine step_copy_cells _ rfl (.tmp 27) (.tmp 33) 130 rfl Y.heap.size 2 i1 _ 1 8 Tryz.underlying130 HJ.out.1 HJ.out.2.1 HJ.out.2.2.1 HJ.out.2.2.2 rfl (by decide) (by decide) rfl (cells_empty E8.out hYV) cx rfl (R0.out.below B8.out).cells (Nat.le_trans hYV B8.out.size) ?_
          intro p15 c15 U15 own15 gr15 at15
          have hl15 := lg_own own15 R0.out.small R0.out.fit; have HSP15 := Lib.hid (own_spare own15)
          have hb15 : Below wr.heap.size wr U15 := B8.out.grown gr15 B8.out.size (fun k e => by cases e; exact Nat.le_refl _)
          have hp15 : wr.heap.size ≤ p15 := by have := S8.out; omega
          have HR15 := Lib.hid (own_room own15)
          have HL15 := Lib.hid hl15
          have B15 := Lib.hid hb15
          clear own15 hl15 hb15
          refine hK.out _ _ (keepC (N := wr.heap.size) B15.out hgV hbV hbV ⟨c6, q0, q1⟩) (fun hHeld2 => ?_)
          clear hHeld
          have hHeld := hHeld2
          clear hK K hHeld2
          (try simp only [Act.put, List.getElem_toArray, List.getElem_cons_succ, List.getElem_cons_zero, List.setIfInBounds_toArray, List.set_cons_succ, List.set_cons_zero])
          have d6 := (B15.out.cell (p := ⟨w.heap.size + 1 + 1, 6, none⟩) hoV).trans d6w
          refine wpAnyH_take (i := 16) (oi := _) (v := ?va20x16) rfl (by kernel_rfl) (by kernel_rfl) (by kernel_rfl) (fun _ _ _ h => h) (Or.inl ⟨by kernel_rfl, ?hya20x16⟩) (by with_reducible assumption) ?resta20x16
          case hya20x16 => (intro w hSw; (try dsimp only at hSw); go_simp; (try with_reducible rfl))
          (try simp only [Act.put, List.getElem_toArray, List.getElem_cons_succ, List.getElem_cons_zero, List.setIfInBounds_toArray, List.set_cons_succ, List.set_cons_zero])
          refine wpAnyH_ready (rs := [1, 17]) (by kernel_rfl) (by simp) (AllReadyH.cons (o := _) rfl (fun K hK => ?cb21A) (AllReadyH.cons (o := _) rfl (fun K hK => ?cb21B) AllReadyH.nil))
          case cb21A =>
            go_simp
            refine hK.out _ _ (hHeld) (fun hHeld2 => ?_)
            clear hHeld
            have hHeld := hHeld2
            clear hK K hHeld2
            (try simp only [Act.put, List.getElem_toArray, List.getElem_cons_succ, List.getElem_cons_zero, List.setIfInBounds_toArray, List.set_cons_succ, List.set_cons_zero])
            refine wpAnyH_ready (rs := [17]) (by kernel_rfl) (by simp) (AllReadyH.cons (o := _) rfl (fun K hK => ?_) AllReadyH.nil)
            have B17 := Lib.hid (B15.out.alloc B15.out.size (.cells #[.int .i64 (frAt n k).1, .slice (some ⟨p15, 0, none⟩) (frAt n k).2.length c15] 159))
            have E17 := Lib.hid (heap_alloc_new U15 (.cells #[.int .i64 (frAt n k).1, .slice (some ⟨p15, 0, none⟩) (frAt n k).2.length c15] 159))
            have b17 : Below U15.heap.size U15 (U15.alloc (.cells #[.int .i64 (frAt n k).1, .slice (some ⟨p15, 0, none⟩) (frAt n k).2.length c15] 159)) := (Below.refl _ _).alloc (Nat.le_refl _) _
            have hl17 := And.intro (HL15.out.1.below b17) (And.intro (HL15.out.2.1.blk (fun b hb => b17.block b (HL15.out.1.lt hb))) (Nat.lt_of_lt_of_le HL15.out.2.2.2 b17.size))
            have HL17 := Lib.hid hl17
            clear b17 hl17
            go_simp
            refine hK.out _ _ (keepC (N := wr.heap.size) B17.out hgV hbV hbV ⟨c6, q0, q1⟩) (fun hHeld2 => ?_)
            clear hHeld
            have hHeld := hHeld2
            clear hK K hHeld2
            (try simp only [Act.put, List.getElem_toArray, List.getElem_cons_succ, List.getElem_cons_zero, List.setIfInBounds_toArray, List.set_cons_succ, List.set_cons_zero])
            have d6 := (B17.out.cell (p := ⟨w.heap.size + 1 + 1, 6, none⟩) hoV).trans d6w
            refine wpAnyH_ready (rs := [18]) (by kernel_rfl) (by simp) (AllReadyH.cons (o := _) rfl (fun K hK => ?_) AllReadyH.nil)
            refine step_append_lies _ rfl (.tmp 20) (.tmp 36) 24 rfl Y.heap.size 159 i2 (.agg #[.int .i64 0, .slice none 0 0]) 2 32 Tryz.underlying24 HK.out.1 HK.out.2.1 HK.out.2.2.1 HK.out.2.2.2 rfl (by decide) v k xs rfl (HCP.out.cp.below B17.out).own ⟨U15.heap.size, 0, none⟩ 1 1 [.int .i64 (frAt n k).1, .slice (some ⟨p15, 0, none⟩) (frAt n k).2.length c15] rfl rfl (World.news_of_block E17.out) (by intro u hu; simp at hu; rcases hu with rfl | rfl <;> rfl) (by decide) (by simp [maxLen]; omega) (by omega) (Nat.le_trans hYV B17.out.size) _ rfl ?_
            intro g18 cap18 U18 own18 gr18 at18 _
            have hmid := cpL_mid HCP.out B17.out gr18 hgw
            have hsuc := cpL_succ HCP.out rfl B17.out own18 gr18 at18 HL17.out.1 HL17.out.2.1 hp15 HL17.out.2.2 hgw HR15.out (HSP15.out.below ((Below.refl _ _).alloc (Nat.le_refl _) _))
            have hb18 : Below w.heap.size w U18 := HBY.out.trans (hmid.1.toBelow HBY.out.size (fun b hb e => by omega))
            have hc18 : U18.cell? ⟨w.heap.size, 6, none⟩ = some (.slice (some ⟨b, o, none⟩) fl fc) := (K1.out.kept (hmid.1.block _ K1.out.lt (by omega))).seven.2.2.2.2.2.2
            have hq18 := (hb18.cell (p := ⟨b, o + k * 2, none⟩) hbw)
            have hr18 := (hb18.cell (p := ⟨b, o + k * 2 + 1, none⟩) hbw)
            have d6 := hmid.2.seven.2.2.2.2.2.2
            have z6 := hmid.2.frz7.2.2.2.2.2.2
            have HSUC := Lib.hid hsuc
            clear own18 hmid hsuc hb18
            refine hK.out _ _ (⟨hc18, hq18.trans q0w, hr18.trans q1w⟩) (fun hHeld2 => ?_)
            clear hHeld
            have hHeld := hHeld2
            clear hK K hHeld2
            (try simp only [Act.put, List.getElem_toArray, List.getElem_cons_succ, List.getElem_cons_zero, List.setIfInBounds_toArray, List.set_cons_succ, List.set_cons_zero])
            refine wpAnyH_take (i := 19) (oi := _) (v := ?va22x19) rfl (by kernel_rfl) (by kernel_rfl) (by kernel_rfl) (fun _ _ _ h => h) (Or.inl ⟨by kernel_rfl, ?hya22x19⟩) (by with_reducible assumption) ?resta22x19
            case hya22x19 => (intro w hSw; (try dsimp only at hSw); go_simp; (try with_reducible rfl))
            (try simp only [Act.put, List.getElem_toArray, List.getElem_cons_succ, List.getElem_cons_zero, List.setIfInBounds_toArray, List.set_cons_succ, List.set_cons_zero])
            refine wpAnyH_ready (rs := [20]) (by kernel_rfl) (by simp) (AllReadyH.cons (o := _) rfl (fun K hK => ?_) AllReadyH.nil)
            go_simp
            refine hK.out _ _ ⟨(World.cell?_setCell_other _ _ _ _ (fun e => by injection e with e _ _; omega)).trans hc18, (World.cell?_setCell_other _ _ _ _ (fun e => by injection e with e _ _; omega)).trans (hq18.trans q0w), (World.cell?_setCell_other _ _ _ _ (fun e => by injection e with e _ _; omega)).trans (hr18.trans q1w)⟩ (fun _ => ?_)
            (try simp only [Act.put, List.getElem_toArray, List.getElem_cons_succ, List.getElem_cons_zero, List.setIfInBounds_toArray, List.set_cons_succ, List.set_cons_zero])
            refine wpAnyH_done (by kernel_rfl) ?_ _
            clear hK K hHeld hc18 hq18 hr18 d6 z6 HL15 HL17 B15 B17 E17 HCP
            go_wp2_with fail
            go_roundw
            case rel => exact ⟨k + 1, _, _, _, _, by go_num, by omega, HSUC.out⟩
            case measure => simp [intOf]; omega
          case cb21B =>
            have B17 := Lib.hid (B15.out.alloc B15.out.size (.cells #[.int .i64 (frAt n k).1, .slice (some ⟨p15, 0, none⟩) (frAt n k).2.length c15] 159))
            have E17 := Lib.hid (heap_alloc_new U15 (.cells #[.int .i64 (frAt n k).1, .slice (some ⟨p15, 0, none⟩) (frAt n k).2.length c15] 159))
            have b17 : Below U15.heap.size U15 (U15.alloc (.cells #[.int .i64 (frAt n k).1, .slice (some ⟨p15, 0, none⟩) (frAt n k).2.length c15] 159)) := (Below.refl _ _).alloc (Nat.le_refl _) _
            have hl17 := And.intro (HL15.out.1.below b17) (And.intro (HL15.out.2.1.blk (fun b hb => b17.block b (HL15.out.1.lt hb))) (Nat.lt_of_lt_of_le HL15.out.2.2.2 b17.size))
            have HL17 := Lib.hid hl17
            clear b17 hl17
            go_simp
            refine hK.out _ _ (keepC (N := wr.heap.size) B17.out hgV hbV hbV ⟨c6, q0, q1⟩) (fun hHeld2 => ?_)
            clear hHeld
            have hHeld := hHeld2
            clear hK K hHeld2
            (try simp only [Act.put, List.getElem_toArray, List.getElem_cons_succ, List.getElem_cons_zero, List.setIfInBounds_toArray, List.set_cons_succ, List.set_cons_zero])
            have d6 := (B17.out.cell (p := ⟨w.heap.size + 1 + 1, 6, none⟩) hoV).trans d6w
            refine wpAnyH_ready (rs := [1]) (by kernel_rfl) (by simp) (AllReadyH.cons (o := _) rfl (fun K hK => ?_) AllReadyH.nil)
            go_simp
            refine hK.out _ _ (hHeld) (fun hHeld2 => ?_)
            clear hHeld
            have hHeld := hHeld2
            clear hK K hHeld2
            (try simp only [Act.put, List.getElem_toArray, List.getElem_cons_succ, List.getElem_cons_zero, List.setIfInBounds_toArray, List.set_cons_succ, List.set_cons_zero])
            refine wpAnyH_ready (rs := [18]) (by kernel_rfl) (by simp) (AllReadyH.cons (o := _) rfl (fun K hK => ?_) AllReadyH.nil)
            refine step_append_lies _ rfl (.tmp 20) (.tmp 36) 24 rfl Y.heap.size 159 i2 (.agg #[.int .i64 0, .slice none 0 0]) 2 32 Tryz.underlying24 HK.out.1 HK.out.2.1 HK.out.2.2.1 HK.out.2.2.2 rfl (by decide) v k xs rfl (HCP.out.cp.below B17.out).own ⟨U15.heap.size, 0, none⟩ 1 1 [.int .i64 (frAt n k).1, .slice (some ⟨p15, 0, none⟩) (frAt n k).2.length c15] rfl rfl (World.news_of_block E17.out) (by intro u hu; simp at hu; rcases hu with rfl | rfl <;> rfl) (by decide) (by simp [maxLen]; omega) (by omega) (Nat.le_trans hYV B17.out.size) _ rfl ?_
            intro g18 cap18 U18 own18 gr18 at18 _
            have hmid := cpL_mid HCP.out B17.out gr18 hgw
            have hsuc := cpL_succ HCP.out rfl B17.out own18 gr18 at18 HL17.out.1 HL17.out.2.1 hp15 HL17.out.2.2 hgw HR15.out (HSP15.out.below ((Below.refl _ _).alloc (Nat.le_refl _) _))
            have hb18 : Below w.heap.size w U18 := HBY.out.trans (hmid.1.toBelow HBY.out.size (fun b hb e => by omega))
            have hc18 : U18.cell? ⟨w.heap.size, 6, none⟩ = some (.slice (some ⟨b, o, none⟩) fl fc) := (K1.out.kept (hmid.1.block _ K1.out.lt (by omega))).seven.2.2.2.2.2.2
            have hq18 := (hb18.cell (p := ⟨b, o + k * 2, none⟩) hbw)
            have hr18 := (hb18.cell (p := ⟨b, o + k * 2 + 1, none⟩) hbw)
            have d6 := hmid.2.seven.2.2.2.2.2.2
            have z6 := hmid.2.frz7.2.2.2.2.2.2
            have HSUC := Lib.hid hsuc
            clear own18 hmid hsuc hb18
            refine hK.out _ _ (⟨hc18, hq18.trans q0w, hr18.trans q1w⟩) (fun hHeld2 => ?_)
            clear hHeld
            have hHeld := hHeld2
            clear hK K hHeld2
            (try simp only [Act.put, List.getElem_toArray, List.getElem_cons_succ, List.getElem_cons_zero, List.setIfInBounds_toArray, List.set_cons_succ, List.set_cons_zero])
            refine wpAnyH_take (i := 19) (oi := _) (v := ?va23x19) rfl (by kernel_rfl) (by kernel_rfl) (by kernel_rfl) (fun _ _ _ h => h) (Or.inl ⟨by kernel_rfl, ?hya23x19⟩) (by with_reducible assumption) ?resta23x19
            case hya23x19 => (intro w hSw; (try dsimp only at hSw); go_simp; (try with_reducible rfl))
            (try simp only [Act.put, List.getElem_toArray, List.getElem_cons_succ, List.getElem_cons_zero, List.setIfInBounds_toArray, List.set_cons_succ, List.set_cons_zero])
            refine wpAnyH_ready (rs := [20]) (by kernel_rfl) (by simp) (AllReadyH.cons (o := _) rfl (fun K hK => ?_) AllReadyH.nil)
            go_simp
            refine hK.out _ _ ⟨(World.cell?_setCell_other _ _ _ _ (fun e => by injection e with e _ _; omega)).trans hc18, (World.cell?_setCell_other _ _ _ _ (fun e => by injection e with e _ _; omega)).trans (hq18.trans q0w), (World.cell?_setCell_other _ _ _ _ (fun e => by injection e with e _ _; omega)).trans (hr18.trans q1w)⟩ (fun _ => ?_)
            (try simp only [Act.put, List.getElem_toArray, List.getElem_cons_succ, List.getElem_cons_zero, List.setIfInBounds_toArray, List.set_cons_succ, List.set_cons_zero])
            refine wpAnyH_done (by kernel_rfl) ?_ _
            clear hK K hHeld hc18 hq18 hr18 d6 z6 HL15 HL17 B15 B17 E17 HCP
            go_wp2_with fail
            go_roundw
            case rel => exact ⟨k + 1, _, _, _, _, by go_num, by omega, HSUC.out⟩
            case measure => simp [intOf]; omega
    · have hkl' : k = fl := by omega
      obtain ⟨g, cap, rfl, hgB, hgw, hfo⟩ := hcp.cp.whole (by omega) (by omega) (by omega) (fun i hi => HFIT.out i (by omega))
      obtain ⟨d0, d1, d2, d3, d4, d5, d6⟩ := hcp.box.seven
      have n2 := K2.out.kept (hcp.keep.block _ K2.out.lt (by omega))
      obtain ⟨e0, e1, e2, e3, e4, e5, e6⟩ := n2.seven
      obtain ⟨y0, y1, y2, y3, y4, y5, y6⟩ := n2.frz7
      have HPO2 := Lib.hid (HPO.out.kept hcp.keep (fun b e e' => by omega))
      have HPW2 := Lib.hid (own_kept HPW.out hcp.keep (fun b e e' => by have e := Option.some.inj e; dsimp only at e; omega))
      have HFO := Lib.hid hfo
      have HBV := Lib.hid hBV
      subst hkl'
      clear hcp n1 n2 hfo HPO HPW K1 K2 hBV HFR HP
      go_wp2_with fail
      refine bodyPost_ret (v := rcvV rd (some ⟨gp, 0, none⟩) pl pc' ed sz cp en (some ⟨g, 0, none⟩) k cap) (by simp [rcvV, results, Tryz.results74, go_sem, *]) rfl ?_
      have hK := ((((((kept_set (S := fun b => b = w.heap.size + 1) wr (w.heap.size + 1) 0 (.int .i64 rd) rfl).trans (kept_set _ (w.heap.size + 1) 1 (.slice (some ⟨gp, 0, none⟩) pl pc') rfl)).trans (kept_set _ (w.heap.size + 1) 2 (.int .i64 ed) rfl)).trans (kept_set _ (w.heap.size + 1) 3 (.int .i64 sz) rfl)).trans (kept_set _ (w.heap.size + 1) 4 (.int .i64 cp) rfl)).trans (kept_set _ (w.heap.size + 1) 5 (.int .i64 en) rfl)).trans (kept_set _ (w.heap.size + 1) 6 (.slice (some ⟨g, 0, none⟩) k cap) rfl)
      refine ⟨gp, pc', g, cap, Q, C, rfl, HPO2.out.kept hK (fun b e e' => by omega), by omega, Nat.lt_of_lt_of_le (by omega) hK.size, own_kept HPW2.out hK (fun b e e' => by have e := Option.some.inj e; dsimp only at e; omega), ?_, HBV.out.trans (hK.toBelow HBV.out.size (fun b hb e => by omega))⟩
      exact (HFO.out.kept hK (fun b e e' => by omega)).mono (fun b hb => ⟨by omega, Nat.lt_of_lt_of_le hb.2 hK.size⟩)
end Go.Proofs.YtdcahilfmhkmiaaGreatDoor
