/- PieceCut, the program's. -/
import Derived.Test.YtdcahilfmhkmiaaGreatDoorCutI
import Derived.Test.YtdcahilfmhkmiaaGreatDoorPackC
namespace Go.Proofs.YtdcahilfmhkmiaaGreatDoor
open Go.RowKit

theorem put_last {wr w4 : World} {B r : Nat} {ks : List Lk} {y : Lk} (h : Ring wr B r ks) (hb : Below wr.heap.size wr w4) (hy : Has w4 y) (hg : wr.heap.size ≤ y.g) (hg2 : wr.heap.size ≤ y.b) (hl : y.t.length ≤ 2000000)
    (h2 : w4.cell? ⟨y.g, 2, none⟩ = some (.pointer none)) (h3 : w4.cell? ⟨y.g, 3, none⟩ = some (.pointer none)) (hf : y.t ≠ []) :
    Calls Tryz.prog 206 #[ptr r, ptr y.g] w4 fun e w5 => e = .returned (.tuple #[]) ∧ Ring w5 B r (ks ++ [y]) ∧ ∀ a, Below B a wr → Below B a w5 := by
  have hB : B ≤ wr.heap.size := by have := h.base.1; have := h.root.lt; omega
  refine (putAhead_ring (xs := ks) (ys := []) (by rw [List.append_nil]; exact h.below hb) hy hl ⟨by omega, by omega⟩ h2 h3 (by rw [List.append_nil]; exact ring_fresh h hg) (by rw [List.append_nil]; exact ring_apart h hg2) hf).mono ?_
  rintro e w5 ⟨rfl, hr, ho⟩
  refine ⟨rfl, hr, fun a ha => ?_⟩
  have ha4 := ha.trans (hb.mono hB)
  refine Only.below ha4 (Nat.le_trans hB hb.size) ho (fun i hi => ?_)
  rcases hi with hi | hi
  · omega
  · rw [List.append_nil] at hi
    rcases List.mem_cons.1 hi with e | e
    · rw [e]; exact h.base.1
    · rw [List.mem_map] at e; obtain ⟨x, hx, rfl⟩ := e; exact (h.base.2 x hx).1
theorem cut_put {wr wa w3 w4 w5 : World} {B r : Nat} {ks : List Lk} {x y : Lk} {p : Pc} {n E : Int} (hR : Ring wr B r ks) (hA : Below wr.heap.size wr wa) (hb3 : Below wa.heap.size wa.drew w3) (hb4 : Below w3.heap.size w3 w4) (hb5 : Below w4.heap.size w4 w5) (hxb : wa.heap.size ≤ x.b)
    (hpc : x.pc = p) (hyc : y.pc = cutP x.pc n E) (hyg : w4.heap.size ≤ y.g) (hyb : y.b = x.b) (hy : Has w5 y) (h2 : w5.cell? ⟨y.g, 2, none⟩ = some (.pointer none)) (h3 : w5.cell? ⟨y.g, 3, none⟩ = some (.pointer none)) (hl : (cutP p n E).2.length ≤ 2000000) (hf : (cutP p n E).2 ≠ []) :
    Calls Tryz.prog 206 #[ptr r, ptr y.g] w5 fun e w6 => e = .returned (.tuple #[]) ∧ Ring w6 B r (ks ++ [y]) ∧ ∀ a, Below B a wr → Below B a w6 := by
  have s1 := hA.size
  have a3 : Below wr.heap.size wr w3 := hA.trans (((Below.refl _ _).drew.trans hb3).mono s1)
  have a4 := a3.trans (hb4.mono a3.size)
  have a5 := a4.trans (hb5.mono a4.size)
  have s4 := a4.size
  have hyt : y.t = (cutP p n E).2 := by rw [← hpc]; exact congrArg Prod.snd hyc
  exact put_last hR a5 hy (by omega) (by omega) (by rw [hyt]; exact hl) h2 h3 (by rw [hyt]; exact hf)
def cutL (l : List Pc) (n : Int) : List Pc := l.flatMap fun p => nz (cutP p n (pcEnd p))
theorem cut_one {p : Pc} (hp : p.2 ≠ []) (n : Int) : cutN [p] n = nz (cutP p n (pcEnd p)) := by
  have hl : 0 < p.2.length := List.length_pos_iff.2 hp
  have hE : pcEnd p = p.1 + (p.2.length : Int) := rfl
  rw [cutN_cons]
  by_cases h1 : n ≤ p.1
  · rw [if_pos h1]
    have : cutP p n (pcEnd p) = p := by
      unfold cutP
      rw [if_neg (by omega), show max n p.1 = p.1 by omega]
      have e1 : (p.1 - p.1).toNat = 0 := by omega
      have e2 : (min (pcEnd p) (pcEnd p) - p.1).toNat = p.2.length := by omega
      rw [e1, e2]; simp
    rw [this, nz_some hp]; rfl
  · rw [if_neg h1]
    by_cases h2 : n < pcEnd p
    · rw [if_pos h2]
      obtain ⟨e1, e2⟩ := cut_tail (show p.1 ≤ n by omega) h2
      rw [← e1, nz_some (cutP_nz p n _ e2)]; rfl
    · rw [if_neg h2, cutP_none p n _ (by omega)]; rfl
theorem cutN_app : ∀ (a b : List Pc) (n : Int), cutN (a ++ b) n = cutN a n ++ cutN b n
  | [], _, _ => rfl
  | p :: a, b, n => by
    rw [List.cons_append, cutN_cons, cutN_cons, cutN_app a b n]
    split
    · rfl
    · split <;> rfl
theorem cutL_eq : ∀ (l : List Pc) (n : Int), full l → cutL l n = cutN l n
  | [], _, _ => rfl
  | p :: l, n, h => by
    have e : p :: l = [p] ++ l := rfl
    rw [e, cutN_app, cut_one (h p (by simp)), ← cutL_eq l n (fun q hq => h q (List.mem_cons_of_mem _ hq))]
    rfl
theorem cutL_take (l : List Pc) (n : Int) (k : Nat) (h : k < l.length) : cutL (l.take (k + 1)) n = cutL (l.take k) n ++ nz (cutP (pcAt l k) n (pcEnd (pcAt l k))) := by
  rw [List.take_succ_eq_append_getElem h]
  unfold cutL
  rw [List.flatMap_append]
  simp [pcAt, List.getD, h]

set_option maxHeartbeats 2000000 in
set_option maxRecDepth 100000 in
theorem cutRI_calls {a : Option Addr} {len cap : Nat} {l : List Pc} {w : World} (h : InPcs w a len l) (n : Int) :
    Calls Tryz.prog 138 #[.slice a len cap, .int .i64 n] w (OutRow w (cutR l n)) := by
  have hm := h.most
  have hlen := h.long
  have hbz : ∀ x, Below w.heap.size w (w.alloc x) := fun x => (Below.refl _ _).alloc (Nat.le_refl _) x
  by_cases h400 : 400 < len
  · have hv : cutR l n = ([], 2) := by unfold cutR; rw [if_pos (by omega)]
    rw [hv]
    have HBZ := Lib.hid hbz
    clear hv h hbz hlen
    go_enter Tryz.func138, Tryz.ntmps138
    go_wp2_with fail
    all_goals first
      | (exfalso; omega)
      | exact bodyPost_ret (v := .agg #[.slice none 0 0, .int .i64 2]) (by simp [results, Tryz.results138, go_sem]) rfl (outRow_code (HBZ.out _))
  · have hc := fun x => rightI_calls (cap := cap) (h.below (hbz x))
    by_cases hr : right l
    · have hv : cutR l n = (cutN l n, 0) := by unfold cutR; rw [if_neg (by omega), if_pos hr]
      rw [hv]
      rw [decide_eq_true hr] at hc
      have hfull := right_full hr
      have hcl := cutL_eq l n hfull
      have h40 := hr.1
      have htm : ∀ i, i < len → (pcAt l i).2 ≠ [] ∧ 0 ≤ (pcAt l i).1 ∧ (pcAt l i).1 ≤ 1000000 := fun i hi => ⟨(hr.2 i (by omega)).1, (hr.2 i (by omega)).2.1, (hr.2 i (by omega)).2.2.1⟩
      rw [← hcl]
      have HC := Lib.hid hc
      have HT := Lib.hid htm
      have HBZ := Lib.hid hbz
      clear hc hcl hfull hv hr hbz htm
      go_enter Tryz.func138, Tryz.ntmps138
      go_wp2_with fail
      refine (HC.out _).mono ?_
      rintro e w1 ⟨rfl, hb1⟩
      have z0 : w1.cell? ⟨w.heap.size, 0, none⟩ = some (.slice none 0 0) := (cell_kept hb1 0).trans (by simp)
      have z1 : w1.cell? ⟨w.heap.size, 1, none⟩ = some (.int .i64 0) := (cell_kept hb1 1).trans (by simp)
      have y0 : w1.frozen? ⟨w.heap.size, 0, none⟩ = false := (hb1.frozen (p := ⟨w.heap.size, 0, none⟩) (by simp)).trans (by simp)
      have y1 : w1.frozen? ⟨w.heap.size, 1, none⟩ = false := (hb1.frozen (p := ⟨w.heap.size, 1, none⟩) (by simp)).trans (by simp)
      have hsz : w.heap.size < w1.heap.size := size_kept hb1
      have HB1 := Lib.hid ((HBZ.out _).trans (hb1.mono (by simp)))
      clear hb1 HC HBZ
      go_wp2_with fail
      refine (newChain_ring w1).mono ?_
      rintro e w2 ⟨r, rfl, -, hring, hb2⟩
      have HR := Lib.hid hring
      have HB2 := Lib.hid hb2
      clear hring hb2
      go_wp2_with fail
      go_loopw [19] (fun i wr => ∃ (k : Nat) (ks : List Lk), i = .int .i64 (k : Int) ∧ k ≤ len ∧ ks.length ≤ k ∧ ks.map Lk.pc = cutL (l.take k) n ∧ Ring wr w1.heap.size r ks ∧ Below w1.heap.size w1 wr) (fun i _ => len - (intOf i).toNat)
      case atStart => exact ⟨0, [], rfl, Nat.zero_le _, Nat.le_refl _, rfl, HR.out, HB2.out⟩
      case round =>
        clear HR HB2
        obtain ⟨k, ks, rfl, hk, hkk, hks, hring, hbl⟩ := hrel
        by_cases hkl : k < len
        · have hh := h.below (HB1.out.trans (hbl.mono (by omega)))
          obtain ⟨b, o, rfl⟩ := hh.there (by omega)
          obtain ⟨c0, c1⟩ := hh.cell b o rfl k hkl
          obtain ⟨_, _, f2⟩ := hh.fit k hkl
          obtain ⟨tn, t0, t1⟩ := HT.out k hkl
          have htk := cutL_take l n k (by omega)
          rw [← hks] at htk
          have hlk := fun w => linkOf_calls (pcAt l k) w f2
          have hend := endOf_calls (pcAt l k)
          have hwr : wrap64 (pcEnd (pcAt l k)) = pcEnd (pcAt l k) := IntWalk.wrap64_in _ (by unfold pcEnd; omega)
          rw [hwr] at hend
          generalize hp : pcAt l k = p at *
          have hcs := fun (w : World) (x : Lk) (hx : Has w x) (e : x.pc = p) (hc : max n p.1 < min (pcEnd p) (pcEnd p)) => cut_some hx (by have := congrArg Prod.fst e; simp at this; omega) (by have := congrArg Prod.fst e; simp at this; omega) (by have := congrArg Prod.snd e; simp at this; rw [this]; exact f2) n (pcEnd p) (by rw [e]; have := congrArg Prod.fst e; simp at this; rw [this]; exact hc)
          have hcn := fun (w : World) (x : Lk) (hx : Has w x) (e : x.pc = p) (hc : ¬ max n p.1 < min (pcEnd p) (pcEnd p)) => cut_none hx (by have := congrArg Prod.fst e; simp at this; omega) (by have := congrArg Prod.fst e; simp at this; omega) (by have := congrArg Prod.snd e; simp at this; rw [this]; exact f2) n (pcEnd p) (by rw [e]; have := congrArg Prod.fst e; simp at this; rw [this]; exact Int.not_lt.1 hc)
          have hnz := cutP_nz p n (pcEnd p)
          have hzn := cutP_none p n (pcEnd p)
          have hcl := cut_len p n (pcEnd p)
          have hs := hbl.size
          obtain ⟨n0, t⟩ := p
          dsimp only at c0 c1
          have HL := Lib.hid hlk
          have HE := Lib.hid hend
          have HKS := Lib.hid hcs
          have HKN := Lib.hid hcn
          have HN := Lib.hid hnz
          have HZ := Lib.hid hzn
          have HCL := Lib.hid (Nat.le_trans hcl f2)
          have HK := Lib.hid htk
          have HR := Lib.hid hring
          have HB := Lib.hid hbl
          clear hh hlk hend hcs hcn hnz hzn hcl htk hring hbl hks h hwr hp tn t0 t1 f2
          generalize hE : pcEnd (n0, t) = E at *
          clear hE
          go_wp2_with fail
          have x0 : (wr.alloc (.cells #[.int .i64 n0, gs t] 121)).cell? ⟨wr.heap.size, 0, none⟩ = some (.int .i64 n0) := by simp
          have x1 : (wr.alloc (.cells #[.int .i64 n0, gs t] 121)).cell? ⟨wr.heap.size, 1, none⟩ = some (gs t) := by simp
          have HBA := Lib.hid ((Below.refl _ _).alloc (Nat.le_refl _) (.cells #[.int .i64 n0, gs t] 121) : Below wr.heap.size wr (wr.alloc (.cells #[.int .i64 n0, gs t] 121)))
          generalize hbx : wr.heap.size = bx at *
          have HBX := Lib.hid hbx
          generalize wr.alloc (.cells #[.int .i64 n0, gs t] 121) = wa at *
          clear hbx
          by_cases hc : max n n0 < min E E
          · have HCC := Lib.hid hc
            clear hc
            have hput := fun (w3 w4 w5 : World) (x y : Lk) (hb3 : Below wa.drew.heap.size wa.drew w3) (hb4 : Below w3.heap.size w3 w4) (hb5 : Below w4.heap.size w4 w5) (hxb : wa.drew.heap.size ≤ x.b) (hpc : x.pc = (n0, t)) (hyc : y.pc = cutP x.pc n E) (hyg : w4.heap.size ≤ y.g) (hyb : y.b = x.b) (hy : Has w5 y) (h2 : w5.cell? ⟨y.g, 2, none⟩ = some (.pointer none)) (h3 : w5.cell? ⟨y.g, 3, none⟩ = some (.pointer none)) =>
              cut_put HR.out (wa := wa) (by rw [HBX.out]; exact HBA.out) hb3 hb4 hb5 hxb hpc hyc hyg hyb hy h2 h3 HCL.out (HN.out HCC.out)
            have HPUT := Lib.hid hput
            clear hput
            go_region_with (first | (go_at_call 207; refine (HL.out _).mono ?_; rintro e w3 ⟨x, rfl, hpc, -, hxb, hx, -, -, hb3⟩; have HPC := Lib.hid hpc; clear hpc; have HXB := Lib.hid hxb; clear hxb; have x0' := (hb3.cell (World.block_lt_of_cell? _ _ x0)).trans x0; have x1' := (hb3.cell (World.block_lt_of_cell? _ _ x1)).trans x1) | (go_at_call 209; refine (HE.out _).mono ?_; rintro e w4 ⟨rfl, hb4⟩) | (go_at_call 208; refine (HKS.out _ _ (hx.below hb4) HPC.out HCC.out).mono ?_; rintro e w5 ⟨y, rfl, hyc, hyg, hyb, -, hy, hy2, hy3, hb5⟩; have HYC := Lib.hid hyc; clear hyc; have HYG := Lib.hid hyg; clear hyg; have HYB := Lib.hid hyb; clear hyb; have HY2 := Lib.hid hy2; have HY3 := Lib.hid hy3; clear hy2 hy3) | (go_at_call 206; refine (HPUT.out _ _ _ _ _ hb3 hb4 hb5 HXB.out HPC.out HYC.out HYG.out HYB.out hy HY2.out HY3.out).mono ?_; rintro e w6 ⟨rfl, hring6, hbel6⟩; have HR6 := Lib.hid hring6; have HB6 := Lib.hid (hbel6 _ HB.out); clear hring6 hbel6))
            all_goals
              have hks2 : (ks ++ [y]).map Lk.pc = cutL (l.take (k + 1)) n := by
                rw [HK.out, nz_some (HN.out HCC.out), List.map_append, ← HPC.out, ← HYC.out]; rfl
              have HKS2 := Lib.hid hks2
              clear hks2 x0 x1 x0' x1' hb3 hb4 hb5 hx hy
              go_wp2_with fail
              go_roundw
              case rel => exact ⟨k + 1, ks ++ [y], by go_num, by omega, by simp; omega, HKS2.out, HR6.out, HB6.out⟩
              case measure => simp [intOf]; omega
          · have HCC := Lib.hid hc
            clear hc
            go_region_with (first | (go_at_call 207; refine (HL.out _).mono ?_; rintro e w3 ⟨x, rfl, hpc, -, -, hx, -, -, hb3⟩; have HPC := Lib.hid hpc; clear hpc; have x0' := (hb3.cell (World.block_lt_of_cell? _ _ x0)).trans x0; have x1' := (hb3.cell (World.block_lt_of_cell? _ _ x1)).trans x1) | (go_at_call 209; refine (HE.out _).mono ?_; rintro e w4 ⟨rfl, hb4⟩) | (go_at_call 208; refine (HKN.out _ _ (hx.below hb4) HPC.out HCC.out).mono ?_; rintro e w5 ⟨g, rfl, hg1, hb5⟩) | (go_at_call 206; refine (putAhead_none hg1).mono ?_; rintro e w6 ⟨rfl, rfl⟩))
            all_goals
              have hsz2 : bx ≤ wa.heap.size := by have := HBA.out.size; rw [HBX.out] at this; exact this
              have a3 : Below bx wr w3 := HBA.out.trans (((Below.refl _ _).drew.trans hb3).mono hsz2)
              have a4 := a3.trans (hb4.mono (Nat.le_trans hsz2 ((Below.refl wa.heap.size wa).drew.trans hb3).size))
              have a5 := a4.trans (hb5.mono (Nat.le_trans (Nat.le_of_eq HBX.out.symm) a4.size))
              have HR6 := Lib.hid (HR.out.below (by rw [HBX.out]; exact a5))
              have HB6 := Lib.hid (HB.out.trans (a5.mono hs))
              have hks2 : ks.map Lk.pc = cutL (l.take (k + 1)) n := by
                rw [HK.out, HZ.out HCC.out, nz_none, List.append_nil]
              have HKS2 := Lib.hid hks2
              clear hks2 x0 x1 x0' x1' hb3 hb4 hb5 hx a3 a4 a5 hsz2
              go_wp2_with fail
              go_roundw
              case rel => exact ⟨k + 1, ks, by go_num, by omega, by omega, HKS2.out, HR6.out, HB6.out⟩
              case measure => simp [intOf]; omega
        · have hd : l.take k = l := List.take_of_length_le (by omega)
          rw [hd] at hks
          have hpc := pieces_calls hring (show ks.length ≤ 1000 by omega)
          have hkl2 : ks.length = (cutL l n).length := by rw [← hks, List.length_map]
          rw [hks, hkl2] at hpc
          have x0 := (hbl.cell (p := ⟨w.heap.size, 0, none⟩) hsz).trans z0
          have x1 := (hbl.cell (p := ⟨w.heap.size, 1, none⟩) hsz).trans z1
          have v0 := (hbl.frozen (p := ⟨w.heap.size, 0, none⟩) hsz).trans y0
          have v1 := (hbl.frozen (p := ⟨w.heap.size, 1, none⟩) hsz).trans y1
          have hs2 : w.heap.size < wr.heap.size := by have := hbl.size; omega
          have HPC := Lib.hid hpc
          have HB3 := Lib.hid (HB1.out.trans (hbl.mono (by omega)))
          clear hd hks hpc hkl2 hring hbl z0 z1 y0 y1 h HT
          go_wp2_with fail
          refine HPC.out.mono ?_
          rintro e w3 ⟨v, rfl, hown, hb3⟩
          obtain ⟨a2, c2, rfl⟩ := ownsRow_slice hown
          have p0 := (hb3.cell (p := ⟨w.heap.size, 0, none⟩) hs2).trans x0
          have p1 := (hb3.cell (p := ⟨w.heap.size, 1, none⟩) hs2).trans x1
          have q0 := (hb3.frozen (p := ⟨w.heap.size, 0, none⟩) hs2).trans v0
          have q1 := (hb3.frozen (p := ⟨w.heap.size, 1, none⟩) hs2).trans v1
          have HB4 := Lib.hid (HB3.out.trans (hb3.mono (by omega)))
          have HO := Lib.hid (ownsRow_base hown (show w.heap.size + 1 ≤ wr.heap.size by omega))
          clear hown hb3 x0 x1 v0 v1 HPC HB3
          go_wp2_with fail
          refine bodyPost_ret (v := .agg #[.slice a2 (cutL l n).length c2, .int .i64 0]) (by simp [results, Tryz.results138, go_sem, p0, p1]) rfl ⟨_, rfl, ?_, (HB4.out.setCell (Nat.le_refl _) _).setCell (Nat.le_refl _) _⟩
          exact ownsRow_base (ownsRow_setCell_below (ownsRow_setCell_below HO.out (Nat.lt_succ_self _) _) (Nat.lt_succ_self _) _) (Nat.le_succ _)
    · have hv : cutR l n = ([], 1) := by unfold cutR; rw [if_neg (by omega), if_neg hr]
      rw [hv]
      rw [decide_eq_false hr] at hc
      have HC := Lib.hid hc
      have HBZ := Lib.hid hbz
      clear hc hv h hr hbz hlen
      go_enter Tryz.func138, Tryz.ntmps138
      go_wp2_with fail
      refine (HC.out _).mono ?_
      rintro e w1 ⟨rfl, hb1⟩
      have z0 : w1.cell? ⟨w.heap.size, 0, none⟩ = some (.slice none 0 0) := (cell_kept hb1 0).trans (by simp)
      have z1 : w1.cell? ⟨w.heap.size, 1, none⟩ = some (.int .i64 0) := (cell_kept hb1 1).trans (by simp)
      have y0 : w1.frozen? ⟨w.heap.size, 0, none⟩ = false := (hb1.frozen (p := ⟨w.heap.size, 0, none⟩) (by simp)).trans (by simp)
      have y1 : w1.frozen? ⟨w.heap.size, 1, none⟩ = false := (hb1.frozen (p := ⟨w.heap.size, 1, none⟩) (by simp)).trans (by simp)
      have HB1 := Lib.hid ((HBZ.out _).trans (hb1.mono (by simp)))
      clear hb1 HC HBZ
      go_wp2_with fail
      exact bodyPost_ret (v := .agg #[.slice none 0 0, .int .i64 1]) (by simp [results, Tryz.results138, go_sem, z0, z1]) rfl (outRow_code ((HB1.out.setCell (Nat.le_refl _) _).setCell (Nat.le_refl _) _))
end Go.Proofs.YtdcahilfmhkmiaaGreatDoor
