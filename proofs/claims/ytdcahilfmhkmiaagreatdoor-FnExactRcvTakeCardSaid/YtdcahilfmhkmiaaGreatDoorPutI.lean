/- PiecePut, the program's. -/
import Derived.Test.YtdcahilfmhkmiaaGreatDoorPutR
namespace Go.Proofs.YtdcahilfmhkmiaaGreatDoor
open Go.RowKit

theorem filling_new {w3 : World} {B r : Nat} {ks : List Lk} {n : Int} {t : List UInt8} {cp : Nat} {cc : Array Value} {fz : Nat × Nat} (h : Ring w3 B r ks)
    (hn : Has ((w3.alloc (.cells cc 5 fz)).alloc (.cells #[.int .i64 n, .slice (some ⟨w3.heap.size, 0, none⟩) t.length cp, .pointer none, .pointer none] 221)) ⟨w3.heap.size + 1, n, w3.heap.size, 0, cp, t⟩)
    (hb : Below w3.heap.size w3 (((w3.alloc (.cells cc 5 fz)).alloc (.cells #[.int .i64 n, .slice (some ⟨w3.heap.size, 0, none⟩) t.length cp, .pointer none, .pointer none] 221)).drew)) :
    Filling (((w3.alloc (.cells cc 5 fz)).alloc (.cells #[.int .i64 n, .slice (some ⟨w3.heap.size, 0, none⟩) t.length cp, .pointer none, .pointer none] 221)).drew) B r ⟨w3.heap.size + 1, n, w3.heap.size, 0, cp, t⟩
      (((w3.alloc (.cells cc 5 fz)).alloc (.cells #[.int .i64 n, .slice (some ⟨w3.heap.size, 0, none⟩) t.length cp, .pointer none, .pointer none] 221)).drew) [] ks := by
  have hB : B ≤ w3.heap.size := by have := h.base.1; have := h.root.lt; omega
  refine ⟨h.below hb, hn.of rfl rfl, ring_fresh h (Nat.le_succ _), fun x hx => .inl (fun e => ?_), hB, Below.refl _ _⟩
  have := h.lt x.b (.inr ⟨x, by simpa using hx, .inr rfl⟩)
  have e' : x.b = w3.heap.size := e
  omega
set_option maxHeartbeats 2000000 in
set_option maxRecDepth 100000 in
theorem putRI_calls {a : Option Addr} {len cap : Nat} {l : List Pc} {w : World} (h : InPcs w a len l) (n : Int) (t : List UInt8) (htl : t.length ≤ 2000000) (hs : bytesN l ≤ 1900000) :
    Calls Tryz.prog 130 #[.slice a len cap, .int .i64 n, gs t] w (OutRow w (putR l n t)) := by
  have hm := h.most
  have hlen := h.long
  have hbz : ∀ x, Below w.heap.size w (w.alloc x) := fun x => (Below.refl _ _).alloc (Nat.le_refl _) x
  have HBZ := Lib.hid hbz
  by_cases h1 : 400 < len
  · have hv : putR l n t = ([], 2) := by unfold putR; rw [if_pos (.inl (by omega))]
    rw [hv]
    have hd1 : decide (400 < len) = true := by simp; omega
    clear hv h hbz hlen
    go_enter Tryz.func130, Tryz.ntmps130
    go_wp2_with fail
    all_goals first
      | (exfalso; omega)
      | exact bodyPost_ret (v := .agg #[.slice none 0 0, .int .i64 2]) (by simp [results, Tryz.results130, go_sem]) rfl (outRow_code (HBZ.out _))
  · have hd1 : decide (400 < len) = false := by simp; omega
    by_cases h2 : 8000 < t.length
    · have hv : putR l n t = ([], 2) := by unfold putR; rw [if_pos (.inr h2)]
      rw [hv]
      have hd2 : decide (8000 < t.length) = true := by simp; omega
      clear hv h hbz hlen
      go_enter Tryz.func130, Tryz.ntmps130
      go_wp2_with fail
      all_goals first
        | (exfalso; omega)
        | exact bodyPost_ret (v := .agg #[.slice none 0 0, .int .i64 2]) (by simp [results, Tryz.results130, go_sem]) rfl (outRow_code (HBZ.out _))
    · have hd2 : decide (8000 < t.length) = false := by simp; omega
      have hc := fun x => rightI_calls (cap := cap) (h.below (hbz x))
      have hR : putR l n t = if ¬ right l ∨ ¬ (0 ≤ n ∧ n ≤ 1000000) ∨ 200 < t.length then ([], 1) else fullR (putN l n t) := by
        unfold putR; rw [if_neg (by omega)]
      by_cases hr : right l
      · rw [decide_eq_true hr] at hc
        have htc := isTime_calls n
        by_cases hti : 0 ≤ n ∧ n ≤ 1000000
        · rw [decide_eq_true hti] at htc
          by_cases h3 : 200 < t.length
          · have hv : putR l n t = ([], 1) := by rw [hR, if_pos (.inr (.inr h3))]
            rw [hv]
            have hd3 : decide (200 < t.length) = true := by simp; omega
            have HC := Lib.hid hc
            have HTC := Lib.hid htc
            clear hc htc hv hR h hr hti hbz hlen
            go_enter Tryz.func130, Tryz.ntmps130
            go_wp2_with fail
            refine (HC.out _).mono ?_
            rintro e w1 ⟨rfl, hb1⟩
            have z0 : w1.cell? ⟨w.heap.size, 0, none⟩ = some (.slice none 0 0) := (cell_kept hb1 0).trans (by simp)
            have z1 : w1.cell? ⟨w.heap.size, 1, none⟩ = some (.int .i64 0) := (cell_kept hb1 1).trans (by simp)
            have y0 : w1.frozen? ⟨w.heap.size, 0, none⟩ = false := (hb1.frozen (p := ⟨w.heap.size, 0, none⟩) (by simp)).trans (by simp)
            have y1 : w1.frozen? ⟨w.heap.size, 1, none⟩ = false := (hb1.frozen (p := ⟨w.heap.size, 1, none⟩) (by simp)).trans (by simp)
            have HB1 := Lib.hid ((HBZ.out _).trans (hb1.mono (by simp)))
            clear hb1 HC HBZ
            go_wp2_with (go_at_call 149; refine (HTC.out _).mono ?_; rintro e w2 ⟨rfl, rfl⟩)
            exact bodyPost_ret (v := .agg #[.slice none 0 0, .int .i64 1]) (by simp [results, Tryz.results130, go_sem, z0, z1]) rfl (outRow_code ((HB1.out.setCell (Nat.le_refl _) _).setCell (Nat.le_refl _) _))
          · have hd3 : decide (200 < t.length) = false := by simp; omega
            have hv : putR l n t = fullR (putN l n t) := by rw [hR, if_neg (fun h => h.elim (fun h => h hr) (fun h => h.elim (fun h => h hti) h3))]
            rw [hv]
            have hchain := fun w' (hb : Below w.heap.size w w') => chainOf_calls (cap := cap) (h.below hb) hr
            have hfit := putN_fits hr hti.1 hti.2 (show t.length ≤ 200 by omega) hs
            obtain ⟨f1, f2, f3⟩ := fill_small hr hti.1 hti.2 (show t.length ≤ 200 by omega) hs
            have hsm : ∀ ks : List Lk, ks.map Lk.pc = l → Small ks := fun ks hk x hx => by
              have hm : x.pc ∈ l := by rw [← hk]; exact List.mem_map_of_mem hx
              have ht := right_time hr _ hm
              obtain ⟨i, hi, he⟩ := mem_pcAt hm
              have hf := (h.fit i (by omega)).2.2
              rw [he] at hf
              exact ⟨ht.1, ht.2, hf⟩
            have hD : putN l n t = joinN (fillN l n (n, t)) := rfl
            have hn0 := hti.1
            have hn1 := hti.2
            generalize putN l n t = D at *
            have HC := Lib.hid hc
            have HTC := Lib.hid htc
            have HCH := Lib.hid hchain
            have HFIT := Lib.hid hfit
            have HF := Lib.hid (And.intro f1 (And.intro f2 f3))
            have HSM := Lib.hid hsm
            have HD := Lib.hid hD
            clear hc htc hchain hfit f1 f2 f3 hsm hD hv hR h hr hti hbz hlen
            go_enter Tryz.func130, Tryz.ntmps130
            go_wp2_with fail
            refine (HC.out _).mono ?_
            rintro e w1 ⟨rfl, hb1⟩
            have z0 : w1.cell? ⟨w.heap.size, 0, none⟩ = some (.slice none 0 0) := (cell_kept hb1 0).trans (by simp)
            have z1 : w1.cell? ⟨w.heap.size, 1, none⟩ = some (.int .i64 0) := (cell_kept hb1 1).trans (by simp)
            have y0 : w1.frozen? ⟨w.heap.size, 0, none⟩ = false := (hb1.frozen (p := ⟨w.heap.size, 0, none⟩) (by simp)).trans (by simp)
            have y1 : w1.frozen? ⟨w.heap.size, 1, none⟩ = false := (hb1.frozen (p := ⟨w.heap.size, 1, none⟩) (by simp)).trans (by simp)
            have hsz : w.heap.size < w1.heap.size := size_kept hb1
            have HB1 := Lib.hid ((HBZ.out _).trans (hb1.mono (by simp)))
            clear hb1 HC HBZ
            go_wp2_with (go_at_call 149; refine (HTC.out _).mono ?_; rintro e w2 ⟨rfl, rfl⟩)
            refine (HCH.out _ HB1.out).mono ?_
            rintro e w3 ⟨r, ks, rfl, hring, hks, hb3⟩
            have x0 := (hb3.cell (p := ⟨w.heap.size, 0, none⟩) hsz).trans z0
            have x1 := (hb3.cell (p := ⟨w.heap.size, 1, none⟩) hsz).trans z1
            have v0 := (hb3.frozen (p := ⟨w.heap.size, 0, none⟩) hsz).trans y0
            have v1 := (hb3.frozen (p := ⟨w.heap.size, 1, none⟩) hsz).trans y1
            have hs3 := hb3.size
            have HB3 := Lib.hid (HB1.out.trans (hb3.mono (by omega)))
            obtain ⟨cp, cc, fz, hrun, hcap, hcc, hcc2, hfz⟩ := bytes_new (P := Tryz.prog) Tryz.underlying9 Tryz.underlying22 Tryz.underlying5 w3 t
            have hnew := has_new w3 cc fz n t cp (.pointer none) (.pointer none) hcap hcc hcc2 hfz
            have hW4 : Below w3.heap.size w3 (((w3.alloc (.cells cc 5 fz)).alloc (.cells #[.int .i64 n, .slice (some ⟨w3.heap.size, 0, none⟩) t.length cp, .pointer none, .pointer none] 221)).drew) := (((Below.refl _ _).alloc (Nat.le_refl _) _).alloc (by simp) _).drew
            have hfill := filling_new hring hnew hW4
            have hfc := fill_calls hfill (HSM.out ks hks) hn0 hn1 (by show t.length ≤ 2000000; omega)
            rw [hks] at hfc
            dsimp only at hfc
            have HFC := Lib.hid hfc
            have HB4 := Lib.hid (HB3.out.trans (hW4.mono (by omega)))
            have hx0 := (hW4.cell (p := ⟨w.heap.size, 0, none⟩) (by show w.heap.size < w3.heap.size; omega)).trans x0
            have hx1 := (hW4.cell (p := ⟨w.heap.size, 1, none⟩) (by show w.heap.size < w3.heap.size; omega)).trans x1
            have hv0 := (hW4.frozen (p := ⟨w.heap.size, 0, none⟩) (by show w.heap.size < w3.heap.size; omega)).trans v0
            have hv1 := (hW4.frozen (p := ⟨w.heap.size, 1, none⟩) (by show w.heap.size < w3.heap.size; omega)).trans v1
            have HX := Lib.hid (And.intro hx0 (And.intro hx1 (And.intro hv0 hv1)))
            have hsW := hW4.size
            have HSW := Lib.hid hsW
            clear hring hks hb3 hcap hcc hcc2 hfz hnew hW4 hfill hfc hx0 hx1 hv0 hv1 hsW x0 x1 v0 v1 z0 z1 y0 y1 HB1 HTC HCH HSM
            go_wp2_with fail
            refine HFC.out.mono ?_
            rintro e w5 ⟨ks2, rfl, hring2, hks2, hb5⟩
            obtain ⟨gx0, gx1, gv0, gv1⟩ := HX.out
            have x0 := (hb5.cell (p := ⟨w.heap.size, 0, none⟩) hsz).trans gx0
            have x1 := (hb5.cell (p := ⟨w.heap.size, 1, none⟩) hsz).trans gx1
            have v0 := (hb5.frozen (p := ⟨w.heap.size, 0, none⟩) hsz).trans gv0
            have v1 := (hb5.frozen (p := ⟨w.heap.size, 1, none⟩) hsz).trans gv1
            have hks2' : ks2.map Lk.pc = fillN l n (n, t) := hks2
            have hjc := join_calls hring2 (fun x hx => by
              have hm : x.pc ∈ fillN l n (n, t) := by rw [← hks2']; exact List.mem_map_of_mem hx
              have := HF.out.2.2 _ hm
              exact ⟨this.1, Int.le_trans this.2 (by decide)⟩) (by rw [hks2']; have := HF.out.2.1; omega)
            rw [hks2', ← HD.out] at hjc
            have HJC := Lib.hid hjc
            have HB5 := Lib.hid (HB4.out.trans (hb5.mono (by omega)))
            have hs5 : w2.heap.size ≤ w5.heap.size := by have := hb5.size; have := HSW.out; omega
            clear hring2 hks2 hks2' hb5 hjc gx0 gx1 gv0 gv1 HX HFC HB4 HSW hrun
            go_wp2_with fail
            refine HJC.out.mono ?_
            rintro e w6 ⟨ks3, rfl, hring3, hks3, hb6⟩
            have p0 := (hb6.cell (p := ⟨w.heap.size, 0, none⟩) hsz).trans x0
            have p1 := (hb6.cell (p := ⟨w.heap.size, 1, none⟩) hsz).trans x1
            have q0 := (hb6.frozen (p := ⟨w.heap.size, 0, none⟩) hsz).trans v0
            have q1 := (hb6.frozen (p := ⟨w.heap.size, 1, none⟩) hsz).trans v1
            have hk3l : ks3.length = D.length := by rw [← hks3, List.length_map]
            have hpc := pieces_calls hring3 (by have := HFIT.out.1; omega)
            rw [hks3, hk3l] at hpc
            have HPC := Lib.hid hpc
            have HB6 := Lib.hid (HB5.out.trans (hb6.mono (by omega)))
            have hs6 : w2.heap.size ≤ w6.heap.size := Nat.le_trans hs5 hb6.size
            clear hring3 hks3 hb6 hk3l hpc x0 x1 v0 v1 HJC HB5
            go_wp2_with fail
            refine HPC.out.mono ?_
            rintro e w7 ⟨v, rfl, hown, hb7⟩
            obtain ⟨a2, c2, rfl, hin⟩ := inPcs_row hown (by have := HFIT.out.1; omega) HFIT.out.2
            have hsz6 : w.heap.size < w6.heap.size := by omega
            have x0 := (hb7.cell (p := ⟨w.heap.size, 0, none⟩) hsz6).trans p0
            have x1 := (hb7.cell (p := ⟨w.heap.size, 1, none⟩) hsz6).trans p1
            have v0 := (hb7.frozen (p := ⟨w.heap.size, 0, none⟩) hsz6).trans q0
            have v1 := (hb7.frozen (p := ⟨w.heap.size, 1, none⟩) hsz6).trans q1
            have hrc := rightI_calls (cap := c2) hin
            have HB7 := Lib.hid (HB6.out.trans (hb7.mono (by omega)))
            have hsz7 : w.heap.size < w7.heap.size := by have := hb7.size; omega
            have HO := Lib.hid (ownsRow_base hown (show w.heap.size + 1 ≤ w6.heap.size by omega))
            have HRC := Lib.hid hrc
            clear hown hin hb7 hrc p0 p1 q0 q1 HPC HB6
            go_wp2_with fail
            refine HRC.out.mono ?_
            rintro e w4 ⟨rfl, hb4⟩
            have p0 := (hb4.cell (p := ⟨w.heap.size, 0, none⟩) hsz7).trans x0
            have p1 := (hb4.cell (p := ⟨w.heap.size, 1, none⟩) hsz7).trans x1
            have q0 := (hb4.frozen (p := ⟨w.heap.size, 0, none⟩) hsz7).trans v0
            have q1 := (hb4.frozen (p := ⟨w.heap.size, 1, none⟩) hsz7).trans v1
            have HB4 := Lib.hid (HB7.out.trans (hb4.mono (by omega)))
            have HO4 := Lib.hid (ownsRow_below HO.out hb4)
            clear hb4 x0 x1 v0 v1 HB7 HO
            by_cases hrd : right D
            · rw [decide_eq_true hrd]
              have HRD := Lib.hid hrd
              clear hrd
              go_wp2_with fail
              refine bodyPost_ret (v := .agg #[.slice a2 D.length c2, .int .i64 0]) (by simp [results, Tryz.results130, go_sem, p0, p1]) rfl ?_
              unfold fullR
              rw [if_pos HRD.out]
              refine ⟨_, rfl, ?_, (HB4.out.setCell (Nat.le_refl _) _).setCell (Nat.le_refl _) _⟩
              exact ownsRow_base (ownsRow_setCell_below (ownsRow_setCell_below HO4.out (Nat.lt_succ_self _) _) (Nat.lt_succ_self _) _) (Nat.le_succ _)
            · rw [decide_eq_false hrd]
              have HRD := Lib.hid hrd
              clear hrd
              go_wp2_with fail
              refine bodyPost_ret (v := .agg #[.slice none 0 0, .int .i64 9]) (by simp [results, Tryz.results130, go_sem, p0, p1]) rfl ?_
              unfold fullR
              rw [if_neg HRD.out]
              exact outRow_code ((HB4.out.setCell (Nat.le_refl _) _).setCell (Nat.le_refl _) _)
        · have hv : putR l n t = ([], 1) := by rw [hR, if_pos (.inr (.inl hti))]
          rw [hv]
          rw [decide_eq_false hti] at htc
          have HC := Lib.hid hc
          have HTC := Lib.hid htc
          clear hc htc hv hR h hr hti hbz hlen
          go_enter Tryz.func130, Tryz.ntmps130
          go_wp2_with fail
          refine (HC.out _).mono ?_
          rintro e w1 ⟨rfl, hb1⟩
          have z0 : w1.cell? ⟨w.heap.size, 0, none⟩ = some (.slice none 0 0) := (cell_kept hb1 0).trans (by simp)
          have z1 : w1.cell? ⟨w.heap.size, 1, none⟩ = some (.int .i64 0) := (cell_kept hb1 1).trans (by simp)
          have y0 : w1.frozen? ⟨w.heap.size, 0, none⟩ = false := (hb1.frozen (p := ⟨w.heap.size, 0, none⟩) (by simp)).trans (by simp)
          have y1 : w1.frozen? ⟨w.heap.size, 1, none⟩ = false := (hb1.frozen (p := ⟨w.heap.size, 1, none⟩) (by simp)).trans (by simp)
          have HB1 := Lib.hid ((HBZ.out _).trans (hb1.mono (by simp)))
          clear hb1 HC HBZ
          go_wp2_with (go_at_call 149; refine (HTC.out _).mono ?_; rintro e w2 ⟨rfl, rfl⟩)
          exact bodyPost_ret (v := .agg #[.slice none 0 0, .int .i64 1]) (by simp [results, Tryz.results130, go_sem, z0, z1]) rfl (outRow_code ((HB1.out.setCell (Nat.le_refl _) _).setCell (Nat.le_refl _) _))
      · have hv : putR l n t = ([], 1) := by rw [hR, if_pos (.inl hr)]
        rw [hv]
        rw [decide_eq_false hr] at hc
        have HC := Lib.hid hc
        clear hc hv hR h hr hbz hlen
        go_enter Tryz.func130, Tryz.ntmps130
        go_wp2_with fail
        refine (HC.out _).mono ?_
        rintro e w1 ⟨rfl, hb1⟩
        have z0 : w1.cell? ⟨w.heap.size, 0, none⟩ = some (.slice none 0 0) := (cell_kept hb1 0).trans (by simp)
        have z1 : w1.cell? ⟨w.heap.size, 1, none⟩ = some (.int .i64 0) := (cell_kept hb1 1).trans (by simp)
        have y0 : w1.frozen? ⟨w.heap.size, 0, none⟩ = false := (hb1.frozen (p := ⟨w.heap.size, 0, none⟩) (by simp)).trans (by simp)
        have y1 : w1.frozen? ⟨w.heap.size, 1, none⟩ = false := (hb1.frozen (p := ⟨w.heap.size, 1, none⟩) (by simp)).trans (by simp)
        have HB1 := Lib.hid ((HBZ.out _).trans (hb1.mono (by simp)))
        clear hb1 HC HBZ
        go_wp2_with fail
        exact bodyPost_ret (v := .agg #[.slice none 0 0, .int .i64 1]) (by simp [results, Tryz.results130, go_sem, z0, z1]) rfl (outRow_code ((HB1.out.setCell (Nat.le_refl _) _).setCell (Nat.le_refl _) _))
end Go.Proofs.YtdcahilfmhkmiaaGreatDoor
