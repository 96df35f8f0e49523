/- Small texts laid together: LinkA, RightI, PieceAtI, HasI, PieceCut, PieceMath, Link, LinkCut, Ring, RingA, RingP, RingF, RingJ, RingK, RingL. -/
import Derived.Test.YtdcahilfmhkmiaaGreatDoorPieces
import Derived.Test.YtdcahilfmhkmiaaGreatDoorPackA
import Derived.Deep.LoopGhost
import Derived.BigRegion
import Derived.Test.YtdcahilfmhkmiaaGreatDoorPackB
import Derived.Deep.AppendLies
import Derived.Deep.RegionLaw
import Derived.Deep.RegionWith
import Derived.LaidEqlPtr
import Derived.Laws.IdiomCopy
import Derived.Deep.RegionLawGrows
import Derived.Deep.Upon

namespace Go.Proofs.YtdcahilfmhkmiaaGreatDoor
open Go.RowKit

abbrev ptr (g : Nat) : Value := .pointer (some ⟨g, 0, none⟩)

set_option maxHeartbeats 1000000 in
set_option maxRecDepth 100000 in
theorem putAhead_cells {w : World} {k q pg n cap : Nat} {a : Option Addr} {u2 u3 u : Value} (h1 : w.cell? ⟨pg, 1, none⟩ = some (.slice a n cap)) (hn : 0 < n) (hn2 : n ≤ 100000000)
    (hk : w.cell? ⟨k, 2, none⟩ = some (ptr q)) (hp2 : w.cell? ⟨pg, 2, none⟩ = some u2) (hp3 : w.cell? ⟨pg, 3, none⟩ = some u3) (hq : w.cell? ⟨q, 3, none⟩ = some u)
    (fk : w.frozen? ⟨k, 2, none⟩ = false) (fp2 : w.frozen? ⟨pg, 2, none⟩ = false) (fp3 : w.frozen? ⟨pg, 3, none⟩ = false) (fq : w.frozen? ⟨q, 3, none⟩ = false) (ne1 : pg ≠ k) (ne2 : pg ≠ q) :
    Calls Tryz.prog 206 #[ptr k, ptr pg] w fun e w' => e = .returned (.tuple #[]) ∧ w' = (((w.setCell ⟨pg, 2, none⟩ (ptr q)).setCell ⟨pg, 3, none⟩ (ptr k)).setCell ⟨q, 3, none⟩ (ptr pg)).setCell ⟨k, 2, none⟩ (ptr pg) := by
  have hz : ((n : Int) == 0) = false := by simp; omega
  go_enter Tryz.func206, Tryz.ntmps206
  go_wp2_with fail
  go_end0
  exact ⟨rfl, rfl⟩
theorem putAhead_none {w : World} {k pg cap : Nat} {a : Option Addr} (h1 : w.cell? ⟨pg, 1, none⟩ = some (.slice a 0 cap)) :
    Calls Tryz.prog 206 #[ptr k, ptr pg] w fun e w' => e = .returned (.tuple #[]) ∧ w' = w := by
  go_enter Tryz.func206, Tryz.ntmps206
  go_wp2_with fail
  exact bodyPost_ret (v := .tuple #[]) (by simp [results, Tryz.results206, go_sem]) rfl ⟨rfl, rfl⟩
set_option maxHeartbeats 1000000 in
theorem newChain_cells (w : World) :
    Calls Tryz.prog 205 #[] w fun e w' => e = .returned (ptr w.heap.size) ∧ w' = w.alloc (.cells #[.int .i64 0, .slice none 0 0, ptr w.heap.size, ptr w.heap.size] 221) := by
  go_enter Tryz.func205, Tryz.ntmps205
  go_wp2_with fail
  go_ret
  exact ⟨rfl, rfl⟩
theorem endOf_calls (p : Pc) (w : World) : Calls Tryz.prog 209 #[pcv p] w fun e w' => e = .returned (.int .i64 (wrap64 (pcEnd p))) ∧ Below w.heap.size w w' := by
  obtain ⟨a, t⟩ := p
  go_enter Tryz.func209, Tryz.ntmps209
  go_wp2
  go_ret
  exact ⟨rfl, (Below.refl _ _).alloc (Nat.le_refl _) _⟩
theorem isTime_calls (n : Int) (w : World) : Calls Tryz.prog 149 #[.int .i64 n] w fun e w' => e = .returned (.bool (decide (0 ≤ n ∧ n ≤ 1000000))) ∧ w' = w := by
  go_enter Tryz.func149, Tryz.ntmps149
  go_wp2
  all_goals go_ret
  all_goals refine ⟨ret_bool ?_, rfl⟩
  all_goals simp <;> omega
theorem end_calls {w : World} {g n cap : Nat} {x : Int} {a : Option Addr} (h0 : w.cell? ⟨g, 0, none⟩ = some (.int .i64 x)) (h1 : w.cell? ⟨g, 1, none⟩ = some (.slice a n cap)) (hx : 0 ≤ x) (hx2 : x ≤ 2000000) (hn : n ≤ 100000000) :
    Calls Tryz.prog 237 #[ptr g] w fun e w' => e = .returned (.int .i64 (x + (n : Int))) ∧ ∃ m, w' = w.drewN m := by
  go_enter Tryz.func237, Tryz.ntmps237
  go_wp2_with fail
  have hw : IntKind.i64.wrap (x + (n : Int)) = x + (n : Int) := IntWalk.i64_in _ (by omega)
  go_quiet (fail)
  go_wp2_with fail
  go_ret
  exact ⟨rfl, _, rfl⟩
set_option maxHeartbeats 1000000 in
set_option maxRecDepth 100000 in
theorem takeOut_cells {w : World} {k p n : Nat} {u v : Value} (h2 : w.cell? ⟨k, 2, none⟩ = some (ptr p)) (h3 : w.cell? ⟨k, 3, none⟩ = some (ptr n)) (hp : w.cell? ⟨p, 3, none⟩ = some u) (hn : w.cell? ⟨n, 2, none⟩ = some v)
    (fp : w.frozen? ⟨p, 3, none⟩ = false) (fn : w.frozen? ⟨n, 2, none⟩ = false) :
    Calls Tryz.prog 238 #[ptr k] w fun e w' => e = .returned (.tuple #[]) ∧ ∃ m, w' = (((w.setCell ⟨p, 3, none⟩ (ptr n)).setCell ⟨n, 2, none⟩ (ptr p)).drewN m) := by
  go_enter Tryz.func238, Tryz.ntmps238
  go_wp2_with fail
  go_region
  all_goals go_wp2_with fail
  all_goals go_end0
  all_goals exact ⟨rfl, _, rfl⟩
end Go.Proofs.YtdcahilfmhkmiaaGreatDoor

namespace Go.Proofs.YtdcahilfmhkmiaaGreatDoor
open Go.RowKit

/-- Where the piece ahead of place k ends. -/
def endTo (l : List Pc) (k : Nat) : Int := if k = 0 then -1 else pcEnd (pcAt l (k - 1))
theorem endTo_zero (l : List Pc) : endTo l 0 = -1 := rfl
theorem endTo_succ (l : List Pc) (k : Nat) : endTo l (k + 1) = pcEnd (pcAt l k) := by unfold endTo; rw [if_neg (by omega)]; rfl
theorem okP_of {l : List Pc} {k : Nat} (h1 : (pcAt l k).2 ≠ []) (h2 : 0 ≤ (pcAt l k).1) (h3 : (pcAt l k).1 ≤ 1000000) (h4 : endTo l k < (pcAt l k).1) : okP l k :=
  ⟨h1, h2, h3, fun h => by unfold endTo at h4; rw [if_neg (by omega)] at h4; exact h4⟩
theorem okP_end {l : List Pc} {k : Nat} (h : okP l k) : endTo l k < (pcAt l k).1 := by
  unfold endTo
  split
  · have := h.2.1; omega
  · exact h.2.2.2 (by omega)

set_option maxHeartbeats 1000000 in
set_option maxRecDepth 100000 in
theorem rightI_calls {a : Option Addr} {len cap : Nat} {l : List Pc} {w : World} (h : InPcs w a len l) :
    Calls Tryz.prog 147 #[.slice a len cap] w fun e w' => e = .returned (.bool (decide (right l))) ∧ Below w.heap.size w w' := by
  have hm := h.most
  have hlen := h.long
  by_cases h40 : 40 < len
  · have hno : ¬ right l := fun h => by have := h.1; omega
    have HF := Lib.hid hno
    clear hno hlen h
    go_enter Tryz.func147, Tryz.ntmps147
    go_wp2_with fail
    all_goals first
      | (exfalso; omega)
      | (exact bodyPost_ret (v := .bool false) (by simp [results, Tryz.results147, go_sem]) rfl ⟨ret_bool (by rw [decide_eq_false HF.out]), Below.refl _ _⟩)
  · have h40' : decide (40 < len) = false := by simp; omega
    have HZ := Lib.hid (endTo_zero l)
    go_enter Tryz.func147, Tryz.ntmps147
    go_wp2_with fail
    go_loopw [3, 11] (fun v i wr => ∃ (k : Nat) (E : Int), i = .int .i64 (k : Int) ∧ v = .int .i64 E ∧ k ≤ len ∧ okUp l k ∧ E = endTo l k ∧ -1 ≤ E ∧ E ≤ 3000000 ∧ Below w.heap.size w wr) (fun _ i wr => len - (intOf i).toNat)
    case atStart => exact ⟨0, -1, rfl, rfl, Nat.zero_le _, okUp_zero l, HZ.out.symm, by omega, by omega, Below.refl _ _⟩
    case round =>
      clear HZ
      obtain ⟨k, E, rfl, rfl, hk, hok, hE, hE0, hE1, hbl⟩ := hrel
      by_cases hkl : k < len
      · have hh := h.below hbl
        obtain ⟨b, o, rfl⟩ := hh.there (by omega)
        obtain ⟨c0, c1⟩ := hh.cell b o rfl k hkl
        obtain ⟨f0, f1, f2⟩ := hh.fit k hkl
        have hst : okP l k → okUp l (k + 1) := okUp_succ hok
        have hno : ¬ okP l k → ¬ right l := not_right (by omega)
        have hof := okP_of (l := l) (k := k)
        have hen := okP_end (l := l) (k := k)
        have hes := endTo_succ l k
        have hend := endOf_calls (pcAt l k)
        have hp1 : okP l k → (pcAt l k).2 ≠ [] ∧ 0 ≤ (pcAt l k).1 ∧ (pcAt l k).1 ≤ 1000000 := fun h => ⟨h.1, h.2.1, h.2.2.1⟩
        rw [← hE] at hof hen
        generalize okP l k = OK at *
        generalize pcAt l k = p at *
        obtain ⟨at0, t⟩ := p
        dsimp only at c0 c1 f0 f1 f2 hst hno hof hen hp1
        have HS := Lib.hid hst
        have HN := Lib.hid hno
        have HOF := Lib.hid hof
        have HEN := Lib.hid hen
        have HES := Lib.hid hes
        have HED := Lib.hid hend
        have HP1 := Lib.hid hp1
        have HBL := Lib.hid hbl
        clear hst hno hof hen hes hend hp1 hok hE hbl hh h hlen
        cases ht : t.isEmpty with
        | true =>
          have hno : ¬ right l := HN.out (fun h => (HP1.out h).1 (by simpa using ht))
          have HF := Lib.hid hno; clear hno
          go_wp2_with fail
          go_ret
          exact ⟨ret_bool (by rw [decide_eq_false HF.out]), HBL.out.trans ((Below.refl _ _).alloc HBL.out.size _)⟩
        | false =>
          by_cases hti : 0 ≤ at0 ∧ at0 ≤ 1000000
          · have hcall := isTime_calls at0
            rw [decide_eq_true hti] at hcall
            have HC := Lib.hid hcall; clear hcall
            have hne : t ≠ [] := by intro e; rw [e] at ht; simp at ht
            have HNE := Lib.hid hne
            clear hne
            by_cases hle : at0 ≤ E
            · have hd : decide (at0 ≤ E) = true := by simp; omega
              have hno : ¬ right l := HN.out (fun h => by have := HEN.out h; omega)
              have HF := Lib.hid hno; clear hno
              clear hle
              go_wp2_with (go_at_call 149; refine (HC.out _).mono ?_; rintro e w1 ⟨rfl, rfl⟩)
              go_ret
              exact ⟨ret_bool (by rw [decide_eq_false HF.out]), HBL.out.trans ((Below.refl _ _).alloc HBL.out.size _)⟩
            · have hd : decide (at0 ≤ E) = false := by simp; omega
              have hok' := HS.out (HOF.out HNE.out hti.1 hti.2 (by omega))
              have hwr : wrap64 (pcEnd (at0, t)) = pcEnd (at0, t) := IntWalk.wrap64_in _ (by unfold pcEnd; dsimp only; omega)
              have hpe : -1 ≤ pcEnd (at0, t) ∧ pcEnd (at0, t) ≤ 3000000 := by unfold pcEnd; dsimp only; omega
              have hend := HED.out
              rw [hwr] at hend
              have hes := HES.out
              generalize pcEnd (at0, t) = F at *
              have HE := Lib.hid hend
              have HES2 := Lib.hid hes
              have HK := Lib.hid hok'
              have HPE := Lib.hid hpe
              clear hle hend hes hok' hwr HED HES hpe HN HOF HEN HP1 HS
              go_wp2_with (go_at_call 149; refine (HC.out _).mono ?_; rintro e w1 ⟨rfl, rfl⟩)
              refine (HE.out _).mono ?_
              rintro e w1 ⟨rfl, hb1⟩
              have HB2 := Lib.hid (HBL.out.trans ((Below.alloc (Below.refl _ _) HBL.out.size _).trans (hb1.mono (Nat.le_trans HBL.out.size (by simp)))))
              clear hb1
              go_wp2_with fail
              go_roundw
              case rel => exact ⟨k + 1, F, by go_num, rfl, by omega, HK.out, HES2.out.symm, HPE.out.1, HPE.out.2, HB2.out⟩
              case measure => simp [intOf]; omega
          · have hno : ¬ right l := HN.out (fun h => hti (HP1.out h).2)
            have HF := Lib.hid hno; clear hno
            have hcall := isTime_calls at0
            rw [decide_eq_false hti] at hcall
            have HC := Lib.hid hcall; clear hcall hti
            go_wp2_with (go_at_call 149; refine (HC.out _).mono ?_; rintro e w1 ⟨rfl, rfl⟩)
            go_ret
            exact ⟨ret_bool (by rw [decide_eq_false HF.out]), HBL.out.trans ((Below.refl _ _).alloc HBL.out.size _)⟩
      · have hkl' : k = len := by omega
        have hr : right l := ⟨by omega, by rw [hlen, ← hkl']; exact hok⟩
        have HR := Lib.hid hr
        clear h hok hr hlen hE
        go_wp2_with fail
        go_ret
        exact ⟨ret_bool (by rw [decide_eq_true HR.out]), hbl⟩
end Go.Proofs.YtdcahilfmhkmiaaGreatDoor

namespace Go.Proofs.YtdcahilfmhkmiaaGreatDoor
open Go.RowKit

/-- The piece that has a byte at that place. -/
def findN : List Pc → Int → Option Pc
  | [], _ => none
  | p :: l, n => if p.1 ≤ n ∧ n < pcEnd p then some p else findN l n
theorem findN_cons (p : Pc) (l : List Pc) (n : Int) : findN (p :: l) n = if p.1 ≤ n ∧ n < pcEnd p then some p else findN l n := rfl
/-- What pieceAt tells. -/
def atv : Option Pc → Value
  | some p => .tuple #[pcv p, .bool true]
  | none => .tuple #[pcv (0, []), .bool false]

set_option maxHeartbeats 1000000 in
set_option maxRecDepth 100000 in
theorem pieceAt_calls {a : Option Addr} {len cap : Nat} {l : List Pc} {w : World} (h : InPcs w a len l) (n : Int) :
    Calls Tryz.prog 246 #[.slice a len cap, .int .i64 n] w fun e w' => e = .returned (atv (if right l then findN l n else none)) ∧ Below w.heap.size w w' := by
  have hm := h.most
  have hlen := h.long
  have hbz : ∀ x, Below w.heap.size w (w.alloc x) := fun x => (Below.refl _ _).alloc (Nat.le_refl _) x
  have hcall := fun x => rightI_calls (cap := cap) (h.below (hbz x))
  by_cases hr : right l
  · have he : atv (if right l then findN l n else none) = atv (findN l n) := by rw [if_pos hr]
    rw [he]
    rw [decide_eq_true hr] at hcall
    have htm : ∀ i, i < len → 0 ≤ (pcAt l i).1 ∧ (pcAt l i).1 ≤ 1000000 := fun i hi => ⟨(hr.2 i (by omega)).2.1, (hr.2 i (by omega)).2.2.1⟩
    have hG : findN l n = findN (l.drop 0) n := rfl
    generalize hg : findN l n = G at *
    have HG := Lib.hid hG
    have HC := Lib.hid hcall
    have HT := Lib.hid htm
    have HBZ := Lib.hid hbz
    clear hcall htm he hG hg hr hbz
    go_enter Tryz.func246, Tryz.ntmps246
    go_wp2_with fail
    refine (HC.out _).mono ?_
    rintro e w1 ⟨rfl, hb1⟩
    have z0 : w1.cell? ⟨w.heap.size, 0, none⟩ = some (.int .i64 0) := (cell_kept hb1 0).trans (by simp)
    have z1 : w1.cell? ⟨w.heap.size, 1, none⟩ = some (gs []) := (cell_kept hb1 1).trans (by simp)
    have y0 : w1.frozen? ⟨w.heap.size, 0, none⟩ = false := (hb1.frozen (p := ⟨w.heap.size, 0, none⟩) (by simp)).trans (by simp)
    have y1 : w1.frozen? ⟨w.heap.size, 1, none⟩ = false := (hb1.frozen (p := ⟨w.heap.size, 1, none⟩) (by simp)).trans (by simp)
    have hB1 : Below w.heap.size w w1 := (HBZ.out _).trans (hb1.mono (by simp))
    have hsz : w.heap.size < w1.heap.size := size_kept hb1
    have HB1 := Lib.hid hB1
    clear hb1 hB1 HC HBZ
    go_wp2_with fail
    go_loopw [14] (fun i wr => ∃ k : Nat, i = .int .i64 (k : Int) ∧ k ≤ len ∧ G = findN (l.drop k) n ∧ Below w1.heap.size w1 wr) (fun i wr => len - (intOf i).toNat)
    case atStart => exact ⟨0, rfl, Nat.zero_le _, HG.out, Below.refl _ _⟩
    case round =>
      clear HG
      obtain ⟨k, rfl, hk, hgo, hbl⟩ := hrel
      have x0 := (hbl.cell (p := ⟨w.heap.size, 0, none⟩) hsz).trans z0
      have x1 := (hbl.cell (p := ⟨w.heap.size, 1, none⟩) hsz).trans z1
      have v0 := (hbl.frozen (p := ⟨w.heap.size, 0, none⟩) hsz).trans y0
      have v1 := (hbl.frozen (p := ⟨w.heap.size, 1, none⟩) hsz).trans y1
      have hs2 : w.heap.size < wr.heap.size := by have := hbl.size; omega
      have hB : Below w.heap.size w wr := HB1.out.trans (hbl.mono (by omega))
      by_cases hkl : k < len
      · have hh := h.below hB
        obtain ⟨b, o, rfl⟩ := hh.there (by omega)
        obtain ⟨c0, c1⟩ := hh.cell b o rfl k hkl
        obtain ⟨f0, f1, f2⟩ := hh.fit k hkl
        obtain ⟨t0, t1⟩ := HT.out k hkl
        have hend := endOf_calls (pcAt l k)
        have hwr : wrap64 (pcEnd (pcAt l k)) = pcEnd (pcAt l k) := IntWalk.wrap64_in _ (by unfold pcEnd; omega)
        rw [hwr] at hend
        rw [pcAt_drop' (by omega : k < l.length), findN_cons] at hgo
        generalize pcEnd (pcAt l k) = E at *
        generalize pcAt l k = p at *
        obtain ⟨at0, t⟩ := p
        dsimp only at c0 c1 f0 f1 f2 t0 t1 hgo
        have HE := Lib.hid hend
        have HB := Lib.hid hB
        have HBL := Lib.hid hbl
        clear hh h hend hbl hwr HT hB z0 z1 y0 y1
        by_cases h1 : at0 ≤ n
        · have hd1 : decide (at0 ≤ n) = true := by simp; omega
          by_cases h2 : n < E
          · rw [if_pos ⟨h1, h2⟩] at hgo
            have hd2 : decide (n < E) = true := by simp; omega
            have HG := Lib.hid hgo
            clear hgo
            go_wp2_with fail
            refine (HE.out _).mono ?_
            rintro e w2 ⟨rfl, hb2⟩
            have p0 : w2.cell? ⟨wr.heap.size, 0, none⟩ = some (.int .i64 at0) := (cell_kept hb2 0).trans (by simp)
            have p1 : w2.cell? ⟨wr.heap.size, 1, none⟩ = some (gs t) := (cell_kept hb2 1).trans (by simp)
            have hA : Below wr.heap.size wr w2 := ((Below.refl _ _).alloc (Nat.le_refl _) _).trans (hb2.mono (by simp))
            have q0 := (hA.cell (p := ⟨w.heap.size, 0, none⟩) hs2).trans x0
            have q1 := (hA.cell (p := ⟨w.heap.size, 1, none⟩) hs2).trans x1
            have r0 := (hA.frozen (p := ⟨w.heap.size, 0, none⟩) hs2).trans v0
            have r1 := (hA.frozen (p := ⟨w.heap.size, 1, none⟩) hs2).trans v1
            have HB2 := Lib.hid (HB.out.trans (hA.mono (by omega)))
            have HBL2 := Lib.hid (HBL.out.trans (hA.mono HBL.out.size))
            clear hb2 hA x0 x1 v0 v1 c0 c1 HE
            go_wp2_with fail
            exact bodyPost_ret (v := .tuple #[pcv (at0, t), .bool true]) (by simp [results, Tryz.results246, go_sem, q0, q1]) rfl ⟨by rw [HG.out]; rfl, (HB2.out.setCell (Nat.le_refl _) _).setCell (Nat.le_refl _) _⟩
          · rw [if_neg (fun h => h2 h.2)] at hgo
            have hd2 : decide (n < E) = false := by simp; omega
            have HG := Lib.hid hgo
            clear hgo
            go_wp2_with fail
            refine (HE.out _).mono ?_
            rintro e w2 ⟨rfl, hb2⟩
            have p0 : w2.cell? ⟨wr.heap.size, 0, none⟩ = some (.int .i64 at0) := (cell_kept hb2 0).trans (by simp)
            have p1 : w2.cell? ⟨wr.heap.size, 1, none⟩ = some (gs t) := (cell_kept hb2 1).trans (by simp)
            have hA : Below wr.heap.size wr w2 := ((Below.refl _ _).alloc (Nat.le_refl _) _).trans (hb2.mono (by simp))
            have q0 := (hA.cell (p := ⟨w.heap.size, 0, none⟩) hs2).trans x0
            have q1 := (hA.cell (p := ⟨w.heap.size, 1, none⟩) hs2).trans x1
            have r0 := (hA.frozen (p := ⟨w.heap.size, 0, none⟩) hs2).trans v0
            have r1 := (hA.frozen (p := ⟨w.heap.size, 1, none⟩) hs2).trans v1
            have HB2 := Lib.hid (HB.out.trans (hA.mono (by omega)))
            have HBL2 := Lib.hid (HBL.out.trans (hA.mono HBL.out.size))
            clear hb2 hA x0 x1 v0 v1 c0 c1 HE
            go_wp2_with fail
            go_roundw
            case rel => exact ⟨k + 1, by go_num, by omega, HG.out, HBL2.out⟩
            case measure => simp [intOf]; omega
        · rw [if_neg (fun h => h1 h.1)] at hgo
          have hd1 : decide (at0 ≤ n) = false := by simp; omega
          have HG := Lib.hid hgo
          clear hgo
          go_wp2_with fail
          go_roundw
          case rel => exact ⟨k + 1, by go_num, by omega, HG.out, HBL.out.alloc HBL.out.size _⟩
          case measure => simp [intOf]; omega
      · have hd : l.drop k = [] := List.drop_eq_nil_of_le (by omega)
        rw [hd] at hgo
        have HG := Lib.hid hgo
        have HB := Lib.hid hB
        clear hgo hd h hB hbl z0 z1 y0 y1
        go_wp2_with fail
        exact bodyPost_ret (v := .tuple #[pcv (0, []), .bool false]) (by simp [results, Tryz.results246, go_sem, x0, x1]) rfl ⟨by rw [HG.out]; rfl, (HB.out.setCell (Nat.le_refl _) _).setCell (Nat.le_refl _) _⟩
  · have he : atv (if right l then findN l n else none) = atv none := by rw [if_neg hr]
    rw [he]
    rw [decide_eq_false hr] at hcall
    have HC := Lib.hid hcall
    have HBZ := Lib.hid hbz
    clear hcall he hr hbz h
    go_enter Tryz.func246, Tryz.ntmps246
    go_wp2_with fail
    refine (HC.out _).mono ?_
    rintro e w1 ⟨rfl, hb1⟩
    have z0 : w1.cell? ⟨w.heap.size, 0, none⟩ = some (.int .i64 0) := (cell_kept hb1 0).trans (by simp)
    have z1 : w1.cell? ⟨w.heap.size, 1, none⟩ = some (gs []) := (cell_kept hb1 1).trans (by simp)
    have y0 : w1.frozen? ⟨w.heap.size, 0, none⟩ = false := (hb1.frozen (p := ⟨w.heap.size, 0, none⟩) (by simp)).trans (by simp)
    have y1 : w1.frozen? ⟨w.heap.size, 1, none⟩ = false := (hb1.frozen (p := ⟨w.heap.size, 1, none⟩) (by simp)).trans (by simp)
    have HB1 := Lib.hid ((HBZ.out _).trans (hb1.mono (by simp)))
    clear hb1 HC HBZ
    go_wp2_with fail
    exact bodyPost_ret (v := .tuple #[pcv (0, []), .bool false]) (by simp [results, Tryz.results246, go_sem, z0, z1]) rfl ⟨rfl, (HB1.out.setCell (Nat.le_refl _) _).setCell (Nat.le_refl _) _⟩
end Go.Proofs.YtdcahilfmhkmiaaGreatDoor

namespace Go.Proofs.YtdcahilfmhkmiaaGreatDoor
open Go.RowKit

theorem from_find (l : List Pc) (n : Int) : (findN l n).isSome = !(fromN l n).isEmpty := by
  induction l with
  | nil => rfl
  | cons p l ih =>
    rw [findN_cons, fromN_cons]
    by_cases h : p.1 ≤ n ∧ n < pcEnd p
    · rw [if_pos h, if_pos h]
      have : (p.2.drop (n - p.1).toNat).length ≠ 0 := by rw [List.length_drop]; unfold pcEnd at h; omega
      cases hd : p.2.drop (n - p.1).toNat with
      | nil => rw [hd] at this; exact absurd rfl this
      | cons _ _ => rfl
    · rw [if_neg h, if_neg h]; exact ih
/-- What PieceHas answers. -/
def hasN (l : List Pc) (n : Int) : Bool := decide (right l) && !(fromN l n).isEmpty

/-- What PieceBytes answers. -/
def countN (l : List Pc) : Int := if right l then (bytesN l : Int) else -1
set_option maxHeartbeats 1000000 in
set_option maxRecDepth 100000 in
theorem countI_calls {a : Option Addr} {len cap : Nat} {l : List Pc} {w : World} (h : InPcs w a len l) :
    Calls Tryz.prog 82 #[.slice a len cap] w fun e w' => e = .returned (.int .i64 (countN l)) ∧ Below w.heap.size w w' := by
  have hm := h.most
  have hlen := h.long
  have hc := rightI_calls (cap := cap) h
  by_cases hr : right l
  · have hv : countN l = bytesN l := by unfold countN; rw [if_pos hr]
    rw [hv]
    rw [decide_eq_true hr] at hc
    have hall : bytesN l ≤ len * 2000000 := by
      rw [← hlen]
      exact bytesN_le l (fun p hp => by obtain ⟨k, hk, rfl⟩ := mem_pcAt hp; exact (h.fit k (by omega)).2.2)
    have HC := Lib.hid hc
    clear hc hv hr
    go_enter Tryz.func82, Tryz.ntmps82
    go_wp2_with fail
    refine HC.out.mono ?_
    rintro e w1 ⟨rfl, hb1⟩
    have HB := Lib.hid hb1
    clear hb1 HC
    go_wp2_with fail
    go_loopw [3, 11] (fun v i wr => ∃ k m : Nat, i = .int .i64 (k : Int) ∧ v = .int .i64 (m : Int) ∧ k ≤ len ∧ bytesN l = m + bytesN (l.drop k) ∧ Below w.heap.size w wr) (fun _ i _ => len - (intOf i).toNat)
    case atStart => exact ⟨0, 0, rfl, rfl, Nat.zero_le _, by simp, HB.out⟩
    case round =>
      clear HB
      obtain ⟨k, m, rfl, rfl, hk, hgo, hbl⟩ := hrel
      by_cases hkl : k < len
      · have hh := h.below hbl
        obtain ⟨b, o, rfl⟩ := hh.there (by omega)
        obtain ⟨c0, c1⟩ := hh.cell b o rfl k hkl
        obtain ⟨f0, f1, f2⟩ := hh.fit k hkl
        rw [bytesN_drop (by omega)] at hgo
        generalize pcAt l k = p at *
        obtain ⟨at0, t⟩ := p
        dsimp only at c0 c1 f2 hgo
        have hs : (m : Int) + (t.length : Int) ≤ 5000000000000 := by omega
        have hs0 : (0 : Int) ≤ (m : Int) + (t.length : Int) := by omega
        have HG := Lib.hid hgo
        have HB := Lib.hid hbl
        clear hgo h hh hall hlen hbl
        go_wp2_with fail
        go_roundw
        case rel => exact ⟨k + 1, m + t.length, by go_num, by go_num, by omega, by have := HG.out; omega, HB.out.alloc HB.out.size _⟩
        case measure => simp [intOf]; omega
      · have hd : l.drop k = [] := List.drop_eq_nil_of_le (by omega)
        rw [hd] at hgo
        simp [bytesN] at hgo
        clear h hall
        have HG := Lib.hid hgo; clear hgo
        go_wp2_with fail
        go_ret
        exact ⟨ret_int (by rw [HG.out]), hbl⟩
  · have hv : countN l = -1 := by unfold countN; rw [if_neg hr]
    rw [hv]
    rw [decide_eq_false hr] at hc
    have HC := Lib.hid hc
    clear hc hv h hr hlen
    go_enter Tryz.func82, Tryz.ntmps82
    go_wp2_with fail
    refine HC.out.mono ?_
    rintro e w1 ⟨rfl, hb1⟩
    have HB := Lib.hid hb1
    clear hb1 HC
    go_wp2_with fail
    go_ret
    exact ⟨rfl, HB.out⟩
end Go.Proofs.YtdcahilfmhkmiaaGreatDoor

namespace Go.Proofs.YtdcahilfmhkmiaaGreatDoor
open Go.RowKit

/-- The pieces from a place on. -/
def cutN : List Pc → Int → List Pc
  | [], _ => []
  | p :: l, n => if n ≤ p.1 then p :: cutN l n else if n < pcEnd p then (n, p.2.drop (n - p.1).toNat) :: cutN l n else cutN l n
theorem cutN_cons (p : Pc) (l : List Pc) (n : Int) : cutN (p :: l) n = if n ≤ p.1 then p :: cutN l n else if n < pcEnd p then (n, p.2.drop (n - p.1).toNat) :: cutN l n else cutN l n := rfl

set_option maxHeartbeats 1000000 in
set_option maxRecDepth 100000 in
theorem cutS_calls {a : Option Addr} {len cap : Nat} {l : List Pc} {w : World} (h : InPcs w a len l) (hr : right l) (n : Int) (ha0 : -9223372036854775808 ≤ n) (ha1 : n ≤ 9223372036854775807) :
    Calls Tryz.prog 75 #[.slice a len cap, .int .i64 n] w fun e w' => ∃ v, e = .returned v ∧ w'.ownsRow w.heap.size 121 2 v (cutN l n).length (pv (cutN l n)) ∧ Below w.heap.size w w' := by
  have hm := h.most
  have hlen := h.long
  have htm : ∀ i, i < len → 0 ≤ (pcAt l i).1 ∧ (pcAt l i).1 ≤ 1000000 := fun i hi => ⟨(hr.2 i (by omega)).2.1, (hr.2 i (by omega)).2.2.1⟩
  clear hr
  have hzz : (Tryz.prog.info? 121).map (fun i => (i.zero, i.size, i.bytes)) = some (some (.agg #[.int .i64 0, gs []]), 2, 24) := by kernel_rfl
  obtain ⟨i0, hi, hz0, hz1, hz2⟩ := info_parts hzz
  clear hzz
  go_enter Tryz.func75, Tryz.ntmps75
  go_wp2_with fail
  go_loopw [5, 6] (fun v i wr => ∃ (k : Nat) (acc : List Pc), i = .int .i64 (k : Int) ∧ k ≤ len ∧ acc.length ≤ k ∧ wr.ownsRow w.heap.size 121 2 v acc.length (pv acc) ∧ cutN l n = acc ++ cutN (l.drop k) n ∧ Below w.heap.size w wr) (fun _ i _ => len - (intOf i).toNat)
  case atStart =>
    refine ⟨0, [], rfl, Nat.zero_le _, Nat.le_refl _, ?_, rfl, ?_⟩
    · exact World.ownsRow_lit (base := w.heap.size) (size := 2) w #[] 0 (Nat.le_refl _) (by unfold maxLen; omega) rfl
    · exact (Below.refl _ _).alloc (Nat.le_refl _) _
  case round =>
    obtain ⟨k, acc, rfl, hk, hacc, hown, hgo, hbl⟩ := hrel
    have hws := hbl.size
    by_cases hkl : k < len
    · have hh := h.below hbl
      obtain ⟨b, o, rfl⟩ := hh.there (by omega)
      obtain ⟨c0, c1⟩ := hh.cell b o rfl k hkl
      obtain ⟨f0, f1, f2⟩ := hh.fit k hkl
      obtain ⟨t0, t1⟩ := htm k hkl
      rw [pcAt_drop' (by omega : k < l.length), cutN_cons] at hgo
      have hend := endS_calls (pcAt l k)
      have hwr : wrap64 (pcEnd (pcAt l k)) = pcEnd (pcAt l k) := IntWalk.wrap64_in _ (by unfold pcEnd; omega)
      rw [hwr] at hend
      have hpe : pcEnd (pcAt l k) = (pcAt l k).1 + ((pcAt l k).2.length : Int) := rfl
      generalize pcEnd (pcAt l k) = E at *
      generalize pcAt l k = p at *
      obtain ⟨at0, t⟩ := p
      dsimp only at c0 c1 f0 f1 f2 t0 t1 hgo hpe
      have HE := Lib.hid hend
      clear hh h htm hwr hend
      by_cases h1 : n ≤ at0
      · rw [if_pos h1] at hgo
        have hd1 : decide (n ≤ at0) = true := by simp; omega
        have HG := Lib.hid hgo
        clear hgo hpe
        go_wp2_with (at_builtin; refine wpList_append_own _ rfl _ _ 23 rfl w.heap.size 121 i0 (.agg #[.int .i64 0, gs []]) 2 24 Tryz.underlying23 hi hz0 hz1 hz2 rfl (by decide) _ _ _ rfl (hown.alloc _) ⟨wr.heap.size, 0, none⟩ 1 1 [.int .i64 at0, gs t] rfl rfl (two_new _ _ _ _) (two_cell _ _ _) (by unfold maxLen; omega) (by omega) (by simp; omega) ?_)
        intro v' w1 hown' hgrow _
        have R := piece_step (p := (at0, t)) hbl hws hown hown' hgrow
        clear hown' hgrow hown hbl
        go_wp2
        go_roundw
        case rel => exact ⟨k + 1, acc ++ [(at0, t)], by go_num, by omega, by simp; omega, R.1, by rw [HG.out]; simp, R.2⟩
        case measure => simp [intOf]; omega
      · rw [if_neg h1] at hgo
        have hd1 : decide (n ≤ at0) = false := by simp; omega
        by_cases h2 : n < E
        · rw [if_pos h2] at hgo
          have hd2 : decide (n < E) = true := by simp; omega
          have hwi : IntKind.i64.wrap (n - at0) = n - at0 := IntWalk.i64_in _ (by omega)
          have hsl := slice_tail (P := Tryz.prog) Tryz.underlying9 t (n - at0).toNat (n - at0) (by omega) (by omega)
          generalize (n - at0).toNat = m at *
          have HG := Lib.hid hgo
          have HSL := Lib.hid hsl
          have HW := Lib.hid hwi
          have HB := Lib.hid hbl
          have HO := Lib.hid hown
          clear hgo hsl hpe hwi hbl hown
          go_wp2_with fail
          refine (HE.out _).mono ?_
          rintro e w1 ⟨rfl, hb1⟩
          have k0 := (hb1.cell (World.block_lt_of_cell? _ _ c0)).trans c0
          have k1 := (hb1.cell (World.block_lt_of_cell? _ _ c1)).trans c1
          have HB2 := Lib.hid (HB.out.trans (hb1.mono HB.out.size))
          clear c0 c1
          have hsl := HSL.out
          have hwi := HW.out
          have HO2 := Lib.hid (ownsRow_below HO.out hb1)
          have hws1 : w.heap.size ≤ w1.heap.size := Nat.le_trans hws hb1.size
          clear hb1 HO HB HW HSL HE
          go_wp2_with fail
          go_region_law (refine step_append_lies _ rfl (.tmp 37) (.tmp 53) 23 rfl w.heap.size 121 i0 (.agg #[.int .i64 0, gs []]) 2 24 Tryz.underlying23 hi hz0 hz1 hz2 rfl (by decide) _ acc.length (pv acc) (by simp [Act.eval]) ((HO2.out.alloc _).drew) ⟨w1.heap.size, 0, none⟩ 1 1 [.int .i64 n, gs (t.drop m)] (by simp [Act.eval]) rfl (fun j u hj => two_new w1 _ _ _ j u hj) (two_cell _ _ _) (by decide) (by unfold maxLen; omega) (by omega) (by simp; omega) _ rfl ?_; intro g1 cap1 w2 hown1 hgrow1 _ _)
          all_goals
            have hg' : (w1.alloc (.cells #[.int .i64 n, gs (t.drop m)] 121)).grownBy w2 _ := ⟨hgrow1.os, hgrow1.tape, hgrow1.output, hgrow1.size, hgrow1.block⟩
            have R := piece_step (p := (n, t.drop m)) HB2.out hws1 HO2.out hown1 hg'
            have HR1 := Lib.hid R.1
            have HR2 := Lib.hid R.2
            clear hg' R hown1 hgrow1 k0 k1 hsl hwi
            go_wp2_with fail
            go_roundw
            case rel => exact ⟨k + 1, acc ++ [(n, t.drop m)], by go_num, by omega, by simp; omega, by simpa using HR1.out, by rw [HG.out]; simp, HR2.out⟩
            case measure => simp [intOf]; omega
        · rw [if_neg h2] at hgo
          have HG := Lib.hid hgo
          have hd2 : decide (n < E) = false := by simp; omega
          clear hgo hpe
          go_wp2_with fail
          refine (HE.out _).mono ?_
          rintro e w1 ⟨rfl, hb1⟩
          have HB2 := Lib.hid (hbl.trans (hb1.mono hbl.size))
          have hown2 := ownsRow_below hown hb1
          clear c0 c1 hb1
          go_wp2_with fail
          go_roundw
          case rel => exact ⟨k + 1, acc, by go_num, by omega, by omega, hown2, HG.out, HB2.out⟩
          case measure => simp [intOf]; omega
    · have hd : l.drop k = [] := List.drop_eq_nil_of_le (by omega)
      rw [hd] at hgo
      simp [cutN] at hgo
      have HG := Lib.hid hgo; clear hgo hd h
      go_wp2_with fail
      go_ret
      exact ⟨_, rfl, by rw [HG.out]; exact hown, hbl⟩
end Go.Proofs.YtdcahilfmhkmiaaGreatDoor

namespace Go.Proofs.YtdcahilfmhkmiaaGreatDoor
/-- The byte at a place, if there is one. -/
def byteAt : List Pc → Int → Option UInt8
  | [], _ => none
  | p :: l, i => if p.1 ≤ i ∧ i < pcEnd p then p.2[(i - p.1).toNat]? else byteAt l i
/-- Rising from f on; and with a place between. -/
def riseG : Int → List Pc → Prop
  | _, [] => True
  | f, p :: l => f ≤ p.1 ∧ riseG (pcEnd p) l
def canonG : Int → List Pc → Prop
  | _, [] => True
  | f, p :: l => f < p.1 ∧ p.2 ≠ [] ∧ canonG (pcEnd p) l
def full (l : List Pc) : Prop := ∀ p ∈ l, p.2 ≠ []

theorem canon_rise : ∀ (l : List Pc) (f : Int), canonG f l → riseG f l
  | [], _, _ => trivial
  | p :: l, f, h => ⟨by have := h.1; omega, canon_rise l _ h.2.2⟩
theorem canon_full : ∀ (l : List Pc) (f : Int), canonG f l → full l
  | [], _, _ => fun p hp => by cases hp
  | p :: l, f, h => fun q hq => by
    rcases List.mem_cons.1 hq with rfl | hq
    · exact h.2.1
    · exact canon_full l _ h.2.2 q hq
theorem pcEnd_ge (p : Pc) : p.1 ≤ pcEnd p := by unfold pcEnd; omega
theorem rise_mono : ∀ (l : List Pc) (f g : Int), g ≤ f → riseG f l → riseG g l
  | [], _, _, _, _ => trivial
  | p :: l, f, g, hg, h => ⟨by have := h.1; omega, h.2⟩
theorem canon_mono : ∀ (l : List Pc) (f g : Int), g ≤ f → canonG f l → canonG g l
  | [], _, _, _, _ => trivial
  | p :: l, f, g, hg, h => ⟨by have := h.1; omega, h.2⟩
theorem byte_low : ∀ (l : List Pc) (f i : Int), riseG f l → i < f → byteAt l i = none
  | [], _, _, _, _ => rfl
  | p :: l, f, i, h, hi => by
    have h1 := h.1
    have := pcEnd_ge p
    unfold byteAt
    rw [if_neg (by omega)]
    exact byte_low l _ i h.2 (by omega)
theorem byte_low' : ∀ (l : List Pc) (f i : Int), canonG f l → i ≤ f → byteAt l i = none
  | [], _, _, _, _ => rfl
  | p :: l, f, i, h, hi => by
    have h1 := h.1
    unfold byteAt
    rw [if_neg (by omega)]
    have := pcEnd_ge p
    exact byte_low l (pcEnd p) i (canon_rise l _ h.2.2) (by omega)
theorem byte_in {p : Pc} (l : List Pc) {i : Int} (h1 : p.1 ≤ i) (h2 : i < pcEnd p) : byteAt (p :: l) i = p.2[(i - p.1).toNat]? := by
  unfold byteAt; rw [if_pos ⟨h1, h2⟩]
theorem byte_out {p : Pc} (l : List Pc) {i : Int} (h : ¬ (p.1 ≤ i ∧ i < pcEnd p)) : byteAt (p :: l) i = byteAt l i := by
  rw [byteAt.eq_2, if_neg h]
theorem byte_some {p : Pc} {i : Int} (h1 : p.1 ≤ i) (h2 : i < pcEnd p) : ∃ b, p.2[(i - p.1).toNat]? = some b := by
  unfold pcEnd at h2
  exact ⟨_, List.getElem?_eq_getElem (by omega)⟩
theorem byte_append (a b : List Pc) (i : Int) : byteAt (a ++ b) i = (byteAt a i).or (byteAt b i) := by
  induction a with
  | nil => rfl
  | cons p a ih =>
    by_cases h : p.1 ≤ i ∧ i < pcEnd p
    · rw [List.cons_append, byte_in _ h.1 h.2, byte_in _ h.1 h.2]
      obtain ⟨c, hc⟩ := byte_some h.1 h.2
      rw [hc]; rfl
    · rw [List.cons_append, byte_out _ h, byte_out _ h, ih]
theorem canon_ext : ∀ (l m : List Pc) (f : Int), canonG f l → canonG f m → (∀ i, byteAt l i = byteAt m i) → l = m
  | [], [], _, _, _, _ => rfl
  | [], q :: m, f, _, hm, h => by
    exfalso
    have hl := h q.1
    have hq : 0 < q.2.length := List.length_pos_iff.2 hm.2.1
    rw [byte_in _ (Int.le_refl _) (by unfold pcEnd; omega)] at hl
    obtain ⟨c, hc⟩ := byte_some (p := q) (i := q.1) (Int.le_refl _) (by unfold pcEnd; omega)
    rw [hc] at hl; cases hl
  | p :: l, [], f, hm, _, h => by
    exfalso
    have hl := h p.1
    have hq : 0 < p.2.length := List.length_pos_iff.2 hm.2.1
    rw [byte_in _ (Int.le_refl _) (by unfold pcEnd; omega)] at hl
    obtain ⟨c, hc⟩ := byte_some (p := p) (i := p.1) (Int.le_refl _) (by unfold pcEnd; omega)
    rw [hc] at hl; cases hl
  | p :: l, q :: m, f, hl, hm, h => by
    have hp : 0 < p.2.length := List.length_pos_iff.2 hl.2.1
    have hq : 0 < q.2.length := List.length_pos_iff.2 hm.2.1
    have one : ∀ (p q : Pc) (l m : List Pc), 0 < p.2.length → canonG (pcEnd q) m → byteAt (p :: l) p.1 = byteAt (q :: m) p.1 → ¬ p.1 < q.1 := by
      intro p q l m hp hm h hlt
      rw [byte_in _ (Int.le_refl _) (by unfold pcEnd; omega)] at h
      obtain ⟨c, hc⟩ := byte_some (p := p) (i := p.1) (Int.le_refl _) (by unfold pcEnd; omega)
      have := pcEnd_ge q
      rw [hc, byte_out _ (by omega), byte_low' m _ _ hm (by omega)] at h
      cases h
    have e1 : p.1 = q.1 := by
      have a := one p q l m hp hm.2.2 (h _)
      have b := one q p m l hq hl.2.2 (h _).symm
      omega
    have two : ∀ (p q : Pc) (l m : List Pc), p.1 = q.1 → canonG (pcEnd p) l → byteAt (p :: l) (pcEnd p) = byteAt (q :: m) (pcEnd p) → ¬ pcEnd p < pcEnd q := by
      intro p q l m e hl h hlt
      have := pcEnd_ge p
      obtain ⟨c, hc⟩ := byte_some (p := q) (i := pcEnd p) (by omega) hlt
      rw [byte_out _ (by omega), byte_low' l _ _ hl (Int.le_refl _), byte_in _ (by omega) hlt, hc] at h
      cases h
    have e2 : pcEnd p = pcEnd q := by
      have a := two p q l m e1 hl.2.2 (h _)
      have b := two q p m l e1.symm hm.2.2 (h _).symm
      omega
    have e3 : p.2 = q.2 := by
      have hlen : p.2.length = q.2.length := by unfold pcEnd at e2; omega
      apply List.ext_getElem? 
      intro j
      by_cases hj : j < p.2.length
      · have hh := h (p.1 + j)
        rw [byte_in _ (by omega) (by unfold pcEnd; omega), byte_in _ (by omega) (by unfold pcEnd; omega), ← e1] at hh
        have ej : (p.1 + (j : Int) - p.1).toNat = j := by omega
        rw [ej] at hh; exact hh
      · rw [List.getElem?_eq_none (by omega), List.getElem?_eq_none (by omega)]
    have e4 : p = q := Prod.ext e1 e3
    subst e4
    rw [canon_ext l m (pcEnd p) hl.2.2 hm.2.2 (fun i => ?_)]
    by_cases hi : p.1 ≤ i ∧ i < pcEnd p
    · rw [byte_low' l _ _ hl.2.2 (by omega), byte_low' m _ _ hm.2.2 (by omega)]
    · have := h i
      rwa [byte_out _ hi, byte_out _ hi] at this

/-- The bytes of a piece from one place on ahead of another one. -/
def cutP (p : Pc) (f t : Int) : Pc :=
  if min t (pcEnd p) ≤ max f p.1 then (0, []) else (max f p.1, (p.2.drop (max f p.1 - p.1).toNat).take (min t (pcEnd p) - max f p.1).toNat)
def nz (p : Pc) : List Pc := if p.2 = [] then [] else [p]
theorem cutP_end (p : Pc) (f t : Int) (h : max f p.1 < min t (pcEnd p)) : (cutP p f t).1 = max f p.1 ∧ pcEnd (cutP p f t) = min t (pcEnd p) := by
  unfold cutP
  rw [if_neg (by omega)]
  refine ⟨rfl, ?_⟩
  unfold pcEnd at *
  simp only [List.length_take, List.length_drop]
  omega
theorem cutP_none (p : Pc) (f t : Int) (h : ¬ max f p.1 < min t (pcEnd p)) : cutP p f t = (0, []) := by
  unfold cutP; rw [if_pos (by omega)]
theorem cutP_nz (p : Pc) (f t : Int) (h : max f p.1 < min t (pcEnd p)) : (cutP p f t).2 ≠ [] := by
  have := cutP_end p f t h
  intro e
  have h2 := this.2
  have h1 := this.1
  unfold pcEnd at h2
  rw [e] at h2
  simp at h2
  unfold pcEnd at h
  omega
theorem nz_none : nz (0, []) = [] := rfl
theorem nz_some {p : Pc} (h : p.2 ≠ []) : nz p = [p] := by unfold nz; rw [if_neg h]
theorem byte_nz (p : Pc) (i : Int) : byteAt (nz p) i = byteAt [p] i := by
  unfold nz
  split
  · rename_i h
    rw [byte_out]
    unfold pcEnd; rw [h]; simp
  · rfl
theorem byte_cut (p : Pc) (f t i : Int) : byteAt (nz (cutP p f t)) i = if f ≤ i ∧ i < t then byteAt [p] i else none := by
  rw [byte_nz]
  by_cases h : max f p.1 < min t (pcEnd p)
  · obtain ⟨h1, h2⟩ := cutP_end p f t h
    by_cases hi : max f p.1 ≤ i ∧ i < min t (pcEnd p)
    · rw [byte_in _ (by omega) (by omega), if_pos (by omega), byte_in _ (by omega) (by omega), h1]
      unfold cutP
      rw [if_neg (by omega)]
      simp only
      rw [List.getElem?_take, if_pos (by omega), List.getElem?_drop]
      congr 1
      omega
    · rw [byte_out _ (by omega)]
      split
      · rw [byte_out _ (by omega)]
      · rfl
  · rw [cutP_none p f t h, byte_out _ (by simp [pcEnd])]
    split
    · rw [byte_out _ (by omega)]
    · rfl
/-- What 'fill' leaves. -/
def fillN : List Pc → Int → Pc → List Pc
  | [], f, p => nz (cutP p f (pcEnd p))
  | k :: l, f, p => nz (cutP p f k.1) ++ k :: fillN l (pcEnd k) p
theorem fill_byte : ∀ (l : List Pc) (f : Int) (p : Pc), riseG f l → ∀ i, byteAt (fillN l f p) i = (byteAt l i).or (if f ≤ i then byteAt [p] i else none)
  | [], f, p, _, i => by
    unfold fillN
    rw [byte_cut]
    show _ = if f ≤ i then byteAt [p] i else none
    by_cases h : f ≤ i
    · rw [if_pos h]
      by_cases h2 : i < pcEnd p
      · rw [if_pos ⟨h, h2⟩]
      · rw [if_neg (by omega), byte_out _ (by omega)]; rfl
    · rw [if_neg h, if_neg (by omega)]
  | k :: l, f, p, h, i => by
    have ih := fill_byte l (pcEnd k) p h.2 i
    have h1 := h.1
    unfold fillN
    rw [byte_append, byte_cut]
    have hk := pcEnd_ge k
    by_cases hi : k.1 ≤ i ∧ i < pcEnd k
    · rw [byte_in _ hi.1 hi.2, byte_in _ hi.1 hi.2, if_neg (by omega)]
      obtain ⟨c, hc⟩ := byte_some hi.1 hi.2
      rw [hc]; rfl
    · rw [byte_out _ hi, byte_out _ hi, ih]
      by_cases h3 : i < k.1
      · rw [byte_low l _ i h.2 (by omega), if_neg (by omega : ¬ pcEnd k ≤ i)]
        by_cases h4 : f ≤ i
        · rw [if_pos ⟨h4, h3⟩, if_pos h4]; cases byteAt [p] i <;> rfl
        · rw [if_neg (by omega), if_neg h4]; rfl
      · rw [if_neg (by omega), if_pos (by omega), if_pos (by omega)]; rfl
theorem fill_rise : ∀ (l : List Pc) (f : Int) (p : Pc), riseG f l → riseG f (fillN l f p)
  | [], f, p, _ => by
    unfold fillN
    by_cases h : max f p.1 < min (pcEnd p) (pcEnd p)
    · rw [nz_some (cutP_nz _ _ _ h)]
      exact ⟨by have := (cutP_end _ _ _ h).1; omega, trivial⟩
    · rw [cutP_none _ _ _ h]; exact trivial
  | k :: l, f, p, hr => by
    have ih := fill_rise l (pcEnd k) p hr.2
    have h1 := hr.1
    unfold fillN
    by_cases h : max f p.1 < min k.1 (pcEnd p)
    · rw [nz_some (cutP_nz _ _ _ h)]
      obtain ⟨e1, e2⟩ := cutP_end _ _ _ h
      exact ⟨by omega, ⟨by omega, ih⟩⟩
    · rw [cutP_none _ _ _ h]; exact ⟨h1, ih⟩
theorem fill_full : ∀ (l : List Pc) (f : Int) (p : Pc), full l → full (fillN l f p)
  | [], f, p, _ => by
    unfold fillN
    by_cases h : max f p.1 < min (pcEnd p) (pcEnd p)
    · have := cutP_nz _ _ _ h
      rw [nz_some this]
      intro q hq; simp at hq; subst hq; exact this
    · rw [cutP_none _ _ _ h]; intro q hq; cases hq
  | k :: l, f, p, hr => by
    have ih := fill_full l (pcEnd k) p (fun q hq => hr q (List.mem_cons_of_mem _ hq))
    unfold fillN
    intro q hq
    rcases List.mem_append.1 hq with hq | hq
    · unfold nz at hq
      split at hq
      · cases hq
      · rename_i hh; simp at hq; subst hq; exact hh
    · rcases List.mem_cons.1 hq with rfl | hq
      · exact hr _ (by simp)
      · exact ih q hq
theorem fill_len : ∀ (l : List Pc) (f : Int) (p : Pc), (fillN l f p).length ≤ 2 * l.length + 1
  | [], f, p => by unfold fillN nz; split <;> simp
  | k :: l, f, p => by
    have ih := fill_len l (pcEnd k) p
    unfold fillN nz; split <;> simp <;> omega

/-- What 'joinNeighbours' leaves. -/
def joinG : Pc → List Pc → List Pc
  | p, [] => [p]
  | p, q :: l => if pcEnd p < q.1 then p :: joinG q l else joinG (p.1, p.2 ++ q.2) l
def joinN : List Pc → List Pc
  | [] => []
  | p :: l => joinG p l
theorem end_app (p q : Pc) : pcEnd (p.1, p.2 ++ q.2) = pcEnd p + q.2.length := by unfold pcEnd; simp; omega
theorem join_canon : ∀ (l : List Pc) (p : Pc) (f : Int), f < p.1 → p.2 ≠ [] → riseG (pcEnd p) l → full l → canonG f (joinG p l)
  | [], p, f, hf, hp, _, _ => ⟨hf, hp, trivial⟩
  | q :: l, p, f, hf, hp, hr, hl => by
    have hq := hl q (by simp)
    have hl' : full l := fun x hx => hl x (List.mem_cons_of_mem _ hx)
    unfold joinG
    split
    · rename_i h
      exact ⟨hf, hp, join_canon l q _ h hq hr.2 hl'⟩
    · rename_i h
      have e : pcEnd (p.1, p.2 ++ q.2) = pcEnd q := by
        have := hr.1; rw [end_app]; unfold pcEnd at *; omega
      exact join_canon l _ f hf (by simp [hp]) (by rw [e]; exact hr.2) hl'
theorem join_byte : ∀ (l : List Pc) (p : Pc), riseG (pcEnd p) l → ∀ i, byteAt (joinG p l) i = byteAt (p :: l) i
  | [], p, _, i => rfl
  | q :: l, p, hr, i => by
    unfold joinG
    split
    · have ih := join_byte l q hr.2 i
      by_cases hi : p.1 ≤ i ∧ i < pcEnd p
      · rw [byte_in _ hi.1 hi.2, byte_in _ hi.1 hi.2]
      · rw [byte_out _ hi, byte_out _ hi, ih]
    · rename_i h
      have e : pcEnd p = q.1 := by have := hr.1; omega
      have e2 : pcEnd (p.1, p.2 ++ q.2) = pcEnd q := by rw [end_app]; unfold pcEnd at *; omega
      rw [join_byte l _ (by rw [e2]; exact hr.2) i]
      by_cases hi : p.1 ≤ i ∧ i < pcEnd p
      · have := pcEnd_ge q
        rw [byte_in (p := (p.1, p.2 ++ q.2)) _ hi.1 (by rw [e2]; omega), byte_in _ hi.1 hi.2]
        simp only
        unfold pcEnd at hi
        rw [List.getElem?_append_left (by omega)]
      · by_cases hj : q.1 ≤ i ∧ i < pcEnd q
        · rw [byte_in (p := (p.1, p.2 ++ q.2)) _ (by show p.1 ≤ i; have := pcEnd_ge p; omega) (by rw [e2]; exact hj.2), byte_out _ hi, byte_in _ hj.1 hj.2]
          simp only
          unfold pcEnd at e
          rw [List.getElem?_append_right (by omega)]
          congr 1
          omega
        · rw [byte_out _ (by rw [e2]; show ¬ (p.1 ≤ i ∧ _); omega), byte_out _ hi, byte_out _ hj]
theorem joinN_canon (l : List Pc) (f g : Int) (hg : g < f) (hr : riseG f l) (hl : full l) : canonG g (joinN l) := by
  cases l with
  | nil => trivial
  | cons p l => exact join_canon l p g (by have := hr.1; omega) (hl p (by simp)) hr.2 (fun x hx => hl x (List.mem_cons_of_mem _ hx))
theorem joinN_byte (l : List Pc) (f : Int) (hr : riseG f l) (i : Int) : byteAt (joinN l) i = byteAt l i := by
  cases l with
  | nil => rfl
  | cons p l => exact join_byte l p hr.2 i
theorem join_len : ∀ (l : List Pc) (p : Pc), (joinG p l).length ≤ l.length + 1
  | [], p => by simp [joinG]
  | q :: l, p => by
    unfold joinG
    split
    · have := join_len l q; simp; omega
    · have := join_len l (p.1, p.2 ++ q.2); simp; omega
theorem joinN_len (l : List Pc) : (joinN l).length ≤ l.length := by
  cases l with
  | nil => simp [joinN]
  | cons p l => have := join_len l p; simpa [joinN] using this

/-- What PiecePut puts together. -/
def putN (l : List Pc) (n : Int) (t : List UInt8) : List Pc := joinN (fillN l n (n, t))
def wasOr (l : List Pc) (n : Int) (t : List UInt8) (i : Int) : Option UInt8 := (byteAt l i).or (byteAt [(n, t)] i)

theorem cut_start (p : Pc) (f t : Int) (h : f ≤ p.1) : cutP p f t = cutP p p.1 t := by
  unfold cutP
  rw [show max f p.1 = max p.1 p.1 by omega]
theorem fill_start (l : List Pc) (f : Int) (p : Pc) (h : f ≤ p.1) : fillN l f p = fillN l p.1 p := by
  cases l with
  | nil => unfold fillN; rw [cut_start p f _ h]
  | cons k l => unfold fillN; rw [cut_start p f _ h]
theorem put_canon {l : List Pc} {n : Int} {t : List UInt8} (hl : canonG (-1) l) (hn : 0 ≤ n) : canonG (-1) (putN l n t) := by
  unfold putN
  rw [← fill_start l 0 (n, t) hn]
  have hr : riseG 0 l := by
    cases l with
    | nil => trivial
    | cons p l => exact ⟨by have := hl.1; omega, canon_rise _ _ hl.2.2⟩
  exact joinN_canon _ 0 (-1) (by omega) (fill_rise l 0 _ hr) (fill_full l 0 _ (canon_full _ _ hl))
theorem put_byte {l : List Pc} {n : Int} {t : List UInt8} (hl : canonG (-1) l) (hn : 0 ≤ n) (i : Int) : byteAt (putN l n t) i = wasOr l n t i := by
  unfold putN wasOr
  rw [← fill_start l 0 (n, t) hn]
  have hr : riseG 0 l := by
    cases l with
    | nil => trivial
    | cons p l => exact ⟨by have := hl.1; omega, canon_rise _ _ hl.2.2⟩
  rw [joinN_byte _ 0 (fill_rise l 0 _ hr), fill_byte l 0 _ hr]
  split
  · rfl
  · rw [byte_out _ (by show ¬ (n ≤ i ∧ _); omega)]; rfl

/-- The model's loop. -/
def putGo : List Pc → Int → List UInt8 → List Pc
  | [], n, t => [(n, t)]
  | p :: l, n, t =>
    if n < p.1 ∧ 0 < min (n + t.length) p.1 - n then
      (n, t.take (min (n + t.length) p.1 - n).toNat) :: p ::
        (if 0 < min (n + t.length) (pcEnd p) - min (n + t.length) p.1 ∧ p.1 ≤ min (n + t.length) p.1 then
          putGo l (min (n + t.length) (pcEnd p)) (t.drop (min (n + t.length) (pcEnd p) - n).toNat)
        else putGo l (min (n + t.length) p.1) (t.drop (min (n + t.length) p.1 - n).toNat))
    else p ::
        (if 0 < min (n + t.length) (pcEnd p) - n ∧ p.1 ≤ n then
          putGo l (min (n + t.length) (pcEnd p)) (t.drop (min (n + t.length) (pcEnd p) - n).toNat)
        else putGo l n t)
def ne (l : List Pc) : List Pc := l.filter fun p => !p.2.isEmpty
theorem ne_cons_full (p : Pc) (l : List Pc) (h : p.2 ≠ []) : ne (p :: l) = p :: ne l := by
  unfold ne; rw [List.filter_cons_of_pos (by simpa using h)]
theorem ne_cons_empty (p : Pc) (l : List Pc) (h : p.2 = []) : ne (p :: l) = ne l := by
  unfold ne; rw [List.filter_cons_of_neg (by simp [h])]
theorem ne_full (l : List Pc) : full (ne l) := fun p hp => by
  unfold ne at hp; rw [List.mem_filter] at hp; simpa using hp.2
theorem ne_of_full (l : List Pc) (h : full l) : ne l = l := by
  unfold ne; rw [List.filter_eq_self]; intro p hp; simpa using h p hp
theorem byte_empty (p : Pc) (l : List Pc) (i : Int) (h : p.2 = []) : byteAt (p :: l) i = byteAt l i := by
  rw [byte_out]; unfold pcEnd; rw [h]; simp
theorem byte_ne (l : List Pc) (i : Int) : byteAt (ne l) i = byteAt l i := by
  induction l with
  | nil => rfl
  | cons p l ih =>
    by_cases h : p.2 = []
    · rw [ne_cons_empty _ _ h, ih, byte_empty _ _ _ h]
    · rw [ne_cons_full _ _ h]
      by_cases hi : p.1 ≤ i ∧ i < pcEnd p
      · rw [byte_in _ hi.1 hi.2, byte_in _ hi.1 hi.2]
      · rw [byte_out _ hi, byte_out _ hi, ih]
/-- A piece in two: its first bytes and the rest. -/
theorem byte_split (n : Int) (t : List UInt8) (k : Nat) (h : k ≤ t.length) (i : Int) : byteAt [(n, t)] i = (byteAt [(n, t.take k)] i).or (byteAt [(n + k, t.drop k)] i) := by
  have e1 : pcEnd (n, t.take k) = n + k := by unfold pcEnd; simp; omega
  have e2 : pcEnd (n + k, t.drop k) = n + t.length := by unfold pcEnd; simp; omega
  have e3 : pcEnd (n, t) = n + t.length := rfl
  by_cases h1 : n ≤ i ∧ i < n + k
  · rw [byte_in _ h1.1 (by rw [e3]; omega), byte_in (p := (n, t.take k)) _ h1.1 (by rw [e1]; omega)]
    simp only
    rw [List.getElem?_take, if_pos (by omega), List.getElem?_eq_getElem (by omega)]; rfl
  · rw [byte_out (p := (n, t.take k)) _ (by rw [e1]; exact h1)]
    by_cases h2 : n + k ≤ i ∧ i < n + t.length
    · rw [byte_in _ (by show n ≤ i; omega) (by rw [e3]; omega), byte_in (p := (n + k, t.drop k)) _ h2.1 (by rw [e2]; omega)]
      simp only
      rw [List.getElem?_drop]
      show _ = _
      simp only [byteAt, Option.none_or]
      congr 1; omega
    · rw [byte_out (p := (n + k, t.drop k)) _ (by rw [e2]; exact h2), byte_out _ (by rw [e3]; show ¬ (n ≤ i ∧ _); omega)]; rfl

theorem byte_one_out (n : Int) (t : List UInt8) (i : Int) (h : ¬ (n ≤ i ∧ i < n + t.length)) : byteAt [(n, t)] i = none := by
  rw [byte_out _ (by show ¬ (n ≤ i ∧ i < pcEnd (n, t)); exact h)]; rfl
theorem two_app (x y : Pc) (z : List Pc) : x :: y :: z = [x] ++ (y :: z) := rfl
theorem putGo_both : ∀ (l : List Pc) (f n : Int) (t : List UInt8), riseG f l → full l → (f ≤ n ∨ t = []) →
    (∀ i, byteAt (putGo l n t) i = (byteAt l i).or (byteAt [(n, t)] i)) ∧ riseG f (ne (putGo l n t))
  | [], f, n, t, _, _, hf => by
    refine ⟨fun i => rfl, ?_⟩
    unfold putGo
    by_cases ht : t = []
    · rw [ne_cons_empty _ _ ht]; exact trivial
    · rw [ne_cons_full _ _ ht]
      rcases hf with hf | hf
      · exact ⟨hf, trivial⟩
      · exact absurd hf ht
  | p :: l, f, n, t, hr, hl, hf => by
    have hl' : full l := fun x hx => hl x (List.mem_cons_of_mem _ hx)
    have hp := hl p (by simp)
    have hlen : 0 < p.2.length := List.length_pos_iff.2 hp
    have hE : pcEnd p = p.1 + p.2.length := rfl
    have h1 := hr.1
    have ht0 : n + (t.length : Int) ≤ n → t = [] := fun h => List.eq_nil_of_length_eq_zero (by omega)
    unfold putGo
    split
    · rename_i hA
      have hfn : f ≤ n := by
        rcases hf with hf | hf
        · exact hf
        · subst hf; simp at hA; omega
      have hk : (min (n + (t.length : Int)) p.1 - n).toNat ≤ t.length := by omega
      have htk : t.take (min (n + (t.length : Int)) p.1 - n).toNat ≠ [] := by
        intro e; have := congrArg List.length e; rw [List.length_take, List.length_nil] at this; omega
      have hlk : ((t.take (min (n + (t.length : Int)) p.1 - n).toNat).length : Int) = min (n + (t.length : Int)) p.1 - n := by rw [List.length_take]; omega
      split
      · rename_i hB
        obtain ⟨ib, ir⟩ := putGo_both l (pcEnd p) (min (n + (t.length : Int)) (pcEnd p)) (t.drop (min (n + (t.length : Int)) (pcEnd p) - n).toNat) hr.2 hl' (by
          by_cases h : pcEnd p ≤ n + (t.length : Int)
          · exact .inl (by omega)
          · right; rw [List.drop_eq_nil_iff]; omega)
        refine ⟨fun i => ?_, ?_⟩
        · have hdl : ((t.drop (min (n + (t.length : Int)) (pcEnd p) - n).toNat).length : Int) = n + t.length - min (n + (t.length : Int)) (pcEnd p) := by rw [List.length_drop]; omega
          by_cases c1 : i < p.1
          · have hs := byte_split n t (min (n + (t.length : Int)) p.1 - n).toNat hk i
            rw [byte_one_out (n + _) (t.drop _) i (by omega)] at hs
            have a : byteAt l i = none := byte_low l (pcEnd p) i hr.2 (by omega)
            rw [byte_out (p := p) l (by omega), a, hs]
            rw [two_app, byte_append, byte_out (p := p) _ (by omega), ib, a, byte_one_out (min _ _) _ i (by omega)]
            cases byteAt [(n, t.take (min (n + (t.length : Int)) p.1 - n).toNat)] i <;> rfl
          · rw [two_app, byte_append, byte_one_out _ _ i (by rw [hlk]; omega), Option.none_or]
            by_cases c2 : i < pcEnd p
            · rw [byte_in _ (by omega) c2, byte_in _ (by omega) c2]
              obtain ⟨c, hc⟩ := byte_some (p := p) (i := i) (by omega) c2
              rw [hc]; rfl
            · rw [byte_out _ (by omega), byte_out _ (by omega), ib]
              have hs := byte_split n t (min (n + (t.length : Int)) (pcEnd p) - n).toNat (by omega) i
              rw [byte_one_out n (t.take _) i (by rw [List.length_take]; omega), Option.none_or] at hs
              rw [hs, show n + ((min (n + (t.length : Int)) (pcEnd p) - n).toNat : Int) = min (n + (t.length : Int)) (pcEnd p) by omega]
        · rw [ne_cons_full _ _ htk, ne_cons_full _ _ hp]
          have e : pcEnd (n, t.take (min (n + (t.length : Int)) p.1 - n).toNat) = n + ((t.take (min (n + (t.length : Int)) p.1 - n).toNat).length : Int) := rfl
          exact ⟨hfn, by rw [e, hlk]; omega, ir⟩
      · rename_i hB
        have hd : t.drop (min (n + (t.length : Int)) p.1 - n).toNat = [] := by rw [List.drop_eq_nil_iff]; omega
        rw [hd]
        have htt : t.take (min (n + (t.length : Int)) p.1 - n).toNat = t := List.take_of_length_le (by omega)
        obtain ⟨ib, ir⟩ := putGo_both l (pcEnd p) (min (n + (t.length : Int)) p.1) [] hr.2 hl' (.inr rfl)
        refine ⟨fun i => ?_, ?_⟩
        · rw [htt] at *
          rw [two_app, byte_append]
          by_cases c2 : p.1 ≤ i ∧ i < pcEnd p
          · rw [byte_in _ c2.1 c2.2, byte_in _ c2.1 c2.2, byte_one_out n t i (by omega)]
            obtain ⟨c, hc⟩ := byte_some c2.1 c2.2
            rw [hc]; rfl
          · rw [byte_out _ c2, byte_out _ c2, ib, byte_one_out _ [] i (by simp)]
            by_cases c3 : n ≤ i ∧ i < n + (t.length : Int)
            · rw [byte_low l (pcEnd p) i hr.2 (by omega)]
              cases byteAt [(n, t)] i <;> rfl
            · rw [byte_one_out n t i c3]; cases byteAt l i <;> rfl
        · rw [ne_cons_full _ _ htk, ne_cons_full _ _ hp]
          have e : pcEnd (n, t.take (min (n + (t.length : Int)) p.1 - n).toNat) = n + ((t.take (min (n + (t.length : Int)) p.1 - n).toNat).length : Int) := rfl
          exact ⟨hfn, by rw [e, hlk]; omega, ir⟩
    · rename_i hA
      split
      · rename_i hB
        obtain ⟨ib, ir⟩ := putGo_both l (pcEnd p) (min (n + (t.length : Int)) (pcEnd p)) (t.drop (min (n + (t.length : Int)) (pcEnd p) - n).toNat) hr.2 hl' (by
          by_cases h : pcEnd p ≤ n + (t.length : Int)
          · exact .inl (by omega)
          · right; rw [List.drop_eq_nil_iff]; omega)
        refine ⟨fun i => ?_, ?_⟩
        · by_cases c2 : p.1 ≤ i ∧ i < pcEnd p
          · rw [byte_in _ c2.1 c2.2, byte_in _ c2.1 c2.2]
            obtain ⟨c, hc⟩ := byte_some c2.1 c2.2
            rw [hc]; rfl
          · rw [byte_out _ c2, byte_out _ c2, ib]
            have hs := byte_split n t (min (n + (t.length : Int)) (pcEnd p) - n).toNat (by omega) i
            rw [byte_one_out n (t.take _) i (by rw [List.length_take]; omega), Option.none_or] at hs
            rw [hs, show n + ((min (n + (t.length : Int)) (pcEnd p) - n).toNat : Int) = min (n + (t.length : Int)) (pcEnd p) by omega]
        · rw [ne_cons_full _ _ hp]
          exact ⟨h1, ir⟩
      · rename_i hB
        obtain ⟨ib, ir⟩ := putGo_both l (pcEnd p) n t hr.2 hl' (by
          by_cases h : pcEnd p ≤ n
          · exact .inl h
          · right; exact ht0 (by omega))
        refine ⟨fun i => ?_, ?_⟩
        · by_cases c2 : p.1 ≤ i ∧ i < pcEnd p
          · rw [byte_in _ c2.1 c2.2, byte_in _ c2.1 c2.2]
            obtain ⟨c, hc⟩ := byte_some c2.1 c2.2
            rw [hc]; rfl
          · rw [byte_out _ c2, byte_out _ c2, ib]
        · rw [ne_cons_full _ _ hp]
          exact ⟨h1, ir⟩

/-- The model's join. -/
def joinS : List Pc → List Pc → List Pc
  | acc, [] => acc
  | acc, q :: l => if q.2 = [] then joinS acc l else
    match acc.getLast? with
    | some p => if pcEnd p = q.1 then joinS (acc.dropLast ++ [(p.1, p.2 ++ q.2)]) l else joinS (acc ++ [q]) l
    | none => joinS (acc ++ [q]) l
theorem joinS_go : ∀ (l acc : List Pc) (p : Pc), riseG (pcEnd p) (ne l) → joinS (acc ++ [p]) l = acc ++ joinG p (ne l)
  | [], acc, p, _ => rfl
  | q :: l, acc, p, h => by
    unfold joinS
    by_cases hq : q.2 = []
    · rw [ne_cons_empty _ _ hq] at h ⊢
      rw [if_pos hq]
      exact joinS_go l acc p h
    · rw [ne_cons_full _ _ hq] at h ⊢
      rw [if_neg hq]
      have h1 := h.1
      have hla : (acc ++ [p]).getLast? = some p := by simp
      rw [hla]
      simp only [List.dropLast_concat]
      by_cases he : pcEnd p = q.1
      · rw [if_pos he, joinS_go l acc _ (by rw [end_app]; have := h.2; unfold pcEnd at this he ⊢; rw [he]; exact this)]
        rw [joinG, if_neg (by omega)]
      · rw [if_neg he, joinS_go l (acc ++ [p]) q h.2]
        rw [joinG, if_pos (by omega)]; simp
theorem joinS_nil : ∀ (l : List Pc) (f : Int), riseG f (ne l) → joinS [] l = joinN (ne l)
  | [], _, _ => rfl
  | q :: l, f, h => by
    unfold joinS
    by_cases hq : q.2 = []
    · rw [ne_cons_empty _ _ hq] at h ⊢
      rw [if_pos hq]
      exact joinS_nil l f h
    · rw [ne_cons_full _ _ hq] at h ⊢
      rw [if_neg hq]
      exact joinS_go l [] q h.2
/-- What the model puts together. -/
def putS (l : List Pc) (n : Int) (t : List UInt8) : List Pc := joinS [] (putGo l n t)
theorem put_same {l : List Pc} {n : Int} {t : List UInt8} (hl : canonG (-1) l) (hn : 0 ≤ n) : putS l n t = putN l n t := by
  have hr : riseG 0 l := by
    cases l with
    | nil => trivial
    | cons p l => exact ⟨by have := hl.1; omega, canon_rise _ _ hl.2.2⟩
  obtain ⟨hb, hr'⟩ := putGo_both l 0 n t hr (canon_full _ _ hl) (.inl hn)
  unfold putS
  rw [joinS_nil _ 0 hr']
  refine canon_ext _ _ (-1) (joinN_canon _ 0 (-1) (by omega) hr' (ne_full _)) (put_canon hl hn) (fun i => ?_)
  rw [joinN_byte _ 0 hr', byte_ne, hb, put_byte hl hn]; rfl
end Go.Proofs.YtdcahilfmhkmiaaGreatDoor

namespace Go.Proofs.YtdcahilfmhkmiaaGreatDoor
open Go.RowKit

/-- A link: its block, its place in the stream, where its bytes lie, how much room there is for them, its bytes. -/
structure Lk where
  g : Nat
  n : Int
  b : Nat
  o : Nat
  cap : Nat
  t : List UInt8
abbrev Lk.pc (x : Lk) : Pc := (x.n, x.t)
/-- A block that holds a link; one that holds bytes. -/
def IsLink (w : World) (g : Nat) : Prop := ∃ c, w.heap[g]? = some (.cells c 221 (0, 0))
def IsBytes (w : World) (b : Nat) : Prop := ∃ c fz, w.heap[b]? = some (.cells c 5 fz)
structure Has (w : World) (x : Lk) : Prop where
  link : IsLink w x.g
  kind : IsBytes w x.b
  at0 : w.cell? ⟨x.g, 0, none⟩ = some (.int .i64 x.n)
  at1 : w.cell? ⟨x.g, 1, none⟩ = some (.slice (some ⟨x.b, x.o, none⟩) x.t.length x.cap)
  byte : ∀ j (h : j < x.t.length), w.cell? ⟨x.b, x.o + j, none⟩ = some (.int .u8 (x.t[j].toNat : Int))
  spare : ∀ j, x.t.length ≤ j → j < x.cap → (w.cell? ⟨x.b, x.o + j, none⟩).isSome = true ∧ w.frozen? ⟨x.b, x.o + j, none⟩ = false
  ble : x.t.length ≤ x.cap

theorem IsLink.free {w : World} {g : Nat} (h : IsLink w g) (i : Nat) : w.frozen? ⟨g, i, none⟩ = false := by
  obtain ⟨c, h⟩ := h
  simp [World.frozen?, h]
theorem IsLink.lt {w : World} {g : Nat} (h : IsLink w g) : g < w.heap.size := by
  obtain ⟨c, h⟩ := h; exact (Array.getElem?_eq_some_iff.1 h).1
theorem IsBytes.lt {w : World} {g : Nat} (h : IsBytes w g) : g < w.heap.size := by
  obtain ⟨c, f, h⟩ := h; exact (Array.getElem?_eq_some_iff.1 h).1
theorem link_bytes_ne {w : World} {g b : Nat} (h : IsLink w g) (h' : IsBytes w b) : g ≠ b := by
  rintro rfl
  obtain ⟨c, h⟩ := h
  obtain ⟨c', f, h'⟩ := h'
  rw [h] at h'
  cases h'
theorem IsLink.of {w w' : World} {g : Nat} (h : IsLink w g) (e : w'.heap[g]? = w.heap[g]?) : IsLink w' g := by
  obtain ⟨c, h⟩ := h; exact ⟨c, e.trans h⟩
theorem IsBytes.of {w w' : World} {g : Nat} (h : IsBytes w g) (e : w'.heap[g]? = w.heap[g]?) : IsBytes w' g := by
  obtain ⟨c, f, h⟩ := h; exact ⟨c, f, e.trans h⟩
theorem Has.of {w w' : World} {x : Lk} (h : Has w x) (e : w'.heap[x.g]? = w.heap[x.g]?) (e' : w'.heap[x.b]? = w.heap[x.b]?) : Has w' x := by
  have c (i : Nat) : w'.cell? ⟨x.g, i, none⟩ = w.cell? ⟨x.g, i, none⟩ := World.cell?_of_block (a := ⟨x.g, i, none⟩) e
  have d (i : Nat) : w'.cell? ⟨x.b, i, none⟩ = w.cell? ⟨x.b, i, none⟩ := World.cell?_of_block (a := ⟨x.b, i, none⟩) e'
  have f (i : Nat) : w'.frozen? ⟨x.b, i, none⟩ = w.frozen? ⟨x.b, i, none⟩ := World.frozen?_of_block (a := ⟨x.b, i, none⟩) e'
  exact ⟨h.link.of e, h.kind.of e', (c 0).trans h.at0, (c 1).trans h.at1, fun j hj => (d _).trans (h.byte j hj), fun j h1 h2 => by rw [d, f]; exact h.spare j h1 h2, h.ble⟩
theorem Has.below {w w' : World} {x : Lk} (h : Has w x) (hb : Below w.heap.size w w') : Has w' x := h.of (hb.block _ h.link.lt) (hb.block _ h.kind.lt)

theorem bytes_new {P : Program} {src dst e : TypeId} (hs : P.underlying src = some .string) (hd : P.underlying dst = some (.slice e)) (he : P.underlying e = some (.int .u8)) (w : World) (s : List UInt8) :
    ∃ cap c fz, (convert src dst (gs s)).run P w = .ok (.slice (some ⟨w.heap.size, 0, none⟩) s.length cap) (w.drew.alloc (.cells c e fz)) ∧ s.length ≤ cap ∧
      (∀ j (h : j < s.length), c[j]? = some (.int .u8 (s[j].toNat : Int))) ∧ (∀ j, j < cap → (c[j]?).isSome = true) ∧ c.size ≤ fz.1 := by
  have h := run_bytes_of_string (P := P) w src dst e ⟨s.toArray⟩ hs hd he
  have hz : (⟨s.toArray⟩ : ByteArray).size = s.length := by simp [ByteArray.size]
  rw [hz] at h
  refine ⟨_, _, _, h, ?_, ?_, ?_, ?_⟩
  · exact grownCap_ge w s.length 0 e
  · intro j hj
    have := bytesRow_at ⟨s.toArray⟩ (grownCap w s.length 0 e) j (by simpa using hj)
    rw [this]; rfl
  · intro j hj
    have : j < (bytesRow ⟨s.toArray⟩ (grownCap w s.length 0 e)).size := by simp [bytesRow]; omega
    simp [this]
  · exact Nat.le_refl _

theorem heap_new (w : World) (o : Obj) : (w.alloc o).heap[w.heap.size]? = some o := by
  show (w.heap.push o)[w.heap.size]? = _
  simp
theorem heap_old (w : World) (o : Obj) (k : Nat) (h : k < w.heap.size) : (w.alloc o).heap[k]? = w.heap[k]? := Below.heap_alloc w o k h
theorem has_new (w : World) (c : Array Value) (fz : Nat × Nat) (n : Int) (t : List UInt8) (cap : Nat) (p q : Value) (hcap : t.length ≤ cap) (hc : ∀ j (h : j < t.length), c[j]? = some (.int .u8 (t[j].toNat : Int)))
    (hc2 : ∀ j, j < cap → (c[j]?).isSome = true) (hfz : c.size ≤ fz.1) :
    Has ((w.alloc (.cells c 5 fz)).alloc (.cells #[.int .i64 n, .slice (some ⟨w.heap.size, 0, none⟩) t.length cap, p, q] 221)) ⟨w.heap.size + 1, n, w.heap.size, 0, cap, t⟩ := by
  have hg : ((w.alloc (.cells c 5 fz)).alloc (.cells #[.int .i64 n, .slice (some ⟨w.heap.size, 0, none⟩) t.length cap, p, q] 221)).heap[w.heap.size + 1]? = some (.cells #[.int .i64 n, .slice (some ⟨w.heap.size, 0, none⟩) t.length cap, p, q] 221) := by
    have := heap_new (w.alloc (.cells c 5 fz)) (.cells #[.int .i64 n, .slice (some ⟨w.heap.size, 0, none⟩) t.length cap, p, q] 221)
    simpa using this
  have hb : ((w.alloc (.cells c 5 fz)).alloc (.cells #[.int .i64 n, .slice (some ⟨w.heap.size, 0, none⟩) t.length cap, p, q] 221)).heap[w.heap.size]? = some (.cells c 5 fz) :=
    (heap_old _ _ _ (by simp)).trans (heap_new _ _)
  generalize (w.alloc (.cells c 5 fz)).alloc (.cells #[.int .i64 n, .slice (some ⟨w.heap.size, 0, none⟩) t.length cap, p, q] 221) = w' at *
  refine ⟨⟨_, hg⟩, ⟨_, _, hb⟩, by simp [World.cell?, hg], by simp [World.cell?, hg], fun j hj => by simp [World.cell?, hb]; exact hc j hj, fun j h1 h2 => ⟨by simp only [World.cell?, hb]; simpa using hc2 j h2, ?_⟩, hcap⟩
  have h3 := hc2 j h2
  have h4 : j < c.size := by
    rcases Nat.lt_or_ge j c.size with h | h
    · exact h
    · simp [Array.getElem?_eq_none h] at h3
  simp [World.frozen?, hb]; omega
theorem Has.drew {w : World} {x : Lk} (h : Has w x) (m : Nat) : Has (w.drewN m) x := h.of rfl rfl
theorem linkOf_calls (p : Pc) (w : World) (hl : p.2.length ≤ 2000000) :
    Calls Tryz.prog 207 #[pcv p] w fun e w' => ∃ x : Lk, e = .returned (ptr x.g) ∧ x.pc = p ∧ w.heap.size ≤ x.g ∧ w.heap.size ≤ x.b ∧ Has w' x ∧ w'.cell? ⟨x.g, 2, none⟩ = some (.pointer none) ∧ w'.cell? ⟨x.g, 3, none⟩ = some (.pointer none) ∧ Below w.heap.size w w' := by
  obtain ⟨n, t⟩ := p
  dsimp only at hl
  have hb := bytes_new (P := Tryz.prog) Tryz.underlying9 Tryz.underlying22 Tryz.underlying5
  obtain ⟨cap, c, fz, hrun, hcap, hc, hc2, hfz⟩ := hb (w.alloc (.cells #[.int .i64 n, gs t] 121)) t
  have HC := Lib.hid hc
  have HC2 := Lib.hid hc2
  have HF := Lib.hid hfz
  clear hb hc hc2 hfz
  go_enter Tryz.func207, Tryz.ntmps207
  go_wp2_with fail
  go_ret
  have hn := has_new (w.alloc (.cells #[.int .i64 n, gs t] 121)) c fz n t cap (.pointer none) (.pointer none) hcap HC.out HC2.out HF.out
  rw [World.size_alloc] at hn
  refine ⟨_, rfl, rfl, ?_, ?_, hn.drew 1, ?_, ?_, ?_⟩
  · show w.heap.size ≤ w.heap.size + 1 + 1; omega
  · show w.heap.size ≤ w.heap.size + 1; omega
  · obtain ⟨⟨c', h⟩, _⟩ := hn; simp [go_sem]
  · simp [go_sem]
  · exact ((((Below.refl _ _).alloc (Nat.le_refl _) _).alloc (by simp) _).alloc (by simp; omega) _).drew
end Go.Proofs.YtdcahilfmhkmiaaGreatDoor

namespace Go.Proofs.YtdcahilfmhkmiaaGreatDoor
open Go.RowKit

theorem max_if (a b : Int) : (if a < b then b else a) = max a b := by split <;> omega
theorem min_if (a b : Int) : (if b < a then b else a) = min a b := by split <;> omega
set_option maxHeartbeats 1000000 in
set_option maxRecDepth 100000 in
theorem cut_none {w : World} {x : Lk} (hx : Has w x) (h0 : 0 ≤ x.n) (h1 : x.n ≤ 2000000) (ht : x.t.length ≤ 2000000) (f to : Int) (hc : min to (pcEnd x.pc) ≤ max f x.n) :
    Calls Tryz.prog 208 #[ptr x.g, .int .i64 f, .int .i64 to] w fun e w' => ∃ g, e = .returned (ptr g) ∧ w'.cell? ⟨g, 1, none⟩ = some (.slice none 0 0) ∧ Below w.heap.size w w' := by
  have c0 := hx.at0
  have c1 := hx.at1
  have he := fun m => end_calls (w := w.drewN m) c0 c1 h0 h1 (by omega)
  have HE := Lib.hid he
  clear he
  obtain ⟨g, n, b, o, cap, t⟩ := x
  unfold pcEnd at hc
  dsimp only at *
  clear hx
  generalize hE : n + (t.length : Int) = E at *
  clear hE
  have HC := Lib.hid hc
  clear hc
  go_enter Tryz.func208, Tryz.ntmps208
  go_wp2_with fail
  go_quiet ((go_at_call 237; exact Calls.quiet_of (HE.out _)))
  rw [max_if, min_if]
  have hc := HC.out
  generalize max f n = M at *
  generalize min to E = m at *
  have hd : decide (m ≤ M) = true := by simp; omega
  clear hc HC
  go_wp2_with fail
  go_ret
  exact ⟨_, rfl, World.cell?_alloc_new _ _ _ _, (below_drewN (Below.refl _ _) _).alloc (Nat.le_refl _) _⟩
theorem run_cut3 {P : Program} {T e : TypeId} (hT : P.underlying T = some (.slice e)) (he : P.elem T = e) (hi : (P.info? e).map (fun i => i.size) = some 1) (W : World) (b o n cap f l : Nat) (F L : Int) (hF : F = (f : Int)) (hL : L = (l : Int)) (hfl : f < l) (hl : l ≤ n) (hn : n ≤ cap) :
    (Instr.slice T (.slice (some ⟨b, o, none⟩) n cap) (some (.int .i64 F)) (some (.int .i64 L)) (some (.int .i64 L))).run P W = .ok (.slice (some ⟨b, o + f, none⟩) (l - f) (l - f)) W := by
  subst hF hL
  obtain ⟨i, hi1, hi2⟩ : ∃ i, P.info? e = some i ∧ i.size = 1 := by
    cases h : P.info? e with
    | none => rw [h] at hi; cases hi
    | some i => rw [h] at hi; exact ⟨i, rfl, by simpa using hi⟩
  rw [run_slice_lhm (w := W) T (some ⟨b, o, none⟩) n cap (by rw [he]; exact hT) .i64 .i64 .i64 f l l (by omega) (by omega) (by omega) (by omega)]
  rw [he]
  have hne : ¬ l = f := by omega
  simp [sizeOf, hi1, hi2, go_sem, sliced, run_typeInfo, hne, Result.andThen]
theorem has_cut {w : World} {x : Lk} (hx : Has w x) (q : Nat) (M : Int) (k l : Nat) (hkl : k + l ≤ x.t.length) :
    Has ((w.drewN q).alloc (.cells #[.int .i64 M, .slice (some ⟨x.b, x.o + k, none⟩) l l, .pointer none, .pointer none] 221)) ⟨w.heap.size, M, x.b, x.o + k, l, (x.t.drop k).take l⟩ := by
  have hg := heap_new (w.drewN q) (.cells #[.int .i64 M, .slice (some ⟨x.b, x.o + k, none⟩) l l, .pointer none, .pointer none] 221)
  have ho := hx.below ((below_drewN (Below.refl _ _) q).alloc (Nat.le_refl _) (.cells #[.int .i64 M, .slice (some ⟨x.b, x.o + k, none⟩) l l, .pointer none, .pointer none] 221))
  have hsz : (w.drewN q).heap.size = w.heap.size := rfl
  rw [hsz] at hg
  generalize (w.drewN q).alloc (.cells #[.int .i64 M, .slice (some ⟨x.b, x.o + k, none⟩) l l, .pointer none, .pointer none] 221) = w' at *
  have hlen : ((x.t.drop k).take l).length = l := by rw [List.length_take, List.length_drop]; omega
  refine ⟨⟨_, hg⟩, ho.kind, by simp [World.cell?, hg], by simp only [World.cell?, hg]; rw [hlen]; rfl, fun j hj => ?_, fun j h1 h2 => ?_, Nat.le_of_eq hlen⟩
  · have hj' : j < l := by rw [← hlen]; exact hj
    have := ho.byte (k + j) (by omega)
    show w'.cell? ⟨x.b, x.o + k + j, none⟩ = _
    rw [Nat.add_assoc, this]
    simp
  · exfalso
    have h1' : l ≤ j := by rw [← hlen]; exact h1
    have h2' : j < l := h2
    omega
set_option maxHeartbeats 1000000 in
set_option maxRecDepth 100000 in
theorem cut_some {w : World} {x : Lk} (hx : Has w x) (h0 : 0 ≤ x.n) (h1 : x.n ≤ 2000000) (ht : x.t.length ≤ 2000000) (f to : Int) (hc : max f x.n < min to (pcEnd x.pc)) :
    Calls Tryz.prog 208 #[ptr x.g, .int .i64 f, .int .i64 to] w fun e w' => ∃ y : Lk, e = .returned (ptr y.g) ∧ y.pc = cutP x.pc f to ∧ w.heap.size ≤ y.g ∧ y.b = x.b ∧ y.cap = y.t.length ∧ Has w' y ∧
      w'.cell? ⟨y.g, 2, none⟩ = some (.pointer none) ∧ w'.cell? ⟨y.g, 3, none⟩ = some (.pointer none) ∧ Below w.heap.size w w' := by
  have HX := Lib.hid hx
  have c0 := hx.at0
  have c1 := hx.at1
  have ble := hx.ble
  have he := fun m => end_calls (w := w.drewN m) c0 c1 h0 h1 (by omega)
  have HE := Lib.hid he
  clear he
  have hE : pcEnd x.pc = x.n + (x.t.length : Int) := rfl
  have hcp : cutP x.pc f to = (max f x.n, (x.t.drop (max f x.n - x.n).toNat).take (min to (pcEnd x.pc) - max f x.n).toNat) := by unfold cutP; rw [if_neg (Int.not_le.2 hc)]
  have hM0 : x.n ≤ max f x.n := by omega
  have hm0 : min to (pcEnd x.pc) ≤ x.n + (x.t.length : Int) := by rw [hE]; omega
  have HCP := Lib.hid hcp
  have HEE := Lib.hid hE
  clear hx hcp
  rw [hE] at hc hm0
  clear hE
  obtain ⟨g, n, b, o, cap, t⟩ := x
  dsimp only at *
  generalize hE : n + (t.length : Int) = E at *
  have HC := Lib.hid hc
  have HM0 := Lib.hid hM0
  have HN0 := Lib.hid hm0
  have HEQ := Lib.hid hE
  clear hc hM0 hm0 hE
  go_enter Tryz.func208, Tryz.ntmps208
  go_wp2_with fail
  go_quiet ((go_at_call 237; exact Calls.quiet_of (HE.out _)))
  rw [max_if, min_if]
  have hc := HC.out
  have hM0 := HM0.out
  have hm0 := HN0.out
  have hcp := HCP.out
  have hEE := HEE.out
  have hEq := HEQ.out
  rw [hEE] at hcp
  have HCP2 := Lib.hid hcp
  clear HC HM0 HN0 HCP HEE HEQ hcp hEE
  generalize max f n = M at *
  generalize min to E = m at *
  have hd : decide (m ≤ M) = false := by simp; omega
  have hw1 : IntKind.i64.wrap (M - n) = M - n := IntWalk.i64_in _ (by omega)
  have hw2 : IntKind.i64.wrap (m - n) = m - n := IntWalk.i64_in _ (by omega)
  have hsl := fun W => run_cut3 (P := Tryz.prog) Tryz.underlying22 (by kernel_rfl) (by kernel_rfl) W b o t.length cap (M - n).toNat (m - n).toNat (M - n) (m - n) (by omega) (by omega) (by omega) (by omega) ble
  have HSL := Lib.hid hsl
  have HEQ := Lib.hid hEq
  clear hc hsl hEq
  go_wp2_with fail
  go_quiet (fail)
  have hsl := HSL.out
  clear HE hw1 hw2
  go_wp2_with fail
  go_ret
  have hlen : ((t.drop (M - n).toNat).take (m - M).toNat).length = (m - n).toNat - (M - n).toNat := by
    have := HEQ.out
    have hlt : M < m := by simpa using hd
    rw [List.length_take, List.length_drop]; omega
  have hEq := HEQ.out
  have hlt : M < m := by simpa using hd
  have hh := fun q => has_cut HX.out q M (M - n).toNat ((m - n).toNat - (M - n).toNat) (by show _ ≤ t.length; omega)
  have e : (m - M).toNat = (m - n).toNat - (M - n).toNat := by omega
  have hcp := HCP2.out
  rw [e] at hcp hlen
  refine ⟨_, rfl, ?_, Nat.le_refl _, rfl, ?_, hh _, ?_, ?_, (below_drewN (Below.refl _ _) _).alloc (Nat.le_refl _) _⟩
  · exact hcp.symm
  · exact hlen.symm
  · exact World.cell?_alloc_new _ _ _ _
  · exact World.cell?_alloc_new _ _ _ _
end Go.Proofs.YtdcahilfmhkmiaaGreatDoor

namespace Go.Proofs.YtdcahilfmhkmiaaGreatDoor
open Go.RowKit

/-- From block a on the blocks of l follow one another, each knows both its neighbours. -/
def Links (w : World) : Nat → List Nat → Prop
  | _, [] => True
  | a, b :: l => w.cell? ⟨a, 3, none⟩ = some (ptr b) ∧ w.cell? ⟨b, 2, none⟩ = some (ptr a) ∧ Links w b l
def lastG (a : Nat) : List Nat → Nat
  | [] => a
  | b :: l => lastG b l
theorem links_app {w : World} : ∀ (l : List Nat) (a k : Nat) (m : List Nat), Links w a (l ++ k :: m) ↔ Links w a l ∧ w.cell? ⟨lastG a l, 3, none⟩ = some (ptr k) ∧ w.cell? ⟨k, 2, none⟩ = some (ptr (lastG a l)) ∧ Links w k m
  | [], a, k, m => by simp [Links, lastG]
  | b :: l, a, k, m => by
    have ih := links_app (w := w) l b k m
    simp only [List.cons_append, Links, lastG, ih]
    constructor
    · rintro ⟨h1, h2, h3, h4⟩; exact ⟨⟨h1, h2, h3⟩, h4⟩
    · rintro ⟨⟨h1, h2, h3⟩, h4⟩; exact ⟨h1, h2, h3, h4⟩
theorem links_of {w w' : World} : ∀ (l : List Nat) (a : Nat), Links w a l → (∀ x ∈ (a :: l).dropLast, w'.cell? ⟨x, 3, none⟩ = w.cell? ⟨x, 3, none⟩) → (∀ x ∈ l, w'.cell? ⟨x, 2, none⟩ = w.cell? ⟨x, 2, none⟩) → Links w' a l
  | [], _, _, _, _ => trivial
  | b :: l, a, h, h3, h2 => by
    refine ⟨(h3 a ?_).trans h.1, (h2 b (by simp)).trans h.2.1, links_of l b h.2.2 (fun x hx => h3 x ?_) (fun x hx => h2 x (by simp [hx]))⟩
    · simp [List.dropLast]
    · rw [List.dropLast_cons_of_ne_nil (by simp)]; exact List.mem_cons_of_mem _ hx
theorem lastG_mem : ∀ (l : List Nat) (a : Nat), lastG a l ∈ a :: l
  | [], a => by simp [lastG]
  | b :: l, a => by
    have := lastG_mem l b
    unfold lastG
    exact List.mem_cons_of_mem _ this

abbrev gsOf (ks : List Lk) : List Nat := ks.map (·.g)
/-- Two links of which one has room behind its bytes have their bytes in blocks of their own. -/
def Apart (x y : Lk) : Prop := (x.t.length < x.cap ∨ y.t.length < y.cap) → x.b ≠ y.b
theorem Apart.symm {x y : Lk} (h : Apart x y) : Apart y x := fun e => (h e.symm).symm
structure Ring (w : World) (B r : Nat) (ks : List Lk) : Prop where
  root : IsLink w r
  base : B ≤ r ∧ ∀ x ∈ ks, B ≤ x.g ∧ B ≤ x.b
  has : ∀ x ∈ ks, Has w x
  links : Links w r (gsOf ks ++ [r])
  dis : (r :: gsOf ks).Nodup
  apart : ks.Pairwise Apart
  full : ∀ x ∈ ks, x.t ≠ []
/-- The block behind which xs stands; ahead of which ys stands. -/
def headG (r : Nat) : List Lk → Nat
  | [] => r
  | y :: _ => y.g
/-- What a step on a ring leaves: all but these blocks. -/
structure Only (S : Nat → Prop) (w w' : World) : Prop where
  os : w'.os = w.os
  tape : w'.tape = w.tape
  output : w'.output = w.output
  size : w.heap.size ≤ w'.heap.size
  block : ∀ k, k < w.heap.size → ¬ S k → w'.heap[k]? = w.heap[k]?
theorem Only.refl (S : Nat → Prop) (w : World) : Only S w w := ⟨rfl, rfl, rfl, Nat.le_refl _, fun _ _ _ => rfl⟩
theorem Only.trans {S : Nat → Prop} {a b c : World} (h : Only S a b) (k : Only S b c) : Only S a c :=
  ⟨k.os.trans h.os, k.tape.trans h.tape, k.output.trans h.output, Nat.le_trans h.size k.size, fun i hi hs => (k.block i (Nat.lt_of_lt_of_le hi h.size) hs).trans (h.block i hi hs)⟩
theorem Only.mono {S T : Nat → Prop} {a b : World} (h : Only S a b) (k : ∀ i, i < a.heap.size → S i → T i) : Only T a b :=
  ⟨h.os, h.tape, h.output, h.size, fun i hi hs => h.block i hi (fun e => hs (k i hi e))⟩
theorem Only.set {S : Nat → Prop} {a w : World} (h : Only S a w) {g : Nat} (hg : S g) (i : Nat) (v : Value) : Only S a (w.setCell ⟨g, i, none⟩ v) :=
  h.trans ⟨rfl, rfl, rfl, by simp, fun k _ hk => Below.heap_setCell _ _ _ _ (fun e => hk (by rw [e]; exact hg))⟩
theorem Only.of {S : Nat → Prop} {a w : World} (h : Below a.heap.size a w) : Only S a w := ⟨h.os, h.tape, h.output, h.size, fun k hk _ => h.block k hk⟩
theorem Only.below {S : Nat → Prop} {a w w' : World} {B : Nat} (h : Below B a w) (hs : B ≤ w.heap.size) (k : Only S w w') (hS : ∀ i, S i → B ≤ i) : Below B a w' :=
  h.trans ⟨k.os, k.tape, k.output, k.size, fun i hi => k.block i (by omega) (fun e => by have := hS i e; omega)⟩

theorem cell_ne {w : World} {g i h j : Nat} {v : Value} (e : g ≠ h ∨ i ≠ j) : (w.setCell ⟨g, i, none⟩ v).cell? ⟨h, j, none⟩ = w.cell? ⟨h, j, none⟩ :=
  World.cell?_setCell_other _ _ _ _ (fun x => by have := Addr.mk.inj x; rcases e with e | e <;> simp_all)
theorem cell_eq {w : World} {g i : Nat} {v u : Value} (h : w.cell? ⟨g, i, none⟩ = some u) : (w.setCell ⟨g, i, none⟩ v).cell? ⟨g, i, none⟩ = some v := World.cell?_setCell_same _ _ _ h
theorem IsLink.set {w : World} {g : Nat} (h : IsLink w g) (p i : Nat) (v : Value) : IsLink (w.setCell ⟨p, i, none⟩ v) g := by
  by_cases e : g = p
  · subst e
    obtain ⟨c, h⟩ := h
    refine ⟨c.setIfInBounds i v, ?_⟩
    simp [World.setCell, Array.getElem?_modify, h]
  · exact h.of (Below.heap_setCell _ _ _ _ (by simpa using e))
/-- A store into a link's neighbours' cells leaves what links hold. -/
theorem Has.set {w : World} {x : Lk} (h : Has w x) {p i : Nat} (hi : 2 ≤ i) (hp : IsLink w p) (v : Value) : Has (w.setCell ⟨p, i, none⟩ v) x := by
  have hb : x.b ≠ p := (link_bytes_ne hp h.kind).symm
  have e := Below.heap_setCell w ⟨p, i, none⟩ v x.b (by simpa using hb)
  have d (j : Nat) : (w.setCell ⟨p, i, none⟩ v).cell? ⟨x.b, j, none⟩ = w.cell? ⟨x.b, j, none⟩ := World.cell?_of_block (a := ⟨x.b, j, none⟩) e
  have f (j : Nat) : (w.setCell ⟨p, i, none⟩ v).frozen? ⟨x.b, j, none⟩ = w.frozen? ⟨x.b, j, none⟩ := World.frozen?_of_block (a := ⟨x.b, j, none⟩) e
  exact ⟨h.link.set _ _ _, h.kind.of e, (cell_ne (.inr (by omega))).trans h.at0, (cell_ne (.inr (by omega))).trans h.at1, fun j hj => (d _).trans (h.byte j hj), fun j h1 h2 => by rw [d, f]; exact h.spare j h1 h2, h.ble⟩

theorem Ring.of {w w' : World} {B r : Nat} {ks : List Lk} (h : Ring w B r ks) (e : ∀ i, (i = r ∨ (∃ x ∈ ks, i = x.g ∨ i = x.b)) → w'.heap[i]? = w.heap[i]?) : Ring w' B r ks := by
  have hc (i j : Nat) (hi : i = r ∨ (∃ x ∈ ks, i = x.g ∨ i = x.b)) : w'.cell? ⟨i, j, none⟩ = w.cell? ⟨i, j, none⟩ := World.cell?_of_block (a := ⟨i, j, none⟩) (e i hi)
  have hm (i : Nat) (hi : i ∈ r :: (gsOf ks ++ [r])) : i = r ∨ (∃ x ∈ ks, i = x.g ∨ i = x.b) := by
    simp at hi
    rcases hi with hi | ⟨x, hx, rfl⟩ | hi
    · exact .inl hi
    · exact .inr ⟨x, hx, .inl rfl⟩
    · exact .inl hi
  refine ⟨h.root.of (e r (.inl rfl)), h.base, fun x hx => (h.has x hx).of (e _ (.inr ⟨x, hx, .inl rfl⟩)) (e _ (.inr ⟨x, hx, .inr rfl⟩)), ?_, h.dis, h.apart, h.full⟩
  exact links_of _ _ h.links (fun x hx => hc x 3 (hm x ((List.dropLast_sublist _).subset hx))) (fun x hx => hc x 2 (hm x (List.mem_cons_of_mem _ hx)))
theorem Ring.lt {w : World} {B r : Nat} {ks : List Lk} (h : Ring w B r ks) : ∀ i, (i = r ∨ (∃ x ∈ ks, i = x.g ∨ i = x.b)) → i < w.heap.size := by
  rintro i (rfl | ⟨x, hx, rfl | rfl⟩)
  · exact h.root.lt
  · exact (h.has x hx).link.lt
  · exact (h.has x hx).kind.lt
theorem Ring.below {w w' : World} {B r : Nat} {ks : List Lk} (h : Ring w B r ks) (hb : Below w.heap.size w w') : Ring w' B r ks := h.of fun i hi => hb.block i (h.lt i hi)

theorem last_drop : ∀ (l : List Nat) (a : Nat), (a :: l).Nodup → ∀ x ∈ (a :: l).dropLast, x ≠ lastG a l
  | [], a, _, x, hx => by simp at hx
  | b :: l, a, h, x, hx => by
    rw [List.dropLast_cons_of_ne_nil (by simp)] at hx
    obtain ⟨h1, h2⟩ := List.nodup_cons.1 h
    rcases List.mem_cons.1 hx with rfl | hx
    · intro e; exact h1 (by rw [e]; exact lastG_mem l b)
    · exact last_drop l b h2 x hx
theorem head_tail (r : Nat) (ys : List Lk) : ∃ D, gsOf ys ++ [r] = headG r ys :: D ∧ (headG r ys :: D).dropLast = gsOf ys ∧ (∀ x ∈ D, x = r ∨ x ∈ gsOf ys) ∧ ((gsOf ys ++ [r]).Nodup → ∀ x ∈ D, x ≠ headG r ys) := by
  cases ys with
  | nil => exact ⟨[], rfl, rfl, (fun x hx => absurd hx (by simp)), (fun _ x hx => absurd hx (by simp))⟩
  | cons y ys =>
    refine ⟨gsOf ys ++ [r], rfl, ?_, ?_, ?_⟩
    · exact List.dropLast_concat (l₁ := gsOf (y :: ys)) (b := r)
    · intro x hx; simp at hx ⊢; rcases hx with h | h
      · exact .inr (.inr h)
      · exact .inl h
    · intro hn x hx e
      have := (List.nodup_cons.1 (show (y.g :: (gsOf ys ++ [r])).Nodup from hn)).1
      have e' : x = y.g := e
      exact this (by rw [← e']; exact hx)
theorem headG_mem (r : Nat) (ys : List Lk) : headG r ys = r ∨ headG r ys ∈ gsOf ys := by
  cases ys with
  | nil => exact .inl rfl
  | cons y ys => exact .inr (by show y.g ∈ _; simp)

/-- What stands on both sides of a place in the ring. -/
theorem Ring.around {w : World} {B r : Nat} {xs ys : List Lk} (h : Ring w B r (xs ++ ys)) :
    w.cell? ⟨lastG r (gsOf xs), 3, none⟩ = some (ptr (headG r ys)) ∧ w.cell? ⟨headG r ys, 2, none⟩ = some (ptr (lastG r (gsOf xs))) ∧ IsLink w (lastG r (gsOf xs)) ∧ IsLink w (headG r ys) := by
  have hl := h.links
  obtain ⟨D, hD, _⟩ := head_tail r ys
  rw [show gsOf (xs ++ ys) = gsOf xs ++ gsOf ys by simp, List.append_assoc, hD, links_app] at hl
  refine ⟨hl.2.1, hl.2.2.1, ?_, ?_⟩
  · rcases List.mem_cons.1 (lastG_mem (gsOf xs) r) with e | e
    · rw [e]; exact h.root
    · simp at e; obtain ⟨x, hx, e⟩ := e
      rw [← e]; exact (h.has x (by simp [hx])).link
  · rcases headG_mem r ys with e | e
    · rw [e]; exact h.root
    · simp at e; obtain ⟨x, hx, e⟩ := e
      have : headG r ys = x.g := e.symm
      rw [this]; exact (h.has x (by simp [hx])).link
theorem ring_insert {w : World} {B r : Nat} {xs ys : List Lk} {p : Lk} {u2 u3 : Value} (h : Ring w B r (xs ++ ys)) (hp : Has w p) (hB : B ≤ p.g ∧ B ≤ p.b) (hp2 : w.cell? ⟨p.g, 2, none⟩ = some u2) (hp3 : w.cell? ⟨p.g, 3, none⟩ = some u3)
    (hnew : p.g ∉ r :: gsOf (xs ++ ys)) (hap : ∀ x ∈ xs ++ ys, Apart p x) (hf : p.t ≠ []) :
    Ring ((((w.setCell ⟨p.g, 2, none⟩ (ptr (lastG r (gsOf xs)))).setCell ⟨p.g, 3, none⟩ (ptr (headG r ys))).setCell ⟨lastG r (gsOf xs), 3, none⟩ (ptr p.g)).setCell ⟨headG r ys, 2, none⟩ (ptr p.g)) B r (xs ++ p :: ys) := by
  obtain ⟨a3, a2, lq, lk⟩ := h.around
  obtain ⟨D, hD, hD1, hD2, hD3⟩ := head_tail r ys
  have hl := h.links
  have hdis := h.dis
  rw [show gsOf (xs ++ ys) = gsOf xs ++ gsOf ys by simp] at hdis hnew
  rw [show gsOf (xs ++ ys) = gsOf xs ++ gsOf ys by simp, List.append_assoc, hD, links_app] at hl
  obtain ⟨l1, _, _, l2⟩ := hl
  have hqm := lastG_mem (gsOf xs) r
  have hkm := headG_mem r ys
  generalize hq : lastG r (gsOf xs) = q at *
  generalize hk : headG r ys = k at *
  have hnq : p.g ≠ q := by
    intro e; apply hnew; rw [e]
    rcases List.mem_cons.1 hqm with e | e
    · simp [e]
    · exact List.mem_cons_of_mem _ (List.mem_append_left _ e)
  have hnk : p.g ≠ k := by
    intro e; apply hnew; rw [e]
    rcases hkm with e | e
    · simp [e]
    · exact List.mem_cons_of_mem _ (List.mem_append_right _ e)
  have hL : ∀ g, IsLink w g → IsLink ((((w.setCell ⟨p.g, 2, none⟩ (ptr q)).setCell ⟨p.g, 3, none⟩ (ptr k)).setCell ⟨q, 3, none⟩ (ptr p.g)).setCell ⟨k, 2, none⟩ (ptr p.g)) g := fun g hg => (((hg.set _ _ _).set _ _ _).set _ _ _).set _ _ _
  have hH : ∀ x, Has w x → Has ((((w.setCell ⟨p.g, 2, none⟩ (ptr q)).setCell ⟨p.g, 3, none⟩ (ptr k)).setCell ⟨q, 3, none⟩ (ptr p.g)).setCell ⟨k, 2, none⟩ (ptr p.g)) x := fun x hx =>
    (((hx.set (by omega) hp.link _).set (by omega) (hp.link.set _ _ _) _).set (by omega) ((lq.set _ _ _).set _ _ _) _).set (by omega) (((lk.set _ _ _).set _ _ _).set _ _ _) _
  have n3 : ∀ x, x ≠ q → x ≠ p.g → ((((w.setCell ⟨p.g, 2, none⟩ (ptr q)).setCell ⟨p.g, 3, none⟩ (ptr k)).setCell ⟨q, 3, none⟩ (ptr p.g)).setCell ⟨k, 2, none⟩ (ptr p.g)).cell? ⟨x, 3, none⟩ = w.cell? ⟨x, 3, none⟩ := fun x h1 h2 => by
    rw [cell_ne (.inr (by omega)), cell_ne (.inl (Ne.symm h1)), cell_ne (.inl (Ne.symm h2)), cell_ne (.inr (by omega))]
  have n2 : ∀ x, x ≠ k → x ≠ p.g → ((((w.setCell ⟨p.g, 2, none⟩ (ptr q)).setCell ⟨p.g, 3, none⟩ (ptr k)).setCell ⟨q, 3, none⟩ (ptr p.g)).setCell ⟨k, 2, none⟩ (ptr p.g)).cell? ⟨x, 2, none⟩ = w.cell? ⟨x, 2, none⟩ := fun x h1 h2 => by
    rw [cell_ne (.inl (Ne.symm h1)), cell_ne (.inr (by omega)), cell_ne (.inr (by omega)), cell_ne (.inl (Ne.symm h2))]
  have e1 : ((((w.setCell ⟨p.g, 2, none⟩ (ptr q)).setCell ⟨p.g, 3, none⟩ (ptr k)).setCell ⟨q, 3, none⟩ (ptr p.g)).setCell ⟨k, 2, none⟩ (ptr p.g)).cell? ⟨q, 3, none⟩ = some (ptr p.g) := by
    rw [cell_ne (.inr (by omega))]; exact cell_eq (by rw [cell_ne (.inl hnq), cell_ne (.inr (by omega))]; exact a3)
  have e2 : ((((w.setCell ⟨p.g, 2, none⟩ (ptr q)).setCell ⟨p.g, 3, none⟩ (ptr k)).setCell ⟨q, 3, none⟩ (ptr p.g)).setCell ⟨k, 2, none⟩ (ptr p.g)).cell? ⟨p.g, 2, none⟩ = some (ptr q) := by
    rw [cell_ne (.inl (Ne.symm hnk)), cell_ne (.inr (by omega)), cell_ne (.inr (by omega))]; exact cell_eq hp2
  have e3 : ((((w.setCell ⟨p.g, 2, none⟩ (ptr q)).setCell ⟨p.g, 3, none⟩ (ptr k)).setCell ⟨q, 3, none⟩ (ptr p.g)).setCell ⟨k, 2, none⟩ (ptr p.g)).cell? ⟨p.g, 3, none⟩ = some (ptr k) := by
    rw [cell_ne (.inr (by omega)), cell_ne (.inl (Ne.symm hnq))]; exact cell_eq (by rw [cell_ne (.inr (by omega))]; exact hp3)
  have e4 : ((((w.setCell ⟨p.g, 2, none⟩ (ptr q)).setCell ⟨p.g, 3, none⟩ (ptr k)).setCell ⟨q, 3, none⟩ (ptr p.g)).setCell ⟨k, 2, none⟩ (ptr p.g)).cell? ⟨k, 2, none⟩ = some (ptr p.g) := by
    exact cell_eq (by rw [cell_ne (.inr (by omega)), cell_ne (.inr (by omega)), cell_ne (.inl hnk)]; exact a2)
  generalize (((w.setCell ⟨p.g, 2, none⟩ (ptr q)).setCell ⟨p.g, 3, none⟩ (ptr k)).setCell ⟨q, 3, none⟩ (ptr p.g)).setCell ⟨k, 2, none⟩ (ptr p.g) = w' at *
  have hsub : ∀ x ∈ xs ++ p :: ys, x = p ∨ x ∈ xs ++ ys := fun x hx => by simp at hx ⊢; rcases hx with h | h | h <;> simp [h]
  have hpn : ∀ x ∈ r :: (gsOf xs ++ gsOf ys), x ≠ p.g := fun x hx e => hnew (e ▸ hx)
  obtain ⟨hr1, hr2⟩ := List.nodup_cons.1 hdis
  refine ⟨hL _ h.root, ⟨h.base.1, fun x hx => ?_⟩, fun x hx => ?_, ?_, ?_, ?_, fun x hx => ?_⟩
  · rcases hsub x hx with rfl | hx
    · exact hB
    · exact h.base.2 x hx
  · rcases hsub x hx with rfl | hx
    · exact hH _ hp
    · exact hH _ (h.has x hx)
  · rw [show gsOf (xs ++ p :: ys) = gsOf xs ++ p.g :: gsOf ys by simp, List.append_assoc, List.cons_append, hD, links_app, hq]
    have hnd : (r :: gsOf xs).Nodup := List.nodup_cons.2 ⟨fun e => hr1 (List.mem_append_left _ e), (List.nodup_append.1 hr2).1⟩
    refine ⟨links_of _ _ l1 (fun x hx => n3 x ?_ (hpn x ?_)) (fun x hx => n2 x ?_ (hpn x ?_)), e1, e2, e3, e4, links_of _ _ l2 (fun x hx => n3 x ?_ (hpn x ?_)) (fun x hx => n2 x ?_ (hpn x ?_))⟩
    · rw [← hq]; exact last_drop _ _ hnd x hx
    · have := (List.dropLast_sublist _).subset hx
      rcases List.mem_cons.1 this with e | e
      · simp [e]
      · exact List.mem_cons_of_mem _ (List.mem_append_left _ e)
    · rcases hkm with e | e
      · rw [e]; intro e2; exact hr1 (List.mem_append_left _ (e2 ▸ hx))
      · intro e2; exact (List.nodup_append.1 hr2).2.2 x hx k e e2
    · exact List.mem_cons_of_mem _ (List.mem_append_left _ hx)
    · rw [hD1] at hx
      rcases List.mem_cons.1 hqm with e | e
      · rw [e]; intro e2; exact hr1 (List.mem_append_right _ (e2 ▸ hx))
      · intro e2; exact (List.nodup_append.1 hr2).2.2 q e x hx e2.symm
    · rw [hD1] at hx; exact List.mem_cons_of_mem _ (List.mem_append_right _ hx)
    · refine hD3 ?_ x hx
      rw [List.nodup_append]
      exact ⟨(List.nodup_append.1 hr2).2.1, by simp, fun a ha b hb e => by simp at hb; subst hb; subst e; exact hr1 (List.mem_append_right _ ha)⟩
    · rcases hD2 x hx with e | e
      · simp [e]
      · exact List.mem_cons_of_mem _ (List.mem_append_right _ e)
  · rw [show gsOf (xs ++ p :: ys) = gsOf xs ++ p.g :: gsOf ys by simp]
    have hp' : (p.g :: (r :: (gsOf xs ++ gsOf ys))).Nodup := List.nodup_cons.2 ⟨hnew, hdis⟩
    refine (List.Perm.nodup_iff ?_).1 hp'
    exact (List.perm_middle (l₁ := r :: gsOf xs)).symm
  · have hpw := h.apart
    rw [List.pairwise_append] at hpw ⊢
    refine ⟨hpw.1, List.pairwise_cons.2 ⟨fun y hy => hap y (by simp [hy]), hpw.2.1⟩, fun a ha b hb => ?_⟩
    rcases List.mem_cons.1 hb with rfl | hb
    · exact (hap a (by simp [ha])).symm
    · exact hpw.2.2 a ha b hb
  · rcases hsub x hx with rfl | hx
    · exact hf
    · exact h.full x hx
end Go.Proofs.YtdcahilfmhkmiaaGreatDoor

namespace Go.Proofs.YtdcahilfmhkmiaaGreatDoor
open Go.RowKit

theorem putAhead_ring {w : World} {B r : Nat} {xs ys : List Lk} {p : Lk} (h : Ring w B r (xs ++ ys)) (hp : Has w p) (hl : p.t.length ≤ 2000000) (hB : B ≤ p.g ∧ B ≤ p.b) {u2 u3 : Value} (hp2 : w.cell? ⟨p.g, 2, none⟩ = some u2) (hp3 : w.cell? ⟨p.g, 3, none⟩ = some u3)
    (hnew : p.g ∉ r :: gsOf (xs ++ ys)) (hap : ∀ x ∈ xs ++ ys, Apart p x) (hf : p.t ≠ []) :
    Calls Tryz.prog 206 #[ptr (headG r ys), ptr p.g] w fun e w' => e = .returned (.tuple #[]) ∧ Ring w' B r (xs ++ p :: ys) ∧ Only (fun i => i = p.g ∨ i ∈ r :: gsOf (xs ++ ys)) w w' := by
  obtain ⟨a3, a2, lq, lk⟩ := h.around
  have hq := lastG_mem (gsOf xs) r
  have hk := headG_mem r ys
  have hqi : lastG r (gsOf xs) ∈ r :: gsOf (xs ++ ys) := by
    rw [show gsOf (xs ++ ys) = gsOf xs ++ gsOf ys by simp]
    rcases List.mem_cons.1 hq with e | e
    · simp [e]
    · exact List.mem_cons_of_mem _ (List.mem_append_left _ e)
  have hki : headG r ys ∈ r :: gsOf (xs ++ ys) := by
    rw [show gsOf (xs ++ ys) = gsOf xs ++ gsOf ys by simp]
    rcases hk with e | e
    · rw [e]; exact List.mem_cons_self
    · exact List.mem_cons_of_mem _ (List.mem_append_right _ e)
  have hlen : 0 < p.t.length := List.length_pos_iff.2 hf
  refine (putAhead_cells hp.at1 hlen (by omega) a2 hp2 hp3 a3 (lk.free 2) (hp.link.free 2) (hp.link.free 3) (lq.free 3) (fun e => hnew (e ▸ hki)) (fun e => hnew (e ▸ hqi))).mono ?_
  rintro e w' ⟨rfl, rfl⟩
  exact ⟨rfl, ring_insert h hp hB hp2 hp3 hnew hap hf, ((((Only.refl _ _).set (.inl rfl) _ _).set (.inl rfl) _ _).set (.inr hqi) _ _).set (.inr hki) _ _⟩
theorem newChain_ring (w : World) : Calls Tryz.prog 205 #[] w fun e w' => ∃ r, e = .returned (ptr r) ∧ w.heap.size ≤ r ∧ Ring w' w.heap.size r [] ∧ Below w.heap.size w w' := by
  refine (newChain_cells w).mono ?_
  rintro e w' ⟨rfl, rfl⟩
  have hg := heap_new w (.cells #[.int .i64 0, .slice none 0 0, ptr w.heap.size, ptr w.heap.size] 221)
  refine ⟨_, rfl, Nat.le_refl _, ⟨⟨_, hg⟩, ⟨Nat.le_refl _, (fun x hx => absurd hx (by simp))⟩, (fun x hx => absurd hx (by simp)), ?_, (by simp), List.Pairwise.nil, (fun x hx => absurd hx (by simp))⟩, (Below.refl _ _).alloc (Nat.le_refl _) _⟩
  exact ⟨World.cell?_alloc_new _ _ _ _, World.cell?_alloc_new _ _ _ _, trivial⟩
/-- A link that a call has just made is none of the ring's. -/
theorem ring_fresh {w : World} {B r : Nat} {ks : List Lk} (h : Ring w B r ks) {g : Nat} (hg : w.heap.size ≤ g) : g ∉ r :: gsOf ks := by
  intro e
  have : g < w.heap.size := by
    rcases List.mem_cons.1 e with e | e
    · exact h.lt g (.inl e)
    · simp at e; obtain ⟨x, hx, e⟩ := e; exact h.lt g (.inr ⟨x, hx, .inl e.symm⟩)
  omega
theorem ring_apart {w : World} {B r : Nat} {ks : List Lk} (h : Ring w B r ks) {p : Lk} (hg : w.heap.size ≤ p.b) : ∀ x ∈ ks, Apart p x := fun x hx _ e => by
  have := h.lt x.b (.inr ⟨x, hx, .inr rfl⟩)
  omega
theorem right_full {l : List Pc} (hr : right l) : full l := fun p hp => by
  obtain ⟨k, hk, rfl⟩ := List.getElem_of_mem hp
  have := (hr.2 k hk).1
  simpa [pcAt, List.getD, hk] using this

set_option maxHeartbeats 1000000 in
set_option maxRecDepth 100000 in
theorem chainOf_calls {a : Option Addr} {len cap : Nat} {l : List Pc} {w : World} (h : InPcs w a len l) (hr : right l) :
    Calls Tryz.prog 191 #[.slice a len cap] w fun e w' => ∃ r ks, e = .returned (ptr r) ∧ Ring w' w.heap.size r ks ∧ ks.map Lk.pc = l ∧ Below w.heap.size w w' := by
  have hm := h.most
  have hlen := h.long
  have hfull : ∀ i, i < len → (pcAt l i).2 ≠ [] := fun i hi => (hr.2 i (by omega)).1
  have HF := Lib.hid hfull
  clear hfull hr
  go_enter Tryz.func191, Tryz.ntmps191
  go_wp2_with fail
  refine (newChain_ring w).mono ?_
  rintro e w1 ⟨r, rfl, hrs, hring, hb1⟩
  have HR := Lib.hid hring
  have HB := Lib.hid hb1
  have HS := Lib.hid hrs
  clear hring hb1 hrs
  go_wp2_with fail
  go_loopw [9] (fun i wr => ∃ (k : Nat) (ks : List Lk), i = .int .i64 (k : Int) ∧ k ≤ len ∧ ks.map Lk.pc = l.take k ∧ Ring wr w.heap.size r ks ∧ Below w.heap.size w wr) (fun i _ => len - (intOf i).toNat)
  case atStart => exact ⟨0, [], rfl, Nat.zero_le _, rfl, HR.out, HB.out⟩
  case round =>
    clear HR HB
    obtain ⟨k, ks, rfl, hk, hks, hring, hbl⟩ := hrel
    by_cases hkl : k < len
    · have hh := h.below hbl
      obtain ⟨b, o, rfl⟩ := hh.there (by omega)
      obtain ⟨c0, c1⟩ := hh.cell b o rfl k hkl
      obtain ⟨_, _, f2⟩ := hh.fit k hkl
      have hne := HF.out k hkl
      have htk : l.take (k + 1) = l.take k ++ [pcAt l k] := by
        rw [List.take_succ_eq_append_getElem (by omega)]; simp [pcAt, List.getD, (by omega : k < l.length)]
      have hcall := fun w => linkOf_calls (pcAt l k) w f2
      generalize pcAt l k = p at *
      obtain ⟨n, t⟩ := p
      dsimp only at c0 c1 f2 hne
      have HC := Lib.hid hcall
      have HR := Lib.hid hring
      have HK := Lib.hid hks
      have HT := Lib.hid htk
      have HB := Lib.hid hbl
      have HN := Lib.hid hne
      clear hh hcall hring hks htk hbl hne h
      go_wp2_with fail
      refine (HC.out _).mono ?_
      rintro e w2 ⟨x, rfl, hpc, hg, hb, hx, h2, h3, hb2⟩
      have hA : Below wr.heap.size wr w2 := ((Below.refl _ _).alloc (Nat.le_refl _) _).trans (hb2.mono (by simp))
      have hg' : wr.heap.size ≤ x.g := Nat.le_trans (by simp) hg
      have hb' : wr.heap.size ≤ x.b := Nat.le_trans (by simp) hb
      have hw := HB.out.size
      obtain ⟨hp1, hp2⟩ := Prod.mk.inj hpc
      have hput := putAhead_ring (xs := ks) (ys := []) (by rw [List.append_nil]; exact HR.out.below hA) hx (by rw [hp2]; exact f2) ⟨by omega, by omega⟩ h2 h3 (by rw [List.append_nil]; exact ring_fresh HR.out hg') (by rw [List.append_nil]; exact ring_apart HR.out hb') (by rw [hp2]; exact HN.out)
      have hks2 : (ks ++ [x]).map Lk.pc = l.take (k + 1) := by rw [HT.out, ← HK.out, List.map_append]; simp [hp1, hp2]
      have hBB : Below w.heap.size w w2 := HB.out.trans (hA.mono hw)
      have hsize : w.heap.size ≤ w2.heap.size := hBB.size
      have HP := Lib.hid hput
      have HKS := Lib.hid hks2
      have HBB := Lib.hid hBB
      have HGX := Lib.hid hg'
      have HRB := Lib.hid (HR.out.base)
      clear hput hks2 hBB hA hg' hb' hpc hp1 hp2 hx h2 h3 hb2 hg hb HC HR HK HT HB HN
      go_wp2_with fail
      refine HP.out.mono ?_
      rintro e w3 ⟨rfl, hring, honly⟩
      have hB3 : Below w.heap.size w w3 := Only.below HBB.out hsize honly (fun i hi => by
        rcases hi with hi | hi
        · have := HGX.out; omega
        · rw [List.append_nil] at hi
          rcases List.mem_cons.1 hi with e | e
          · have := HRB.out.1; omega
          · simp at e; obtain ⟨y, hy, e⟩ := e; have := (HRB.out.2 y hy).1; omega)
      have HR3 := Lib.hid hring
      have HB3 := Lib.hid hB3
      clear hring honly hB3
      go_wp2_with fail
      go_roundw
      case rel => exact ⟨k + 1, ks ++ [x], by go_num, by omega, HKS.out, HR3.out, HB3.out⟩
      case measure => simp [intOf]; omega
    · have hd : l.take k = l := List.take_of_length_le (by omega)
      rw [hd] at hks
      have HK := Lib.hid hks
      have HR := Lib.hid hring
      clear h hd hks hring
      go_wp2_with fail
      go_ret
      exact ⟨r, ks, rfl, HR.out, HK.out, hbl⟩
end Go.Proofs.YtdcahilfmhkmiaaGreatDoor

namespace Go.Proofs.YtdcahilfmhkmiaaGreatDoor
open Go.RowKit

/-- What the link at hand gives a walk along the ring. -/
theorem Ring.at {w : World} {B r : Nat} {ks xs ys : List Lk} {y : Lk} (h : Ring w B r ks) (e : ks = xs ++ y :: ys) :
    Has w y ∧ w.cell? ⟨y.g, 3, none⟩ = some (ptr (headG r ys)) ∧ w.cell? ⟨y.g, 2, none⟩ = some (ptr (lastG r (gsOf xs))) ∧ y.g ≠ r ∧ y.t ≠ [] := by
  subst e
  have h1 := h.around (xs := xs) (ys := y :: ys)
  have h2 := Ring.around (xs := xs ++ [y]) (ys := ys) (by simpa using h)
  have hl : lastG r (gsOf (xs ++ [y])) = y.g := by
    have : ∀ (l : List Nat) (a b : Nat), lastG a (l ++ [b]) = b := by
      intro l
      induction l with
      | nil => intro a b; rfl
      | cons c l ih => intro a b; exact ih c b
    rw [show gsOf (xs ++ [y]) = gsOf xs ++ [y.g] by simp, this]
  rw [hl] at h2
  refine ⟨h.has y (by simp), h2.1, h1.2.1, ?_, h.full y (by simp)⟩
  intro e
  have := (List.nodup_cons.1 h.dis).1
  apply this
  rw [← e]; simp
theorem has_string {w : World} {x : Lk} (h : Has w x) : (convert 22 9 (.slice (some ⟨x.b, x.o, none⟩) x.t.length x.cap)).run Tryz.prog w = .ok (gs x.t) w :=
  run_convert_bytes_back w _ _ 5 ⟨x.b, x.o, none⟩ x.cap x.t Tryz.underlying22 Tryz.underlying5 Tryz.underlying9 (fun j hj => by
    have hadd : (⟨x.b, x.o, none⟩ : Addr).add j = ⟨x.b, x.o + j, none⟩ := by rw [Addr.add_lit]
    rw [hadd]; exact h.byte j hj)

theorem ptr_same (w : World) (g : Nat) : (binOp .neq 217 (ptr g) (ptr g)).run Tryz.prog w = .ok (.bool false) w := by
  obtain ⟨j, hj⟩ : ∃ j, Tryz.prog.info? 221 = some j := by
    have h : (Tryz.prog.info? 221).isSome = true := by kernel_rfl
    exact Option.isSome_iff_exists.1 h
  have h : ∀ d : Nat, (Op.equalIn (d + 1) 217 (ptr g) (ptr g)).run Tryz.prog w = .ok true w := fun d => by
    simp [Op.equalIn, run_underlying Tryz.underlying217, sizeOf, typeInfo, hj, run_sameAddr_same]
  simp only [binOp]
  simp [Op.equal, Op.maxDepth, h 9999]
theorem ptr_other {w : World} {g k : Nat} (hg : IsLink w g) (hk : IsLink w k) (hne : g ≠ k) : (binOp .neq 217 (ptr g) (ptr k)).run Tryz.prog w = .ok (.bool true) w := by
  obtain ⟨j, hj, hs⟩ : ∃ j, Tryz.prog.info? 221 = some j ∧ j.size ≠ 0 := by
    have h : (Tryz.prog.info? 221).map (fun i => i.size) = some 4 := by kernel_rfl
    cases hi : Tryz.prog.info? 221 with
    | none => rw [hi] at h; cases h
    | some j => rw [hi] at h; simp at h; exact ⟨j, rfl, by omega⟩
  obtain ⟨c, hc⟩ := hg
  obtain ⟨d, hd⟩ := hk
  have ha : (⟨g, 0, none⟩ : Addr) ≠ ⟨k, 0, none⟩ := fun e => hne (Addr.mk.inj e).1
  have h : ∀ d : Nat, (Op.equalIn (d + 1) 217 (ptr g) (ptr k)).run Tryz.prog w = .ok false w := fun d => by
    simp [Op.equalIn, run_underlying Tryz.underlying217, sizeOf, typeInfo, hj, hs, run_sameAddr_other w ha hc hd]
  simp only [binOp]
  simp [Op.equal, Op.maxDepth, h 9999]

set_option maxHeartbeats 2000000 in
set_option maxRecDepth 100000 in
theorem pieces_calls {w : World} {B r : Nat} {ks : List Lk} (h : Ring w B r ks) (hn : ks.length ≤ 1000) :
    Calls Tryz.prog 194 #[ptr r] w fun e w' => ∃ v, e = .returned v ∧ w'.ownsRow w.heap.size 121 2 v ks.length (pv (ks.map Lk.pc)) ∧ Below w.heap.size w w' := by
  have hzz : (Tryz.prog.info? 121).map (fun i => (i.zero, i.size, i.bytes)) = some (some (.agg #[.int .i64 0, gs []]), 2, 24) := by kernel_rfl
  obtain ⟨i0, hi, hz0, hz1, hz2⟩ := info_parts hzz
  clear hzz
  have h3 : w.cell? ⟨r, 3, none⟩ = some (ptr (headG r ks)) := (h.around (xs := []) (ys := ks)).1
  have H := Lib.hid h
  clear h
  go_enter Tryz.func194, Tryz.ntmps194
  go_wp2_with fail
  go_loopg [3, 4] ks.length (fun m v p wr => ∃ xs ys, ks = xs ++ ys ∧ ys.length = m ∧ p = ptr (headG r ys) ∧ wr.ownsRow w.heap.size 121 2 v xs.length (pv (xs.map Lk.pc)) ∧ Below w.heap.size w wr)
  case atStart => exact ⟨[], ks, rfl, rfl, rfl, World.ownsRow_nil w _ _ _, Below.refl _ _⟩
  case round =>
    clear h3
    obtain ⟨xs, ys, hsp, hm, rfl, hown, hbl⟩ := hrel
    cases ys with
    | nil =>
      have hhd : headG r [] = r := rfl
      rw [hhd]
      have hx : ks = xs := by rw [hsp]; simp
      have hpq := ptr_same wr r
      have HO := Lib.hid hown
      have HX := Lib.hid hx
      clear hsp hx hhd hown hm
      go_wp2_with fail
      go_ret
      exact ⟨_, rfl, by rw [HX.out]; exact HO.out, hbl⟩
    | cons y ys =>
      have hhd : headG r (y :: ys) = y.g := rfl
      rw [hhd]
      obtain ⟨hy, y3, _, yr, _⟩ := H.out.at hsp
      have hy1 := hy.below hbl
      have c0 := hy1.at0
      have c1 := hy1.at1
      have c3 := (hbl.cell (p := ⟨y.g, 3, none⟩) hy.link.lt).trans y3
      have hcv := has_string (w := wr.drew) (hy1.drew 1)
      have hpq := ptr_other hy1.link (H.out.root.of (hbl.block r H.out.root.lt)) yr
      have hxl : xs.length < 1000 := by have := congrArg List.length hsp; simp at this; omega
      have hws := hbl.size
      have HO := Lib.hid hown
      have HB := Lib.hid hbl
      have HS := Lib.hid hsp
      have HM := Lib.hid hm
      have HCV := Lib.hid hcv
      have HY := Lib.hid hy
      have Y3 := Lib.hid y3
      clear hown hbl hsp hm hcv hy hy1 hhd y3
      go_wp2_with fail
      have hcv := HCV.out
      go_region_law (refine step_append_lies _ rfl (.tmp 16) (.tmp 27) 23 rfl w.heap.size 121 i0 (.agg #[.int .i64 0, gs []]) 2 24 Tryz.underlying23 hi hz0 hz1 hz2 rfl (by decide) _ xs.length (pv (xs.map Lk.pc)) (by simp [Act.eval]) ((HO.out.alloc _).drew) ⟨wr.heap.size, 0, none⟩ 1 1 [.int .i64 y.n, gs y.t] (by simp [Act.eval]) rfl (fun j u hj => two_new wr _ _ _ j u hj) (two_cell _ _ _) (by decide) (by unfold maxLen; omega) (by omega) (by simp; omega) _ rfl ?_; intro g1 cap1 w1 hown1 hgrow1 _ _)
      all_goals
        have hg' : (wr.alloc (.cells #[.int .i64 y.n, gs y.t] 121)).grownBy w1 _ := ⟨hgrow1.os, hgrow1.tape, hgrow1.output, hgrow1.size, hgrow1.block⟩
        have R := piece_step (p := y.pc) HB.out hws (by rw [List.length_map]; exact HO.out) (by rw [List.length_map]; exact hown1) hg'
        have c3' := (R.2.cell (p := ⟨y.g, 3, none⟩) HY.out.link.lt).trans Y3.out
        have hR1 : w1.ownsRow w.heap.size 121 2 (.slice (some ⟨g1, 0, none⟩) (xs.length + 1) cap1) (xs ++ [y]).length (pv ((xs ++ [y]).map Lk.pc)) := by
          have := R.1
          rw [show (xs ++ [y]).map Lk.pc = xs.map Lk.pc ++ [y.pc] by simp]
          simpa using this
        have HR1 := Lib.hid hR1
        have HR2 := Lib.hid R.2
        clear hg' R hR1 hown1 hgrow1 hcv c0 c1 c3
        go_wp2_with fail
        go_roundg ys.length
        case measure => have := HM.out; simp at this; omega
        case rel => exact ⟨xs ++ [y], ys, by rw [HS.out]; simp, rfl, rfl, HR1.out, HR2.out⟩
end Go.Proofs.YtdcahilfmhkmiaaGreatDoor

namespace Go.Proofs.YtdcahilfmhkmiaaGreatDoor
open Go.RowKit

structure Filling (w : World) (B r : Nat) (p : Lk) (w' : World) (xs ys : List Lk) : Prop where
  ring : Ring w' B r (xs ++ ys)
  has : Has w' p
  new : p.g ∉ r :: gsOf (xs ++ ys)
  far : ∀ x ∈ xs ++ ys, x.b ≠ p.b ∨ x.cap = x.t.length
  base : B ≤ p.b
  below : Below B w w'
theorem Filling.size {w w' : World} {B r : Nat} {p : Lk} {xs ys : List Lk} (h : Filling w B r p w' xs ys) : B ≤ w'.heap.size := by
  have := h.ring.base.1
  have := h.ring.root.lt
  omega
theorem Filling.quiet {w w' w2 : World} {B r : Nat} {p : Lk} {xs ys : List Lk} (h : Filling w B r p w' xs ys) (hb : Below w'.heap.size w' w2) : Filling w B r p w2 xs ys :=
  ⟨h.ring.below hb, h.has.below hb, h.new, h.far, h.base, h.below.trans (hb.mono h.size)⟩
theorem Filling.next {w w' : World} {B r : Nat} {p y : Lk} {xs ys : List Lk} (h : Filling w B r p w' xs (y :: ys)) : Filling w B r p w' (xs ++ [y]) ys := by
  have e : xs ++ y :: ys = xs ++ [y] ++ ys := by simp
  exact ⟨e ▸ h.ring, h.has, e ▸ h.new, e ▸ h.far, h.base, h.below⟩
theorem Filling.insert {w w2 w3 : World} {B r : Nat} {p c : Lk} {xs ys : List Lk} (h : Filling w B r p w2 xs ys) (hn : c.g ∉ r :: gsOf (xs ++ ys)) (hg : c.g ≠ p.g) (hc : Has w2 c) (hB : B ≤ c.g) (hcap : c.cap = c.t.length)
    (hr : Ring w3 B r (xs ++ c :: ys)) (ho : Only (fun i => i = c.g ∨ i ∈ r :: gsOf (xs ++ ys)) w2 w3) : Filling w B r p w3 (xs ++ [c]) ys := by
  have e : xs ++ c :: ys = xs ++ [c] ++ ys := by simp
  have hm : ∀ i, i ∈ r :: gsOf (xs ++ ys) → IsLink w2 i ∧ B ≤ i := fun i hi => by
    rcases List.mem_cons.1 hi with rfl | hi
    · exact ⟨h.ring.root, h.ring.base.1⟩
    · rw [List.mem_map] at hi; obtain ⟨x, hx, rfl⟩ := hi; exact ⟨(h.ring.has x hx).link, (h.ring.base.2 x hx).1⟩
  refine ⟨e ▸ hr, h.has.of (ho.block _ h.has.link.lt ?_) (ho.block _ h.has.kind.lt ?_), ?_, ?_, h.base, Only.below h.below h.size ho ?_⟩
  · rintro (e | e)
    · exact hg e.symm
    · exact h.new e
  · rintro (e | e)
    · exact link_bytes_ne hc.link h.has.kind e.symm
    · exact link_bytes_ne (hm _ e).1 h.has.kind rfl
  · intro hx
    rw [show gsOf (xs ++ [c] ++ ys) = gsOf xs ++ (c.g :: gsOf ys) by simp] at hx
    have : p.g = c.g ∨ p.g ∈ r :: gsOf (xs ++ ys) := by
      rw [show gsOf (xs ++ ys) = gsOf xs ++ gsOf ys by simp]
      rcases List.mem_cons.1 hx with h | h
      · exact .inr (by rw [h]; exact List.mem_cons_self)
      · rcases List.mem_append.1 h with h | h
        · exact .inr (List.mem_cons_of_mem _ (List.mem_append_left _ h))
        · rcases List.mem_cons.1 h with h | h
          · exact .inl h
          · exact .inr (List.mem_cons_of_mem _ (List.mem_append_right _ h))
    rcases this with h' | h'
    · exact hg h'.symm
    · exact h.new h'
  · intro x hx
    have : x = c ∨ x ∈ xs ++ ys := by simp at hx ⊢; rcases hx with h | h | h <;> simp [h]
    rcases this with rfl | hx
    · exact .inr hcap
    · exact h.far x hx
  · rintro i (rfl | hi)
    · exact hB
    · exact (hm i hi).2
/-- The cut piece stands apart from all. -/
theorem Filling.apart {w w' : World} {B r : Nat} {p c : Lk} {xs ys : List Lk} (h : Filling w B r p w' xs ys) (hb : c.b = p.b) (hcap : c.cap = c.t.length) : ∀ x ∈ xs ++ ys, Apart c x := fun x hx hs e => by
  rcases h.far x hx with h1 | h1
  · exact h1 (by rw [← e, hb])
  · omega
theorem Filling.below_size {w w' : World} {B r : Nat} {p : Lk} {xs ys : List Lk} (h : Filling w B r p w' xs ys) {g : Nat} (hg : w'.heap.size ≤ g) : g ∉ r :: gsOf (xs ++ ys) ∧ g ≠ p.g ∧ B ≤ g :=
  ⟨ring_fresh h.ring hg, fun e => by have := h.has.link.lt; omega, by have := h.size; omega⟩

theorem put_filling {w w2 wr : World} {B r : Nat} {p c : Lk} {xs ys : List Lk} (h : Filling w B r p wr xs ys) (hb : Below wr.heap.size wr w2) (hg : wr.heap.size ≤ c.g) (hcb : c.b = p.b) (hcap : c.cap = c.t.length) (hc : Has w2 c)
    (h2 : w2.cell? ⟨c.g, 2, none⟩ = some (.pointer none)) (h3 : w2.cell? ⟨c.g, 3, none⟩ = some (.pointer none)) (hl : c.t.length ≤ 2000000) (hne : c.t ≠ []) :
    Calls Tryz.prog 206 #[ptr (headG r ys), ptr c.g] w2 fun e w3 => e = .returned (.tuple #[]) ∧ Filling w B r p w3 (xs ++ [c]) ys := by
  obtain ⟨n1, n2, n3⟩ := h.below_size hg
  have hq := h.quiet hb
  refine (putAhead_ring hq.ring hc hl ⟨n3, by rw [hcb]; exact h.base⟩ h2 h3 n1 (h.apart hcb hcap) hne).mono ?_
  rintro e w3 ⟨rfl, hr, ho⟩
  exact ⟨rfl, hq.insert n1 n2 hc n3 hcap hr ho⟩
theorem cut_len (p : Pc) (f t : Int) : (cutP p f t).2.length ≤ p.2.length := by
  unfold cutP; split
  · simp
  · simp only [List.length_take, List.length_drop]; omega

/-- Bounds of what is in a ring. -/
def Small (ks : List Lk) : Prop := ∀ x ∈ ks, 0 ≤ x.n ∧ x.n ≤ 1000000 ∧ x.t.length ≤ 2000000
def FillRel (w : World) (B r : Nat) (p : Lk) (G : List Pc) (F : Int) (w' : World) (xs ys : List Lk) : Prop :=
  Filling w B r p w' xs ys ∧ Small ys ∧ 0 ≤ F ∧ F ≤ 3000000 ∧ G = xs.map Lk.pc ++ fillN (ys.map Lk.pc) F p.pc
theorem fill_cons (y : Lk) (ys : List Lk) (F : Int) (p : Pc) : fillN ((y :: ys).map Lk.pc) F p = nz (cutP p F y.n) ++ y.pc :: fillN (ys.map Lk.pc) (pcEnd y.pc) p := rfl

set_option maxHeartbeats 2000000 in
set_option maxRecDepth 100000 in
theorem fill_calls {w : World} {B r : Nat} {ks : List Lk} {p : Lk} (h : Filling w B r p w [] ks) (hs : Small ks) (hp0 : 0 ≤ p.n) (hp1 : p.n ≤ 1000000) (hpl : p.t.length ≤ 2000000) :
    Calls Tryz.prog 192 #[ptr r, ptr p.g] w fun e w' => ∃ ks', e = .returned (.tuple #[]) ∧ Ring w' B r ks' ∧ ks'.map Lk.pc = fillN (ks.map Lk.pc) p.n p.pc ∧ Below B w w' := by
  have h3 : w.cell? ⟨r, 3, none⟩ = some (ptr (headG r ks)) := (h.ring.around (xs := []) (ys := ks)).1
  have p0 := h.has.at0
  have hrel0 : FillRel w B r p (fillN (ks.map Lk.pc) p.n p.pc) p.n w [] ks := ⟨h, hs, hp0, by omega, rfl⟩
  generalize fillN (ks.map Lk.pc) p.n p.pc = G at *
  have HR := Lib.hid hrel0
  clear h hs hrel0
  go_enter Tryz.func192, Tryz.ntmps192
  go_wp2_with fail
  go_loopg [4, 5] ks.length (fun m f q wr => ∃ xs ys F, ys.length = m ∧ f = .int .i64 F ∧ q = ptr (headG r ys) ∧ FillRel w B r p G F wr xs ys)
  case atStart => exact ⟨[], ks, p.n, rfl, rfl, rfl, HR.out⟩
  case round =>
    clear h3 p0 HR
    obtain ⟨xs, ys, F, hm, rfl, rfl, hF, hsm, hF0, hF1, hG⟩ := hrel
    cases ys with
    | nil =>
      have hhd : headG r [] = r := rfl
      rw [hhd]
      have hpq := ptr_same wr r
      have p0 := hF.has.at0
      have p1 := hF.has.at1
      have HF := Lib.hid hF
      have HG := Lib.hid hG
      clear hF hG hhd hm hsm
      go_wp2_with fail
      refine (end_calls p0 p1 hp0 (by omega) (by omega)).mono ?_
      rintro e w2 ⟨rfl, m2, rfl⟩
      have hE : pcEnd p.pc = p.n + (p.t.length : Int) := rfl
      have hF2 := HF.out.quiet (below_drewN (Below.refl _ _) m2)
      have HF2 := Lib.hid hF2
      clear HF
      by_cases hc : max F p.n < min (pcEnd p.pc) (pcEnd p.pc)
      · have hcall := cut_some hF2.has hp0 (by omega) hpl F (pcEnd p.pc) hc
        have hnz := cutP_nz p.pc F (pcEnd p.pc) hc
        have hln := cut_len p.pc F (pcEnd p.pc)
        rw [hE] at hcall
        have HC := Lib.hid hcall
        have HZ := Lib.hid hnz
        have HE := Lib.hid hE
        have HL := Lib.hid hln
        clear hc hcall hnz hF2 hE hln p0 p1
        go_wp2_with fail
        refine HC.out.mono ?_
        rintro e w3 ⟨c, rfl, hpc, hg, hcb, hcap, hHas, h2, h3, hb3⟩
        rw [← HE.out] at hpc
        have hp2 : c.t = (cutP p.pc F (pcEnd p.pc)).2 := congrArg Prod.snd hpc
        have hput := put_filling HF2.out hb3 hg hcb hcap hHas h2 h3 (by rw [hp2]; exact Nat.le_trans HL.out hpl) (by rw [hp2]; exact HZ.out)
        have HP := Lib.hid hput
        have HPC := Lib.hid hpc
        clear hput hpc hg hcb hcap hHas h2 h3 hb3 hp2 HC
        go_wp2_with fail
        refine HP.out.mono ?_
        rintro e w4 ⟨rfl, hF4⟩
        have HF4 := Lib.hid hF4
        clear hF4
        go_wp2_with fail
        go_end0
        refine ⟨xs ++ [c], rfl, by have := HF4.out.ring; simpa using this, ?_, HF4.out.below⟩
        rw [HG.out, List.map_append]
        show _ ++ [c.pc] = _ ++ nz (cutP p.pc F (pcEnd p.pc))
        rw [nz_some HZ.out, HPC.out]
      · have hcall := cut_none hF2.has hp0 (by omega) hpl F (pcEnd p.pc) (Int.not_lt.1 hc)
        have hnz := cutP_none p.pc F (pcEnd p.pc) hc
        rw [hE] at hcall
        have HC := Lib.hid hcall
        have HZ := Lib.hid hnz
        clear hc hcall hnz hF2 hE p0 p1
        go_wp2_with fail
        refine HC.out.mono ?_
        rintro e w3 ⟨g, rfl, hg1, hb3⟩
        have hF3 := HF2.out.quiet hb3
        have HF3 := Lib.hid hF3
        clear hF3 hb3 HC
        go_wp2_with fail
        refine (putAhead_none hg1).mono ?_
        rintro e w4 ⟨rfl, rfl⟩
        clear hg1
        go_wp2_with fail
        go_end0
        refine ⟨xs, rfl, by have := HF3.out.ring; simpa using this, ?_, HF3.out.below⟩
        rw [HG.out]
        show _ = _ ++ nz (cutP p.pc F (pcEnd p.pc))
        rw [HZ.out]; simp [nz]
    | cons y ys =>
      have hhd : headG r (y :: ys) = y.g := rfl
      rw [hhd]
      obtain ⟨hy, y3, _, yr, _⟩ := hF.ring.at rfl
      have c0 := hy.at0
      have hpq := ptr_other hy.link hF.ring.root yr
      obtain ⟨s0, s1, s2⟩ := hsm y (by simp)
      have hsm' : Small ys := fun x hx => hsm x (by simp [hx])
      rw [fill_cons] at hG
      have HF := Lib.hid hF
      have HS := Lib.hid hsm'
      have HG := Lib.hid hG
      have HM := Lib.hid hm
      clear hF hsm hsm' hG hm hhd hy y3
      by_cases hc : max F p.n < min y.n (pcEnd p.pc)
      · have hcall := cut_some HF.out.has hp0 (by omega) hpl F y.n hc
        have hnz := cutP_nz p.pc F y.n hc
        have hln := cut_len p.pc F y.n
        have HC := Lib.hid hcall
        have HZ := Lib.hid hnz
        have HL := Lib.hid hln
        clear hc hcall hnz hln
        go_wp2_with fail
        refine HC.out.mono ?_
        rintro e w3 ⟨c, rfl, hpc, hg, hcb, hcap, hHas, h2, h3, hb3⟩
        have hp2 : c.t = (cutP p.pc F y.n).2 := congrArg Prod.snd hpc
        have hput := put_filling (ys := y :: ys) HF.out hb3 hg hcb hcap hHas h2 h3 (by rw [hp2]; exact Nat.le_trans HL.out hpl) (by rw [hp2]; exact HZ.out)
        rw [show headG r (y :: ys) = y.g from rfl] at hput
        have HP := Lib.hid hput
        have HPC := Lib.hid hpc
        clear hput hpc hg hcb hcap hHas h2 h3 hb3 hp2 HC c0 hpq
        go_wp2_with fail
        refine HP.out.mono ?_
        rintro e w4 ⟨rfl, hF4⟩
        obtain ⟨hy, y3, _, _, _⟩ := hF4.ring.at rfl
        have HF4 := Lib.hid hF4
        have HY := Lib.hid hy
        have HY3 := Lib.hid y3
        clear hF4 hy y3 HP
        go_wp2_with fail
        refine (end_calls HY.out.at0 HY.out.at1 s0 (by omega) (by omega)).mono ?_
        rintro e w5 ⟨rfl, m5, rfl⟩
        have y3 := HY3.out
        have HF5 := Lib.hid (HF4.out.quiet (below_drewN (Below.refl _ _) m5)).next
        clear HF4 HY HY3
        go_wp2_with fail
        go_roundg ys.length
        case measure => have := HM.out; simp at this; omega
        case rel =>
          refine ⟨xs ++ [c] ++ [y], ys, _, rfl, rfl, rfl, HF5.out, HS.out, by omega, by omega, ?_⟩
          rw [HG.out, nz_some HZ.out, ← HPC.out]
          simp [pcEnd]
      · have hcall := cut_none HF.out.has hp0 (by omega) hpl F y.n (Int.not_lt.1 hc)
        have hnz := cutP_none p.pc F y.n hc
        have HC := Lib.hid hcall
        have HZ := Lib.hid hnz
        clear hc hcall hnz
        go_wp2_with fail
        refine HC.out.mono ?_
        rintro e w3 ⟨g, rfl, hg1, hb3⟩
        have hF3 := HF.out.quiet hb3
        obtain ⟨hy, y3, _, _, _⟩ := hF3.ring.at rfl
        have HF3 := Lib.hid hF3
        have HY := Lib.hid hy
        have HY3 := Lib.hid y3
        clear hF3 hb3 HC c0 hpq hy y3
        go_wp2_with fail
        refine (putAhead_none hg1).mono ?_
        rintro e w4 ⟨rfl, rfl⟩
        clear hg1
        go_wp2_with fail
        refine (end_calls HY.out.at0 HY.out.at1 s0 (by omega) (by omega)).mono ?_
        rintro e w5 ⟨rfl, m5, rfl⟩
        have y3 := HY3.out
        have HF5 := Lib.hid (HF3.out.quiet (below_drewN (Below.refl _ _) m5)).next
        clear HF3 HY HY3
        go_wp2_with fail
        go_roundg ys.length
        case measure => have := HM.out; simp at this; omega
        case rel =>
          refine ⟨xs ++ [y], ys, _, rfl, rfl, rfl, HF5.out, HS.out, by omega, by omega, ?_⟩
          rw [HG.out, HZ.out]
          simp [pcEnd, nz]
end Go.Proofs.YtdcahilfmhkmiaaGreatDoor

namespace Go.Proofs.YtdcahilfmhkmiaaGreatDoor
open Go.RowKit

theorem ring_replace {w w' : World} {B r : Nat} {xs ys : List Lk} {y y' : Lk} (h : Ring w B r (xs ++ y :: ys)) (hy : Has w' y') (hg : y'.g = y.g) (hB : B ≤ y'.b) (hoth : ∀ x ∈ xs ++ ys, Has w' x) (hroot : IsLink w' r)
    (h23 : ∀ g ∈ r :: gsOf (xs ++ y :: ys), w'.cell? ⟨g, 2, none⟩ = w.cell? ⟨g, 2, none⟩ ∧ w'.cell? ⟨g, 3, none⟩ = w.cell? ⟨g, 3, none⟩) (hap : ∀ x ∈ xs ++ ys, Apart y' x) (hf : y'.t ≠ []) : Ring w' B r (xs ++ y' :: ys) := by
  have hgs : gsOf (xs ++ y' :: ys) = gsOf (xs ++ y :: ys) := by simp [hg]
  have hsub : ∀ x ∈ xs ++ y' :: ys, x = y' ∨ x ∈ xs ++ ys := fun x hx => by simp at hx ⊢; rcases hx with h | h | h <;> simp [h]
  have hsup : ∀ x ∈ xs ++ ys, x ∈ xs ++ y :: ys := fun x hx => by simp at hx ⊢; rcases hx with h | h <;> simp [h]
  refine ⟨hroot, ⟨h.base.1, fun x hx => ?_⟩, fun x hx => ?_, ?_, by rw [hgs]; exact h.dis, ?_, fun x hx => ?_⟩
  · rcases hsub x hx with rfl | hx
    · exact ⟨by rw [hg]; exact (h.base.2 y (by simp)).1, hB⟩
    · exact h.base.2 x (hsup x hx)
  · rcases hsub x hx with rfl | hx
    · exact hy
    · exact hoth x hx
  · rw [hgs]
    refine links_of _ _ h.links (fun x hx => (h23 x ?_).2) (fun x hx => (h23 x ?_).1)
    · rw [show r :: (gsOf (xs ++ y :: ys) ++ [r]) = (r :: gsOf (xs ++ y :: ys)) ++ [r] from rfl, List.dropLast_concat] at hx; exact hx
    · rcases List.mem_append.1 hx with hx | hx
      · exact List.mem_cons_of_mem _ hx
      · simp at hx; rw [hx]; exact List.mem_cons_self
  · have hpw := h.apart
    rw [List.pairwise_append] at hpw ⊢
    obtain ⟨p1, p2, p3⟩ := hpw
    refine ⟨p1, List.pairwise_cons.2 ⟨fun x hx => hap x (by simp [hx]), (List.pairwise_cons.1 p2).2⟩, fun a ha b hb => ?_⟩
    rcases List.mem_cons.1 hb with rfl | hb
    · exact (hap a (by simp [ha])).symm
    · exact p3 a ha b (by simp [hb])
  · rcases hsub x hx with rfl | hx
    · exact hf
    · exact h.full x (hsup x hx)

/-- What stands beside the link at hand. -/
theorem Ring.others {w : World} {B r : Nat} {xs ys : List Lk} {y : Lk} (h : Ring w B r (xs ++ y :: ys)) : (∀ x ∈ xs ++ ys, Has w x ∧ x.g ≠ y.g ∧ Apart y x) ∧ y.g ≠ r := by
  have hd := h.dis
  obtain ⟨hr1, hr2⟩ := List.nodup_cons.1 hd
  have hpm : (y.g :: gsOf (xs ++ ys)).Nodup := by
    refine (List.Perm.nodup_iff ?_).1 hr2
    rw [show gsOf (xs ++ y :: ys) = gsOf xs ++ y.g :: gsOf ys by simp, show gsOf (xs ++ ys) = gsOf xs ++ gsOf ys by simp]
    exact List.perm_middle
  refine ⟨fun x hx => ⟨h.has x (by simp at hx ⊢; rcases hx with h | h <;> simp [h]), fun e => ?_, ?_⟩, fun e => hr1 (by rw [← e]; simp)⟩
  · exact (List.nodup_cons.1 hpm).1 (by rw [← e]; exact List.mem_map_of_mem hx)
  · have hpw := h.apart
    rw [List.pairwise_append] at hpw
    obtain ⟨p1, p2, p3⟩ := hpw
    rcases List.mem_append.1 hx with hx | hx
    · exact (p3 x hx y (by simp)).symm
    · exact (List.pairwise_cons.1 p2).1 x hx

/-- An append to a link's bytes, and the store of what comes of it. -/
theorem ring_grown {w W1 : World} {B r : Nat} {xs ys : List Lk} {y y' : Lk} (h : Ring w B r (xs ++ y :: ys)) (hW : ∀ i, i < w.heap.size → (i ≠ y.b ∨ ¬ y.t.length < y.cap) → W1.heap[i]? = w.heap[i]?)
    (hg : y'.g = y.g) (hn : y'.n = y.n) (hb : (y'.b = y.b ∧ y.t.length < y.cap) ∨ w.heap.size ≤ y'.b) (hk : IsBytes W1 y'.b) (hf : y'.t ≠ [])
    (hby : ∀ j (h : j < y'.t.length), W1.cell? ⟨y'.b, y'.o + j, none⟩ = some (.int .u8 (y'.t[j].toNat : Int)))
    (hsp : ∀ j, y'.t.length ≤ j → j < y'.cap → (W1.cell? ⟨y'.b, y'.o + j, none⟩).isSome = true ∧ W1.frozen? ⟨y'.b, y'.o + j, none⟩ = false) (hle : y'.t.length ≤ y'.cap) :
    Ring (W1.setCell ⟨y.g, 1, none⟩ (.slice (some ⟨y'.b, y'.o, none⟩) y'.t.length y'.cap)) B r (xs ++ y' :: ys) := by
  obtain ⟨ho, hyr⟩ := h.others
  have hy := h.has y (by simp)
  have hBr := h.base.1
  have hrl := h.root.lt
  have link : ∀ g, IsLink w g → W1.heap[g]? = w.heap[g]? := fun g hgl => hW g hgl.lt (.inl (link_bytes_ne hgl hy.kind))
  have lk1 : IsLink W1 y.g := hy.link.of (link _ hy.link)
  have hbg : y'.b ≠ y.g := fun e => link_bytes_ne lk1 (e ▸ hk) rfl
  have c1 : W1.cell? ⟨y.g, 1, none⟩ = some (.slice (some ⟨y.b, y.o, none⟩) y.t.length y.cap) := (World.cell?_of_block (a := ⟨y.g, 1, none⟩) (link _ hy.link)).trans hy.at1
  have c0 : W1.cell? ⟨y.g, 0, none⟩ = some (.int .i64 y.n) := (World.cell?_of_block (a := ⟨y.g, 0, none⟩) (link _ hy.link)).trans hy.at0
  have other : ∀ x ∈ xs ++ ys, Has (W1.setCell ⟨y.g, 1, none⟩ (.slice (some ⟨y'.b, y'.o, none⟩) y'.t.length y'.cap)) x := fun x hx => by
    obtain ⟨hx1, hx2, hx3⟩ := ho x hx
    refine hx1.of ((Below.heap_setCell _ _ _ _ hx2).trans (link _ hx1.link)) ((Below.heap_setCell _ _ _ _ (fun e => link_bytes_ne hy.link hx1.kind e.symm)).trans (hW _ hx1.kind.lt ?_))
    by_cases hs : y.t.length < y.cap
    · exact .inl (fun e => hx3 (.inl hs) e.symm)
    · exact .inr hs
  refine ring_replace h ⟨?_, ?_, ?_, ?_, fun j hj => ?_, fun j h1 h2 => ?_, hle⟩ hg ?_ other ((h.root.of (link _ h.root)).set _ _ _) (fun g hgm => ?_) (fun x hx => ?_) hf
  · rw [hg]; exact lk1.set _ _ _
  · exact hk.of (Below.heap_setCell _ _ _ _ hbg)
  · rw [hg, hn, cell_ne (.inr (by omega))]; exact c0
  · rw [hg]; exact cell_eq c1
  · rw [cell_ne (.inl (Ne.symm hbg))]; exact hby j hj
  · rw [cell_ne (.inl (Ne.symm hbg)), World.frozen?_setCell]; exact hsp j h1 h2
  · rcases hb with ⟨hb, _⟩ | hb
    · rw [hb]; exact (h.base.2 y (by simp)).2
    · omega
  · have hgl : IsLink w g := by
      rcases List.mem_cons.1 hgm with rfl | hgm
      · exact h.root
      · rw [List.mem_map] at hgm; obtain ⟨x, hx, rfl⟩ := hgm; exact (h.has x hx).link
    rw [cell_ne (.inr (by omega)), cell_ne (.inr (by omega))]
    exact ⟨World.cell?_of_block (a := ⟨g, 2, none⟩) (link _ hgl), World.cell?_of_block (a := ⟨g, 3, none⟩) (link _ hgl)⟩
  · intro _ e
    obtain ⟨hx1, _, hx3⟩ := ho x hx
    rcases hb with ⟨hb, hs⟩ | hb
    · exact hx3 (.inl hs) (by rw [← hb]; exact e)
    · have := hx1.kind.lt; omega

/-- A link is taken out. -/
theorem ring_remove {w : World} {B r : Nat} {xs ys : List Lk} {z : Lk} (h : Ring w B r (xs ++ z :: ys)) :
    Ring ((w.setCell ⟨lastG r (gsOf xs), 3, none⟩ (ptr (headG r ys))).setCell ⟨headG r ys, 2, none⟩ (ptr (lastG r (gsOf xs)))) B r (xs ++ ys) := by
  obtain ⟨_, _, lq, _⟩ := h.around
  have h2 := Ring.around (xs := xs ++ [z]) (ys := ys) (by simpa using h)
  obtain ⟨_, k2, _, lk⟩ := h2
  obtain ⟨D, hD, hD1, hD2, hD3⟩ := head_tail r ys
  have hl := h.links
  have hdis := h.dis
  rw [show gsOf (xs ++ z :: ys) = gsOf xs ++ z.g :: gsOf ys by simp] at hdis
  rw [show gsOf (xs ++ z :: ys) = gsOf xs ++ z.g :: gsOf ys by simp, List.append_assoc, List.cons_append, hD, links_app] at hl
  obtain ⟨l1, q3, _, _, _, l2⟩ := hl
  have hqm := lastG_mem (gsOf xs) r
  have hkm := headG_mem r ys
  have hdis2 : (r :: (gsOf xs ++ gsOf ys)).Nodup := by
    have hpm : (z.g :: (r :: (gsOf xs ++ gsOf ys))).Nodup := (List.Perm.nodup_iff (List.perm_middle (l₁ := r :: gsOf xs))).1 hdis
    exact (List.nodup_cons.1 hpm).2
  obtain ⟨hr1, hr2⟩ := List.nodup_cons.1 hdis2
  generalize hq : lastG r (gsOf xs) = q at *
  generalize hk : headG r ys = k at *
  have hH : ∀ x, Has w x → Has ((w.setCell ⟨q, 3, none⟩ (ptr k)).setCell ⟨k, 2, none⟩ (ptr q)) x := fun x hx => (hx.set (by omega) lq _).set (by omega) (lk.set _ _ _) _
  have hL : ∀ g, IsLink w g → IsLink ((w.setCell ⟨q, 3, none⟩ (ptr k)).setCell ⟨k, 2, none⟩ (ptr q)) g := fun g hg => (hg.set _ _ _).set _ _ _
  have n3 : ∀ x, x ≠ q → ((w.setCell ⟨q, 3, none⟩ (ptr k)).setCell ⟨k, 2, none⟩ (ptr q)).cell? ⟨x, 3, none⟩ = w.cell? ⟨x, 3, none⟩ := fun x h1 => by rw [cell_ne (.inr (by omega)), cell_ne (.inl (Ne.symm h1))]
  have n2 : ∀ x, x ≠ k → ((w.setCell ⟨q, 3, none⟩ (ptr k)).setCell ⟨k, 2, none⟩ (ptr q)).cell? ⟨x, 2, none⟩ = w.cell? ⟨x, 2, none⟩ := fun x h1 => by rw [cell_ne (.inl (Ne.symm h1)), cell_ne (.inr (by omega))]
  have e1 : ((w.setCell ⟨q, 3, none⟩ (ptr k)).setCell ⟨k, 2, none⟩ (ptr q)).cell? ⟨q, 3, none⟩ = some (ptr k) := by rw [cell_ne (.inr (by omega))]; exact cell_eq q3
  have e2 : ((w.setCell ⟨q, 3, none⟩ (ptr k)).setCell ⟨k, 2, none⟩ (ptr q)).cell? ⟨k, 2, none⟩ = some (ptr q) := cell_eq (by rw [cell_ne (.inr (by omega))]; exact k2)
  generalize (w.setCell ⟨q, 3, none⟩ (ptr k)).setCell ⟨k, 2, none⟩ (ptr q) = w' at *
  have hsup : ∀ x ∈ xs ++ ys, x ∈ xs ++ z :: ys := fun x hx => by simp at hx ⊢; rcases hx with h | h <;> simp [h]
  refine ⟨hL _ h.root, ⟨h.base.1, fun x hx => h.base.2 x (hsup x hx)⟩, fun x hx => hH _ (h.has x (hsup x hx)), ?_, ?_, ?_, fun x hx => h.full x (hsup x hx)⟩
  · rw [show gsOf (xs ++ ys) = gsOf xs ++ gsOf ys by simp, List.append_assoc, hD, links_app, hq]
    have hnd : (r :: gsOf xs).Nodup := List.nodup_cons.2 ⟨fun e => hr1 (List.mem_append_left _ e), (List.nodup_append.1 hr2).1⟩
    refine ⟨links_of _ _ l1 (fun x hx => n3 x ?_) (fun x hx => n2 x ?_), e1, e2, links_of _ _ l2 (fun x hx => n3 x ?_) (fun x hx => n2 x ?_)⟩
    · rw [← hq]; exact last_drop _ _ hnd x hx
    · rcases hkm with e | e
      · rw [e]; intro e2; exact hr1 (List.mem_append_left _ (e2 ▸ hx))
      · intro e2; exact (List.nodup_append.1 hr2).2.2 x hx k e e2
    · rw [hD1] at hx
      rcases List.mem_cons.1 hqm with e | e
      · rw [e]; intro e2; exact hr1 (List.mem_append_right _ (e2 ▸ hx))
      · intro e2; exact (List.nodup_append.1 hr2).2.2 q e x hx e2.symm
    · refine hD3 ?_ x hx
      rw [List.nodup_append]
      exact ⟨(List.nodup_append.1 hr2).2.1, by simp, fun a ha b hb e => by simp at hb; subst hb; subst e; exact hr1 (List.mem_append_right _ ha)⟩
  · rw [show gsOf (xs ++ ys) = gsOf xs ++ gsOf ys by simp]; exact hdis2
  · have hpw := h.apart
    rw [List.pairwise_append] at hpw ⊢
    exact ⟨hpw.1, (List.pairwise_cons.1 hpw.2.1).2, fun a ha b hb => hpw.2.2 a ha b (by simp [hb])⟩
end Go.Proofs.YtdcahilfmhkmiaaGreatDoor

namespace Go.Proofs.YtdcahilfmhkmiaaGreatDoor
open Go.RowKit

/-- What an append of the bytes s to a link's bytes leaves. -/
structure AppW (w W1 : World) (y : Lk) (s : List UInt8) (b' o' cap' : Nat) : Prop where
  os : W1.os = w.os
  tape : W1.tape = w.tape
  output : W1.output = w.output
  size : w.heap.size ≤ W1.heap.size
  keep : ∀ i, i < w.heap.size → (i ≠ y.b ∨ ¬ y.t.length < y.cap) → W1.heap[i]? = w.heap[i]?
  place : (b' = y.b ∧ y.t.length < y.cap) ∨ w.heap.size ≤ b'
  kind : IsBytes W1 b'
  byte : ∀ j (h : j < (y.t ++ s).length), W1.cell? ⟨b', o' + j, none⟩ = some (.int .u8 ((y.t ++ s)[j].toNat : Int))
  spare : ∀ j, (y.t ++ s).length ≤ j → j < cap' → (W1.cell? ⟨b', o' + j, none⟩).isSome = true ∧ W1.frozen? ⟨b', o' + j, none⟩ = false
  ble : (y.t ++ s).length ≤ cap'

theorem isBytes_set {w : World} {b : Nat} (h : IsBytes w b) (p i : Nat) (v : Value) : IsBytes (w.setCell ⟨p, i, none⟩ v) b := by
  by_cases e : b = p
  · subst e
    obtain ⟨c, fz, h⟩ := h
    refine ⟨c.setIfInBounds i v, fz, ?_⟩
    simp [World.setCell, Array.getElem?_modify, h]
  · exact h.of (Below.heap_setCell _ _ _ _ (by simpa using e))
theorem isBytes_sets (p : Nat) : ∀ (vs : List Value) (o : Nat) (w : World) (b : Nat), IsBytes w b → IsBytes (w.setCells p o vs) b
  | [], _, _, _, h => h
  | v :: vs, o, _, b, h => isBytes_sets p vs (o + 1) _ b (isBytes_set h p o v)
theorem sets_size (p : Nat) : ∀ (vs : List Value) (o : Nat) (w : World), (w.setCells p o vs).heap.size = w.heap.size ∧ (w.setCells p o vs).tape = w.tape
  | [], _, _ => ⟨rfl, rfl⟩
  | v :: vs, o, w => by
    obtain ⟨h1, h2⟩ := sets_size p vs (o + 1) (w.setCell ⟨p, o, none⟩ v)
    exact ⟨h1.trans (by simp), h2.trans rfl⟩
theorem u8s_at (l : List UInt8) (j : Nat) (h : j < l.length) : (u8s l)[j]? = some (.int .u8 (l[j].toNat : Int)) := by simp [u8s, h]
theorem u8s_cell {l : List UInt8} {j : Nat} {u : Value} (h : (u8s l)[j]? = some u) : ∃ hj : j < l.length, u = .int .u8 (l[j].toNat : Int) := by
  have hj : j < l.length := by have := (List.getElem?_eq_some_iff.1 h).1; simpa [u8s] using this
  exact ⟨hj, by rw [u8s_at l j hj] at h; exact (Option.some.inj h).symm⟩
theorem appW_room {w : World} {y : Lk} {s : List UInt8} (hy : Has w y) (hs : s ≠ []) (hr : y.t.length + s.length ≤ y.cap) : AppW w (w.setCells y.b (y.o + y.t.length * 1) (u8s s)) y s y.b y.o y.cap := by
  have hl : 0 < s.length := List.length_pos_iff.2 hs
  have hu : (u8s s).length = s.length := u8s_length s
  refine ⟨World.os_setCells _ _ _ _, (sets_size _ _ _ _).2, World.output_setCells _ _ _ _, Nat.le_of_eq (sets_size _ _ _ _).1.symm, fun i hi h => ?_, .inl ⟨rfl, by omega⟩, isBytes_sets _ _ _ _ _ hy.kind, fun j hj => ?_, fun j h1 h2 => ?_, by simpa using hr⟩
  · rcases h with h | h
    · exact World.heap_setCells_other _ _ _ _ hi h
    · omega
  · by_cases h : j < y.t.length
    · rw [World.cell?_setCells_out _ _ _ _ _ (fun _ _ => .inl (by show y.o + j < _; omega)), List.getElem_append_left h]
      exact hy.byte j h
    · have hj' : j < y.t.length + s.length := by simpa using hj
      have := World.cell?_setCells_in y.b (u8s s) (y.o + y.t.length * 1) w (fun i hi => by
        have := (hy.spare (y.t.length + i) (by omega) (by omega)).1
        rwa [show y.o + y.t.length * 1 + i = y.o + (y.t.length + i) by omega]) (j - y.t.length) (by omega)
      rw [show y.o + y.t.length * 1 + (j - y.t.length) = y.o + j by omega] at this
      rw [this, List.getElem_append_right (by omega)]
      simp [u8s]
  · have h1' : y.t.length + s.length ≤ j := by simpa using h1
    obtain ⟨a, b⟩ := hy.spare j (by omega) h2
    rw [World.cell?_setCells_out _ _ _ _ _ (fun _ _ => .inr (by show _ ≤ y.o + j; omega)), World.frozen?_setCells]
    exact ⟨a, b⟩
theorem appW_grown {w W1 : World} {y : Lk} {s : List UInt8} {v : Value} (ho : W1.ownsRow w.heap.size 5 1 v (y.t.length + s.length) (u8s y.t ++ u8s s)) (hg : w.grownBy W1 none) (hs : s ≠ []) :
    ∃ b' cap', v = .slice (some ⟨b', 0, none⟩) (y.t.length + s.length) cap' ∧ AppW w W1 y s b' 0 cap' := by
  have hl : 0 < s.length := List.length_pos_iff.2 hs
  rcases ho.2 with ⟨_, h0⟩ | ⟨b', cap, cur, rfl, hb, hh, hn, hm, hc, ht⟩
  · omega
  · have hcl : ∀ j, W1.cell? ⟨b', 0 + j, none⟩ = cur[j]? := fun j => by simp [World.cell?, hh]
    refine ⟨b', cap, rfl, hg.os, hg.tape, hg.output, hg.size, fun i hi _ => hg.block i hi (by simp), .inr hb, ⟨_, _, hh⟩, fun j hj => ?_, fun j h1 h2 => ⟨?_, ?_⟩, by simpa using hn⟩
    · have hj' : j < y.t.length + s.length := by simpa using hj
      rw [hcl]
      have h1 : (u8s y.t ++ u8s s)[j]? = some (.int .u8 ((y.t ++ s)[j].toNat : Int)) := by rw [← u8s_append]; exact u8s_at _ j hj
      rw [← ht, List.getElem?_take, if_pos (by omega)] at h1
      simpa using h1
    · rw [hcl]
      have : j < cur.size := by omega
      simp [this]
    · simp [World.frozen?, hh]
theorem step_append_any {P : Program} {ops : Array Oper} {o : Oper} {a : Act} {w : World} {K : Act → World → Prop} {Q : Exit → Act → World → Prop} {E : Prop}
    (hg : o.guard = none) (p x : Operand) (t : TypeId) (hop : o.op = Op.call { callee := Callee.builtin Builtin.append, args := #[p, x], argTypes := #[t, t] })
    (i : TypeInfo) (h1 : P.underlying t = some (.slice 5)) (h2 : P.info? 5 = some i) (h3 : i.zero = some (.int .u8 0)) (h4 : i.size = 1) (h5 : i.bytes = 1)
    (y z : Lk) (hy : Has w y) (hz : Has w z) (hzn : z.t ≠ []) (hs : a.eval p = .slice (some ⟨y.b, y.o, none⟩) y.t.length y.cap) (hx : a.eval x = .slice (some ⟨z.b, z.o, none⟩) z.t.length z.cap) (hb : y.t.length + z.t.length ≤ 1000000000)
    (hK : ∀ b' o' cap' W1, AppW w W1 y z.t b' o' cap' → K (a.put o.dst (.slice (some ⟨b', o', none⟩) (y.t.length + z.t.length) cap')) W1) :
    if Region.wanted o (yielded ops a.tmps) = true then Oper.wp P o a w K Q else E := by
  have hnews : ∀ j u, (u8s z.t)[j]? = some u → w.cell? ((⟨z.b, z.o, none⟩ : Addr).add j) = some u := fun j u hj => by
    obtain ⟨h, rfl⟩ := u8s_cell hj
    rw [Addr.add_lit]; exact hz.byte j h
  have h1c : ∀ u ∈ u8s z.t, u.oneCell' = true := fun u hu => by simp [u8s] at hu; obtain ⟨b, _, rfl⟩ := hu; rfl
  by_cases hr : y.t.length + z.t.length ≤ y.cap
  · refine step_append_room hg p x t hop 5 i 1 h1 h2 h4 y.b y.o y.t.length y.cap hs ⟨z.b, z.o, none⟩ z.t.length z.cap (u8s z.t) hx (by rw [u8s_length]; omega) hnews h1c hr (fun j hj => ?_) (hK _ _ _ _ (appW_room hy hzn hr))
    rw [u8s_length] at hj
    have := hy.spare (y.t.length + j) (by omega) (by omega)
    rwa [show y.o + y.t.length * 1 + j = y.o + (y.t.length + j) by omega]
  · refine step_append_grows hg p x t hop 5 i (.int .u8 0) 1 1 h1 h2 h3 h4 h5 rfl (by decide) (some ⟨y.b, y.o, none⟩) y.t.length y.cap (u8s y.t) hs (fun h => by cases h) (by rw [u8s_length]; omega) (fun b hb j u hj => ?_)
      ⟨z.b, z.o, none⟩ z.t.length z.cap (u8s z.t) hx (by rw [u8s_length]; omega) hnews h1c (by omega) (by unfold maxLen; omega) (by omega) (fun v' w' ho hgr => ?_)
    · cases hb
      obtain ⟨h, rfl⟩ := u8s_cell hj
      rw [Addr.add_lit]; exact hy.byte j h
    · obtain ⟨b', cap', rfl, ha⟩ := appW_grown ho hgr hzn
      exact hK _ _ _ _ ha
end Go.Proofs.YtdcahilfmhkmiaaGreatDoor

namespace Go.Proofs.YtdcahilfmhkmiaaGreatDoor
open Go.RowKit

structure JoinRel (w : World) (B r : Nat) (G : List Pc) (wr : World) (xs ys : List Lk) : Prop where
  ring : Ring wr B r (xs ++ ys)
  void : ys = [] → xs = []
  out : G = xs.map Lk.pc ++ joinN (ys.map Lk.pc)
  time : ∀ x ∈ ys, 0 ≤ x.n ∧ x.n ≤ 2000000
  sum : bytesN (ys.map Lk.pc) ≤ 100000000
  below : Below B w wr
theorem JoinRel.size {w wr : World} {B r : Nat} {G : List Pc} {xs ys : List Lk} (h : JoinRel w B r G wr xs ys) : B ≤ wr.heap.size := by
  have := h.ring.base.1
  have := h.ring.root.lt
  omega
theorem joinN_cons2 (p q : Pc) (l : List Pc) : joinN (p :: q :: l) = if pcEnd p < q.1 then p :: joinN (q :: l) else joinN ((p.1, p.2 ++ q.2) :: l) := by
  show joinG p (q :: l) = _
  rw [joinG]; rfl
/-- One link further on. -/
theorem JoinRel.step {w wr : World} {B r : Nat} {G : List Pc} {xs ys : List Lk} {y z : Lk} (h : JoinRel w B r G wr xs (y :: z :: ys)) (hlt : pcEnd y.pc < z.n) (m : Nat) : JoinRel w B r G (wr.drewN m) (xs ++ [y]) (z :: ys) := by
  have e : xs ++ y :: z :: ys = xs ++ [y] ++ z :: ys := by simp
  refine ⟨(e ▸ h.ring).below (below_drewN (Below.refl _ _) m), (fun h => by cases h), ?_, fun x hx => h.time x (List.mem_cons_of_mem _ hx), ?_, below_drewN h.below m⟩
  · rw [h.out]
    show _ ++ joinN (y.pc :: z.pc :: ys.map Lk.pc) = _
    rw [joinN_cons2, if_pos hlt]
    simp
  · have := h.sum
    simp only [List.map_cons, bytesN] at this ⊢
    omega
/-- Two links become one: the world. -/
theorem JoinRel.merge {w wr W1 : World} {B r : Nat} {G : List Pc} {xs ys : List Lk} {y z : Lk} {b' o' cap' : Nat} (h : JoinRel w B r G wr xs (y :: z :: ys)) (ha : AppW wr W1 y z.t b' o' cap') :
    Ring (W1.setCell ⟨y.g, 1, none⟩ (.slice (some ⟨b', o', none⟩) (y.t.length + z.t.length) cap')) B r (xs ++ ⟨y.g, y.n, b', o', cap', y.t ++ z.t⟩ :: z :: ys) := by
  have := ring_grown (y' := ⟨y.g, y.n, b', o', cap', y.t ++ z.t⟩) h.ring ha.keep rfl rfl ha.place ha.kind (by have := h.ring.full y (by simp); simp [this]) ha.byte ha.spare ha.ble
  simpa using this
theorem JoinRel.below1 {w wr W1 : World} {B r : Nat} {G : List Pc} {xs ys : List Lk} {y z : Lk} {b' o' cap' : Nat} (h : JoinRel w B r G wr xs (y :: z :: ys)) (ha : AppW wr W1 y z.t b' o' cap') (v : Value) : Below B w (W1.setCell ⟨y.g, 1, none⟩ v) := by
  have hb := h.ring.base.2 y (by simp)
  have hs := h.size
  exact (h.below.trans ⟨ha.os, ha.tape, ha.output, ha.size, fun k hk => ha.keep k (by omega) (.inl (by omega))⟩).setCell hb.1 _
theorem JoinRel.merged {w wr w2 : World} {B r : Nat} {G : List Pc} {xs ys : List Lk} {y z : Lk} {b' o' cap' : Nat} (h : JoinRel w B r G wr xs (y :: z :: ys)) (hnl : ¬ pcEnd y.pc < z.n)
    (hr : Ring w2 B r (xs ++ ⟨y.g, y.n, b', o', cap', y.t ++ z.t⟩ :: ys)) (hb : Below B w w2) : JoinRel w B r G w2 xs (⟨y.g, y.n, b', o', cap', y.t ++ z.t⟩ :: ys) := by
  refine ⟨hr, (fun h => by cases h), ?_, fun x hx => ?_, ?_, hb⟩
  · rw [h.out]
    show _ ++ joinN (y.pc :: z.pc :: ys.map Lk.pc) = _
    rw [joinN_cons2, if_neg hnl]
    rfl
  · rcases List.mem_cons.1 hx with rfl | hx
    · exact h.time y (by simp)
    · exact h.time x (by simp [hx])
  · have := h.sum
    simp only [List.map_cons, bytesN, List.length_append] at this ⊢
    omega

theorem JoinRel.drew {w wr : World} {B r : Nat} {G : List Pc} {xs ys : List Lk} (h : JoinRel w B r G wr xs ys) (m : Nat) : JoinRel w B r G (wr.drewN m) xs ys :=
  ⟨h.ring.below (below_drewN (Below.refl _ _) m), h.void, h.out, h.time, h.sum, below_drewN h.below m⟩
theorem last_app : ∀ (l : List Nat) (a b : Nat), lastG a (l ++ [b]) = b
  | [], _, _ => rfl
  | _ :: l, _, b => last_app l _ b
theorem takeOut_ring {w : World} {B r : Nat} {xs ys : List Lk} {y z : Lk} (h : Ring w B r (xs ++ y :: z :: ys)) :
    Calls Tryz.prog 238 #[ptr z.g] w fun e w' => e = .returned (.tuple #[]) ∧ Ring w' B r (xs ++ y :: ys) ∧ ∀ a, Below B a w → Below B a w' := by
  have h' : Ring w B r (xs ++ [y] ++ z :: ys) := by simpa using h
  obtain ⟨_, z3, z2, _, _⟩ := Ring.at (xs := xs ++ [y]) (y := z) (ys := ys) h' rfl
  have hl : lastG r (gsOf (xs ++ [y])) = y.g := by rw [show gsOf (xs ++ [y]) = gsOf xs ++ [y.g] by simp]; exact last_app _ _ _
  rw [hl] at z2
  have a1 := h'.around
  have a2 := Ring.around (xs := xs ++ [y] ++ [z]) (ys := ys) (by simpa using h)
  rw [hl] at a1
  obtain ⟨o1, _⟩ := Ring.others h
  have hB : B ≤ headG r ys := by
    cases ys with
    | nil => exact h.base.1
    | cons x ys => exact (h.base.2 x (by simp)).1
  refine (takeOut_cells z2 z3 a1.1 a2.2.1 (a1.2.2.1.free 3) (a2.2.2.2.free 2)).mono ?_
  rintro e w' ⟨rfl, m, rfl⟩
  have hr := ring_remove h'
  rw [hl] at hr
  exact ⟨rfl, by have := hr.below (below_drewN (Below.refl _ _) m); simpa using this, fun a ha => below_drewN ((ha.setCell (h.base.2 y (by simp)).1 _).setCell hB _) m⟩

set_option maxHeartbeats 2000000 in
set_option maxRecDepth 100000 in
theorem join_calls {w : World} {B r : Nat} {ks : List Lk} (h : Ring w B r ks) (ht : ∀ x ∈ ks, 0 ≤ x.n ∧ x.n ≤ 2000000) (hs : bytesN (ks.map Lk.pc) ≤ 100000000) :
    Calls Tryz.prog 193 #[ptr r] w fun e w' => ∃ ks', e = .returned (.tuple #[]) ∧ Ring w' B r ks' ∧ ks'.map Lk.pc = joinN (ks.map Lk.pc) ∧ Below B w w' := by
  have hzz : (Tryz.prog.info? 5).map (fun i => (i.zero, i.size, i.bytes)) = some (some (.int .u8 0), 1, 1) := by kernel_rfl
  obtain ⟨i0, hi, hz0, hz1, hz2⟩ := info_parts hzz
  clear hzz
  have h3 : w.cell? ⟨r, 3, none⟩ = some (ptr (headG r ks)) := (h.around (xs := []) (ys := ks)).1
  have hrel0 : JoinRel w B r (joinN (ks.map Lk.pc)) w [] ks := ⟨h, fun _ => rfl, rfl, ht, hs, Below.refl _ _⟩
  generalize joinN (ks.map Lk.pc) = G at *
  have HR := Lib.hid hrel0
  clear h ht hs hrel0
  go_enter Tryz.func193, Tryz.ntmps193
  go_wp2_with fail
  go_loopg [2] ks.length (fun m q wr => ∃ xs ys, ys.length = m ∧ q = ptr (headG r ys) ∧ JoinRel w B r G wr xs ys)
  case atStart => exact ⟨[], ks, rfl, rfl, HR.out⟩
  case round =>
    clear h3 HR
    obtain ⟨xs, ys, hm, rfl, hJ⟩ := hrel
    cases ys with
    | nil =>
      have hx := hJ.void rfl
      subst hx
      have h3 : wr.cell? ⟨r, 3, none⟩ = some (ptr r) := (hJ.ring.around (xs := []) (ys := [])).1
      have hhd : headG r [] = r := rfl
      rw [hhd]
      have hpq := ptr_same wr r
      have HJ := Lib.hid hJ
      clear hJ hhd hm
      go_wp2_with fail
      go_end0
      exact ⟨[], rfl, HJ.out.ring, HJ.out.out.symm, HJ.out.below⟩
    | cons y ys =>
      have hhd : headG r (y :: ys) = y.g := rfl
      rw [hhd]
      obtain ⟨hy, y3, _, yr, _⟩ := hJ.ring.at rfl
      cases ys with
      | nil =>
        rw [show headG r [] = r from rfl] at y3
        have hpq := ptr_same wr r
        have HJ := Lib.hid hJ
        clear hJ hhd hm hy
        go_wp2_with fail
        go_end0
        exact ⟨xs ++ [y], rfl, HJ.out.ring, by rw [HJ.out.out]; simp [joinN, joinG], HJ.out.below⟩
      | cons z ys =>
        rw [show headG r (z :: ys) = z.g from rfl] at y3
        obtain ⟨hz, z3, z2, zr, zn⟩ := Ring.at (xs := xs ++ [y]) (y := z) (ys := ys) hJ.ring (by simp)
        have hpq := ptr_other hz.link hJ.ring.root zr
        have y0 := hy.at0
        have y1 := hy.at1
        have z0 := hz.at0
        have z1 := hz.at1
        obtain ⟨t0, t1⟩ := hJ.time y (by simp)
        have hsum := hJ.sum
        simp only [List.map_cons, bytesN] at hsum
        have hyl : y.t.length ≤ 100000000 := by omega
        have hyz : y.t.length + z.t.length ≤ 1000000000 := by omega
        have he := fun m => end_calls (w := wr.drewN m) y0 y1 t0 (by omega) hyl
        have HE := Lib.hid he
        have HY := Lib.hid hy
        have HZ := Lib.hid hz
        have HJ := Lib.hid hJ
        have HM := Lib.hid hm
        have HZ3 := Lib.hid z3
        have HZN := Lib.hid zn
        clear hJ hhd hm hy hz he hsum z2 zr z3 yr zn t0 t1
        by_cases hlt : pcEnd y.pc < z.n
        · have hd : decide (y.n + (y.t.length : Int) < z.n) = true := by simpa [pcEnd] using hlt
          have HL := Lib.hid hlt
          clear hlt
          go_wp2_with fail
          go_quiet ((go_at_call 237; exact Calls.quiet_of (HE.out _)))
          go_wp2_with fail
          go_roundg (z :: ys).length
          case measure => have := HM.out; simp at this ⊢; omega
          case rel => exact ⟨xs ++ [y], z :: ys, rfl, rfl, HJ.out.step HL.out _⟩
        · have hd : decide (y.n + (y.t.length : Int) < z.n) = false := by simpa [pcEnd] using hlt
          have HL := Lib.hid hlt
          clear hlt
          go_wp2_with fail
          go_quiet ((go_at_call 237; exact Calls.quiet_of (HE.out _)))
          clear HE
          go_wp2_with fail
          have HJ2 := Lib.hid ((HJ.out.drew _).drew 1 : JoinRel w B r G ((wr.drewN nq).drew) xs (y :: z :: ys))
          have HY2 := Lib.hid ((HY.out.drew _).drew 1 : Has ((wr.drewN nq).drew) y)
          have HZ2 := Lib.hid ((HZ.out.drew _).drew 1 : Has ((wr.drewN nq).drew) z)
          have hyl := HY.out.link
          clear HJ
          go_region_law (refine step_append_any rfl (.tmp 31) (.tmp 38) 22 rfl i0 Tryz.underlying22 hi hz0 hz1 hz2 y z HY2.out HZ2.out HZN.out (by simp [Act.eval]) (by simp [Act.eval]) hyz ?_; intro b1 o1 cap1 W1 ha; have c1 : W1.cell? ⟨y.g, 1, none⟩ = some (.slice (some ⟨y.b, y.o, none⟩) y.t.length y.cap) := (World.cell?_of_block (a := ⟨y.g, 1, none⟩) (ha.keep y.g HY2.out.link.lt (.inl (link_bytes_ne HY2.out.link HY2.out.kind)))).trans HY2.out.at1; have f1 : W1.frozen? ⟨y.g, 1, none⟩ = false := (World.frozen?_of_block (a := ⟨y.g, 1, none⟩) (ha.keep y.g HY2.out.link.lt (.inl (link_bytes_ne HY2.out.link HY2.out.kind)))).trans (HY2.out.link.free 1); have HA := Lib.hid ha; clear ha)
          all_goals
            have hr := HJ2.out.merge HA.out
            have hb := HJ2.out.below1 HA.out (.slice (some ⟨b1, o1, none⟩) (y.t.length + z.t.length) cap1)
            obtain ⟨_, y3', _, _, _⟩ := Ring.at (y := ⟨y.g, y.n, b1, o1, cap1, y.t ++ z.t⟩) hr rfl
            rw [show headG r (z :: ys) = z.g from rfl] at y3'
            dsimp only at y3'
            generalize W1.setCell ⟨y.g, 1, none⟩ (.slice (some ⟨b1, o1, none⟩) (y.t.length + z.t.length) cap1) = W2 at *
            have HT := Lib.hid (takeOut_ring hr)
            have HB := Lib.hid hb
            clear hr hb c1 f1 HA y0 y1 z0 z1
            go_wp2_with fail
            refine HT.out.mono ?_
            rintro e w3 ⟨rfl, hr3, hb3⟩
            have HF := Lib.hid (HJ2.out.merged (Int.not_lt.2 HL.out) hr3 (hb3 _ HB.out))
            clear hr3 hb3 y3'
            go_wp2_with fail
            go_roundg (z :: ys).length
            case measure => have := HM.out; simp at this ⊢; omega
            case rel => exact ⟨xs, ⟨y.g, y.n, b1, o1, cap1, y.t ++ z.t⟩ :: ys, by simp, rfl, HF.out⟩
end Go.Proofs.YtdcahilfmhkmiaaGreatDoor
