/- The program's pieceAt, PieceHas, PieceBytes. -/
import Derived.Test.YtjcdcaannajnpaaRightI
namespace Go.Proofs.Ytjcdcaannajnpaa
open Go.RowKit

/-- The piece that has a byte at that place. -/
def findN : List Pc → Int → Option Pc
  | [], _ => none
  | p :: l, n => if p.1 ≤ n ∧ n < pcEnd p then some p else findN l n
theorem findN_cons (p : Pc) (l : List Pc) (n : Int) : findN (p :: l) n = if p.1 ≤ n ∧ n < pcEnd p then some p else findN l n := rfl
/-- What pieceAt tells. -/
def atv : Option Pc → Value
  | some p => .tuple #[pcv p, .bool true]
  | none => .tuple #[pcv (0, []), .bool false]

set_option maxHeartbeats 1000000 in
set_option maxRecDepth 100000 in
theorem pieceAt_calls {a : Option Addr} {len cap : Nat} {l : List Pc} {w : World} (h : InPcs w a len l) (n : Int) :
    Calls Try.prog 55 #[.slice a len cap, .int .i64 n] w fun e w' => e = .returned (atv (if right l then findN l n else none)) ∧ Below w.heap.size w w' := by
  have hm := h.most
  have hlen := h.long
  have hbz : ∀ x, Below w.heap.size w (w.alloc x) := fun x => (Below.refl _ _).alloc (Nat.le_refl _) x
  have hcall := fun x => rightI_calls (cap := cap) (h.below (hbz x))
  by_cases hr : right l
  · have he : atv (if right l then findN l n else none) = atv (findN l n) := by rw [if_pos hr]
    rw [he]
    rw [decide_eq_true hr] at hcall
    have htm : ∀ i, i < len → 0 ≤ (pcAt l i).1 ∧ (pcAt l i).1 ≤ 1000000 := fun i hi => ⟨(hr.2 i (by omega)).2.1, (hr.2 i (by omega)).2.2.1⟩
    have hG : findN l n = findN (l.drop 0) n := rfl
    generalize hg : findN l n = G at *
    have HG := Lib.hid hG
    have HC := Lib.hid hcall
    have HT := Lib.hid htm
    have HBZ := Lib.hid hbz
    clear hcall htm he hG hg hr hbz
    go_enter Try.func55, Try.ntmps55
    go_wp2_with fail
    refine (HC.out _).mono ?_
    rintro e w1 ⟨rfl, hb1⟩
    have z0 : w1.cell? ⟨w.heap.size, 0, none⟩ = some (.int .i64 0) := (cell_kept hb1 0).trans (by simp)
    have z1 : w1.cell? ⟨w.heap.size, 1, none⟩ = some (gs []) := (cell_kept hb1 1).trans (by simp)
    have y0 : w1.frozen? ⟨w.heap.size, 0, none⟩ = false := (hb1.frozen (p := ⟨w.heap.size, 0, none⟩) (by simp)).trans (by simp)
    have y1 : w1.frozen? ⟨w.heap.size, 1, none⟩ = false := (hb1.frozen (p := ⟨w.heap.size, 1, none⟩) (by simp)).trans (by simp)
    have hB1 : Below w.heap.size w w1 := (HBZ.out _).trans (hb1.mono (by simp))
    have hsz : w.heap.size < w1.heap.size := size_kept hb1
    have HB1 := Lib.hid hB1
    clear hb1 hB1 HC HBZ
    go_wp2_with fail
    go_loopw [14] (fun i wr => ∃ k : Nat, i = .int .i64 (k : Int) ∧ k ≤ len ∧ G = findN (l.drop k) n ∧ Below w1.heap.size w1 wr) (fun i wr => len - (intOf i).toNat)
    case atStart => exact ⟨0, rfl, Nat.zero_le _, HG.out, Below.refl _ _⟩
    case round =>
      clear HG
      obtain ⟨k, rfl, hk, hgo, hbl⟩ := hrel
      have x0 := (hbl.cell (p := ⟨w.heap.size, 0, none⟩) hsz).trans z0
      have x1 := (hbl.cell (p := ⟨w.heap.size, 1, none⟩) hsz).trans z1
      have v0 := (hbl.frozen (p := ⟨w.heap.size, 0, none⟩) hsz).trans y0
      have v1 := (hbl.frozen (p := ⟨w.heap.size, 1, none⟩) hsz).trans y1
      have hs2 : w.heap.size < wr.heap.size := by have := hbl.size; omega
      have hB : Below w.heap.size w wr := HB1.out.trans (hbl.mono (by omega))
      by_cases hkl : k < len
      · have hh := h.below hB
        obtain ⟨b, o, rfl⟩ := hh.there (by omega)
        obtain ⟨c0, c1⟩ := hh.cell b o rfl k hkl
        obtain ⟨f0, f1, f2⟩ := hh.fit k hkl
        obtain ⟨t0, t1⟩ := HT.out k hkl
        have hend := endOf_calls (pcAt l k)
        have hwr : wrap64 (pcEnd (pcAt l k)) = pcEnd (pcAt l k) := IntWalk.wrap64_in _ (by unfold pcEnd; omega)
        rw [hwr] at hend
        rw [pcAt_drop' (by omega : k < l.length), findN_cons] at hgo
        generalize pcEnd (pcAt l k) = E at *
        generalize pcAt l k = p at *
        obtain ⟨at0, t⟩ := p
        dsimp only at c0 c1 f0 f1 f2 t0 t1 hgo
        have HE := Lib.hid hend
        have HB := Lib.hid hB
        have HBL := Lib.hid hbl
        clear hh h hend hbl hwr HT hB z0 z1 y0 y1
        by_cases h1 : at0 ≤ n
        · have hd1 : decide (at0 ≤ n) = true := by simp; omega
          by_cases h2 : n < E
          · rw [if_pos ⟨h1, h2⟩] at hgo
            have hd2 : decide (n < E) = true := by simp; omega
            have HG := Lib.hid hgo
            clear hgo
            go_wp2_with fail
            refine (HE.out _).mono ?_
            rintro e w2 ⟨rfl, hb2⟩
            have p0 : w2.cell? ⟨wr.heap.size, 0, none⟩ = some (.int .i64 at0) := (cell_kept hb2 0).trans (by simp)
            have p1 : w2.cell? ⟨wr.heap.size, 1, none⟩ = some (gs t) := (cell_kept hb2 1).trans (by simp)
            have hA : Below wr.heap.size wr w2 := ((Below.refl _ _).alloc (Nat.le_refl _) _).trans (hb2.mono (by simp))
            have q0 := (hA.cell (p := ⟨w.heap.size, 0, none⟩) hs2).trans x0
            have q1 := (hA.cell (p := ⟨w.heap.size, 1, none⟩) hs2).trans x1
            have r0 := (hA.frozen (p := ⟨w.heap.size, 0, none⟩) hs2).trans v0
            have r1 := (hA.frozen (p := ⟨w.heap.size, 1, none⟩) hs2).trans v1
            have HB2 := Lib.hid (HB.out.trans (hA.mono (by omega)))
            have HBL2 := Lib.hid (HBL.out.trans (hA.mono HBL.out.size))
            clear hb2 hA x0 x1 v0 v1 c0 c1 HE
            go_wp2_with fail
            exact bodyPost_ret (v := .tuple #[pcv (at0, t), .bool true]) (by simp [results, Try.results55, go_sem, q0, q1]) rfl ⟨by rw [HG.out]; rfl, (HB2.out.setCell (Nat.le_refl _) _).setCell (Nat.le_refl _) _⟩
          · rw [if_neg (fun h => h2 h.2)] at hgo
            have hd2 : decide (n < E) = false := by simp; omega
            have HG := Lib.hid hgo
            clear hgo
            go_wp2_with fail
            refine (HE.out _).mono ?_
            rintro e w2 ⟨rfl, hb2⟩
            have p0 : w2.cell? ⟨wr.heap.size, 0, none⟩ = some (.int .i64 at0) := (cell_kept hb2 0).trans (by simp)
            have p1 : w2.cell? ⟨wr.heap.size, 1, none⟩ = some (gs t) := (cell_kept hb2 1).trans (by simp)
            have hA : Below wr.heap.size wr w2 := ((Below.refl _ _).alloc (Nat.le_refl _) _).trans (hb2.mono (by simp))
            have q0 := (hA.cell (p := ⟨w.heap.size, 0, none⟩) hs2).trans x0
            have q1 := (hA.cell (p := ⟨w.heap.size, 1, none⟩) hs2).trans x1
            have r0 := (hA.frozen (p := ⟨w.heap.size, 0, none⟩) hs2).trans v0
            have r1 := (hA.frozen (p := ⟨w.heap.size, 1, none⟩) hs2).trans v1
            have HB2 := Lib.hid (HB.out.trans (hA.mono (by omega)))
            have HBL2 := Lib.hid (HBL.out.trans (hA.mono HBL.out.size))
            clear hb2 hA x0 x1 v0 v1 c0 c1 HE
            go_wp2_with fail
            go_roundw
            case rel => exact ⟨k + 1, by go_num, by omega, HG.out, HBL2.out⟩
            case measure => simp [intOf]; omega
        · rw [if_neg (fun h => h1 h.1)] at hgo
          have hd1 : decide (at0 ≤ n) = false := by simp; omega
          have HG := Lib.hid hgo
          clear hgo
          go_wp2_with fail
          go_roundw
          case rel => exact ⟨k + 1, by go_num, by omega, HG.out, HBL.out.alloc HBL.out.size _⟩
          case measure => simp [intOf]; omega
      · have hd : l.drop k = [] := List.drop_eq_nil_of_le (by omega)
        rw [hd] at hgo
        have HG := Lib.hid hgo
        have HB := Lib.hid hB
        clear hgo hd h hB hbl z0 z1 y0 y1
        go_wp2_with fail
        exact bodyPost_ret (v := .tuple #[pcv (0, []), .bool false]) (by simp [results, Try.results55, go_sem, x0, x1]) rfl ⟨by rw [HG.out]; rfl, (HB.out.setCell (Nat.le_refl _) _).setCell (Nat.le_refl _) _⟩
  · have he : atv (if right l then findN l n else none) = atv none := by rw [if_neg hr]
    rw [he]
    rw [decide_eq_false hr] at hcall
    have HC := Lib.hid hcall
    have HBZ := Lib.hid hbz
    clear hcall he hr hbz h
    go_enter Try.func55, Try.ntmps55
    go_wp2_with fail
    refine (HC.out _).mono ?_
    rintro e w1 ⟨rfl, hb1⟩
    have z0 : w1.cell? ⟨w.heap.size, 0, none⟩ = some (.int .i64 0) := (cell_kept hb1 0).trans (by simp)
    have z1 : w1.cell? ⟨w.heap.size, 1, none⟩ = some (gs []) := (cell_kept hb1 1).trans (by simp)
    have y0 : w1.frozen? ⟨w.heap.size, 0, none⟩ = false := (hb1.frozen (p := ⟨w.heap.size, 0, none⟩) (by simp)).trans (by simp)
    have y1 : w1.frozen? ⟨w.heap.size, 1, none⟩ = false := (hb1.frozen (p := ⟨w.heap.size, 1, none⟩) (by simp)).trans (by simp)
    have HB1 := Lib.hid ((HBZ.out _).trans (hb1.mono (by simp)))
    clear hb1 HC HBZ
    go_wp2_with fail
    exact bodyPost_ret (v := .tuple #[pcv (0, []), .bool false]) (by simp [results, Try.results55, go_sem, z0, z1]) rfl ⟨rfl, (HB1.out.setCell (Nat.le_refl _) _).setCell (Nat.le_refl _) _⟩
end Go.Proofs.Ytjcdcaannajnpaa
