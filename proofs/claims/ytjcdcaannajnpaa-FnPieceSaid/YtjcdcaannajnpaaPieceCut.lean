/- The model's l02Cut: the pieces from a place on. -/
import Derived.Test.YtjcdcaannajnpaaPieceFrom
import Derived.Test.YtjcdcaannajnpaaPieceApp
import Derived.Test.YtjcdcaannajnpaaPieceTo
import Derived.Deep.AppendLies
import Derived.Deep.RegionLaw
namespace Go.Proofs.Ytjcdcaannajnpaa
open Go.RowKit

/-- The pieces from a place on. -/
def cutN : List Pc → Int → List Pc
  | [], _ => []
  | p :: l, n => if n ≤ p.1 then p :: cutN l n else if n < pcEnd p then (n, p.2.drop (n - p.1).toNat) :: cutN l n else cutN l n
theorem cutN_cons (p : Pc) (l : List Pc) (n : Int) : cutN (p :: l) n = if n ≤ p.1 then p :: cutN l n else if n < pcEnd p then (n, p.2.drop (n - p.1).toNat) :: cutN l n else cutN l n := rfl

set_option maxHeartbeats 1000000 in
set_option maxRecDepth 100000 in
theorem cutS_calls {a : Option Addr} {len cap : Nat} {l : List Pc} {w : World} (h : InPcs w a len l) (hr : right l) (n : Int) (ha0 : -9223372036854775808 ≤ n) (ha1 : n ≤ 9223372036854775807) :
    Calls Try.prog 54 #[.slice a len cap, .int .i64 n] w fun e w' => ∃ v, e = .returned v ∧ w'.ownsRow w.heap.size 69 2 v (cutN l n).length (pv (cutN l n)) ∧ Below w.heap.size w w' := by
  have hm := h.most
  have hlen := h.long
  have htm : ∀ i, i < len → 0 ≤ (pcAt l i).1 ∧ (pcAt l i).1 ≤ 1000000 := fun i hi => ⟨(hr.2 i (by omega)).2.1, (hr.2 i (by omega)).2.2.1⟩
  clear hr
  have hzz : (Try.prog.info? 69).map (fun i => (i.zero, i.size, i.bytes)) = some (some (.agg #[.int .i64 0, gs []]), 2, 24) := by kernel_rfl
  obtain ⟨i0, hi, hz0, hz1, hz2⟩ := info_parts hzz
  clear hzz
  go_enter Try.func54, Try.ntmps54
  go_wp2_with fail
  go_loopw [5, 6] (fun v i wr => ∃ (k : Nat) (acc : List Pc), i = .int .i64 (k : Int) ∧ k ≤ len ∧ acc.length ≤ k ∧ wr.ownsRow w.heap.size 69 2 v acc.length (pv acc) ∧ cutN l n = acc ++ cutN (l.drop k) n ∧ Below w.heap.size w wr) (fun _ i _ => len - (intOf i).toNat)
  case atStart =>
    refine ⟨0, [], rfl, Nat.zero_le _, Nat.le_refl _, ?_, rfl, ?_⟩
    · exact World.ownsRow_lit (base := w.heap.size) (size := 2) w #[] 0 (Nat.le_refl _) (by unfold maxLen; omega) rfl
    · exact (Below.refl _ _).alloc (Nat.le_refl _) _
  case round =>
    obtain ⟨k, acc, rfl, hk, hacc, hown, hgo, hbl⟩ := hrel
    have hws := hbl.size
    by_cases hkl : k < len
    · have hh := h.below hbl
      obtain ⟨b, o, rfl⟩ := hh.there (by omega)
      obtain ⟨c0, c1⟩ := hh.cell b o rfl k hkl
      obtain ⟨f0, f1, f2⟩ := hh.fit k hkl
      obtain ⟨t0, t1⟩ := htm k hkl
      rw [pcAt_drop' (by omega : k < l.length), cutN_cons] at hgo
      have hend := endS_calls (pcAt l k)
      have hwr : wrap64 (pcEnd (pcAt l k)) = pcEnd (pcAt l k) := IntWalk.wrap64_in _ (by unfold pcEnd; omega)
      rw [hwr] at hend
      have hpe : pcEnd (pcAt l k) = (pcAt l k).1 + ((pcAt l k).2.length : Int) := rfl
      generalize pcEnd (pcAt l k) = E at *
      generalize pcAt l k = p at *
      obtain ⟨at0, t⟩ := p
      dsimp only at c0 c1 f0 f1 f2 t0 t1 hgo hpe
      have HE := Lib.hid hend
      clear hh h htm hwr hend
      by_cases h1 : n ≤ at0
      · rw [if_pos h1] at hgo
        have hd1 : decide (n ≤ at0) = true := by simp; omega
        have HG := Lib.hid hgo
        clear hgo hpe
        go_wp2_with (at_builtin; refine wpList_append_own _ rfl _ _ 23 rfl w.heap.size 69 i0 (.agg #[.int .i64 0, gs []]) 2 24 Try.underlying23 hi hz0 hz1 hz2 rfl (by decide) _ _ _ rfl (hown.alloc _) ⟨wr.heap.size, 0, none⟩ 1 1 [.int .i64 at0, gs t] rfl rfl (two_new _ _ _ _) (two_cell _ _ _) (by unfold maxLen; omega) (by omega) (by simp; omega) ?_)
        intro v' w1 hown' hgrow _
        have R := piece_step (p := (at0, t)) hbl hws hown hown' hgrow
        clear hown' hgrow hown hbl
        go_wp2
        go_roundw
        case rel => exact ⟨k + 1, acc ++ [(at0, t)], by go_num, by omega, by simp; omega, R.1, by rw [HG.out]; simp, R.2⟩
        case measure => simp [intOf]; omega
      · rw [if_neg h1] at hgo
        have hd1 : decide (n ≤ at0) = false := by simp; omega
        by_cases h2 : n < E
        · rw [if_pos h2] at hgo
          have hd2 : decide (n < E) = true := by simp; omega
          have hwi : IntKind.i64.wrap (n - at0) = n - at0 := IntWalk.i64_in _ (by omega)
          have hsl := slice_tail (P := Try.prog) Try.underlying9 t (n - at0).toNat (n - at0) (by omega) (by omega)
          generalize (n - at0).toNat = m at *
          have HG := Lib.hid hgo
          have HSL := Lib.hid hsl
          have HW := Lib.hid hwi
          have HB := Lib.hid hbl
          have HO := Lib.hid hown
          clear hgo hsl hpe hwi hbl hown
          go_wp2_with fail
          refine (HE.out _).mono ?_
          rintro e w1 ⟨rfl, hb1⟩
          have k0 := (hb1.cell (World.block_lt_of_cell? _ _ c0)).trans c0
          have k1 := (hb1.cell (World.block_lt_of_cell? _ _ c1)).trans c1
          have HB2 := Lib.hid (HB.out.trans (hb1.mono HB.out.size))
          clear c0 c1
          have hsl := HSL.out
          have hwi := HW.out
          have HO2 := Lib.hid (ownsRow_below HO.out hb1)
          have hws1 : w.heap.size ≤ w1.heap.size := Nat.le_trans hws hb1.size
          clear hb1 HO HB HW HSL HE
          go_wp2_with fail
          go_region_law (refine step_append_lies _ rfl (.tmp 37) (.tmp 53) 23 rfl w.heap.size 69 i0 (.agg #[.int .i64 0, gs []]) 2 24 Try.underlying23 hi hz0 hz1 hz2 rfl (by decide) _ acc.length (pv acc) (by simp [Act.eval]) ((HO2.out.alloc _).drew) ⟨w1.heap.size, 0, none⟩ 1 1 [.int .i64 n, gs (t.drop m)] (by simp [Act.eval]) rfl (fun j u hj => two_new w1 _ _ _ j u hj) (two_cell _ _ _) (by decide) (by unfold maxLen; omega) (by omega) (by simp; omega) _ rfl ?_; intro g1 cap1 w2 hown1 hgrow1 _ _)
          all_goals
            have hg' : (w1.alloc (.cells #[.int .i64 n, gs (t.drop m)] 69)).grownBy w2 _ := ⟨hgrow1.os, hgrow1.tape, hgrow1.output, hgrow1.size, hgrow1.block⟩
            have R := piece_step (p := (n, t.drop m)) HB2.out hws1 HO2.out hown1 hg'
            have HR1 := Lib.hid R.1
            have HR2 := Lib.hid R.2
            clear hg' R hown1 hgrow1 k0 k1 hsl hwi
            go_wp2_with fail
            go_roundw
            case rel => exact ⟨k + 1, acc ++ [(n, t.drop m)], by go_num, by omega, by simp; omega, by simpa using HR1.out, by rw [HG.out]; simp, HR2.out⟩
            case measure => simp [intOf]; omega
        · rw [if_neg h2] at hgo
          have HG := Lib.hid hgo
          have hd2 : decide (n < E) = false := by simp; omega
          clear hgo hpe
          go_wp2_with fail
          refine (HE.out _).mono ?_
          rintro e w1 ⟨rfl, hb1⟩
          have HB2 := Lib.hid (hbl.trans (hb1.mono hbl.size))
          have hown2 := ownsRow_below hown hb1
          clear c0 c1 hb1
          go_wp2_with fail
          go_roundw
          case rel => exact ⟨k + 1, acc, by go_num, by omega, by omega, hown2, HG.out, HB2.out⟩
          case measure => simp [intOf]; omega
    · have hd : l.drop k = [] := List.drop_eq_nil_of_le (by omega)
      rw [hd] at hgo
      simp [cutN] at hgo
      have HG := Lib.hid hgo; clear hgo hd h
      go_wp2_with fail
      go_ret
      exact ⟨_, rfl, by rw [HG.out]; exact hown, hbl⟩
end Go.Proofs.Ytjcdcaannajnpaa
