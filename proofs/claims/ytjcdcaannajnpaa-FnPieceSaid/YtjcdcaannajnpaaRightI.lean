/- The program's PiecesRight, PieceBytes, pieceAt. -/
import Derived.Test.YtjcdcaannajnpaaPieceFrom
import Derived.Test.YtjcdcaannajnpaaLinkA
namespace Go.Proofs.Ytjcdcaannajnpaa
open Go.RowKit

/-- Where the piece ahead of place k ends. -/
def endTo (l : List Pc) (k : Nat) : Int := if k = 0 then -1 else pcEnd (pcAt l (k - 1))
theorem endTo_zero (l : List Pc) : endTo l 0 = -1 := rfl
theorem endTo_succ (l : List Pc) (k : Nat) : endTo l (k + 1) = pcEnd (pcAt l k) := by unfold endTo; rw [if_neg (by omega)]; rfl
theorem okP_of {l : List Pc} {k : Nat} (h1 : (pcAt l k).2 ≠ []) (h2 : 0 ≤ (pcAt l k).1) (h3 : (pcAt l k).1 ≤ 1000000) (h4 : endTo l k < (pcAt l k).1) : okP l k :=
  ⟨h1, h2, h3, fun h => by unfold endTo at h4; rw [if_neg (by omega)] at h4; exact h4⟩
theorem okP_end {l : List Pc} {k : Nat} (h : okP l k) : endTo l k < (pcAt l k).1 := by
  unfold endTo
  split
  · have := h.2.1; omega
  · exact h.2.2.2 (by omega)

set_option maxHeartbeats 1000000 in
set_option maxRecDepth 100000 in
theorem rightI_calls {a : Option Addr} {len cap : Nat} {l : List Pc} {w : World} (h : InPcs w a len l) :
    Calls Try.prog 22 #[.slice a len cap] w fun e w' => e = .returned (.bool (decide (right l))) ∧ Below w.heap.size w w' := by
  have hm := h.most
  have hlen := h.long
  by_cases h40 : 40 < len
  · have hno : ¬ right l := fun h => by have := h.1; omega
    have HF := Lib.hid hno
    clear hno hlen h
    go_enter Try.func22, Try.ntmps22
    go_wp2_with fail
    all_goals first
      | (exfalso; omega)
      | (exact bodyPost_ret (v := .bool false) (by simp [results, Try.results22, go_sem]) rfl ⟨ret_bool (by rw [decide_eq_false HF.out]), Below.refl _ _⟩)
  · have h40' : decide (40 < len) = false := by simp; omega
    have HZ := Lib.hid (endTo_zero l)
    go_enter Try.func22, Try.ntmps22
    go_wp2_with fail
    go_loopw [3, 11] (fun v i wr => ∃ (k : Nat) (E : Int), i = .int .i64 (k : Int) ∧ v = .int .i64 E ∧ k ≤ len ∧ okUp l k ∧ E = endTo l k ∧ -1 ≤ E ∧ E ≤ 3000000 ∧ Below w.heap.size w wr) (fun _ i wr => len - (intOf i).toNat)
    case atStart => exact ⟨0, -1, rfl, rfl, Nat.zero_le _, okUp_zero l, HZ.out.symm, by omega, by omega, Below.refl _ _⟩
    case round =>
      clear HZ
      obtain ⟨k, E, rfl, rfl, hk, hok, hE, hE0, hE1, hbl⟩ := hrel
      by_cases hkl : k < len
      · have hh := h.below hbl
        obtain ⟨b, o, rfl⟩ := hh.there (by omega)
        obtain ⟨c0, c1⟩ := hh.cell b o rfl k hkl
        obtain ⟨f0, f1, f2⟩ := hh.fit k hkl
        have hst : okP l k → okUp l (k + 1) := okUp_succ hok
        have hno : ¬ okP l k → ¬ right l := not_right (by omega)
        have hof := okP_of (l := l) (k := k)
        have hen := okP_end (l := l) (k := k)
        have hes := endTo_succ l k
        have hend := endOf_calls (pcAt l k)
        have hp1 : okP l k → (pcAt l k).2 ≠ [] ∧ 0 ≤ (pcAt l k).1 ∧ (pcAt l k).1 ≤ 1000000 := fun h => ⟨h.1, h.2.1, h.2.2.1⟩
        rw [← hE] at hof hen
        generalize okP l k = OK at *
        generalize pcAt l k = p at *
        obtain ⟨at0, t⟩ := p
        dsimp only at c0 c1 f0 f1 f2 hst hno hof hen hp1
        have HS := Lib.hid hst
        have HN := Lib.hid hno
        have HOF := Lib.hid hof
        have HEN := Lib.hid hen
        have HES := Lib.hid hes
        have HED := Lib.hid hend
        have HP1 := Lib.hid hp1
        have HBL := Lib.hid hbl
        clear hst hno hof hen hes hend hp1 hok hE hbl hh h hlen
        cases ht : t.isEmpty with
        | true =>
          have hno : ¬ right l := HN.out (fun h => (HP1.out h).1 (by simpa using ht))
          have HF := Lib.hid hno; clear hno
          go_wp2_with fail
          go_ret
          exact ⟨ret_bool (by rw [decide_eq_false HF.out]), HBL.out.trans ((Below.refl _ _).alloc HBL.out.size _)⟩
        | false =>
          by_cases hti : 0 ≤ at0 ∧ at0 ≤ 1000000
          · have hcall := isTime_calls at0
            rw [decide_eq_true hti] at hcall
            have HC := Lib.hid hcall; clear hcall
            have hne : t ≠ [] := by intro e; rw [e] at ht; simp at ht
            have HNE := Lib.hid hne
            clear hne
            by_cases hle : at0 ≤ E
            · have hd : decide (at0 ≤ E) = true := by simp; omega
              have hno : ¬ right l := HN.out (fun h => by have := HEN.out h; omega)
              have HF := Lib.hid hno; clear hno
              clear hle
              go_wp2_with (go_at_call 42; refine (HC.out _).mono ?_; rintro e w1 ⟨rfl, rfl⟩)
              go_ret
              exact ⟨ret_bool (by rw [decide_eq_false HF.out]), HBL.out.trans ((Below.refl _ _).alloc HBL.out.size _)⟩
            · have hd : decide (at0 ≤ E) = false := by simp; omega
              have hok' := HS.out (HOF.out HNE.out hti.1 hti.2 (by omega))
              have hwr : wrap64 (pcEnd (at0, t)) = pcEnd (at0, t) := IntWalk.wrap64_in _ (by unfold pcEnd; dsimp only; omega)
              have hpe : -1 ≤ pcEnd (at0, t) ∧ pcEnd (at0, t) ≤ 3000000 := by unfold pcEnd; dsimp only; omega
              have hend := HED.out
              rw [hwr] at hend
              have hes := HES.out
              generalize pcEnd (at0, t) = F at *
              have HE := Lib.hid hend
              have HES2 := Lib.hid hes
              have HK := Lib.hid hok'
              have HPE := Lib.hid hpe
              clear hle hend hes hok' hwr HED HES hpe HN HOF HEN HP1 HS
              go_wp2_with (go_at_call 42; refine (HC.out _).mono ?_; rintro e w1 ⟨rfl, rfl⟩)
              refine (HE.out _).mono ?_
              rintro e w1 ⟨rfl, hb1⟩
              have HB2 := Lib.hid (HBL.out.trans ((Below.alloc (Below.refl _ _) HBL.out.size _).trans (hb1.mono (Nat.le_trans HBL.out.size (by simp)))))
              clear hb1
              go_wp2_with fail
              go_roundw
              case rel => exact ⟨k + 1, F, by go_num, rfl, by omega, HK.out, HES2.out.symm, HPE.out.1, HPE.out.2, HB2.out⟩
              case measure => simp [intOf]; omega
          · have hno : ¬ right l := HN.out (fun h => hti (HP1.out h).2)
            have HF := Lib.hid hno; clear hno
            have hcall := isTime_calls at0
            rw [decide_eq_false hti] at hcall
            have HC := Lib.hid hcall; clear hcall hti
            go_wp2_with (go_at_call 42; refine (HC.out _).mono ?_; rintro e w1 ⟨rfl, rfl⟩)
            go_ret
            exact ⟨ret_bool (by rw [decide_eq_false HF.out]), HBL.out.trans ((Below.refl _ _).alloc HBL.out.size _)⟩
      · have hkl' : k = len := by omega
        have hr : right l := ⟨by omega, by rw [hlen, ← hkl']; exact hok⟩
        have HR := Lib.hid hr
        clear h hok hr hlen hE
        go_wp2_with fail
        go_ret
        exact ⟨ret_bool (by rw [decide_eq_true HR.out]), hbl⟩
end Go.Proofs.Ytjcdcaannajnpaa
