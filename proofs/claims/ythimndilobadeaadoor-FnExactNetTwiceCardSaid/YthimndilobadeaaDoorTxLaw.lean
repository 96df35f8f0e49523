/- The laws' words on rows of texts: how many bytes, whether two are the same. -/
import Derived.Test.YthimndilobadeaaDoorTx
import Derived.Deep.QuietTactic
import Derived.BigQuiet
namespace Go.Proofs.YthimndilobadeaaDoor
open Go.RowKit

theorem tx_drewN {B : Nat} {a w : World} (h : Below B a w) (n : Nat) : Below B a (w.drewN n) := ⟨h.os, h.tape, h.output, h.size, h.block⟩

set_option maxHeartbeats 1000000 in
set_option maxRecDepth 100000 in
theorem szStringS_calls {a : Option Addr} {len cap : Nat} {l : Tx} {w : World} (h : RawTx w a len l) (n : Int) (hn0 : 0 ≤ n) (hn1 : n ≤ 1048576) :
    Calls Tryd.prog 31 #[.slice a len cap, .int .i64 n] w fun e w' => e = .returned (.int .i64 (szTx l n)) ∧ Below w.heap.size w w' := by
  have hm := h.most
  have hlen := h.long
  by_cases hbig : n < (len : Int)
  · have hs : szTx l n = -1 := by unfold szTx; rw [if_pos (by omega)]
    have HS := Lib.hid hs; clear hs
    go_enter Tryd.func31, Tryd.ntmps31
    go_wp2_with fail
    all_goals first
      | (go_ret; exact ⟨ret_int (by rw [HS.out]), Below.refl _ _⟩)
      | (exfalso; omega)
  · have hs : szTx l n = szTxGo (l.drop 0) (n - (len : Int)) := by unfold szTx; rw [if_neg (by omega), hlen]; rfl
    have HS := Lib.hid hs; clear hs
    have hr : ∃ R, R = szTx l n := ⟨_, rfl⟩
    obtain ⟨R, hR⟩ := hr
    rw [← hR] at HS
    rw [← hR]
    have HRR := Lib.hid hR
    clear hR
    go_enter Tryd.func31, Tryd.ntmps31
    go_wp2_with fail
    go_loopw [1, 5] (fun v i wr => ∃ (k : Nat) (m : Int), i = .int .i64 (k : Int) ∧ v = .int .i64 m ∧ k ≤ len ∧ 0 ≤ m ∧ m ≤ 1048576 ∧ R = szTxGo (l.drop k) m ∧ Below w.heap.size w wr) (fun _ i _ => len - (intOf i).toNat)
    case atStart => exact ⟨0, _, rfl, rfl, Nat.zero_le _, by omega, by omega, HS.out, Below.refl _ _⟩
    case round =>
      clear HS
      obtain ⟨k, m, rfl, rfl, hk, hm0, hm1, hgo, hbl⟩ := hrel
      by_cases hkl : k < len
      · have hh := h.below hbl
        obtain ⟨b, o, rfl⟩ := hh.there (by omega)
        have c0 := hh.cell b o rfl k hkl
        have f0 := hh.fit k hkl
        rw [tx_drop (by omega : k < l.length), szTxGo_cons] at hgo
        generalize txAt l k = t at *
        have HBL := Lib.hid hbl
        clear hh h hbl
        by_cases hr : m < (t.length : Int)
        · rw [if_pos hr] at hgo
          have HG := Lib.hid hgo; clear hgo
          go_wp2_with fail
          all_goals first
            | (go_ret; exact ⟨ret_int (by rw [HG.out]), HBL.out⟩)
            | (exfalso; omega)
        · rw [if_neg hr] at hgo
          have HG := Lib.hid hgo; clear hgo
          go_wp2_with fail
          go_roundw
          case rel => exact ⟨k + 1, m - (t.length : Int), by go_num, rfl, by omega, by omega, by omega, HG.out, HBL.out⟩
          case measure => simp [intOf]; omega
      · have hd : l.drop k = [] := List.drop_eq_nil_of_le (by omega)
        rw [hd] at hgo
        have HG := Lib.hid hgo; clear hgo hd
        go_wp2_with fail
        go_ret
        exact ⟨ret_int (by rw [HG.out]; rfl), hbl⟩

set_option maxHeartbeats 1000000 in
set_option maxRecDepth 100000 in
theorem eqStringS_calls {a b : Option Addr} {la ca lb cb : Nat} {l m : Tx} {w : World} (h : InTx w a la l) (h' : InTx w b lb m) :
    Calls Tryd.prog 40 #[.slice a la ca, .slice b lb cb] w fun e w' => e = .returned (.bool (decide (l = m))) ∧ Below w.heap.size w w' := by
  have hm := h.most
  have hm' := h'.most
  have hl := h.long
  have hl' := h'.long
  by_cases hne : la = lb
  · subst hne
    have hres : ∃ R, R = decide (l = m) := ⟨_, rfl⟩
    obtain ⟨R, hR⟩ := hres
    rw [← hR]
    have HRR := Lib.hid hR
    clear hR
    go_enter Tryd.func40, Tryd.ntmps40
    go_wp2_with fail
    go_loopw [5] (fun i wr => ∃ k : Nat, i = .int .i64 (k : Int) ∧ k ≤ la ∧ eqTxTo l m k ∧ Below w.heap.size w wr) (fun i _ => la - (intOf i).toNat)
    case atStart => exact ⟨0, rfl, Nat.zero_le _, eqTxTo_zero _ _, Below.refl _ _⟩
    case round =>
      obtain ⟨k, rfl, hk, hto, hbl⟩ := hrel
      by_cases hkl : k < la
      · have hh := h.below hbl
        have hh' := h'.below hbl
        obtain ⟨b1, o1, rfl⟩ := hh.there (by omega)
        obtain ⟨b2, o2, rfl⟩ := hh'.there (by omega)
        have c0 := hh.cell b1 o1 rfl k hkl
        have d0 := hh'.cell b2 o2 rfl k hkl
        by_cases hq : txAt l k = txAt m k
        · have hto' := eqTxTo_succ hto hq
          generalize txAt l k = t at *
          generalize txAt m k = u at *
          subst hq
          have HT := Lib.hid hto'
          have HBL := Lib.hid hbl
          clear hh hh' h h' hto hto' hbl
          go_wp2_with fail
          go_quiet (fail)
          go_wp2_with fail
          exact ⟨⟨k + 1, by go_num, by omega, HT.out, tx_drewN HBL.out _⟩, by simp [intOf]; omega⟩
        · have hno : ¬ l = m := fun e => hq (by rw [e])
          have hr : R = false := by rw [HRR.out, decide_eq_false hno]
          generalize txAt l k = t at *
          generalize txAt m k = u at *
          have hd : (t != u) = true := by simpa using hq
          have hd2 : (t == u) = false := by simpa using hq
          have HR := Lib.hid hr
          have HBL := Lib.hid hbl
          clear hh hh' h h' hto hbl hno hr
          go_wp2_with fail
          go_quiet (fail)
          go_wp2_with fail
          go_ret
          exact ⟨ret_bool (by rw [HR.out]), tx_drewN HBL.out _⟩
      · have hkl' : k = la := by omega
        have he : l = m := eqTxTo_all (by omega) (by rw [hl, ← hkl']; exact hto)
        have hr : R = true := by rw [HRR.out, decide_eq_true he]
        have HR := Lib.hid hr
        clear h h' hto he hl hl' hr
        go_wp2_with fail
        go_ret
        exact ⟨ret_bool (by rw [HR.out]), hbl⟩
  · have he : ¬ l = m := fun e => by subst e; omega
    have HE := Lib.hid he
    have hd : ((la : Int) != (lb : Int)) = true := by simp; omega
    clear h h' he hl hl'
    go_enter Tryd.func40, Tryd.ntmps40
    go_wp2_with fail
    go_ret
    exact ⟨ret_bool (by rw [decide_eq_false HE.out]), Below.refl _ _⟩
end Go.Proofs.YthimndilobadeaaDoor
