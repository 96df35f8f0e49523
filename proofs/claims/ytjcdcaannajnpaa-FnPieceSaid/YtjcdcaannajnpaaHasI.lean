/- PieceHas and PieceBytes, the program's and the model's. -/
import Derived.Test.YtjcdcaannajnpaaPieceAtI
namespace Go.Proofs.Ytjcdcaannajnpaa
open Go.RowKit

theorem from_find (l : List Pc) (n : Int) : (findN l n).isSome = !(fromN l n).isEmpty := by
  induction l with
  | nil => rfl
  | cons p l ih =>
    rw [findN_cons, fromN_cons]
    by_cases h : p.1 ≤ n ∧ n < pcEnd p
    · rw [if_pos h, if_pos h]
      have : (p.2.drop (n - p.1).toNat).length ≠ 0 := by rw [List.length_drop]; unfold pcEnd at h; omega
      cases hd : p.2.drop (n - p.1).toNat with
      | nil => rw [hd] at this; exact absurd rfl this
      | cons _ _ => rfl
    · rw [if_neg h, if_neg h]; exact ih
/-- What PieceHas answers. -/
def hasN (l : List Pc) (n : Int) : Bool := decide (right l) && !(fromN l n).isEmpty
theorem hasI_calls {a : Option Addr} {len cap : Nat} {l : List Pc} {w : World} (h : InPcs w a len l) (n : Int) :
    Calls Try.prog 20 #[.slice a len cap, .int .i64 n] w fun e w' => e = .returned (.bool (hasN l n)) ∧ Below w.heap.size w w' := by
  have hc := pieceAt_calls (cap := cap) h n
  have hv : hasN l n = (if right l then findN l n else none).isSome := by
    unfold hasN
    by_cases hr : right l
    · rw [if_pos hr, decide_eq_true hr, from_find]; rfl
    · rw [if_neg hr, decide_eq_false hr]; rfl
  rw [hv]
  generalize (if right l then findN l n else none) = X at *
  have HC := Lib.hid hc
  clear hc hv h
  cases X with
  | none =>
    go_enter Try.func20, Try.ntmps20
    go_wp2_with fail
    refine HC.out.mono ?_
    rintro e w1 ⟨rfl, hb1⟩
    rw [show atv none = .tuple #[pcv (0, []), .bool false] from rfl]
    have HB := Lib.hid hb1
    have hs := hb1.size
    clear hb1 HC
    go_wp2_with fail
    go_ret
    exact ⟨rfl, HB.out.alloc hs _⟩
  | some p =>
    go_enter Try.func20, Try.ntmps20
    go_wp2_with fail
    refine HC.out.mono ?_
    rintro e w1 ⟨rfl, hb1⟩
    rw [show atv (some p) = .tuple #[pcv p, .bool true] from rfl]
    have HB := Lib.hid hb1
    have hs := hb1.size
    obtain ⟨n0, t⟩ := p
    clear hb1 HC
    go_wp2_with fail
    go_ret
    exact ⟨rfl, HB.out.alloc hs _⟩
theorem hasS_calls {a : Option Addr} {len cap : Nat} {l : List Pc} {w : World} (h : InPcs w a len l) (n : Int) (ha0 : -9223372036854775808 ≤ n) (ha1 : n ≤ 9223372036854775807) :
    Calls Try.prog 21 #[.slice a len cap, .int .i64 n] w fun e w' => e = .returned (.bool (hasN l n)) ∧ Below w.heap.size w w' := by
  have hc := rightS_calls (cap := cap) h
  by_cases hr : right l
  · have hf := fun w' (hb : Below w.heap.size w w') => fromS_calls (cap := cap) (h.below hb) hr n ha0 ha1
    have hv : hasN l n = !(fromN l n).isEmpty := by unfold hasN; rw [decide_eq_true hr]; rfl
    rw [hv]
    rw [decide_eq_true hr] at hc
    generalize fromN l n = t at *
    have HC := Lib.hid hc
    have HF := Lib.hid hf
    clear hc hf hv h hr
    go_enter Try.func21, Try.ntmps21
    go_wp2_with fail
    refine HC.out.mono ?_
    rintro e w1 ⟨rfl, hb1⟩
    have HB := Lib.hid hb1
    clear hb1
    go_wp2_with fail
    refine (HF.out _ HB.out).mono ?_
    rintro e w2 ⟨rfl, hb2⟩
    have HB2 := Lib.hid (HB.out.trans (hb2.mono HB.out.size))
    clear hb2 HF HC HB
    cases ht : t.isEmpty with
    | true =>
      go_wp2_with fail
      go_ret
      exact ⟨ret_bool (by simp [ht]), HB2.out⟩
    | false =>
      go_wp2_with fail
      go_ret
      exact ⟨ret_bool (by simp [ht]), HB2.out⟩
  · have hv : hasN l n = false := by unfold hasN; rw [decide_eq_false hr]; rfl
    rw [hv]
    rw [decide_eq_false hr] at hc
    have HC := Lib.hid hc
    clear hc hv h hr
    go_enter Try.func21, Try.ntmps21
    go_wp2_with fail
    refine HC.out.mono ?_
    rintro e w1 ⟨rfl, hb1⟩
    have HB := Lib.hid hb1
    clear hb1 HC
    go_wp2_with fail
    go_ret
    exact ⟨rfl, HB.out⟩

/-- What PieceBytes answers. -/
def countN (l : List Pc) : Int := if right l then (bytesN l : Int) else -1
theorem countS_calls {a : Option Addr} {len cap : Nat} {l : List Pc} {w : World} (h : InPcs w a len l) :
    Calls Try.prog 19 #[.slice a len cap] w fun e w' => e = .returned (.int .i64 (countN l)) ∧ Below w.heap.size w w' := by
  have hc := rightS_calls (cap := cap) h
  have hf := fun w' (hb : Below w.heap.size w w') => bytesS_calls (cap := cap) (h.below hb)
  by_cases hr : right l
  · have hv : countN l = bytesN l := by unfold countN; rw [if_pos hr]
    rw [hv]
    rw [decide_eq_true hr] at hc
    have HC := Lib.hid hc
    have HF := Lib.hid hf
    clear hc hf hv h hr
    go_enter Try.func19, Try.ntmps19
    go_wp2_with fail
    refine HC.out.mono ?_
    rintro e w1 ⟨rfl, hb1⟩
    have HB := Lib.hid hb1
    clear hb1
    go_wp2_with fail
    refine (HF.out _ HB.out).mono ?_
    rintro e w2 ⟨rfl, rfl⟩
    clear HF HC
    go_wp2_with fail
    go_ret
    exact ⟨rfl, HB.out⟩
  · have hv : countN l = -1 := by unfold countN; rw [if_neg hr]
    rw [hv]
    rw [decide_eq_false hr] at hc
    have HC := Lib.hid hc
    clear hc hf hv h hr
    go_enter Try.func19, Try.ntmps19
    go_wp2_with fail
    refine HC.out.mono ?_
    rintro e w1 ⟨rfl, hb1⟩
    have HB := Lib.hid hb1
    clear hb1 HC
    go_wp2_with fail
    go_ret
    exact ⟨rfl, HB.out⟩
set_option maxHeartbeats 1000000 in
set_option maxRecDepth 100000 in
theorem countI_calls {a : Option Addr} {len cap : Nat} {l : List Pc} {w : World} (h : InPcs w a len l) :
    Calls Try.prog 18 #[.slice a len cap] w fun e w' => e = .returned (.int .i64 (countN l)) ∧ Below w.heap.size w w' := by
  have hm := h.most
  have hlen := h.long
  have hc := rightI_calls (cap := cap) h
  by_cases hr : right l
  · have hv : countN l = bytesN l := by unfold countN; rw [if_pos hr]
    rw [hv]
    rw [decide_eq_true hr] at hc
    have hall : bytesN l ≤ len * 2000000 := by
      rw [← hlen]
      exact bytesN_le l (fun p hp => by obtain ⟨k, hk, rfl⟩ := mem_pcAt hp; exact (h.fit k (by omega)).2.2)
    have HC := Lib.hid hc
    clear hc hv hr
    go_enter Try.func18, Try.ntmps18
    go_wp2_with fail
    refine HC.out.mono ?_
    rintro e w1 ⟨rfl, hb1⟩
    have HB := Lib.hid hb1
    clear hb1 HC
    go_wp2_with fail
    go_loopw [3, 11] (fun v i wr => ∃ k m : Nat, i = .int .i64 (k : Int) ∧ v = .int .i64 (m : Int) ∧ k ≤ len ∧ bytesN l = m + bytesN (l.drop k) ∧ Below w.heap.size w wr) (fun _ i _ => len - (intOf i).toNat)
    case atStart => exact ⟨0, 0, rfl, rfl, Nat.zero_le _, by simp, HB.out⟩
    case round =>
      clear HB
      obtain ⟨k, m, rfl, rfl, hk, hgo, hbl⟩ := hrel
      by_cases hkl : k < len
      · have hh := h.below hbl
        obtain ⟨b, o, rfl⟩ := hh.there (by omega)
        obtain ⟨c0, c1⟩ := hh.cell b o rfl k hkl
        obtain ⟨f0, f1, f2⟩ := hh.fit k hkl
        rw [bytesN_drop (by omega)] at hgo
        generalize pcAt l k = p at *
        obtain ⟨at0, t⟩ := p
        dsimp only at c0 c1 f2 hgo
        have hs : (m : Int) + (t.length : Int) ≤ 5000000000000 := by omega
        have hs0 : (0 : Int) ≤ (m : Int) + (t.length : Int) := by omega
        have HG := Lib.hid hgo
        have HB := Lib.hid hbl
        clear hgo h hh hall hlen hbl
        go_wp2_with fail
        go_roundw
        case rel => exact ⟨k + 1, m + t.length, by go_num, by go_num, by omega, by have := HG.out; omega, HB.out.alloc HB.out.size _⟩
        case measure => simp [intOf]; omega
      · have hd : l.drop k = [] := List.drop_eq_nil_of_le (by omega)
        rw [hd] at hgo
        simp [bytesN] at hgo
        clear h hall
        have HG := Lib.hid hgo; clear hgo
        go_wp2_with fail
        go_ret
        exact ⟨ret_int (by rw [HG.out]), hbl⟩
  · have hv : countN l = -1 := by unfold countN; rw [if_neg hr]
    rw [hv]
    rw [decide_eq_false hr] at hc
    have HC := Lib.hid hc
    clear hc hv h hr hlen
    go_enter Try.func18, Try.ntmps18
    go_wp2_with fail
    refine HC.out.mono ?_
    rintro e w1 ⟨rfl, hb1⟩
    have HB := Lib.hid hb1
    clear hb1 HC
    go_wp2_with fail
    go_ret
    exact ⟨rfl, HB.out⟩
end Go.Proofs.Ytjcdcaannajnpaa
