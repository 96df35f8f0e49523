/- The model's l02From and l02Bytes: what stands from a place on; how many bytes there are. -/
import Derived.Test.YtjcdcaannajnpaaPieces
import Derived.Test.YtjcdcaannajnpaaSlice
namespace Go.Proofs.Ytjcdcaannajnpaa
open Go.RowKit

/-- What stands from a place on, to the end of its piece. -/
def fromN : List Pc → Int → List UInt8
  | [], _ => []
  | p :: l, at' => if p.1 ≤ at' ∧ at' < pcEnd p then p.2.drop (at' - p.1).toNat else fromN l at'
theorem fromN_cons (p : Pc) (l : List Pc) (n : Int) : fromN (p :: l) n = if p.1 ≤ n ∧ n < pcEnd p then p.2.drop (n - p.1).toNat else fromN l n := rfl
theorem pcAt_drop' {l : List Pc} {k : Nat} (h : k < l.length) : l.drop k = pcAt l k :: l.drop (k + 1) := by
  rw [List.drop_eq_getElem_cons h]; simp [pcAt, List.getD, h]
/-- Two cells that a region reads, behind a call that makes memory. -/
theorem keep2 {a w w' : World} {p q : Addr} {x y : Value} (hb : Below w.heap.size w w') (h : Below a.heap.size a w ∧ w.cell? p = some x ∧ w.cell? q = some y) :
    Below a.heap.size a w' ∧ w'.cell? p = some x ∧ w'.cell? q = some y :=
  have c {p : Addr} {x : Value} (h : w.cell? p = some x) : w'.cell? p = some x := (hb.cell (World.block_lt_of_cell? w _ h)).trans h
  ⟨h.1.trans (hb.mono h.1.size), c h.2.1, c h.2.2⟩

set_option maxHeartbeats 1000000 in
set_option maxRecDepth 100000 in
theorem fromS_calls {a : Option Addr} {len cap : Nat} {l : List Pc} {w : World} (h : InPcs w a len l) (hr : right l) (at' : Int) (ha0 : -9223372036854775808 ≤ at') (ha1 : at' ≤ 9223372036854775807) :
    Calls Try.prog 56 #[.slice a len cap, .int .i64 at'] w fun e w' => e = .returned (gs (fromN l at')) ∧ Below w.heap.size w w' := by
  have hm := h.most
  have hlen := h.long
  have htm : ∀ i, i < len → 0 ≤ (pcAt l i).1 ∧ (pcAt l i).1 ≤ 1000000 := fun i hi => ⟨(hr.2 i (by omega)).2.1, (hr.2 i (by omega)).2.2.1⟩
  clear hr
  go_enter Try.func56, Try.ntmps56
  go_wp2_with fail
  go_loopw [5] (fun i wr => ∃ k : Nat, i = .int .i64 (k : Int) ∧ k ≤ len ∧ fromN l at' = fromN (l.drop k) at' ∧ Below w.heap.size w wr) (fun i wr => len - (intOf i).toNat)
  case atStart => exact ⟨0, rfl, Nat.zero_le _, rfl, Below.refl _ _⟩
  case round =>
    obtain ⟨k, rfl, hk, hgo, hbl⟩ := hrel
    by_cases hkl : k < len
    · have hh := h.below hbl
      obtain ⟨b, o, rfl⟩ := hh.there (by omega)
      obtain ⟨c0, c1⟩ := hh.cell b o rfl k hkl
      obtain ⟨f0, f1, f2⟩ := hh.fit k hkl
      obtain ⟨t0, t1⟩ := htm k hkl
      have hend := endS_calls (pcAt l k)
      have hwr : wrap64 (pcEnd (pcAt l k)) = pcEnd (pcAt l k) := IntWalk.wrap64_in _ (by unfold pcEnd; omega)
      rw [hwr] at hend
      rw [pcAt_drop' (by omega : k < l.length), fromN_cons] at hgo
      have hpe : pcEnd (pcAt l k) = (pcAt l k).1 + ((pcAt l k).2.length : Int) := rfl
      generalize pcEnd (pcAt l k) = E at *
      generalize pcAt l k = p at *
      obtain ⟨at0, t⟩ := p
      dsimp only at c0 c1 f0 f1 f2 t0 t1 hgo hpe
      have HE := Lib.hid hend
      have HBL := Lib.hid hbl
      clear hh h hend hbl hwr htm
      by_cases h1 : at0 ≤ at'
      · by_cases h2 : at' < E
        · rw [if_pos ⟨h1, h2⟩] at hgo
          have hwr : wrap64 (at' - at0) = at' - at0 := IntWalk.wrap64_in _ (by omega)
          have hsl := slice_tail (P := Try.prog) Try.underlying9 t (at' - at0).toNat (at' - at0) (by omega) (by omega)
          generalize (at' - at0).toNat = n at *
          have HG := Lib.hid hgo
          have HSL := Lib.hid hsl
          have hd1 : decide (at0 ≤ at') = true := by simp; omega
          have hd2 : decide (at' < E) = true := by simp; omega
          clear hgo hsl hpe
          go_wp2_with fail
          refine (HE.out _).mono ?_
          rintro e w1 ⟨rfl, hb1⟩
          have k0 := (hb1.cell (World.block_lt_of_cell? _ _ c0)).trans c0
          have k1 := (hb1.cell (World.block_lt_of_cell? _ _ c1)).trans c1
          have HB2 := Lib.hid (HBL.out.trans (hb1.mono HBL.out.size))
          clear c0 c1 hb1
          have hsl := HSL.out
          go_wp2_with fail
          have hwi : IntKind.i64.wrap (at' - at0) = at' - at0 := IntWalk.i64_in _ (by omega)
          go_quiet (fail)
          go_wp2_with fail
          go_ret
          exact ⟨by rw [HG.out]; rfl, below_drewN HB2.out _⟩
        · rw [if_neg (fun h => h2 h.2)] at hgo
          have HG := Lib.hid hgo
          have hd1 : decide (at0 ≤ at') = true := by simp; omega
          have hd2 : decide (at' < E) = false := by simp; omega
          clear hgo hpe
          go_wp2_with fail
          refine (HE.out _).mono ?_
          rintro e w1 ⟨rfl, hb1⟩
          have HB2 := Lib.hid (HBL.out.trans (hb1.mono HBL.out.size))
          clear c0 c1 hb1
          go_wp2_with fail
          go_roundw
          case rel => exact ⟨k + 1, by go_num, by omega, HG.out, HB2.out⟩
          case measure => simp [intOf]; omega
      · rw [if_neg (fun h => h1 h.1)] at hgo
        have HG := Lib.hid hgo
        have hd1 : decide (at0 ≤ at') = false := by simp; omega
        clear hgo hpe
        go_wp2_with fail
        go_roundw
        case rel => exact ⟨k + 1, by go_num, by omega, HG.out, HBL.out⟩
        case measure => simp [intOf]; omega
    · have hd : l.drop k = [] := List.drop_eq_nil_of_le (by omega)
      rw [hd] at hgo
      have HG := Lib.hid hgo; clear hgo hd h
      go_wp2_with fail
      go_ret
      exact ⟨by rw [HG.out]; rfl, hbl⟩

def bytesN : List Pc → Nat
  | [] => 0
  | p :: l => p.2.length + bytesN l
theorem bytesN_le : ∀ (l : List Pc), (∀ p ∈ l, p.2.length ≤ 2000000) → bytesN l ≤ l.length * 2000000
  | [], _ => by simp [bytesN]
  | p :: l, h => by
    have h1 := h p (by simp)
    have h2 := bytesN_le l (fun q hq => h q (by simp [hq]))
    unfold bytesN
    rw [List.length_cons]
    omega
theorem bytesN_drop {l : List Pc} {k : Nat} (h : k < l.length) : bytesN (l.drop k) = (pcAt l k).2.length + bytesN (l.drop (k + 1)) := by rw [pcAt_drop' h]; rfl
theorem pcAt_mem' {l : List Pc} {k : Nat} (h : k < l.length) : pcAt l k ∈ l := by simp [pcAt, List.getD, h]
theorem mem_pcAt {l : List Pc} {p : Pc} (h : p ∈ l) : ∃ k, k < l.length ∧ pcAt l k = p := by
  obtain ⟨k, hk, he⟩ := List.getElem_of_mem h
  exact ⟨k, hk, by simp [pcAt, List.getD, hk, he]⟩
theorem bytesS_calls {a : Option Addr} {len cap : Nat} {l : List Pc} {w : World} (h : InPcs w a len l) :
    Calls Try.prog 57 #[.slice a len cap] w fun e w' => e = .returned (.int .i64 (bytesN l : Int)) ∧ w' = w := by
  have hm := h.most
  have hlen := h.long
  have hall : bytesN l ≤ len * 2000000 := by
    rw [← hlen]
    exact bytesN_le l (fun p hp => by obtain ⟨k, hk, rfl⟩ := mem_pcAt hp; exact (h.fit k (by omega)).2.2)
  go_enter Try.func57, Try.ntmps57
  go_wp2_with fail
  go_loop [3, 4] (fun v i => ∃ k m : Nat, i = .int .i64 (k : Int) ∧ v = .int .i64 (m : Int) ∧ k ≤ len ∧ bytesN l = m + bytesN (l.drop k)) (fun _ i => len - (intOf i).toNat)
  case atStart => exact ⟨0, 0, rfl, rfl, Nat.zero_le _, by simp⟩
  case round =>
    obtain ⟨k, m, rfl, rfl, hk, hgo⟩ := hrel
    by_cases hkl : k < len
    · obtain ⟨b, o, rfl⟩ := h.there (by omega)
      obtain ⟨c0, c1⟩ := h.cell b o rfl k hkl
      obtain ⟨f0, f1, f2⟩ := h.fit k hkl
      rw [bytesN_drop (by omega)] at hgo
      generalize pcAt l k = p at *
      obtain ⟨at0, t⟩ := p
      dsimp only at c0 c1 f2 hgo
      have hs : (m : Int) + (t.length : Int) ≤ 5000000000000 := by omega
      have hs0 : (0 : Int) ≤ (m : Int) + (t.length : Int) := by omega
      have HG := Lib.hid hgo
      clear hgo h hall hlen
      go_wp2_with fail
      go_round
      case rel => exact ⟨k + 1, m + t.length, by go_num, by go_num, by omega, by have := HG.out; omega⟩
      case measure => simp [intOf]; omega
    · have hd : l.drop k = [] := List.drop_eq_nil_of_le (by omega)
      rw [hd] at hgo
      simp [bytesN] at hgo
      clear h hall
      have HG := Lib.hid hgo; clear hgo
      go_wp2_with fail
      go_ret
      exact ⟨ret_int (by rw [HG.out]), rfl⟩
end Go.Proofs.Ytjcdcaannajnpaa
