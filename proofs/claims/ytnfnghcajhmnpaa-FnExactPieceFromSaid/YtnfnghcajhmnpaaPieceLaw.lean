/- The laws' own words on pieces: how many bytes a list has, a copy of it, whether two lists are the same. -/
import Derived.Test.YtnfnghcajhmnpaaPieces
namespace Go.Proofs.Ytnfnghcajhmnpaa
open Go.RowKit

/-- What is left of a budget behind a piece's bytes. -/
def szOne (p : Pc) (n : Int) : Int := if n < (p.2.length : Int) then -1 else n - (p.2.length : Int)
theorem szPiece_calls (p : Pc) (n : Int) (w : World) (hp : p.2.length ≤ 9223372036854775807) (hn : 0 ≤ n) (hn1 : n ≤ 1048576) : Calls Try.prog 34 #[pcv p, .int .i64 n] w fun e w' => e = .returned (.int .i64 (szOne p n)) ∧ Below w.heap.size w w' := by
  obtain ⟨a, t⟩ := p
  dsimp only at hp
  by_cases h : n < (t.length : Int)
  · have hs : szOne (a, t) n = -1 := by unfold szOne; rw [if_pos h]
    have HS := Lib.hid hs; clear hs
    go_enter Try.func34, Try.ntmps34
    go_wp2
    all_goals first
      | (go_ret; exact ⟨ret_int (by rw [HS.out]), (Below.refl _ _).alloc (Nat.le_refl _) _⟩)
      | (exfalso; omega)
  · have hs : szOne (a, t) n = n - (t.length : Int) := by unfold szOne; rw [if_neg h]
    have HS := Lib.hid hs; clear hs
    go_enter Try.func34, Try.ntmps34
    go_wp2
    all_goals first
      | (go_ret; exact ⟨ret_int (by rw [HS.out]), (Below.refl _ _).alloc (Nat.le_refl _) _⟩)
      | (exfalso; omega)
theorem toPiece_calls (p : Pc) (w : World) : Calls Try.prog 36 #[pcv p] w fun e w' => e = .returned (pcv p) ∧ Below w.heap.size w w' := by
  obtain ⟨a, t⟩ := p
  go_enter Try.func36, Try.ntmps36
  go_wp2
  refine bodyPost_ret (v := pcv (a, t)) (by simp [results, Try.results36, go_sem]) rfl ⟨rfl, ?_⟩
  exact (((Below.refl _ _).alloc (Nat.le_refl _) _).alloc (by simp) _).alloc (by simp; omega) _
theorem eqPiece_calls (p q : Pc) (w : World) : Calls Try.prog 37 #[pcv p, pcv q] w fun e w' => e = .returned (.bool (decide (p = q))) ∧ Below w.heap.size w w' := by
  obtain ⟨a, t⟩ := p
  obtain ⟨b, u⟩ := q
  have hv : decide ((a, t) = (b, u)) = (decide (a = b) && decide (t = u)) := by
    rw [Bool.eq_iff_iff]; simp
  have HV := Lib.hid hv; clear hv
  go_enter Try.func37, Try.ntmps37
  go_wp2
  all_goals go_ret
  all_goals refine ⟨ret_bool ?_, ((Below.refl _ _).alloc (Nat.le_refl _) _).alloc (by simp) _⟩
  all_goals rw [HV.out]
  all_goals simp_all

/-- The pieces l in memory, of whatever lengths. -/
structure RawPcs (w : World) (a : Option Addr) (len : Nat) (l : List Pc) : Prop where
  long : l.length = len
  most : len ≤ 9223372036854775807
  there : 0 < len → ∃ b o, a = some ⟨b, o, none⟩
  cell : ∀ b o, a = some ⟨b, o, none⟩ → ∀ i, i < len → w.cell? ⟨b, o + i * 2, none⟩ = some (.int .i64 (pcAt l i).1) ∧ w.cell? ⟨b, o + i * 2 + 1, none⟩ = some (gs (pcAt l i).2)
  fit : ∀ i, i < len → -9223372036854775808 ≤ (pcAt l i).1 ∧ (pcAt l i).1 ≤ 9223372036854775807 ∧ (pcAt l i).2.length ≤ 9223372036854775807
theorem RawPcs.below {w w' : World} {a : Option Addr} {len : Nat} {l : List Pc} (h : RawPcs w a len l) (hb : Below w.heap.size w w') : RawPcs w' a len l :=
  ⟨h.long, h.most, h.there, fun b o ha i hi => by
    obtain ⟨c0, c1⟩ := h.cell b o ha i hi
    exact ⟨(hb.cell (World.block_lt_of_cell? w _ c0)).trans c0, (hb.cell (World.block_lt_of_cell? w _ c1)).trans c1⟩, h.fit⟩

def szGo : List Pc → Int → Int
  | [], n => n
  | p :: l, n => if szOne p n < 0 then -1 else szGo l (szOne p n)
def szAll (l : List Pc) (n : Int) : Int := if n < (l.length : Int) then -1 else szGo l (n - (l.length : Int))
theorem szOne_le (p : Pc) (n : Int) (h : 0 ≤ n) : szOne p n ≤ n := by unfold szOne; split <;> omega
theorem szGo_small : ∀ (l : List Pc) (n : Int), 0 ≤ n → 0 ≤ szGo l n → ∀ p ∈ l, (p.2.length : Int) ≤ n
  | [], _, _, _ => fun p hp => by cases hp
  | q :: l, n, h0, h => by
    unfold szGo at h
    split at h
    · omega
    · rename_i hq
      have hs := szOne_le q n h0
      intro p hp
      rcases List.mem_cons.1 hp with rfl | hp
      · unfold szOne at hq; split at hq <;> omega
      · have := szGo_small l _ (by omega) h p hp; omega
theorem pcAt_drop {l : List Pc} {k : Nat} (h : k < l.length) : l.drop k = pcAt l k :: l.drop (k + 1) := by
  rw [List.drop_eq_getElem_cons h]; simp [pcAt, List.getD, h]
theorem pcAt_mem {l : List Pc} {k : Nat} (h : k < l.length) : pcAt l k ∈ l := by simp [pcAt, List.getD, h]
/-- A list that the budget lets by is a small one. -/
theorem inPcs_of {w : World} {a : Option Addr} {len : Nat} {l : List Pc} (h : RawPcs w a len l) (hs : 0 ≤ szAll l 1048576) : InPcs w a len l := by
  have hl := h.long
  unfold szAll at hs
  split at hs
  · omega
  · exact ⟨h.long, by omega, h.there, h.cell, fun i hi => by
      obtain ⟨f0, f1, _⟩ := h.fit i hi
      have := szGo_small l _ (by omega) hs (pcAt l i) (pcAt_mem (by omega))
      exact ⟨f0, f1, by omega⟩⟩

set_option maxHeartbeats 1000000 in
set_option maxRecDepth 100000 in
theorem szPieceS_calls {a : Option Addr} {len cap : Nat} {l : List Pc} {w : World} (h : RawPcs w a len l) :
    Calls Try.prog 10 #[.slice a len cap, .int .i64 1048576] w fun e w' => e = .returned (.int .i64 (szAll l 1048576)) ∧ Below w.heap.size w w' := by
  have hm := h.most
  have hlen := h.long
  by_cases hbig : 1048576 < len
  · have hs : szAll l 1048576 = -1 := by unfold szAll; rw [if_pos (by omega)]
    have HS := Lib.hid hs; clear hs
    go_enter Try.func10, Try.ntmps10
    go_wp2_with fail
    all_goals first
      | (go_ret; exact ⟨ret_int (by rw [HS.out]), Below.refl _ _⟩)
      | (exfalso; omega)
  · have hs : szAll l 1048576 = szGo (l.drop 0) (1048576 - (len : Int)) := by unfold szAll; rw [if_neg (by omega), hlen]; rfl
    have HS := Lib.hid hs; clear hs
    go_enter Try.func10, Try.ntmps10
    go_wp2_with fail
    go_loopw [1, 5] (fun v i wr => ∃ (k : Nat) (m : Int), i = .int .i64 (k : Int) ∧ v = .int .i64 m ∧ k ≤ len ∧ 0 ≤ m ∧ m ≤ 1048576 ∧ szAll l 1048576 = szGo (l.drop k) m ∧ Below w.heap.size w wr) (fun _ i _ => len - (intOf i).toNat)
    case atStart => exact ⟨0, _, rfl, rfl, Nat.zero_le _, by omega, by omega, HS.out, Below.refl _ _⟩
    case round =>
      clear HS
      obtain ⟨k, m, rfl, rfl, hk, hm0, hm1, hgo, hbl⟩ := hrel
      by_cases hkl : k < len
      · have hh := h.below hbl
        obtain ⟨b, o, rfl⟩ := hh.there (by omega)
        obtain ⟨c0, c1⟩ := hh.cell b o rfl k hkl
        obtain ⟨_, _, f2⟩ := hh.fit k hkl
        rw [pcAt_drop (by omega : k < l.length)] at hgo
        unfold szGo at hgo
        have hcall := fun w => szPiece_calls (pcAt l k) m w f2 hm0 hm1
        have hle := szOne_le (pcAt l k) m hm0
        have hge : -1 ≤ szOne (pcAt l k) m := by unfold szOne; split <;> omega
        generalize pcAt l k = p at *
        obtain ⟨at0, t⟩ := p
        dsimp only at c0 c1
        generalize szOne (at0, t) m = r at *
        have HC := Lib.hid hcall
        have HBL := Lib.hid hbl
        clear hh h hcall hbl f2
        by_cases hr : r < 0
        · rw [if_pos hr] at hgo
          have HG := Lib.hid hgo; clear hgo
          go_wp2_with (go_at_call 34; refine (HC.out _).mono ?_; rintro e w1 ⟨rfl, hb1⟩)
          all_goals first
            | (go_ret; exact ⟨ret_int (by rw [HG.out]), HBL.out.trans (hb1.mono HBL.out.size)⟩)
            | (exfalso; omega)
        · rw [if_neg hr] at hgo
          have HG := Lib.hid hgo; clear hgo
          go_wp2_with (go_at_call 34; refine (HC.out _).mono ?_; rintro e w1 ⟨rfl, hb1⟩)
          go_roundw
          case rel => exact ⟨k + 1, r, by go_num, rfl, by omega, by omega, by omega, HG.out, HBL.out.trans (hb1.mono HBL.out.size)⟩
          case measure => simp [intOf]; omega
      · have hd : l.drop k = [] := List.drop_eq_nil_of_le (by omega)
        rw [hd] at hgo
        have HG := Lib.hid hgo; clear hgo hd
        go_wp2_with fail
        go_ret
        exact ⟨ret_int (by rw [HG.out]; rfl), hbl⟩
end Go.Proofs.Ytnfnghcajhmnpaa
