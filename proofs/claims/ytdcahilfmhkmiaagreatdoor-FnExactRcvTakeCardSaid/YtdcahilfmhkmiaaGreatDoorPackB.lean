/- Small texts laid together: PieceLaw, PieceFrom, PieceApp, PieceTo, Held, PieceArg, PieceEq, MarkS, PcOwn. -/
import Derived.Test.YtdcahilfmhkmiaaGreatDoorPieces
import Derived.Test.YtdcahilfmhkmiaaGreatDoorPackA
import Derived.Deep.SlicePairs

namespace Go.Proofs.YtdcahilfmhkmiaaGreatDoor
open Go.RowKit

/-- What is left of a budget behind a piece's bytes. -/
def szOne (p : Pc) (n : Int) : Int := if n < (p.2.length : Int) then -1 else n - (p.2.length : Int)
theorem szPiece_calls (p : Pc) (n : Int) (w : World) (hp : p.2.length ≤ 9223372036854775807) (hn : 0 ≤ n) (hn1 : n ≤ 1048576) : Calls Tryz.prog 176 #[pcv p, .int .i64 n] w fun e w' => e = .returned (.int .i64 (szOne p n)) ∧ Below w.heap.size w w' := by
  obtain ⟨a, t⟩ := p
  dsimp only at hp
  by_cases h : n < (t.length : Int)
  · have hs : szOne (a, t) n = -1 := by unfold szOne; rw [if_pos h]
    have HS := Lib.hid hs; clear hs
    go_enter Tryz.func176, Tryz.ntmps176
    go_wp2
    all_goals first
      | (go_ret; exact ⟨ret_int (by rw [HS.out]), (Below.refl _ _).alloc (Nat.le_refl _) _⟩)
      | (exfalso; omega)
  · have hs : szOne (a, t) n = n - (t.length : Int) := by unfold szOne; rw [if_neg h]
    have HS := Lib.hid hs; clear hs
    go_enter Tryz.func176, Tryz.ntmps176
    go_wp2
    all_goals first
      | (go_ret; exact ⟨ret_int (by rw [HS.out]), (Below.refl _ _).alloc (Nat.le_refl _) _⟩)
      | (exfalso; omega)
theorem toPiece_calls (p : Pc) (w : World) : Calls Tryz.prog 178 #[pcv p] w fun e w' => e = .returned (pcv p) ∧ Below w.heap.size w w' := by
  obtain ⟨a, t⟩ := p
  go_enter Tryz.func178, Tryz.ntmps178
  go_wp2
  refine bodyPost_ret (v := pcv (a, t)) (by simp [results, Tryz.results178, go_sem]) rfl ⟨rfl, ?_⟩
  exact (((Below.refl _ _).alloc (Nat.le_refl _) _).alloc (by simp) _).alloc (by simp; omega) _
theorem eqPiece_calls (p q : Pc) (w : World) : Calls Tryz.prog 180 #[pcv p, pcv q] w fun e w' => e = .returned (.bool (decide (p = q))) ∧ Below w.heap.size w w' := by
  obtain ⟨a, t⟩ := p
  obtain ⟨b, u⟩ := q
  have hv : decide ((a, t) = (b, u)) = (decide (a = b) && decide (t = u)) := by
    rw [Bool.eq_iff_iff]; simp
  have HV := Lib.hid hv; clear hv
  go_enter Tryz.func180, Tryz.ntmps180
  go_wp2
  all_goals go_ret
  all_goals refine ⟨ret_bool ?_, ((Below.refl _ _).alloc (Nat.le_refl _) _).alloc (by simp) _⟩
  all_goals rw [HV.out]
  all_goals simp_all

/-- The pieces l in memory, of whatever lengths. -/
structure RawPcs (w : World) (a : Option Addr) (len : Nat) (l : List Pc) : Prop where
  long : l.length = len
  most : len ≤ 9223372036854775807
  there : 0 < len → ∃ b o, a = some ⟨b, o, none⟩
  cell : ∀ b o, a = some ⟨b, o, none⟩ → ∀ i, i < len → w.cell? ⟨b, o + i * 2, none⟩ = some (.int .i64 (pcAt l i).1) ∧ w.cell? ⟨b, o + i * 2 + 1, none⟩ = some (gs (pcAt l i).2)
  fit : ∀ i, i < len → -9223372036854775808 ≤ (pcAt l i).1 ∧ (pcAt l i).1 ≤ 9223372036854775807 ∧ (pcAt l i).2.length ≤ 9223372036854775807
theorem RawPcs.below {w w' : World} {a : Option Addr} {len : Nat} {l : List Pc} (h : RawPcs w a len l) (hb : Below w.heap.size w w') : RawPcs w' a len l :=
  ⟨h.long, h.most, h.there, fun b o ha i hi => by
    obtain ⟨c0, c1⟩ := h.cell b o ha i hi
    exact ⟨(hb.cell (World.block_lt_of_cell? w _ c0)).trans c0, (hb.cell (World.block_lt_of_cell? w _ c1)).trans c1⟩, h.fit⟩

def szGo : List Pc → Int → Int
  | [], n => n
  | p :: l, n => if szOne p n < 0 then -1 else szGo l (szOne p n)
def szAll (l : List Pc) (n : Int) : Int := if n < (l.length : Int) then -1 else szGo l (n - (l.length : Int))
theorem szOne_le (p : Pc) (n : Int) (h : 0 ≤ n) : szOne p n ≤ n := by unfold szOne; split <;> omega
theorem szGo_small : ∀ (l : List Pc) (n : Int), 0 ≤ n → 0 ≤ szGo l n → ∀ p ∈ l, (p.2.length : Int) ≤ n
  | [], _, _, _ => fun p hp => by cases hp
  | q :: l, n, h0, h => by
    unfold szGo at h
    split at h
    · omega
    · rename_i hq
      have hs := szOne_le q n h0
      intro p hp
      rcases List.mem_cons.1 hp with rfl | hp
      · unfold szOne at hq; split at hq <;> omega
      · have := szGo_small l _ (by omega) h p hp; omega
theorem pcAt_drop {l : List Pc} {k : Nat} (h : k < l.length) : l.drop k = pcAt l k :: l.drop (k + 1) := by
  rw [List.drop_eq_getElem_cons h]; simp [pcAt, List.getD, h]
theorem pcAt_mem {l : List Pc} {k : Nat} (h : k < l.length) : pcAt l k ∈ l := by simp [pcAt, List.getD, h]
/-- A list that the budget lets by is a small one. -/
theorem inPcs_of {w : World} {a : Option Addr} {len : Nat} {l : List Pc} (h : RawPcs w a len l) (hs : 0 ≤ szAll l 1048576) : InPcs w a len l := by
  have hl := h.long
  unfold szAll at hs
  split at hs
  · omega
  · exact ⟨h.long, by omega, h.there, h.cell, fun i hi => by
      obtain ⟨f0, f1, _⟩ := h.fit i hi
      have := szGo_small l _ (by omega) hs (pcAt l i) (pcAt_mem (by omega))
      exact ⟨f0, f1, by omega⟩⟩

set_option maxHeartbeats 1000000 in
set_option maxRecDepth 100000 in
theorem szPieceS_calls {a : Option Addr} {len cap : Nat} {l : List Pc} {w : World} (h : RawPcs w a len l) :
    Calls Tryz.prog 116 #[.slice a len cap, .int .i64 1048576] w fun e w' => e = .returned (.int .i64 (szAll l 1048576)) ∧ Below w.heap.size w w' := by
  have hm := h.most
  have hlen := h.long
  by_cases hbig : 1048576 < len
  · have hs : szAll l 1048576 = -1 := by unfold szAll; rw [if_pos (by omega)]
    have HS := Lib.hid hs; clear hs
    go_enter Tryz.func116, Tryz.ntmps116
    go_wp2_with fail
    all_goals first
      | (go_ret; exact ⟨ret_int (by rw [HS.out]), Below.refl _ _⟩)
      | (exfalso; omega)
  · have hs : szAll l 1048576 = szGo (l.drop 0) (1048576 - (len : Int)) := by unfold szAll; rw [if_neg (by omega), hlen]; rfl
    have HS := Lib.hid hs; clear hs
    go_enter Tryz.func116, Tryz.ntmps116
    go_wp2_with fail
    go_loopw [1, 5] (fun v i wr => ∃ (k : Nat) (m : Int), i = .int .i64 (k : Int) ∧ v = .int .i64 m ∧ k ≤ len ∧ 0 ≤ m ∧ m ≤ 1048576 ∧ szAll l 1048576 = szGo (l.drop k) m ∧ Below w.heap.size w wr) (fun _ i _ => len - (intOf i).toNat)
    case atStart => exact ⟨0, _, rfl, rfl, Nat.zero_le _, by omega, by omega, HS.out, Below.refl _ _⟩
    case round =>
      clear HS
      obtain ⟨k, m, rfl, rfl, hk, hm0, hm1, hgo, hbl⟩ := hrel
      by_cases hkl : k < len
      · have hh := h.below hbl
        obtain ⟨b, o, rfl⟩ := hh.there (by omega)
        obtain ⟨c0, c1⟩ := hh.cell b o rfl k hkl
        obtain ⟨_, _, f2⟩ := hh.fit k hkl
        rw [pcAt_drop (by omega : k < l.length)] at hgo
        unfold szGo at hgo
        have hcall := fun w => szPiece_calls (pcAt l k) m w f2 hm0 hm1
        have hle := szOne_le (pcAt l k) m hm0
        have hge : -1 ≤ szOne (pcAt l k) m := by unfold szOne; split <;> omega
        generalize pcAt l k = p at *
        obtain ⟨at0, t⟩ := p
        dsimp only at c0 c1
        generalize szOne (at0, t) m = r at *
        have HC := Lib.hid hcall
        have HBL := Lib.hid hbl
        clear hh h hcall hbl f2
        by_cases hr : r < 0
        · rw [if_pos hr] at hgo
          have HG := Lib.hid hgo; clear hgo
          go_wp2_with (go_at_call 176; refine (HC.out _).mono ?_; rintro e w1 ⟨rfl, hb1⟩)
          all_goals first
            | (go_ret; exact ⟨ret_int (by rw [HG.out]), HBL.out.trans (hb1.mono HBL.out.size)⟩)
            | (exfalso; omega)
        · rw [if_neg hr] at hgo
          have HG := Lib.hid hgo; clear hgo
          go_wp2_with (go_at_call 176; refine (HC.out _).mono ?_; rintro e w1 ⟨rfl, hb1⟩)
          go_roundw
          case rel => exact ⟨k + 1, r, by go_num, rfl, by omega, by omega, by omega, HG.out, HBL.out.trans (hb1.mono HBL.out.size)⟩
          case measure => simp [intOf]; omega
      · have hd : l.drop k = [] := List.drop_eq_nil_of_le (by omega)
        rw [hd] at hgo
        have HG := Lib.hid hgo; clear hgo hd
        go_wp2_with fail
        go_ret
        exact ⟨ret_int (by rw [HG.out]; rfl), hbl⟩
end Go.Proofs.YtdcahilfmhkmiaaGreatDoor

namespace Go.Proofs.YtdcahilfmhkmiaaGreatDoor
open Go.RowKit

/-- What stands from a place on, to the end of its piece. -/
def fromN : List Pc → Int → List UInt8
  | [], _ => []
  | p :: l, at' => if p.1 ≤ at' ∧ at' < pcEnd p then p.2.drop (at' - p.1).toNat else fromN l at'
theorem fromN_cons (p : Pc) (l : List Pc) (n : Int) : fromN (p :: l) n = if p.1 ≤ n ∧ n < pcEnd p then p.2.drop (n - p.1).toNat else fromN l n := rfl
theorem pcAt_drop' {l : List Pc} {k : Nat} (h : k < l.length) : l.drop k = pcAt l k :: l.drop (k + 1) := by
  rw [List.drop_eq_getElem_cons h]; simp [pcAt, List.getD, h]
/-- Two cells that a region reads, behind a call that makes memory. -/
theorem keep2 {a w w' : World} {p q : Addr} {x y : Value} (hb : Below w.heap.size w w') (h : Below a.heap.size a w ∧ w.cell? p = some x ∧ w.cell? q = some y) :
    Below a.heap.size a w' ∧ w'.cell? p = some x ∧ w'.cell? q = some y :=
  have c {p : Addr} {x : Value} (h : w.cell? p = some x) : w'.cell? p = some x := (hb.cell (World.block_lt_of_cell? w _ h)).trans h
  ⟨h.1.trans (hb.mono h.1.size), c h.2.1, c h.2.2⟩

set_option maxHeartbeats 1000000 in
set_option maxRecDepth 100000 in
theorem fromS_calls {a : Option Addr} {len cap : Nat} {l : List Pc} {w : World} (h : InPcs w a len l) (hr : right l) (at' : Int) (ha0 : -9223372036854775808 ≤ at') (ha1 : at' ≤ 9223372036854775807) :
    Calls Tryz.prog 72 #[.slice a len cap, .int .i64 at'] w fun e w' => e = .returned (gs (fromN l at')) ∧ Below w.heap.size w w' := by
  have hm := h.most
  have hlen := h.long
  have htm : ∀ i, i < len → 0 ≤ (pcAt l i).1 ∧ (pcAt l i).1 ≤ 1000000 := fun i hi => ⟨(hr.2 i (by omega)).2.1, (hr.2 i (by omega)).2.2.1⟩
  clear hr
  go_enter Tryz.func72, Tryz.ntmps72
  go_wp2_with fail
  go_loopw [5] (fun i wr => ∃ k : Nat, i = .int .i64 (k : Int) ∧ k ≤ len ∧ fromN l at' = fromN (l.drop k) at' ∧ Below w.heap.size w wr) (fun i wr => len - (intOf i).toNat)
  case atStart => exact ⟨0, rfl, Nat.zero_le _, rfl, Below.refl _ _⟩
  case round =>
    obtain ⟨k, rfl, hk, hgo, hbl⟩ := hrel
    by_cases hkl : k < len
    · have hh := h.below hbl
      obtain ⟨b, o, rfl⟩ := hh.there (by omega)
      obtain ⟨c0, c1⟩ := hh.cell b o rfl k hkl
      obtain ⟨f0, f1, f2⟩ := hh.fit k hkl
      obtain ⟨t0, t1⟩ := htm k hkl
      have hend := endS_calls (pcAt l k)
      have hwr : wrap64 (pcEnd (pcAt l k)) = pcEnd (pcAt l k) := IntWalk.wrap64_in _ (by unfold pcEnd; omega)
      rw [hwr] at hend
      rw [pcAt_drop' (by omega : k < l.length), fromN_cons] at hgo
      have hpe : pcEnd (pcAt l k) = (pcAt l k).1 + ((pcAt l k).2.length : Int) := rfl
      generalize pcEnd (pcAt l k) = E at *
      generalize pcAt l k = p at *
      obtain ⟨at0, t⟩ := p
      dsimp only at c0 c1 f0 f1 f2 t0 t1 hgo hpe
      have HE := Lib.hid hend
      have HBL := Lib.hid hbl
      clear hh h hend hbl hwr htm
      by_cases h1 : at0 ≤ at'
      · by_cases h2 : at' < E
        · rw [if_pos ⟨h1, h2⟩] at hgo
          have hwr : wrap64 (at' - at0) = at' - at0 := IntWalk.wrap64_in _ (by omega)
          have hsl := slice_tail (P := Tryz.prog) Tryz.underlying9 t (at' - at0).toNat (at' - at0) (by omega) (by omega)
          generalize (at' - at0).toNat = n at *
          have HG := Lib.hid hgo
          have HSL := Lib.hid hsl
          have hd1 : decide (at0 ≤ at') = true := by simp; omega
          have hd2 : decide (at' < E) = true := by simp; omega
          clear hgo hsl hpe
          go_wp2_with fail
          refine (HE.out _).mono ?_
          rintro e w1 ⟨rfl, hb1⟩
          have k0 := (hb1.cell (World.block_lt_of_cell? _ _ c0)).trans c0
          have k1 := (hb1.cell (World.block_lt_of_cell? _ _ c1)).trans c1
          have HB2 := Lib.hid (HBL.out.trans (hb1.mono HBL.out.size))
          clear c0 c1 hb1
          have hsl := HSL.out
          go_wp2_with fail
          have hwi : IntKind.i64.wrap (at' - at0) = at' - at0 := IntWalk.i64_in _ (by omega)
          go_quiet (fail)
          go_wp2_with fail
          go_ret
          exact ⟨by rw [HG.out]; rfl, below_drewN HB2.out _⟩
        · rw [if_neg (fun h => h2 h.2)] at hgo
          have HG := Lib.hid hgo
          have hd1 : decide (at0 ≤ at') = true := by simp; omega
          have hd2 : decide (at' < E) = false := by simp; omega
          clear hgo hpe
          go_wp2_with fail
          refine (HE.out _).mono ?_
          rintro e w1 ⟨rfl, hb1⟩
          have HB2 := Lib.hid (HBL.out.trans (hb1.mono HBL.out.size))
          clear c0 c1 hb1
          go_wp2_with fail
          go_roundw
          case rel => exact ⟨k + 1, by go_num, by omega, HG.out, HB2.out⟩
          case measure => simp [intOf]; omega
      · rw [if_neg (fun h => h1 h.1)] at hgo
        have HG := Lib.hid hgo
        have hd1 : decide (at0 ≤ at') = false := by simp; omega
        clear hgo hpe
        go_wp2_with fail
        go_roundw
        case rel => exact ⟨k + 1, by go_num, by omega, HG.out, HBL.out⟩
        case measure => simp [intOf]; omega
    · have hd : l.drop k = [] := List.drop_eq_nil_of_le (by omega)
      rw [hd] at hgo
      have HG := Lib.hid hgo; clear hgo hd h
      go_wp2_with fail
      go_ret
      exact ⟨by rw [HG.out]; rfl, hbl⟩

def bytesN : List Pc → Nat
  | [] => 0
  | p :: l => p.2.length + bytesN l
theorem bytesN_le : ∀ (l : List Pc), (∀ p ∈ l, p.2.length ≤ 2000000) → bytesN l ≤ l.length * 2000000
  | [], _ => by simp [bytesN]
  | p :: l, h => by
    have h1 := h p (by simp)
    have h2 := bytesN_le l (fun q hq => h q (by simp [hq]))
    unfold bytesN
    rw [List.length_cons]
    omega
theorem bytesN_drop {l : List Pc} {k : Nat} (h : k < l.length) : bytesN (l.drop k) = (pcAt l k).2.length + bytesN (l.drop (k + 1)) := by rw [pcAt_drop' h]; rfl
theorem pcAt_mem' {l : List Pc} {k : Nat} (h : k < l.length) : pcAt l k ∈ l := by simp [pcAt, List.getD, h]
theorem mem_pcAt {l : List Pc} {p : Pc} (h : p ∈ l) : ∃ k, k < l.length ∧ pcAt l k = p := by
  obtain ⟨k, hk, he⟩ := List.getElem_of_mem h
  exact ⟨k, hk, by simp [pcAt, List.getD, hk, he]⟩
theorem bytesS_calls {a : Option Addr} {len cap : Nat} {l : List Pc} {w : World} (h : InPcs w a len l) :
    Calls Tryz.prog 83 #[.slice a len cap] w fun e w' => e = .returned (.int .i64 (bytesN l : Int)) ∧ w' = w := by
  have hm := h.most
  have hlen := h.long
  have hall : bytesN l ≤ len * 2000000 := by
    rw [← hlen]
    exact bytesN_le l (fun p hp => by obtain ⟨k, hk, rfl⟩ := mem_pcAt hp; exact (h.fit k (by omega)).2.2)
  go_enter Tryz.func83, Tryz.ntmps83
  go_wp2_with fail
  go_loop [3, 4] (fun v i => ∃ k m : Nat, i = .int .i64 (k : Int) ∧ v = .int .i64 (m : Int) ∧ k ≤ len ∧ bytesN l = m + bytesN (l.drop k)) (fun _ i => len - (intOf i).toNat)
  case atStart => exact ⟨0, 0, rfl, rfl, Nat.zero_le _, by simp⟩
  case round =>
    obtain ⟨k, m, rfl, rfl, hk, hgo⟩ := hrel
    by_cases hkl : k < len
    · obtain ⟨b, o, rfl⟩ := h.there (by omega)
      obtain ⟨c0, c1⟩ := h.cell b o rfl k hkl
      obtain ⟨f0, f1, f2⟩ := h.fit k hkl
      rw [bytesN_drop (by omega)] at hgo
      generalize pcAt l k = p at *
      obtain ⟨at0, t⟩ := p
      dsimp only at c0 c1 f2 hgo
      have hs : (m : Int) + (t.length : Int) ≤ 5000000000000 := by omega
      have hs0 : (0 : Int) ≤ (m : Int) + (t.length : Int) := by omega
      have HG := Lib.hid hgo
      clear hgo h hall hlen
      go_wp2_with fail
      go_round
      case rel => exact ⟨k + 1, m + t.length, by go_num, by go_num, by omega, by have := HG.out; omega⟩
      case measure => simp [intOf]; omega
    · have hd : l.drop k = [] := List.drop_eq_nil_of_le (by omega)
      rw [hd] at hgo
      simp [bytesN] at hgo
      clear h hall
      have HG := Lib.hid hgo; clear hgo
      go_wp2_with fail
      go_ret
      exact ⟨ret_int (by rw [HG.out]), rfl⟩
end Go.Proofs.YtdcahilfmhkmiaaGreatDoor

namespace Go.Proofs.YtdcahilfmhkmiaaGreatDoor
open Go.RowKit

theorem two_new (w : World) (e : TypeId) (x y : Value) : ∀ (j : Nat) (u : Value), [x, y][j]? = some u → (w.alloc (.cells #[x, y] e)).cell? ((⟨w.heap.size, 0, none⟩ : Addr).add j) = some u := by
  intro j u hj
  match j, hj with
  | 0, hj => simp at hj; subst hj; simp [Addr.add]
  | 1, hj => simp at hj; subst hj; simp [Addr.add]
theorem two_cell (k : IntKind) (n : Int) (t : List UInt8) : ∀ u ∈ [Value.int k n, gs t], u.oneCell' = true := by intro u hu; simp at hu; rcases hu with rfl | rfl <;> rfl
/-- The cells of pieces. -/
def pv : List Pc → List Value
  | [] => []
  | p :: l => .int .i64 p.1 :: gs p.2 :: pv l
theorem pv_append (a b : List Pc) : pv (a ++ b) = pv a ++ pv b := by
  induction a with
  | nil => rfl
  | cons p a ih => simp [pv, ih]
theorem pv_length (l : List Pc) : (pv l).length = l.length * 2 := by
  induction l with
  | nil => rfl
  | cons p l ih => simp [pv, ih]; omega
/-- What an append of one piece leaves. -/
theorem piece_step {B : Nat} {a w w' : World} {v v' : Value} {e e' : TypeId} {l : List Pc} {p : Pc} {x : Array Value} (hb : Below B a w) (hs : B ≤ w.heap.size) (hown : w.ownsRow B e 2 v l.length (pv l))
    (hown' : w'.ownsRow B e 2 v' (l.length + 1) (pv l ++ [.int .i64 p.1, gs p.2])) (hg : (w.alloc (.cells x e')).grownBy w' v.ownBlock) :
    w'.ownsRow B e 2 v' (l ++ [p]).length (pv (l ++ [p])) ∧ Below B a w' := by
  refine ⟨?_, ?_⟩
  · rw [pv_append]; simpa [pv] using hown'
  · exact (hb.alloc hs _).grown hg (by simp; omega) (fun k hk => (hown.lt k hk).1)
end Go.Proofs.YtdcahilfmhkmiaaGreatDoor

namespace Go.Proofs.YtdcahilfmhkmiaaGreatDoor
open Go.RowKit

theorem run_make_pieces {P : Program} {t e : TypeId} {i : TypeInfo} (ht : P.underlying t = some (.slice e)) (hi : P.info? e = some i) (hz : i.zero = some (.agg #[.int .i64 0, gs []])) (h1 : i.size = 2) (h2 : i.bytes = 24)
    (n : Nat) (L : Int) (hL : L = (n : Int)) (hn : n ≤ 1000000000) (w : World) :
    (Instr.makeSlice t (.int .i64 L) (.int .i64 L)).run P w = .ok (.slice (some ⟨w.heap.size, 0, none⟩) n n) (w.alloc (.cells (madeCells #[.int .i64 0, gs []] (n * 2)) e)) := by
  subst hL
  have h := run_make (P := P) w t e i (.agg #[.int .i64 0, gs []]) ht hi hz .i64 .i64 n n (by omega) (by omega) (by rw [h2]; omega) (by omega)
  rw [h, h1]
  simp only [Int.toNat_natCast]
  rfl

theorem ownsRow_below {w w' : World} {base : Nat} {e : TypeId} {size : Nat} {v : Value} {n : Nat} {xs : List Value} (h : w.ownsRow base e size v n xs) (hb : Below w.heap.size w w') : w'.ownsRow base e size v n xs := by
  refine ⟨h.1, ?_⟩
  rcases h.2 with hn | ⟨g, cap, cur, rfl, hbg, hgg, rest⟩
  · exact .inl hn
  · exact .inr ⟨g, cap, cur, rfl, hbg, (hb.block g (Array.getElem?_eq_some_iff.1 hgg).1).trans hgg, rest⟩

/-- The first k pieces of l stand in a row of cells. -/
def PcTo (xs : List Value) (l : List Pc) (k : Nat) : Prop := ∀ j, j < k → xs[j * 2]? = some (.int .i64 (pcAt l j).1) ∧ xs[j * 2 + 1]? = some (gs (pcAt l j).2)
theorem pcTo_zero (xs : List Value) (l : List Pc) : PcTo xs l 0 := fun j h => by omega
theorem pcTo_succ {xs : List Value} {l : List Pc} {k : Nat} (h : PcTo xs l k) (hl : k * 2 + 1 < xs.length) : PcTo ((xs.set (k * 2) (.int .i64 (pcAt l k).1)).set (k * 2 + 1) (gs (pcAt l k).2)) l (k + 1) := fun j hj => by
  by_cases e : j = k
  · subst e
    constructor
    · rw [List.getElem?_set_ne (by omega), List.getElem?_set_self (by omega)]
    · rw [List.getElem?_set_self (by simp; omega)]
  · obtain ⟨h0, h1⟩ := h j (by omega)
    constructor
    · rw [List.getElem?_set_ne (by omega), List.getElem?_set_ne (by omega)]; exact h0
    · rw [List.getElem?_set_ne (by omega), List.getElem?_set_ne (by omega)]; exact h1

/-- A row that the call owns, full of pieces. -/
theorem inPcs_own {w : World} {base g len cap : Nat} {e : TypeId} {xs : List Value} {l : List Pc} (ho : w.ownsRow base e 2 (.slice (some ⟨g, 0, none⟩) len cap) len xs) (ht : PcTo xs l len) (hl : l.length = len) (hm : len ≤ 2000000)
    (hf : ∀ i, i < len → -9223372036854775808 ≤ (pcAt l i).1 ∧ (pcAt l i).1 ≤ 9223372036854775807 ∧ (pcAt l i).2.length ≤ 2000000) : InPcs w (some ⟨g, 0, none⟩) len l :=
  ⟨hl, hm, fun _ => ⟨g, 0, rfl⟩, fun b o ha i hi => by
    cases ha
    obtain ⟨h0, h1⟩ := ht i hi
    rw [Nat.zero_add]
    exact ⟨(ho.cellAt (i * 2) (by omega)).trans h0, (ho.cellAt (i * 2 + 1) (by omega)).trans h1⟩, hf⟩

set_option maxHeartbeats 1000000 in
set_option maxRecDepth 100000 in
theorem toPieceS_calls {a : Option Addr} {len cap : Nat} {l : List Pc} {w : World} (h : InPcs w a len l) :
    Calls Tryz.prog 118 #[.slice a len cap] w fun e w' => ∃ g, e = .returned (.slice (some ⟨g, 0, none⟩) len len) ∧ w.heap.size ≤ g ∧ InPcs w' (some ⟨g, 0, none⟩) len l ∧ Below w.heap.size w w' := by
  have hm := h.most
  have hlen := h.long
  have hzz : (Tryz.prog.info? 121).map (fun i => (i.zero, i.size, i.bytes)) = some (some (.agg #[.int .i64 0, gs []]), 2, 24) := by kernel_rfl
  cases hi : Tryz.prog.info? 121 with
  | none => rw [hi] at hzz; cases hzz
  | some i =>
    rw [hi] at hzz
    simp at hzz
    have hmk := run_make_pieces (P := Tryz.prog) Tryz.underlying23 hi hzz.1 hzz.2.1 hzz.2.2 len (len : Int) rfl (by omega) w
    clear hzz hi
    have ho := World.ownsRow_lit (size := 2) (base := w.heap.size) (e := 121) w (madeCells #[.int .i64 0, gs []] (len * 2)) len (Nat.le_refl _) (by simp [maxLen]; omega) (size_madeCells _ _)
    generalize hg : w.heap.size = g at ho hmk
    have hbw : Below w.heap.size w (w.alloc (.cells (madeCells #[.int .i64 0, gs []] (len * 2)) 121)) := (Below.refl _ _).alloc (Nat.le_refl _) _
    have hlt : g < (w.alloc (.cells (madeCells #[.int .i64 0, gs []] (len * 2)) 121)).heap.size := by simp; omega
    generalize w.alloc (.cells (madeCells #[.int .i64 0, gs []] (len * 2)) 121) = w1 at *
    generalize (madeCells #[.int .i64 0, gs []] (len * 2)).toList = xs at *
    go_enter Tryz.func118, Tryz.ntmps118
    go_wp2_with fail
    go_loopw [4] (fun i wr => ∃ (k : Nat) (xs : List Value), i = .int .i64 (k : Int) ∧ k ≤ len ∧ wr.ownsRow g 121 2 (.slice (some ⟨g, 0, none⟩) len len) len xs ∧ PcTo xs l k ∧ Below g w wr) (fun i _ => len - (intOf i).toNat)
    case atStart => exact ⟨0, xs, rfl, Nat.zero_le _, ho, pcTo_zero _ _, hg ▸ hbw⟩
    case round =>
      obtain ⟨k, xs, rfl, hk, ho, hto, hbl⟩ := hrel
      subst hg
      by_cases hkl : k < len
      · have hh := h.below hbl
        obtain ⟨b, o, rfl⟩ := hh.there (by omega)
        obtain ⟨c0, c1⟩ := hh.cell b o rfl k hkl
        have hx : xs.length = len * 2 := ho.1
        have hs := pcTo_succ hto (by omega : k * 2 + 1 < xs.length)
        have hcall := toPiece_calls (pcAt l k)
        generalize pcAt l k = p at *
        obtain ⟨at0, t⟩ := p
        dsimp only at c0 c1 hs
        have HC := Lib.hid hcall
        have HO := Lib.hid ho
        have HT := Lib.hid hs
        have HBL := Lib.hid hbl
        have HX := Lib.hid hx
        clear hh h hcall ho hto hs hbl hbw hx hmk hlt
        go_wp2_with (go_at_call 178; refine (HC.out _).mono ?_; rintro e w2 ⟨rfl, hb2⟩
                     have ho2 := ownsRow_below HO.out hb2
                     obtain ⟨v0, hv0⟩ : ∃ v, xs[k * 2]? = some v := ⟨_, List.getElem?_eq_getElem (by have := HX.out; omega)⟩
                     obtain ⟨v1, hv1⟩ : ∃ v, xs[k * 2 + 1]? = some v := ⟨_, List.getElem?_eq_getElem (by have := HX.out; omega)⟩
                     have e0 := (ho2.cellAt (k * 2) (by omega)).trans hv0
                     have z0 := ho2.frozenAt (k * 2)
                     have ho3 := (ho2.stored (k * 2) (.int .i64 at0)).1
                     have e1 := (ho3.cellAt (k * 2 + 1) (by omega)).trans ((List.getElem?_set_ne (by omega)).trans hv1)
                     have z1 := ho3.frozenAt (k * 2 + 1)
                     have HO3 := Lib.hid ho3
                     have HB2 := Lib.hid hb2
                     clear hv0 hv1 ho2 ho3 hb2)
        exact ⟨⟨k + 1, _, by go_num, by omega, (HO3.out.stored (k * 2 + 1) (gs t)).1, HT.out, ((HBL.out.trans (HB2.out.mono HBL.out.size)).setCell (by simp) _).setCell (by simp) _⟩, by simp [intOf]; omega⟩
      · have hkl' : k = len := by omega
        subst hkl'
        have hin := inPcs_own ho hto hlen hm h.fit
        clear hmk ho hto h
        go_wp2_with fail
        go_ret
        exact ⟨_, rfl, Nat.le_refl _, hin, hbl⟩
end Go.Proofs.YtdcahilfmhkmiaaGreatDoor

namespace Go.Proofs.YtdcahilfmhkmiaaGreatDoor
open Go.RowKit

/-- The marks from k on. -/
def marks (k len : Nat) : List Pc := (List.range len).map fun i => (((k + 2 * i : Nat) : Int), mText (k + 2 * i + 1))
theorem marks_at {k len i : Nat} (h : i < len) : pcAt (marks k len) i = (((k + 2 * i : Nat) : Int), mText (k + 2 * i + 1)) := by simp [pcAt, marks, List.getD, h]

/-- Two cells' keep, as keep2. -/
theorem keepH {a w w' : World} {p q : Addr} {x y : Value} (hb : Below w.heap.size w w') (h : Below a.heap.size a w ∧ w.cell? p = some x ∧ w.cell? q = some y) :
    Below a.heap.size a w' ∧ w'.cell? p = some x ∧ w'.cell? q = some y :=
  have c {p : Addr} {x : Value} (h : w.cell? p = some x) : w'.cell? p = some x := (hb.cell (World.block_lt_of_cell? w _ h)).trans h
  ⟨h.1.trans (hb.mono h.1.size), c h.2.1, c h.2.2⟩

set_option maxHeartbeats 1000000 in
set_option maxRecDepth 100000 in
theorem held_calls {a : Option Addr} {len cap k : Nat} {w : World} (h : InPcs w a len (marks k len)) (hk : k ≤ 100000000) :
    Calls Tryz.prog 184 #[.slice a len cap, .int .i64 (k : Int)] w fun e w' => e = .returned (.int .i64 ((k + 2 * len : Nat) : Int)) ∧ Below w.heap.size w w' := by
  have hm := h.most
  go_enter Tryz.func184, Tryz.ntmps184
  go_wp2_with fail
  go_loopw [1, 5] (fun v i wr => ∃ j : Nat, i = .int .i64 (j : Int) ∧ v = .int .i64 ((k + 2 * j : Nat) : Int) ∧ j ≤ len ∧ Below w.heap.size w wr) (fun _ i _ => len - (intOf i).toNat)
  case atStart => exact ⟨0, rfl, rfl, Nat.zero_le _, Below.refl _ _⟩
  case round =>
    obtain ⟨j, rfl, rfl, hj, hbl⟩ := hrel
    by_cases hjl : j < len
    · have hh := h.below hbl
      obtain ⟨b, o, rfl⟩ := hh.there (by omega)
      obtain ⟨c0, c1⟩ := hh.cell b o rfl j hjl
      rw [marks_at hjl] at c0 c1
      dsimp only at c0 c1
      have hcall := fun w => markText_calls (k + 2 * j + 1) w (by omega)
      have hs1 : ((k + 2 * j : Nat) : Int) + 1 = ((k + 2 * j + 1 : Nat) : Int) := by omega
      have hs2 : ((k + 2 * j + 1 : Nat) : Int) + 1 = ((k + 2 * (j + 1) : Nat) : Int) := by omega
      have hw1 : IntKind.i64.wrap (((k + 2 * j : Nat) : Int) + 1) = ((k + 2 * j + 1 : Nat) : Int) := by rw [IntWalk.i64_in _ (by omega)]; omega
      have hb1 : k + 2 * j + 2 ≤ 200000000 := by omega
      have hb2 : k + 2 * (j + 1) = k + 2 * j + 1 + 1 := by omega
      rw [hb2] at hs2
      generalize mText (k + 2 * j + 1) = t at *
      generalize hn : k + 2 * j = n at *
      have hcast : ((n + 1 : Nat) : Int) = (n : Int) + 1 := by omega
      rw [hcast] at hcall
      have HC := Lib.hid hcall
      have HBL := Lib.hid hbl
      have HN := Lib.hid hn
      clear hh h hcall hbl hn hs1 hs2 hw1 hb2
      go_wp2_with fail
      first | (go_region_held3 (fun W => Below w.heap.size w W ∧ W.cell? ⟨b, o + j * 2, none⟩ = some (.int .i64 (n : Int)) ∧ W.cell? ⟨b, o + j * 2 + 1, none⟩ = some (gs t)) (first | exact ⟨HBL.out.drew, c0, c1⟩ | assumption | (refine keepH (by assumption) (by assumption))) (first | (go_at_call 182; refine (HC.out _).mono ?_; rintro e w2 ⟨rfl, hb2⟩))) | fail
      all_goals
        have HB2 : Below w.heap.size w w2 := (by assumption : Below w.heap.size w w2 ∧ _).1
        go_wp2_with fail
        go_roundw
        case rel => exact ⟨j + 1, by go_num, by have := HN.out; exact val_int (by omega), by omega, HB2⟩
        case measure => simp [intOf]; omega
    · have : j = len := by omega
      subst this
      clear h
      go_wp2_with fail
      go_ret
      exact ⟨rfl, hbl⟩
end Go.Proofs.YtdcahilfmhkmiaaGreatDoor

namespace Go.Proofs.YtdcahilfmhkmiaaGreatDoor
open Go.RowKit Go.ChangeShapes Go.WideShapes

theorem ba_length (s : ByteArray) {n : Nat} (h : s.size ≤ n) : s.data.toList.length ≤ n := by
  have e : s.data.toList.length = s.size := Array.length_toList
  omega
theorem open_pieces {H : Type} {enc : TypeId × Value → H} {W : World} {base : Nat} {spare : Nat → Bool} {held : Bool} {fuel : Nat} {cs : List Value} {a : Option Addr} {len cap : Nat} {x : DataW H × List MemPlace} (hc : cs = [.slice a len cap])
    (h : DataW.trod enc Tryz.prog W base spare held fuel 78 cs = some x) : ∃ l, RawPcs W a len l := by
  rcases Go.Deep.open_slice_pairs Tryz.underlying78 Tryz.underlying200 (by kernel_rfl) rfl rfl (by kernel_rfl) (by kernel_rfl) h with ⟨hcs, _⟩ | ⟨y, len', cap', m, n, V0, V1, D0, D1, P0, P1, hcs, _, hl, hm, hmm, _, hx⟩
  · rw [hc] at hcs
    simp at hcs
    obtain ⟨rfl, rfl, rfl⟩ := hcs
    exact ⟨[], rfl, by omega, fun h => absurd h (by omega), (fun _ _ h => by cases h), (fun i hi => absurd hi (by omega))⟩
  · rw [hc] at hcs
    simp at hcs
    obtain ⟨rfl, rfl, rfl⟩ := hcs
    have hlm : len ≤ m := by rw [hmm]; split <;> omega
    have each : ∀ i, i < len → ∃ p : Pc, W.cell? (y.add (i * 2)) = some (.int .i64 p.1) ∧ W.cell? (y.add (i * 2 + 1)) = some (gs p.2) ∧ (Lit.int .i64 p.1).wf = true ∧ p.2.length ≤ maxLen := by
      intro i hi
      obtain ⟨e0, e1, t0, t1⟩ := hx i (by omega)
      obtain ⟨z, hz, _, hw⟩ := DataW.trod_int Tryz.underlying2 t0
      obtain ⟨s, hs, _, hsz⟩ := DataW.trod_string Tryz.underlying9 t1
      simp at hz hs
      exact ⟨(z, s.data.toList), by rw [e0, hz], by rw [e1, hs], hw, ba_length s hsz⟩
    obtain ⟨f, hf⟩ := Go.Deep.choose_lt each
    have hat : ∀ i, i < len → pcAt ((List.range len).map f) i = f i := fun i hi => by simp [pcAt, List.getD, hi]
    refine ⟨(List.range len).map f, by simp, by simp [maxLen] at hm; omega, fun h0 => ?_, fun b o hy i hi => ?_, fun i hi => ?_⟩
    · obtain ⟨b, off, spot⟩ := y
      have h1 := (hf 0 h0).1
      have hspot : spot = none := by simpa [Addr.add] using World.cell?_spot h1
      subst hspot
      exact ⟨b, off, rfl⟩
    · cases hy
      rw [hat i hi]
      obtain ⟨e0, e1, _, _⟩ := hf i hi
      rw [Addr.add_lit] at e0 e1
      exact ⟨e0, by rw [Nat.add_assoc]; exact e1⟩
    · rw [hat i hi]
      obtain ⟨_, _, hw, hl⟩ := hf i hi
      have := i64_bounds hw
      exact ⟨this.1, this.2, by simpa [maxLen] using hl⟩
end Go.Proofs.YtdcahilfmhkmiaaGreatDoor

namespace Go.Proofs.YtdcahilfmhkmiaaGreatDoor
open Go.RowKit

/-- The first k pieces of two lists are the same. -/
def eqTo (l m : List Pc) (k : Nat) : Prop := ∀ j, j < k → pcAt l j = pcAt m j
theorem eqTo_zero (l m : List Pc) : eqTo l m 0 := fun j h => by omega
theorem eqTo_succ {l m : List Pc} {k : Nat} (h : eqTo l m k) (hk : pcAt l k = pcAt m k) : eqTo l m (k + 1) := fun j hj => by
  by_cases e : j = k
  · subst e; exact hk
  · exact h j (by omega)
theorem eqTo_all {l m : List Pc} (hl : l.length = m.length) (h : eqTo l m l.length) : l = m := by
  apply List.ext_getElem hl
  intro i h1 h2
  have := h i h1
  simpa [pcAt, List.getD, h1, h2] using this

set_option maxHeartbeats 1000000 in
set_option maxRecDepth 100000 in
theorem eqPieceS_calls {a b : Option Addr} {la ca lb cb : Nat} {l m : List Pc} {w : World} (h : InPcs w a la l) (h' : InPcs w b lb m) :
    Calls Tryz.prog 121 #[.slice a la ca, .slice b lb cb] w fun e w' => e = .returned (.bool (decide (l = m))) ∧ Below w.heap.size w w' := by
  have hm := h.most
  have hm' := h'.most
  have hl := h.long
  have hl' := h'.long
  by_cases hne : la = lb
  · subst hne
    go_enter Tryz.func121, Tryz.ntmps121
    go_wp2_with fail
    go_loopw [5] (fun i wr => ∃ k : Nat, i = .int .i64 (k : Int) ∧ k ≤ la ∧ eqTo l m k ∧ Below w.heap.size w wr) (fun i _ => la - (intOf i).toNat)
    case atStart => exact ⟨0, rfl, Nat.zero_le _, eqTo_zero _ _, Below.refl _ _⟩
    case round =>
      obtain ⟨k, rfl, hk, hto, hbl⟩ := hrel
      by_cases hkl : k < la
      · have hh := h.below hbl
        have hh' := h'.below hbl
        obtain ⟨b1, o1, rfl⟩ := hh.there (by omega)
        obtain ⟨b2, o2, rfl⟩ := hh'.there (by omega)
        obtain ⟨c0, c1⟩ := hh.cell b1 o1 rfl k hkl
        obtain ⟨d0, d1⟩ := hh'.cell b2 o2 rfl k hkl
        have hcall := eqPiece_calls (pcAt l k) (pcAt m k)
        by_cases hq : pcAt l k = pcAt m k
        · have hto' := eqTo_succ hto hq
          rw [decide_eq_true hq] at hcall
          generalize pcAt l k = p at *
          generalize pcAt m k = q at *
          obtain ⟨at0, t⟩ := p
          obtain ⟨at1, u⟩ := q
          dsimp only at c0 c1 d0 d1
          have HC := Lib.hid hcall
          have HT := Lib.hid hto'
          have HBL := Lib.hid hbl
          clear hh hh' h h' hcall hto hto' hbl hq
          go_wp2_with fail
          first | (go_region_held3 (fun W => Below w.heap.size w W ∧ W.cell? ⟨b1, o1 + k * 2, none⟩ = some (.int .i64 at0) ∧ W.cell? ⟨b1, o1 + k * 2 + 1, none⟩ = some (gs t) ∧ W.cell? ⟨b2, o2 + k * 2, none⟩ = some (.int .i64 at1) ∧ W.cell? ⟨b2, o2 + k * 2 + 1, none⟩ = some (gs u)) (first | exact ⟨HBL.out.drew, c0, c1, d0, d1⟩ | assumption | (refine keep4 (by assumption) (by assumption))) (first | (go_at_call 180; refine (HC.out _).mono ?_; rintro e w2 ⟨rfl, hb2⟩))) | fail
          have HB2 : Below w.heap.size w w2 := (by assumption : Below w.heap.size w w2 ∧ _).1
          go_wp2_with fail
          go_roundw
          case rel => exact ⟨k + 1, by go_num, by omega, HT.out, HB2⟩
          case measure => simp [intOf]; omega
        · have hto' : ¬ l = m := fun e => hq (by rw [e])
          rw [decide_eq_false hq] at hcall
          generalize pcAt l k = p at *
          generalize pcAt m k = q at *
          obtain ⟨at0, t⟩ := p
          obtain ⟨at1, u⟩ := q
          dsimp only at c0 c1 d0 d1
          have HC := Lib.hid hcall
          have HT := Lib.hid hto'
          have HBL := Lib.hid hbl
          clear hh hh' h h' hcall hto hto' hbl hq
          go_wp2_with fail
          first | (go_region_held3 (fun W => Below w.heap.size w W ∧ W.cell? ⟨b1, o1 + k * 2, none⟩ = some (.int .i64 at0) ∧ W.cell? ⟨b1, o1 + k * 2 + 1, none⟩ = some (gs t) ∧ W.cell? ⟨b2, o2 + k * 2, none⟩ = some (.int .i64 at1) ∧ W.cell? ⟨b2, o2 + k * 2 + 1, none⟩ = some (gs u)) (first | exact ⟨HBL.out.drew, c0, c1, d0, d1⟩ | assumption | (refine keep4 (by assumption) (by assumption))) (first | (go_at_call 180; refine (HC.out _).mono ?_; rintro e w2 ⟨rfl, hb2⟩))) | fail
          have HB2 : Below w.heap.size w w2 := (by assumption : Below w.heap.size w w2 ∧ _).1
          go_wp2_with fail
          go_ret
          exact ⟨ret_bool (by rw [decide_eq_false HT.out]), HB2⟩
      · have hkl' : k = la := by omega
        have he : l = m := eqTo_all (by omega) (by rw [hl, ← hkl']; exact hto)
        have HE := Lib.hid he
        clear h h' hto he hl hl'
        go_wp2_with fail
        go_ret
        exact ⟨ret_bool (by rw [decide_eq_true HE.out]), hbl⟩
  · have he : ¬ l = m := fun e => by subst e; omega
    have HE := Lib.hid he
    have hd : ((la : Int) != (lb : Int)) = true := by simp; omega
    clear h h' he hl hl'
    go_enter Tryz.func121, Tryz.ntmps121
    go_wp2_with fail
    go_ret
    exact ⟨ret_bool (by rw [decide_eq_false HE.out]), Below.refl _ _⟩
end Go.Proofs.YtdcahilfmhkmiaaGreatDoor

namespace Go.Proofs.YtdcahilfmhkmiaaGreatDoor
open Go.RowKit

theorem grown_trans {a b c : World} {r : Option Nat} (h : a.grownBy b r) (k : b.grownBy c r) : a.grownBy c r :=
  ⟨k.os.trans h.os, k.tape.trans h.tape, k.output.trans h.output, Nat.le_trans h.size k.size, fun i hi hne => (k.block i (Nat.lt_of_lt_of_le hi h.size) hne).trans (h.block i hi hne)⟩
theorem grown_set (w : World) (g o : Nat) (v : Value) : w.grownBy (w.setCell ⟨g, o, none⟩ v) (some g) :=
  ⟨rfl, rfl, rfl, by simp, fun k _ hk => Below.heap_setCell _ _ _ _ (fun e => hk (by simp [e]))⟩
theorem grown_below {w w' : World} (h : Below w.heap.size w w') (r : Option Nat) : w.grownBy w' r := ⟨h.os, h.tape, h.output, h.size, fun k hk _ => h.block k hk⟩

/-- A row of 2 * len cells that may be written. -/
structure Open (w : World) (g o len : Nat) : Prop where
  there : ∀ i, i < len * 2 → ∃ v, w.cell? ⟨g, o + i, none⟩ = some v
  free : ∀ i, i < len * 2 → w.frozen? ⟨g, o + i, none⟩ = false
theorem Open.below {w w' : World} {g o len : Nat} (h : Open w g o len) (hb : Below w.heap.size w w') : Open w' g o len :=
  ⟨fun i hi => by obtain ⟨v, hv⟩ := h.there i hi; exact ⟨v, (hb.cell (World.block_lt_of_cell? w _ hv)).trans hv⟩,
   fun i hi => by obtain ⟨v, hv⟩ := h.there i hi; exact (hb.frozen (World.block_lt_of_cell? w _ hv)).trans (h.free i hi)⟩
theorem Open.drew {w : World} {g o len : Nat} (h : Open w g o len) : Open w.drew g o len := ⟨h.there, h.free⟩
theorem cell_set {w : World} {g o : Nat} {u v : Value} (h : w.cell? ⟨g, o, none⟩ = some u) : (w.setCell ⟨g, o, none⟩ v).cell? ⟨g, o, none⟩ = some v := by
  exact World.cell?_setCell_same _ _ _ h
theorem cell_set_ne {w : World} {g o o' : Nat} {v : Value} (h : o ≠ o') : (w.setCell ⟨g, o, none⟩ v).cell? ⟨g, o', none⟩ = w.cell? ⟨g, o', none⟩ :=
  World.cell?_setCell_other _ _ _ _ (fun e => h (Addr.mk.inj e).2.1)
theorem Open.set {w : World} {g o len : Nat} (h : Open w g o len) (p : Nat) (v : Value) : Open (w.setCell ⟨g, p, none⟩ v) g o len :=
  ⟨fun i hi => by
    obtain ⟨u, hu⟩ := h.there i hi
    by_cases e : p = o + i
    · subst e; exact ⟨v, cell_set hu⟩
    · exact ⟨u, (cell_set_ne e).trans hu⟩, fun i hi => by rw [World.frozen?_setCell]; exact h.free i hi⟩

/-- The first j pieces are marked. -/
def Marked (w : World) (g o k j : Nat) : Prop := ∀ i, i < j → w.cell? ⟨g, o + i * 2, none⟩ = some (.int .i64 ((k + 2 * i : Nat) : Int)) ∧ w.cell? ⟨g, o + i * 2 + 1, none⟩ = some (gs (mText (k + 2 * i + 1)))
theorem Marked.below {w w' : World} {g o k j : Nat} (h : Marked w g o k j) (hb : Below w.heap.size w w') : Marked w' g o k j := fun i hi => by
  obtain ⟨c0, c1⟩ := h i hi
  exact ⟨(hb.cell (World.block_lt_of_cell? w _ c0)).trans c0, (hb.cell (World.block_lt_of_cell? w _ c1)).trans c1⟩

theorem Marked.set {w : World} {g o k j : Nat} (h : Marked w g o k j) {p : Nat} (hp : o + j * 2 ≤ p) (v : Value) : Marked (w.setCell ⟨g, p, none⟩ v) g o k j := fun i hi => by
  obtain ⟨c0, c1⟩ := h i hi
  exact ⟨(cell_set_ne (by omega)).trans c0, (cell_set_ne (by omega)).trans c1⟩
theorem Marked.succ {w : World} {g o k j : Nat} (h : Marked w g o k j) (c0 : w.cell? ⟨g, o + j * 2, none⟩ = some (.int .i64 ((k + 2 * j : Nat) : Int))) (c1 : w.cell? ⟨g, o + j * 2 + 1, none⟩ = some (gs (mText (k + 2 * j + 1)))) : Marked w g o k (j + 1) := fun i hi => by
  by_cases e : i = j
  · subst e; exact ⟨c0, c1⟩
  · exact h i (by omega)

set_option maxHeartbeats 1000000 in
set_option maxRecDepth 100000 in
theorem mark_calls {g o len cap k : Nat} {w : World} (ho : Open w g o len) (hm : len ≤ 2000000) (hk : k ≤ 100000000) :
    Calls Tryz.prog 123 #[.slice (some ⟨g, o, none⟩) len cap, .int .i64 (k : Int)] w fun e w' => e = .returned (.int .i64 ((k + 2 * len : Nat) : Int)) ∧ Open w' g o len ∧ Marked w' g o k len ∧ w.grownBy w' (some g) := by
  go_enter Tryz.func123, Tryz.ntmps123
  go_wp2_with fail
  go_loopw [1, 5] (fun v i wr => ∃ j : Nat, i = .int .i64 (j : Int) ∧ v = .int .i64 ((k + 2 * j : Nat) : Int) ∧ j ≤ len ∧ Open wr g o len ∧ Marked wr g o k j ∧ w.grownBy wr (some g)) (fun _ i _ => len - (intOf i).toNat)
  case atStart => exact ⟨0, rfl, rfl, Nat.zero_le _, ho, (fun i hi => absurd hi (by omega)), grown_below (Below.refl _ _) _⟩
  case round =>
    clear ho
    obtain ⟨j, rfl, rfl, hj, ho, hmk, hgr⟩ := hrel
    by_cases hjl : j < len
    · obtain ⟨v0, e0⟩ := ho.there (j * 2) (by omega)
      have z0 := ho.free (j * 2) (by omega)
      have hcall := fun w => markText_calls (k + 2 * j + 1) w (by omega)
      have hs1 : k + 2 * j + 2 ≤ 200000000 := by omega
      generalize hn : k + 2 * j = n at *
      have hcast : ((n + 1 : Nat) : Int) = (n : Int) + 1 := by omega
      rw [hcast] at hcall
      have HC := Lib.hid hcall
      have HO := Lib.hid ho
      have HM := Lib.hid hmk
      have HG := Lib.hid hgr
      have HN := Lib.hid hn
      clear hcall ho hmk hgr hn hcast
      go_wp2_with fail
      have hM1 := HM.out.set (Nat.le_refl _) (.int .i64 (n : Int))
      have hO1 := HO.out.set (o + j * 2) (.int .i64 (n : Int))
      have hG1 := grown_trans HG.out (grown_set wr g (o + j * 2) (.int .i64 (n : Int)))
      have m0 := cell_set (v := .int .i64 (n : Int)) e0
      generalize wr.setCell ⟨g, o + j * 2, none⟩ (.int .i64 (n : Int)) = w1 at *
      clear e0 z0 HM HO HG
      refine (HC.out _).mono ?_
      rintro e w2 ⟨rfl, hb2⟩
      have hM2 := hM1.below hb2
      have hO2 := hO1.below hb2
      have hG2 := grown_trans hG1 (grown_below hb2 _)
      have m2 := (hb2.cell (World.block_lt_of_cell? w1 _ m0)).trans m0
      obtain ⟨v1, e1⟩ := hO2.there (j * 2 + 1) (by omega)
      have z1 := hO2.free (j * 2 + 1) (by omega)
      rw [← Nat.add_assoc] at e1 z1
      have hM3 := hM2.set (p := o + j * 2 + 1) (by omega) (gs (mText (n + 1)))
      have hO3 := hO2.set (o + j * 2 + 1) (gs (mText (n + 1)))
      have hG3 := grown_trans hG2 (grown_set w2 g (o + j * 2 + 1) (gs (mText (n + 1))))
      have m3 := (cell_set_ne (v := gs (mText (n + 1))) (by omega : o + j * 2 + 1 ≠ o + j * 2)).trans m2
      have m4 := cell_set (v := gs (mText (n + 1))) e1
      have hn := HN.out
      have hM4 : Marked (w2.setCell ⟨g, o + j * 2 + 1, none⟩ (gs (mText (n + 1)))) g o k (j + 1) := hM3.succ (by rw [hn]; exact m3) (by rw [hn]; exact m4)
      have HM4 := Lib.hid hM4
      have HO4 := Lib.hid hO3
      have HG4 := Lib.hid hG3
      clear hM1 hO1 hG1 m0 hM2 hO2 hG2 m2 hM3 hO3 hG3 m3 m4 hn hM4 hb2
      go_wp2_with fail
      exact ⟨⟨j + 1, by go_num, by have := HN.out; exact val_int (by omega), by omega, HO4.out, HM4.out, HG4.out⟩, by simp [intOf]; omega⟩
    · have : j = len := by omega
      subst this
      go_wp2_with fail
      go_ret
      exact ⟨rfl, ho, hmk, hgr⟩
end Go.Proofs.YtdcahilfmhkmiaaGreatDoor

namespace Go.Proofs.YtdcahilfmhkmiaaGreatDoor
open Go.RowKit

set_option maxHeartbeats 1000000 in
set_option maxRecDepth 100000 in
theorem szPieceN_calls {a : Option Addr} {len cap : Nat} {l : List Pc} {w : World} (h : RawPcs w a len l) (n : Int) (hn0 : 0 ≤ n) (hn1 : n ≤ 1048576) :
    Calls Tryz.prog 116 #[.slice a len cap, .int .i64 n] w fun e w' => e = .returned (.int .i64 (szAll l n)) ∧ Below w.heap.size w w' := by
  have hm := h.most
  have hlen := h.long
  by_cases hbig : n < (len : Int)
  · have hs : szAll l n = -1 := by unfold szAll; rw [if_pos (by omega)]
    have HS := Lib.hid hs; clear hs
    go_enter Tryz.func116, Tryz.ntmps116
    go_wp2_with fail
    all_goals first
      | (go_ret; exact ⟨ret_int (by rw [HS.out]), Below.refl _ _⟩)
      | (exfalso; omega)
  · have hs : szAll l n = szGo (l.drop 0) (n - (len : Int)) := by unfold szAll; rw [if_neg (by omega), hlen]; rfl
    have HS := Lib.hid hs; clear hs
    have hr : ∃ R, R = szAll l n := ⟨_, rfl⟩
    obtain ⟨R, hR⟩ := hr
    rw [← hR] at HS
    rw [← hR]
    have HRR := Lib.hid hR
    clear hR
    go_enter Tryz.func116, Tryz.ntmps116
    go_wp2_with fail
    go_loopw [1, 5] (fun v i wr => ∃ (k : Nat) (m : Int), i = .int .i64 (k : Int) ∧ v = .int .i64 m ∧ k ≤ len ∧ 0 ≤ m ∧ m ≤ 1048576 ∧ R = szGo (l.drop k) m ∧ Below w.heap.size w wr) (fun _ i _ => len - (intOf i).toNat)
    case atStart => exact ⟨0, _, rfl, rfl, Nat.zero_le _, by omega, by omega, HS.out, Below.refl _ _⟩
    case round =>
      clear HS
      obtain ⟨k, m, rfl, rfl, hk, hm0, hm1, hgo, hbl⟩ := hrel
      by_cases hkl : k < len
      · have hh := h.below hbl
        obtain ⟨b, o, rfl⟩ := hh.there (by omega)
        obtain ⟨c0, c1⟩ := hh.cell b o rfl k hkl
        obtain ⟨_, _, f2⟩ := hh.fit k hkl
        rw [pcAt_drop (by omega : k < l.length)] at hgo
        unfold szGo at hgo
        have hcall := fun w => szPiece_calls (pcAt l k) m w f2 hm0 hm1
        have hle := szOne_le (pcAt l k) m hm0
        have hge : -1 ≤ szOne (pcAt l k) m := by unfold szOne; split <;> omega
        generalize pcAt l k = p at *
        obtain ⟨at0, t⟩ := p
        dsimp only at c0 c1
        generalize szOne (at0, t) m = r at *
        have HC := Lib.hid hcall
        have HBL := Lib.hid hbl
        clear hh h hcall hbl f2
        by_cases hr : r < 0
        · rw [if_pos hr] at hgo
          have HG := Lib.hid hgo; clear hgo
          go_wp2_with (go_at_call 176; refine (HC.out _).mono ?_; rintro e w1 ⟨rfl, hb1⟩)
          all_goals first
            | (go_ret; exact ⟨ret_int (by rw [HG.out]), HBL.out.trans (hb1.mono HBL.out.size)⟩)
            | (exfalso; omega)
        · rw [if_neg hr] at hgo
          have HG := Lib.hid hgo; clear hgo
          go_wp2_with (go_at_call 176; refine (HC.out _).mono ?_; rintro e w1 ⟨rfl, hb1⟩)
          go_roundw
          case rel => exact ⟨k + 1, r, by go_num, rfl, by omega, by omega, by omega, HG.out, HBL.out.trans (hb1.mono HBL.out.size)⟩
          case measure => simp [intOf]; omega
      · have hd : l.drop k = [] := List.drop_eq_nil_of_le (by omega)
        rw [hd] at hgo
        have HG := Lib.hid hgo; clear hgo hd
        go_wp2_with fail
        go_ret
        exact ⟨ret_int (by rw [HG.out]; rfl), hbl⟩
theorem szGo_range : ∀ (l : List Pc) (n : Int), 0 ≤ n → -1 ≤ szGo l n ∧ szGo l n ≤ n
  | [], n, h => by simp [szGo]; omega
  | p :: l, n, h => by
    unfold szGo
    have h1 := szOne_le p n h
    split
    · omega
    · have := szGo_range l (szOne p n) (by omega); omega
theorem szAll_range (l : List Pc) (n : Int) (h : 0 ≤ n) : -1 ≤ szAll l n ∧ szAll l n ≤ n := by
  unfold szAll
  split
  · omega
  · have := szGo_range l (n - (l.length : Int)) (by omega); omega
theorem inPcs_ofN {w : World} {a : Option Addr} {len : Nat} {l : List Pc} {n : Int} (h : RawPcs w a len l) (hn : n ≤ 1048576) (hs : 0 ≤ szAll l n) : InPcs w a len l := by
  have hl := h.long
  unfold szAll at hs
  split at hs
  · omega
  · exact ⟨h.long, by omega, h.there, h.cell, fun i hi => by
      obtain ⟨f0, f1, _⟩ := h.fit i hi
      have := szGo_small l _ (by omega) hs (pcAt l i) (pcAt_mem (by omega))
      exact ⟨f0, f1, by omega⟩⟩

/-- Pieces that may be written, in a block of S. -/
structure PcsOwn (S : Nat → Prop) (w : World) (a : Option Addr) (len : Nat) (l : List Pc) : Prop where
  in' : InPcs w a len l
  free : LgFree w a (len * 2)
  blk : ∀ b, LgB a len b → S b
theorem InPcs.blks {w w' : World} {a : Option Addr} {len : Nat} {l : List Pc} (h : InPcs w a len l) (hb : ∀ b, LgB a len b → b < w.heap.size → w'.heap[b]? = w.heap[b]?) : InPcs w' a len l :=
  ⟨h.long, h.most, h.there, fun b o e i hi => by
    obtain ⟨c0, c1⟩ := h.cell b o e i hi
    have := hb b ⟨by omega, o, e⟩ (World.block_lt_of_cell? w _ c0)
    exact ⟨(World.cell?_of_block (a := ⟨b, o + i * 2, none⟩) this).trans c0, (World.cell?_of_block (a := ⟨b, o + i * 2 + 1, none⟩) this).trans c1⟩, h.fit⟩
theorem InPcs.pos {w : World} {a : Option Addr} {len : Nat} {l : List Pc} (h : InPcs w a len l) {b : Nat} (hb : LgB a len b) : b < w.heap.size := by
  obtain ⟨hl, o, e⟩ := hb
  exact World.block_lt_of_cell? w _ (h.cell b o e 0 hl).1
theorem PcsOwn.blks {S : Nat → Prop} {w w' : World} {a : Option Addr} {len : Nat} {l : List Pc} (h : PcsOwn S w a len l) (hb : ∀ b, b < w.heap.size → S b → w'.heap[b]? = w.heap[b]?) : PcsOwn S w' a len l :=
  ⟨h.in'.blks (fun b hl hw => hb b hw (h.blk b hl)), h.free.blk (fun b hl => hb b (h.in'.pos ⟨by have := hl.1; omega, hl.2⟩) (h.blk b ⟨by have := hl.1; omega, hl.2⟩)), h.blk⟩
theorem PcsOwn.below {S : Nat → Prop} {w w' : World} {a : Option Addr} {len : Nat} {l : List Pc} (h : PcsOwn S w a len l) (hb : Below w.heap.size w w') : PcsOwn S w' a len l := h.blks fun b hl _ => hb.block b hl
theorem PcsOwn.kept {S T : Nat → Prop} {w w' : World} {a : Option Addr} {len : Nat} {l : List Pc} (h : PcsOwn S w a len l) (hk : Kept T w w') (hd : ∀ b, S b → ¬ T b) : PcsOwn S w' a len l := h.blks fun b hl hs => hk.block b hl (hd b hs)
theorem PcsOwn.mono {S T : Nat → Prop} {w : World} {a : Option Addr} {len : Nat} {l : List Pc} (h : PcsOwn S w a len l) (hm : ∀ b, S b → T b) : PcsOwn T w a len l := ⟨h.in', h.free, fun b hb => hm b (h.blk b hb)⟩
theorem pcsOwn_nil {S : Nat → Prop} {w : World} {a : Option Addr} : PcsOwn S w a 0 [] :=
  ⟨⟨rfl, by omega, (fun h => by omega), (fun _ _ _ i hi => by omega), (fun i hi => by omega)⟩, fun b o e i hi => by omega, fun b hb => absurd hb.1 (by omega)⟩
theorem PcsOwn.open' {S : Nat → Prop} {w : World} {b o len : Nat} {l : List Pc} (h : PcsOwn S w (some ⟨b, o, none⟩) len l) : Open w b o len := by
  refine ⟨fun i hi => ?_, fun i hi => h.free b o rfl i hi⟩
  obtain ⟨c0, c1⟩ := h.in'.cell b o rfl (i / 2) (by omega)
  rcases Nat.mod_two_eq_zero_or_one i with e | e
  · rw [show o + i / 2 * 2 = o + i by omega] at c0; exact ⟨_, c0⟩
  · rw [show o + i / 2 * 2 + 1 = o + i by omega] at c1; exact ⟨_, c1⟩
theorem mGo_most : ∀ (f k : Nat) (l : List UInt8), (mGo f k l).length ≤ f + l.length
  | 0, _, l => by simp [mGo]
  | f + 1, k, l => by
    unfold mGo
    split
    · omega
    · have := mGo_most f (k / 10) (UInt8.ofNat (48 + k % 10) :: l)
      simp at this ⊢; omega
theorem mText_most (k : Nat) : (mText k).length ≤ 21 := by
  unfold mText
  split
  · simp
  · have := mGo_most 20 k []; simp at this ⊢; omega
theorem marks_in {w : World} {g o k len : Nat} (h : Marked w g o k len) (hm : len ≤ 2000000) (hk : k ≤ 100000000) : InPcs w (some ⟨g, o, none⟩) len (marks k len) := by
  refine ⟨by simp [marks], hm, fun _ => ⟨g, o, rfl⟩, fun b o' hb i hi => ?_, fun i hi => ?_⟩
  · cases hb; rw [marks_at hi]; exact h i hi
  · rw [marks_at hi]
    have := mText_most (k + 2 * i + 1)
    refine ⟨?_, ?_, ?_⟩ <;> dsimp only <;> omega
theorem kept_by {S : Nat → Prop} {w w' : World} {g : Nat} (h : w.grownBy w' (some g)) (hg : S g) : Kept S w w' :=
  ⟨h.os, h.tape, h.output, h.size, fun b hb hs => h.block b hb (fun e => hs (by cases e; exact hg))⟩
theorem markNone_calls {a : Option Addr} {k cap : Nat} {w : World} :
    Calls Tryz.prog 123 #[.slice a 0 cap, .int .i64 (k : Int)] w fun e w' => e = .returned (.int .i64 (k : Int)) ∧ w' = w := by
  go_enter Tryz.func123, Tryz.ntmps123
  go_wp2_with fail
  go_loopw [1, 5] (fun v i wr => i = .int .i64 0 ∧ v = .int .i64 (k : Int) ∧ wr = w) (fun _ _ _ => 0)
  case atStart => exact ⟨rfl, rfl, rfl⟩
  case round =>
    obtain ⟨rfl, rfl, rfl⟩ := hrel
    go_wp2_with fail
    go_ret
    exact ⟨rfl, rfl⟩
theorem markPcs_calls {S : Nat → Prop} {a : Option Addr} {len cap k : Nat} {l : List Pc} {w : World} (h : PcsOwn S w a len l) (hk : k ≤ 100000000) :
    Calls Tryz.prog 123 #[.slice a len cap, .int .i64 (k : Int)] w fun e w' => e = .returned (.int .i64 ((k + 2 * len : Nat) : Int)) ∧ PcsOwn S w' a len (marks k len) ∧ Kept S w w' := by
  by_cases h0 : len = 0
  · subst h0
    exact markNone_calls.mono fun e w' ⟨he, hw⟩ => ⟨he, by simpa [marks] using pcsOwn_nil, hw ▸ Kept.refl _ _⟩
  · obtain ⟨b, o, rfl⟩ := h.in'.there (by omega)
    refine (mark_calls h.open' h.in'.most hk).mono fun e w' ⟨he, ho, hm, hg⟩ => ⟨he, ⟨marks_in hm h.in'.most hk, fun b' o' e i hi => ?_, h.blk⟩, kept_by hg (h.blk b ⟨by omega, o, rfl⟩)⟩
    cases e
    exact ho.free i hi

theorem pcs_open_own {w : World} {B g len cap : Nat} {e : TypeId} {xs : List Value} (h : w.ownsRow B e 2 (.slice (some ⟨g, 0, none⟩) len cap) len xs) : Open w g 0 len ∧ B ≤ g ∧ g < w.heap.size := by
  have hl : xs.length = len * 2 := h.1
  refine ⟨⟨fun i hi => ⟨_, by rw [Nat.zero_add]; exact (h.cellAt i (by omega)).trans (List.getElem?_eq_getElem (by omega))⟩, fun i hi => by rw [Nat.zero_add]; exact h.frozenAt i⟩, ?_⟩
  rcases h.2 with ⟨h, _⟩ | ⟨g', c', cur, he, hb, hh, _⟩
  · cases h
  · injection he with he1 he2 he3
    injection he1 with he1
    injection he1 with he1
    subst he1
    exact ⟨hb, (Array.getElem?_eq_some_iff.1 hh).1⟩

set_option maxHeartbeats 1000000 in
set_option maxRecDepth 100000 in
theorem toPcs_calls {a : Option Addr} {len cap : Nat} {l : List Pc} {w : World} (h : InPcs w a len l) :
    Calls Tryz.prog 118 #[.slice a len cap] w fun e w' => ∃ g, e = .returned (.slice (some ⟨g, 0, none⟩) len len) ∧ w.heap.size ≤ g ∧ g < w'.heap.size ∧ PcsOwn (fun b => b = g) w' (some ⟨g, 0, none⟩) len l ∧ Below w.heap.size w w' := by
  have hm := h.most
  have hlen := h.long
  have hzz : (Tryz.prog.info? 121).map (fun i => (i.zero, i.size, i.bytes)) = some (some (.agg #[.int .i64 0, gs []]), 2, 24) := by kernel_rfl
  cases hi : Tryz.prog.info? 121 with
  | none => rw [hi] at hzz; cases hzz
  | some i =>
    rw [hi] at hzz
    simp at hzz
    have hmk := run_make_pieces (P := Tryz.prog) Tryz.underlying23 hi hzz.1 hzz.2.1 hzz.2.2 len (len : Int) rfl (by omega) w
    clear hzz hi
    have ho := World.ownsRow_lit (size := 2) (base := w.heap.size) (e := 121) w (madeCells #[.int .i64 0, gs []] (len * 2)) len (Nat.le_refl _) (by simp [maxLen]; omega) (size_madeCells _ _)
    generalize hg : w.heap.size = g at ho hmk
    have hbw : Below w.heap.size w (w.alloc (.cells (madeCells #[.int .i64 0, gs []] (len * 2)) 121)) := (Below.refl _ _).alloc (Nat.le_refl _) _
    have hlt : g < (w.alloc (.cells (madeCells #[.int .i64 0, gs []] (len * 2)) 121)).heap.size := by simp; omega
    generalize w.alloc (.cells (madeCells #[.int .i64 0, gs []] (len * 2)) 121) = w1 at *
    generalize (madeCells #[.int .i64 0, gs []] (len * 2)).toList = xs at *
    go_enter Tryz.func118, Tryz.ntmps118
    go_wp2_with fail
    go_loopw [4] (fun i wr => ∃ (k : Nat) (xs : List Value), i = .int .i64 (k : Int) ∧ k ≤ len ∧ wr.ownsRow g 121 2 (.slice (some ⟨g, 0, none⟩) len len) len xs ∧ PcTo xs l k ∧ Below g w wr) (fun i _ => len - (intOf i).toNat)
    case atStart => exact ⟨0, xs, rfl, Nat.zero_le _, ho, pcTo_zero _ _, hg ▸ hbw⟩
    case round =>
      obtain ⟨k, xs, rfl, hk, ho, hto, hbl⟩ := hrel
      subst hg
      by_cases hkl : k < len
      · have hh := h.below hbl
        obtain ⟨b, o, rfl⟩ := hh.there (by omega)
        obtain ⟨c0, c1⟩ := hh.cell b o rfl k hkl
        have hx : xs.length = len * 2 := ho.1
        have hs := pcTo_succ hto (by omega : k * 2 + 1 < xs.length)
        have hcall := toPiece_calls (pcAt l k)
        generalize pcAt l k = p at *
        obtain ⟨at0, t⟩ := p
        dsimp only at c0 c1 hs
        have HC := Lib.hid hcall
        have HO := Lib.hid ho
        have HT := Lib.hid hs
        have HBL := Lib.hid hbl
        have HX := Lib.hid hx
        clear hh h hcall ho hto hs hbl hbw hx hmk hlt
        go_wp2_with (go_at_call 178; refine (HC.out _).mono ?_; rintro e w2 ⟨rfl, hb2⟩
                     have ho2 := ownsRow_below HO.out hb2
                     obtain ⟨v0, hv0⟩ : ∃ v, xs[k * 2]? = some v := ⟨_, List.getElem?_eq_getElem (by have := HX.out; omega)⟩
                     obtain ⟨v1, hv1⟩ : ∃ v, xs[k * 2 + 1]? = some v := ⟨_, List.getElem?_eq_getElem (by have := HX.out; omega)⟩
                     have e0 := (ho2.cellAt (k * 2) (by omega)).trans hv0
                     have z0 := ho2.frozenAt (k * 2)
                     have ho3 := (ho2.stored (k * 2) (.int .i64 at0)).1
                     have e1 := (ho3.cellAt (k * 2 + 1) (by omega)).trans ((List.getElem?_set_ne (by omega)).trans hv1)
                     have z1 := ho3.frozenAt (k * 2 + 1)
                     have HO3 := Lib.hid ho3
                     have HB2 := Lib.hid hb2
                     clear hv0 hv1 ho2 ho3 hb2)
        exact ⟨⟨k + 1, _, by go_num, by omega, (HO3.out.stored (k * 2 + 1) (gs t)).1, HT.out, ((HBL.out.trans (HB2.out.mono HBL.out.size)).setCell (by simp) _).setCell (by simp) _⟩, by simp [intOf]; omega⟩
      · have hkl' : k = len := by omega
        subst hkl'
        have hin := inPcs_own ho hto hlen hm h.fit
        obtain ⟨hop, -, hgl⟩ := pcs_open_own ho
        have hown : PcsOwn (fun b => b = w.heap.size) wr (some ⟨w.heap.size, 0, none⟩) k l := ⟨hin, fun b o e i hi => by cases e; exact hop.free i hi, fun b hb => by obtain ⟨_, o, e⟩ := hb; cases e; rfl⟩
        have HOWN := Lib.hid hown
        clear hop hown hin
        clear hmk ho hto h
        go_wp2_with fail
        go_ret
        exact ⟨_, rfl, Nat.le_refl _, hgl, HOWN.out, hbl⟩
end Go.Proofs.YtdcahilfmhkmiaaGreatDoor
