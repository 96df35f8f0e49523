/- Drawn pieces: right ones, and right ones as a rule. -/
import Derived.Test.YtjcdcaannajnpaaDrawT
import Derived.Test.YtjcdcaannajnpaaPutR
namespace Go.Proofs.Ytjcdcaannajnpaa
open Go.RowKit

theorem InPcs.far {w w' : World} {a : Option Addr} {len : Nat} {l : List Pc} (h : InPcs w a len l) {g : Nat} (hg : w.grownBy w' (some g)) (hne : ∀ b o, a = some ⟨b, o, none⟩ → b ≠ g) : InPcs w' a len l := by
  refine ⟨h.long, h.most, h.there, fun b o hb i hi => ?_, h.fit⟩
  obtain ⟨c0, c1⟩ := h.cell b o hb i hi
  have hb' := hg.block b (World.block_lt_of_cell? w _ c0) (fun e => hne b o hb (Option.some.inj e))
  exact ⟨(World.cell?_of_block (a := ⟨b, o + i * 2, none⟩) hb').trans c0, (World.cell?_of_block (a := ⟨b, o + i * 2 + 1, none⟩) hb').trans c1⟩
/-- What was drawn is small. -/
def Tiny (b : Nat) (L : List Pc) : Prop := bytesN L ≤ b ∧ ∀ p ∈ L, 0 ≤ p.1 ∧ p.1 ≤ 200
theorem tiny_fits {b : Nat} {L : List Pc} (h : Tiny b L) (hb : b ≤ 2000000) : ∀ p ∈ L, -9223372036854775808 ≤ p.1 ∧ p.1 ≤ 9223372036854775807 ∧ p.2.length ≤ 2000000 := fun p hp => by
  have h1 := h.2 p hp
  have h2 := mem_bytes hp
  have h3 := h.1
  omega
theorem tiny_right {b : Nat} {L : List Pc} (hc : canonG (-1) L) (h : Tiny b L) (hl : L.length ≤ 40) : right L := by
  refine ⟨hl, fun i hi => ?_⟩
  have hm := pcAt_mem' hi
  have ht := h.2 _ hm
  have key : ∀ (l : List Pc) (f : Int), canonG f l → ∀ i, i < l.length → (pcAt l i).2 ≠ [] ∧ (0 < i → pcEnd (pcAt l (i - 1)) < (pcAt l i).1) := by
    intro l
    induction l with
    | nil => intro f _ i hi; simp at hi
    | cons p l ih =>
      intro f hf i hi
      cases i with
      | zero => exact ⟨hf.2.1, fun h => by omega⟩
      | succ i =>
        obtain ⟨a, b⟩ := ih (pcEnd p) hf.2.2 i (by simpa using hi)
        refine ⟨a, fun _ => ?_⟩
        cases i with
        | zero =>
          cases l with
          | nil => simp at hi
          | cons q l => exact hf.2.2.1
        | succ i => exact b (by omega)
  obtain ⟨a, b⟩ := key L (-1) hc i hi
  exact ⟨a, ht.1, by omega, b⟩
/-- A put more. -/
theorem tiny_put {b : Nat} {L : List Pc} {n : Int} {t : List UInt8} (hc : canonG (-1) L) (h : Tiny b L) (h0 : 0 ≤ n) (h1 : n ≤ 100) (ht : t.length ≤ 20) :
    canonG (-1) (putN L n t) ∧ Tiny (b + (L.length + 1) * 20) (putN L n t) ∧ (putN L n t).length ≤ 2 * L.length + 1 := by
  refine ⟨put_canon hc h0, ⟨?_, ?_⟩, ?_⟩
  · have h2 := bytesN_fill L n (n, t)
    have h3 : (L.length + 1) * t.length ≤ (L.length + 1) * 20 := Nat.mul_le_mul_left _ ht
    have h4 := h.1
    unfold putN
    rw [bytesN_joinN]
    dsimp only at h2
    omega
  · unfold putN
    exact joinN_time _ _ (fill_time L n (n, t) 200 h0 (by unfold pcEnd; dsimp only; omega) h.2)
  · have h2 := fill_len L n (n, t)
    have h3 := joinN_len (fillN L n (n, t))
    unfold putN
    omega


/-- The source stays behind a call that makes memory. -/
theorem src_below {a : Option Addr} {len cap : Nat} {z : List Int} {p : Nat} {w w' : World} (h : Src a len cap z p w) (hb : Below w.heap.size w w') : Src a len cap z p w' := by
  obtain ⟨hrow, hne, k, mix, size, hbl, rest⟩ := h
  have hpl := (Array.getElem?_eq_some_iff.1 hbl).1
  refine ⟨⟨fun x hx i hi => ?_, hrow.fit, hrow.some, hrow.small⟩, hne, k, mix, size, (hb.block p hpl).trans hbl, rest⟩
  have hc := hrow.cell x hx i hi
  exact (hb.cell (World.block_lt_of_cell? w _ hc)).trans hc
def DrawnP (a : Option Addr) (len cap : Nat) (z : List Int) (p : Nat) (R : List Pc → Prop) (w : World) (e : Ending) (w' : World) : Prop :=
  ∃ v L, e = .returned v ∧ w'.ownsRow w.heap.size 69 2 v L.length (pv L) ∧ R L ∧ Src a len cap z p w' ∧ w.grownBy w' (some p)
def RightL (L : List Pc) : Prop := canonG (-1) L ∧ Tiny 100000 L ∧ L.length ≤ 40
/-- After j puts. -/
def PutsL (j : Nat) (L : List Pc) : Prop := canonG (-1) L ∧ Tiny (j * 1000) L ∧ L.length + 1 ≤ 2 ^ j
theorem putsL_put {j : Nat} {L : List Pc} {n : Int} {t : List UInt8} (h : PutsL j L) (hj : j ≤ 4) (h0 : 0 ≤ n) (h1 : n ≤ 100) (ht : t.length ≤ 20) : PutsL (j + 1) (putN L n t) := by
  obtain ⟨a, b, c⟩ := tiny_put h.1 h.2.1 h0 h1 ht
  have h3 := h.2.2
  have h4 : 2 ^ j ≤ 16 := Nat.pow_le_pow_right (by decide) hj
  refine ⟨a, ⟨?_, b.2⟩, ?_⟩
  · have := b.1
    have h5 : (L.length + 1) * 20 ≤ 16 * 20 := Nat.mul_le_mul_right _ (by omega)
    omega
  · rw [Nat.pow_succ]; omega
theorem putsL_right {j : Nat} {L : List Pc} (h : PutsL j L) (hj : j ≤ 5) : RightL L := by
  have h3 := h.2.2
  have h4 : 2 ^ j ≤ 32 := Nat.pow_le_pow_right (by decide) hj
  exact ⟨h.1, ⟨by have := h.2.1.1; omega, h.2.1.2⟩, by omega⟩

set_option maxHeartbeats 2000000 in
set_option maxRecDepth 100000 in
theorem piecesOf_calls {a : Option Addr} {len cap : Nat} {z : List Int} {p : Nat} {w : World} (h : Src a len cap z p w) :
    Calls Try.prog 71 #[.pointer (some ⟨p, 0, none⟩)] w (DrawnP a len cap z p RightL w) := by
  have hp := src_lt h
  have HA := Lib.hid (row_below h.1)
  have H0 := Lib.hid (src_draw (src_alloc h (.cells #[] 69)) (most := 6) (by omega))
  have hst : (w.alloc (.cells #[] 69)).ownsRow w.heap.size 69 2 (.slice (some ⟨w.heap.size, 0, none⟩) 0 0) 0 [] := World.ownsRow_lit (base := w.heap.size) (size := 2) w #[] 0 (Nat.le_refl _) (by unfold maxLen; omega) rfl
  have HST := Lib.hid hst
  clear h hst
  go_enter Try.func71, Try.ntmps71
  go_wp2_with fail
  refine H0.out.mono ?_
  rintro e w1 ⟨r, rfl, hr0, hr1, hs, hg⟩
  have hr6 : r ≤ 5 := by omega
  have hro : w1.ownsRow w.heap.size 69 2 (.slice (some ⟨w.heap.size, 0, none⟩) 0 0) 0 [] := HST.out.kept hg (Or.inr (by intro e; have := (HST.out.lt p e).1; omega))
  have HS := Lib.hid hs
  have HG := Lib.hid (grown_trans (World.grownBy_alloc w _ _) hg)
  have HR := Lib.hid hro
  clear hs hg hro hr1 H0 HST
  go_wp2_with fail
  go_loopw [3, 4] (fun v i wr => ∃ (k j : Nat) (L : List Pc), i = .int .i64 (k : Int) ∧ j + k ≤ 5 ∧ PutsL j L ∧ wr.ownsRow w.heap.size 69 2 v L.length (pv L) ∧ Src a len cap z p wr ∧ w.grownBy wr (some p)) (fun _ i _ => (intOf i).toNat)
  case atStart =>
    obtain ⟨r, rfl⟩ := Int.eq_ofNat_of_zero_le hr0
    exact ⟨r, 0, [], rfl, by omega, ⟨trivial, ⟨by simp [bytesN], fun p hp => by cases hp⟩, by simp⟩, HR.out, HS.out, HG.out⟩
  case round =>
    clear HS HG HR
    obtain ⟨k, j, L, rfl, hjk, hL, hown, hs, hg⟩ := hrel
    by_cases hk : 0 < k
    · obtain ⟨a2, c2, rfl, hin⟩ := inPcs_row hown (by have := (putsL_right hL (by omega)).2.2; omega) (tiny_fits hL.2.1 (by omega))
      have H1 := Lib.hid (src_draw hs (most := 30) (by omega))
      have HG := Lib.hid hg
      have HO := Lib.hid hown
      have HIN := Lib.hid hin
      have HL := Lib.hid hL
      have hws := hg.size
      clear hs hg hin hown hL
      go_wp2_with fail
      refine H1.out.mono ?_
      rintro e w2 ⟨n, rfl, hn0, hn1, hs2, hg2⟩
      have hn30 : n ≤ 29 := by omega
      have H2 := Lib.hid (src_draw hs2 (most := 6) (by omega))
      have HG2 := Lib.hid (grown_trans HG.out hg2)
      have HIN2 := Lib.hid (HIN.out.far hg2 (fun b o e => by have := (HO.out.lt b (by subst e; rfl)).1; omega))
      clear hs2 hg2 hn1 H1
      go_wp2_with fail
      refine H2.out.mono ?_
      rintro e w3 ⟨m, rfl, hm0, hm1, hs3, hg3⟩
      obtain ⟨m, rfl⟩ := Int.eq_ofNat_of_zero_le hm0
      have hm6 : m ≤ 5 := by omega
      have H3 := Lib.hid (src_bytes hs3 m (by omega))
      have HG3 := Lib.hid (grown_trans HG2.out hg3)
      have HIN3 := Lib.hid (HIN2.out.far hg3 (fun b o e => by have := (HO.out.lt b (by subst e; rfl)).1; omega))
      clear hs3 hg3 hm1 H2 HG2 HIN2
      go_wp2_with fail
      refine H3.out.mono ?_
      rintro e w4 ⟨t, rfl, ht, hs4, hg4⟩
      have HG4 := Lib.hid (grown_trans HG3.out hg4)
      have hin4 := HIN3.out.far hg4 (fun b o e => by have := (HO.out.lt b (by subst e; rfl)).1; omega)
      have hrt := putsL_right HL.out (by omega)
      have hpc := putS_calls (cap := c2) hin4 (tiny_right hrt.1 hrt.2.1 hrt.2.2) n t hn0 (by omega) (by omega) (by have := hrt.2.1.1; omega)
      rw [put_same hrt.1 hn0] at hpc
      have hnext := putsL_put (n := n) (t := t) HL.out (by omega) hn0 (by omega) (by omega)
      generalize putN L n t = L2 at *
      have HS4 := Lib.hid hs4
      have HPC := Lib.hid hpc
      have HNX := Lib.hid hnext
      clear hs4 hg4 hin4 hrt hpc hnext H3 HG3 HIN3 HIN HO HL
      go_wp2_with fail
      refine HPC.out.mono ?_
      rintro e w5 ⟨v, rfl, hown5, hb5⟩
      have hw4 := HG4.out.size
      have HO5 := Lib.hid (ownsRow_base hown5 hw4)
      have HS5 := Lib.hid (src_below HS4.out hb5)
      have HG5 := Lib.hid (grown_far HG4.out (row := none) ⟨hb5.os, hb5.tape, hb5.output, hb5.size, fun k hk _ => hb5.block k hk⟩ (fun k hk => by cases hk))
      clear hown5 hb5
      go_wp2_with fail
      go_roundw
      case rel => exact ⟨k - 1, j + 1, L2, by first | exact val_int (by omega) | go_num, by omega, HNX.out, HO5.out, HS5.out, HG5.out⟩
      case measure => simp [intOf]; omega
    · have hk0 : k = 0 := by omega
      subst hk0
      have HE := Lib.hid (And.intro hown (And.intro (putsL_right hL (by omega)) (And.intro hs hg)))
      clear hown hL hs hg
      go_wp2_with fail
      go_ret
      exact ⟨_, L, rfl, HE.out.1, HE.out.2.1, HE.out.2.2.1, HE.out.2.2.2⟩
end Go.Proofs.Ytjcdcaannajnpaa
