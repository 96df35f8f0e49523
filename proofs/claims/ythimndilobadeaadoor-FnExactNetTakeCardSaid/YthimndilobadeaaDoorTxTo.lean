/- The laws' copy of a row of texts: a row of its own. -/
import Derived.Test.YthimndilobadeaaDoorTx
import Derived.Lib.BufferWrite
import Derived.Deep.WholeRow
namespace Go.Proofs.YthimndilobadeaaDoor
open Go.RowKit

/-- A row's cells are there, and may be written. -/
structure OpenTx (w : World) (g len : Nat) : Prop where
  there : ∀ i, i < len → ∃ v, w.cell? ⟨g, i, none⟩ = some v
  free : ∀ i, i < len → w.frozen? ⟨g, i, none⟩ = false
theorem OpenTx.below {w w' : World} {g len : Nat} (h : OpenTx w g len) (hg : g < w.heap.size) (hb : Below w.heap.size w w') : OpenTx w' g len :=
  ⟨fun i hi => by obtain ⟨v, hv⟩ := h.there i hi; exact ⟨v, (hb.cell (p := ⟨g, i, none⟩) hg).trans hv⟩, fun i hi => (hb.frozen (p := ⟨g, i, none⟩) hg).trans (h.free i hi)⟩
theorem OpenTx.kept {w w' : World} {g len : Nat} (h : OpenTx w g len) (hb : w'.heap[g]? = w.heap[g]?) : OpenTx w' g len :=
  ⟨fun i hi => by obtain ⟨v, hv⟩ := h.there i hi; exact ⟨v, (World.cell?_of_block (a := ⟨g, i, none⟩) hb).trans hv⟩, fun i hi => (World.frozen?_of_block (a := ⟨g, i, none⟩) hb).trans (h.free i hi)⟩
theorem OpenTx.store {w : World} {g len : Nat} (h : OpenTx w g len) {p : Addr} (hp : g ≠ p.block) (v : Value) : OpenTx (w.setCell p v) g len := h.kept (Below.heap_setCell _ _ _ _ hp)
theorem run_make_texts {P : Program} {t e : TypeId} {i : TypeInfo} (ht : P.underlying t = some (.slice e)) (hi : P.info? e = some i) (hz : i.zero = some (gs [])) (h1 : i.size = 1) (h2 : i.bytes = 16)
    (n : Nat) (L : Int) (hL : L = (n : Int)) (hn : n ≤ 1000000000) (w : World) :
    (Instr.makeSlice t (.int .i64 L) (.int .i64 L)).run P w = .ok (.slice (some ⟨w.heap.size, 0, none⟩) n n) (w.alloc (.cells (madeCells (Value.cells (gs [])) (n * 1)) e)) := by
  subst hL
  have h := run_make (P := P) w t e i (gs []) ht hi hz .i64 .i64 n n (by omega) (by omega) (by rw [h2]; omega) (by omega)
  rw [h, h1]
  simp only [Int.toNat_natCast]
/-- The first k texts of l stand in a row of cells. -/
def TxTo (xs : List Value) (l : Tx) (k : Nat) : Prop := ∀ j, j < k → xs[j]? = some (gs (txAt l j))
theorem txTo_zero (xs : List Value) (l : Tx) : TxTo xs l 0 := fun j h => by omega
theorem txTo_succ {xs : List Value} {l : Tx} {k : Nat} (h : TxTo xs l k) (hl : k < xs.length) : TxTo (xs.set k (gs (txAt l k))) l (k + 1) := fun j hj => by
  by_cases e : j = k
  · subst e
    rw [List.getElem?_set_self (by omega)]
  · rw [List.getElem?_set_ne (by omega)]; exact h j (by omega)
theorem own_below {w w' : World} {base : Nat} {e : TypeId} {size : Nat} {v : Value} {n : Nat} {xs : List Value} (h : w.ownsRow base e size v n xs) (hb : Below w.heap.size w w') : w'.ownsRow base e size v n xs := by
  refine ⟨h.1, ?_⟩
  rcases h.2 with hn | ⟨g, cap, cur, rfl, hbg, hgg, rest⟩
  · exact .inl hn
  · exact .inr ⟨g, cap, cur, rfl, hbg, (hb.block g (Array.getElem?_eq_some_iff.1 hgg).1).trans hgg, rest⟩
/-- A row that the call owns, full of texts. -/
theorem inTx_own {w : World} {base g len cap : Nat} {e : TypeId} {xs : List Value} {l : Tx} (ho : w.ownsRow base e 1 (.slice (some ⟨g, 0, none⟩) len cap) len xs) (ht : TxTo xs l len) (hl : l.length = len) (hm : len ≤ 2000000)
    (hf : ∀ i, i < len → (txAt l i).length ≤ 2000000) : InTx w (some ⟨g, 0, none⟩) len l ∧ OpenTx w g len ∧ base ≤ g ∧ g < w.heap.size := by
  have hx : xs.length = len := by have := ho.1; omega
  refine ⟨⟨hl, hm, fun _ => ⟨g, 0, rfl⟩, fun b o ha i hi => ?_, hf⟩, ⟨fun i hi => ?_, fun i hi => ho.frozenAt i⟩, ?_⟩
  · cases ha
    rw [Nat.zero_add]
    exact (ho.cellAt i (by omega)).trans (ht i hi)
  · exact ⟨_, (ho.cellAt i (by omega)).trans (ht i hi)⟩
  · rcases ho.2 with ⟨h, _⟩ | ⟨g', c', cur, he, hb, hh, _⟩
    · cases h
    · injection he with he1 he2 he3
      injection he1 with he1
      injection he1 with he1
      subst he1
      exact ⟨hb, (Array.getElem?_eq_some_iff.1 hh).1⟩

/-- A copy of a row of texts. -/
def TxCopied (w : World) (len : Nat) (l : Tx) (e : Ending) (w' : World) : Prop :=
  ∃ g, e = .returned (.slice (some ⟨g, 0, none⟩) len len) ∧ InTx w' (some ⟨g, 0, none⟩) len l ∧ OpenTx w' g len ∧ w.heap.size ≤ g ∧ g < w'.heap.size ∧ Below w.heap.size w w'

set_option maxHeartbeats 1000000 in
set_option maxRecDepth 100000 in
theorem toStringS_calls {a : Option Addr} {len cap : Nat} {l : Tx} {w : World} (h : InTx w a len l) :
    Calls Tryd.prog 35 #[.slice a len cap] w (TxCopied w len l) := by
  have hm := h.most
  have hlen := h.long
  have hzz : (Tryd.prog.info? 9).map (fun i => (i.zero, i.size, i.bytes)) = some (some (gs []), 1, 16) := by kernel_rfl
  cases hi : Tryd.prog.info? 9 with
  | none => rw [hi] at hzz; cases hzz
  | some i =>
    rw [hi] at hzz
    simp at hzz
    have hmk := run_make_texts (P := Tryd.prog) Tryd.underlying35 hi hzz.1 hzz.2.1 hzz.2.2 len (len : Int) rfl (by omega) w
    clear hzz hi
    have ho := World.ownsRow_lit (size := 1) (base := w.heap.size) (e := 9) w (madeCells (Value.cells (gs [])) (len * 1)) len (Nat.le_refl _) (by simp [maxLen]; omega) (size_madeCells _ _)
    generalize hg : w.heap.size = g at ho hmk
    have hbw : Below w.heap.size w (w.alloc (.cells (madeCells (Value.cells (gs [])) (len * 1)) 9)) := (Below.refl _ _).alloc (Nat.le_refl _) _
    have hlt : g < (w.alloc (.cells (madeCells (Value.cells (gs [])) (len * 1)) 9)).heap.size := by simp; omega
    generalize w.alloc (.cells (madeCells (Value.cells (gs [])) (len * 1)) 9) = w1 at *
    generalize (madeCells (Value.cells (gs [])) (len * 1)).toList = xs at *
    go_enter Tryd.func35, Tryd.ntmps35
    go_wp2_with fail
    go_loopw [4] (fun i wr => ∃ (k : Nat) (xs : List Value), i = .int .i64 (k : Int) ∧ k ≤ len ∧ wr.ownsRow g 9 1 (.slice (some ⟨g, 0, none⟩) len len) len xs ∧ TxTo xs l k ∧ Below g w wr) (fun i _ => len - (intOf i).toNat)
    case atStart => exact ⟨0, xs, rfl, Nat.zero_le _, ho, txTo_zero _ _, hg ▸ hbw⟩
    case round =>
      obtain ⟨k, xs, rfl, hk, ho, hto, hbl⟩ := hrel
      subst hg
      by_cases hkl : k < len
      · have hh := h.below hbl
        obtain ⟨b, o, rfl⟩ := hh.there (by omega)
        have c0 := hh.cell b o rfl k hkl
        have hx : xs.length = len * 1 := ho.1
        have hs := txTo_succ hto (by omega : k < xs.length)
        generalize txAt l k = t at *
        obtain ⟨v0, hv0⟩ : ∃ v, xs[k]? = some v := ⟨_, List.getElem?_eq_getElem (by omega)⟩
        have e0 := (ho.cellAt k (by omega)).trans hv0
        have z0 := ho.frozenAt k
        have HO := Lib.hid (ho.stored k (gs t)).1
        have HT := Lib.hid hs
        have HBL := Lib.hid hbl
        clear hh h ho hto hs hbl hbw hx hmk hlt hv0
        go_wp2_with fail
        exact ⟨⟨k + 1, _, by go_num, by omega, HO.out, HT.out, HBL.out.setCell (by simp) _⟩, by simp [intOf]; omega⟩
      · have hkl' : k = len := by omega
        subst hkl'
        have hin := inTx_own ho hto hlen hm h.fit
        have HIN := Lib.hid hin
        clear hmk ho hto h hin
        go_wp2_with fail
        go_ret
        exact ⟨_, rfl, HIN.out.1, HIN.out.2.1, HIN.out.2.2.1, HIN.out.2.2.2, hbl⟩
end Go.Proofs.YthimndilobadeaaDoor
