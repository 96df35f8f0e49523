/- Small texts laid together: Base, Box, Bytes, Lg, Kept, Two, Is, Slice, CellApp, Mark, LgTo, LgMark, From, FromTo, Froms, FromsLaw, FromsTo, FromsMark, FrsCp. -/
import Derived.Handy
import Derived.Laws.IdiomStrings
import Derived.Lib.Hide
import Derived.Laws.BitsAllLaws
import Derived.Test.YtdcahilfmhkmiaaGreatDoorProg
import Derived.Lib.BufferWrite
import Derived.Deep.WholeRow
import Derived.Test.YtdcahilfmhkmiaaGreatDoorRows
import Derived.Deep.QuietTactic
import Derived.BigQuiet
import Derived.IntWalk
import Derived.Deep.AppendLies
import Derived.Deep.AppendSrc
import Derived.Deep.RegionHeld3
import Derived.StillTailTactics

namespace Go.Proofs.YtdcahilfmhkmiaaGreatDoor
open Go.RowKit

/-- A list of bytes as a Go string. -/
abbrev gs (l : List UInt8) : Value := .string ⟨l.toArray⟩
/-- A list of bytes as cells. -/
def u8s (l : List UInt8) : List Value := l.map fun b => .int .u8 (b.toNat : Int)

theorem cat_ba (a b : List UInt8) : (⟨a.toArray⟩ : ByteArray) ++ ⟨b.toArray⟩ = ⟨(a ++ b).toArray⟩ := by
  apply ByteArray.ext; simp
theorem cat_gs (a b : List UInt8) : Ending.returned (.string ((⟨a.toArray⟩ : ByteArray) ++ ⟨b.toArray⟩)) = .returned (gs (a ++ b)) := by rw [cat_ba]

theorem u8s_append (a b : List UInt8) : u8s (a ++ b) = u8s a ++ u8s b := by simp [u8s]
theorem u8s_length (a : List UInt8) : (u8s a).length = a.length := by simp [u8s]

/-- 'string(b)', b a row that the call owns. -/
theorem run_own_string {P : Program} {w : World} {base : Nat} {src dst e : TypeId} {v : Value} {n : Nat} {l : List UInt8} (hs : P.underlying src = some (.slice e)) (he : P.underlying e = some (.int .u8)) (hd : P.underlying dst = some .string)
    (h : w.ownsRow base e 1 v n (u8s l)) : (convert src dst v).run P w = .ok (gs l) w := by
  have hn : n = l.length := by have := h.1; rw [u8s_length] at this; omega
  subst hn
  rcases h.2 with ⟨rfl, h0⟩ | ⟨g, cap, cur, rfl, hb, hg, hnc, hcm, hcs, htake⟩
  · have hl : l = [] := List.eq_nil_of_length_eq_zero h0
    subst hl
    rw [run_convert_bytes_string w src dst e none 0 0 hs he hd]
    rfl
  · refine run_convert_bytes_back w src dst e ⟨g, 0, none⟩ cap l hs he hd ?_
    intro j hj
    have hc := h.cells (g := g) rfl j (.int .u8 (l[j].toNat : Int)) (by simp [u8s, hj])
    exact hc

/-- One byte laid in a new cell, as 'append(b, x)' does first. -/
theorem byte_new (w : World) (e : TypeId) (x : Value) : ∀ (j : Nat) (u : Value), [x][j]? = some u → (w.alloc (.cells #[x] e)).cell? ((⟨w.heap.size, 0, none⟩ : Addr).add j) = some u := by
  intro j u hj
  match j, hj with
  | 0, hj => simp at hj; subst hj; simp [Addr.add]

theorem one_cell (k : IntKind) (n : Int) : ∀ u ∈ [Value.int k n], u.oneCell' = true := by intro u hu; simp at hu; subst hu; rfl

/-- After an append to a row of the call's own. -/
theorem below_grown {B : Nat} {a w w' : World} {v : Value} {e : TypeId} {n : Nat} {xs : List Value} (h : Below B a w) (hs : B ≤ w.heap.size) (hown : w.ownsRow B e 1 v n xs) (hg : w.grownBy w' v.ownBlock) : Below B a w' :=
  h.grown hg hs (fun k hk => (hown.lt k hk).1)

/-- What an append of one byte leaves. -/
theorem byte_step {B : Nat} {a w w' : World} {v v' : Value} {e e' : TypeId} {l : List UInt8} {b : UInt8} {n : Int} {x : Value} (hb : Below B a w) (hs : B ≤ w.heap.size) (hown : w.ownsRow B e 1 v l.length (u8s l)) (hn : (b.toNat : Int) = n)
    (hown' : w'.ownsRow B e 1 v' (l.length + 1) (u8s l ++ [.int .u8 n])) (hg : (w.alloc (.cells #[x] e')).grownBy w' v.ownBlock) :
    w'.ownsRow B e 1 v' (l ++ [b]).length (u8s (l ++ [b])) ∧ Below B a w' := by
  subst hn
  refine ⟨?_, ?_⟩
  · rw [u8s_append]; simpa [u8s] using hown'
  · exact (hb.alloc hs _).grown hg (by simp; omega) (fun k hk => (hown.lt k hk).1)

theorem cell_kept {w w2 : World} {o : Obj} (hb : Below (w.alloc o).heap.size (w.alloc o) w2) (i : Nat) : w2.cell? ⟨w.heap.size, i, none⟩ = (w.alloc o).cell? ⟨w.heap.size, i, none⟩ :=
  hb.cell (p := ⟨w.heap.size, i, none⟩) (by simp)
theorem size_kept {w w2 : World} {o : Obj} (hb : Below (w.alloc o).heap.size (w.alloc o) w2) : w.heap.size < w2.heap.size := by have := hb.size; simp at this; omega

theorem bcell {W w1 : World} (hb : Below W.heap.size W w1) : (∀ b o, b < W.heap.size → w1.cell? ⟨b, o, none⟩ = W.cell? ⟨b, o, none⟩) ∧ (∀ b o, b < W.heap.size → w1.frozen? ⟨b, o, none⟩ = W.frozen? ⟨b, o, none⟩) :=
  ⟨fun b o h => hb.cell (p := ⟨b, o, none⟩) h, fun b o h => hb.frozen (p := ⟨b, o, none⟩) h⟩
theorem ret_int {k : IntKind} {a b : Int} (h : a = b) : Ending.returned (.int k a) = .returned (.int k b) := by rw [h]
theorem ret_bool {a b : Bool} (h : a = b) : Ending.returned (.bool a) = .returned (.bool b) := by rw [h]
theorem val_int {k : IntKind} {a b : Int} (h : a = b) : Value.int k a = .int k b := by rw [h]

theorem i64_bounds {n : Int} (h : (Lit.int .i64 n).wf = true) : -9223372036854775808 ≤ n ∧ n ≤ 9223372036854775807 := by
  simp only [Lit.wf, Bool.and_eq_true, decide_eq_true_eq] at h
  have h1 : IntKind.i64.min = -9223372036854775808 := by decide
  have h2 : IntKind.i64.max = 9223372036854775807 := by decide
  rw [h1, h2] at h
  exact h

/-- '^x' of a uint64 and of a uint32. -/
theorem not_u64 (y : Int) (h0 : 0 ≤ y) (h1 : y < 18446744073709551616) : bits .xor .u64 IntKind.u64.max y = 18446744073709551615 - y := by
  obtain ⟨n, rfl⟩ := Int.eq_ofNat_of_zero_le h0
  have hm : IntKind.u64.max = ((18446744073709551615 : Nat) : Int) := by decide
  rw [hm, u64_xor_nat _ _ (by omega) (by omega)]
  have : 18446744073709551615 ^^^ n = 18446744073709551615 - n := by
    have e := BitVec.allOnes_xor (w := 64) (x := BitVec.ofNat 64 n)
    have e2 := congrArg BitVec.toNat e
    rw [BitVec.toNat_xor, BitVec.toNat_not, BitVec.toNat_ofNat, Nat.mod_eq_of_lt (by omega)] at e2
    simpa using e2
  rw [this]; omega
theorem not_u32 (y : Int) (h0 : 0 ≤ y) (h1 : y < 4294967296) : bits .xor .u32 IntKind.u32.max y = 4294967295 - y := by
  obtain ⟨n, rfl⟩ := Int.eq_ofNat_of_zero_le h0
  have hm : IntKind.u32.max = ((4294967295 : Nat) : Int) := by decide
  rw [hm, u32_xor_nat _ _ (by omega) (by omega)]
  have : 4294967295 ^^^ n = 4294967295 - n := by
    have e := BitVec.allOnes_xor (w := 32) (x := BitVec.ofNat 32 n)
    have e2 := congrArg BitVec.toNat e
    rw [BitVec.toNat_xor, BitVec.toNat_not, BitVec.toNat_ofNat, Nat.mod_eq_of_lt (by omega)] at e2
    simpa using e2
  rw [this]; omega
end Go.Proofs.YtdcahilfmhkmiaaGreatDoor

namespace Go.Proofs.YtdcahilfmhkmiaaGreatDoor
open Go.RowKit

/-- A block whose first cells are vs, and may be written. -/
structure Box (w : World) (g : Nat) (vs : List Value) : Prop where
  cell : ∀ i v, vs[i]? = some v → w.cell? ⟨g, i, none⟩ = some v
  free : ∀ i, i < vs.length → w.frozen? ⟨g, i, none⟩ = false
  pos : 0 < vs.length
theorem Box.lt {w : World} {g : Nat} {vs : List Value} (h : Box w g vs) : g < w.heap.size :=
  World.block_lt_of_cell? w _ (h.cell 0 _ (List.getElem?_eq_getElem h.pos))
theorem Box.kept {w w' : World} {g : Nat} {vs : List Value} (h : Box w g vs) (hb : w'.heap[g]? = w.heap[g]?) : Box w' g vs :=
  ⟨fun i v e => (World.cell?_of_block (a := ⟨g, i, none⟩) hb).trans (h.cell i v e), fun i hi => (World.frozen?_of_block (a := ⟨g, i, none⟩) hb).trans (h.free i hi), h.pos⟩
theorem Box.below {w w' : World} {g : Nat} {vs : List Value} (h : Box w g vs) (hb : Below w.heap.size w w') : Box w' g vs := h.kept (hb.block g h.lt)
theorem Box.other {w : World} {g : Nat} {vs : List Value} (h : Box w g vs) {p : Addr} (hp : p.block ≠ g) (v : Value) : Box (w.setCell p v) g vs := h.kept (Below.heap_setCell _ _ _ _ (Ne.symm hp))
theorem Box.set {w : World} {g : Nat} {vs : List Value} (h : Box w g vs) (i : Nat) (v : Value) : Box (w.setCell ⟨g, i, none⟩ v) g (vs.set i v) := by
  refine ⟨fun j u e => ?_, fun j hj => (World.frozen?_setCell _ _ _ _).trans (h.free j (by simpa using hj)), by simpa using h.pos⟩
  have hj : j < vs.length := by
    obtain ⟨hj, _⟩ := List.getElem?_eq_some_iff.1 e
    simpa using hj
  by_cases hij : i = j
  · subst hij
    rw [List.getElem?_set_self hj] at e
    cases e
    exact World.cell?_setCell_same _ _ _ (h.cell i _ (List.getElem?_eq_getElem hj))
  · rw [List.getElem?_set_ne hij] at e
    exact (World.cell?_setCell_other _ _ _ _ (fun e' => by injection e' with _ e' _; omega)).trans (h.cell j u e)
theorem box_new (w : World) (vs : List Value) (T : TypeId) (h : 0 < vs.length) : Box (w.alloc (.cells vs.toArray T)) w.heap.size vs := by
  refine ⟨fun i v e => ?_, fun i _ => by simp, h⟩
  obtain ⟨hi, rfl⟩ := List.getElem?_eq_some_iff.1 e
  simp [hi]
theorem box_two (w : World) (vs us : List Value) (T U : TypeId) (h : 0 < vs.length) (k : 0 < us.length) :
    let W := (w.alloc (.cells vs.toArray T)).alloc (.cells us.toArray U)
    Box W w.heap.size vs ∧ Box W (w.heap.size + 1) us ∧ W.heap.size = w.heap.size + 2 ∧ Below w.heap.size w W := by
  intro W
  have s1 : (w.alloc (.cells vs.toArray T)).heap.size = w.heap.size + 1 := by simp
  have n1 := box_new w vs T h
  have n2 := box_new (w.alloc (.cells vs.toArray T)) us U k
  rw [s1] at n2
  have b0 : Below w.heap.size w (w.alloc (.cells vs.toArray T)) := (Below.refl _ _).alloc (Nat.le_refl _) _
  have b1 : Below (w.alloc (.cells vs.toArray T)).heap.size (w.alloc (.cells vs.toArray T)) W := (Below.refl _ _).alloc (Nat.le_refl _) _
  exact ⟨n1.below b1, n2, by simp [W], b0.trans (b1.mono (by simp))⟩
theorem box_three (w : World) (vs us ts : List Value) (T U V : TypeId) (h : 0 < vs.length) (k : 0 < us.length) (m : 0 < ts.length) :
    let W := ((w.alloc (.cells vs.toArray T)).alloc (.cells us.toArray U)).alloc (.cells ts.toArray V)
    Box W w.heap.size vs ∧ Box W (w.heap.size + 1) us ∧ Box W (w.heap.size + 1 + 1) ts ∧ W.heap.size = w.heap.size + 3 ∧ Below w.heap.size w W := by
  intro W
  obtain ⟨n1, n2, hs, hb⟩ := box_two w vs us T U h k
  have n3 := box_new ((w.alloc (.cells vs.toArray T)).alloc (.cells us.toArray U)) ts V m
  have b1 : Below ((w.alloc (.cells vs.toArray T)).alloc (.cells us.toArray U)).heap.size ((w.alloc (.cells vs.toArray T)).alloc (.cells us.toArray U)) W := (Below.refl _ _).alloc (Nat.le_refl _) _
  have hb2 := hb.trans (b1.mono hb.size)
  replace n1 := n1.below b1
  replace n2 := n2.below b1
  rw [hs] at n3
  exact ⟨n1, n2, n3, by simp [W], hb2⟩
/-- The cells of a block of seven. -/
theorem Box.seven {w : World} {g : Nat} {a b c d e f h : Value} (k : Box w g [a, b, c, d, e, f, h]) :
    w.cell? ⟨g, 0, none⟩ = some a ∧ w.cell? ⟨g, 1, none⟩ = some b ∧ w.cell? ⟨g, 2, none⟩ = some c ∧ w.cell? ⟨g, 3, none⟩ = some d ∧ w.cell? ⟨g, 4, none⟩ = some e ∧ w.cell? ⟨g, 5, none⟩ = some f ∧ w.cell? ⟨g, 6, none⟩ = some h :=
  ⟨k.cell 0 _ rfl, k.cell 1 _ rfl, k.cell 2 _ rfl, k.cell 3 _ rfl, k.cell 4 _ rfl, k.cell 5 _ rfl, k.cell 6 _ rfl⟩
theorem Box.frz7 {w : World} {g : Nat} {a b c d e f h : Value} (k : Box w g [a, b, c, d, e, f, h]) :
    w.frozen? ⟨g, 0, none⟩ = false ∧ w.frozen? ⟨g, 1, none⟩ = false ∧ w.frozen? ⟨g, 2, none⟩ = false ∧ w.frozen? ⟨g, 3, none⟩ = false ∧ w.frozen? ⟨g, 4, none⟩ = false ∧ w.frozen? ⟨g, 5, none⟩ = false ∧ w.frozen? ⟨g, 6, none⟩ = false :=
  ⟨k.free 0 (by simp), k.free 1 (by simp), k.free 2 (by simp), k.free 3 (by simp), k.free 4 (by simp), k.free 5 (by simp), k.free 6 (by simp)⟩
end Go.Proofs.YtdcahilfmhkmiaaGreatDoor

namespace Go.Proofs.YtdcahilfmhkmiaaGreatDoor
open Go.RowKit

/-- The cells of a row of bytes. -/
def brow (l : List UInt8) : Array Value := (u8s l).toArray
theorem brow_size (l : List UInt8) : (brow l).size = l.length := by simp [brow, u8s]

theorem madeCells_bytes (n : Nat) : madeCells (Value.cells (.int .u8 0)) (n * 1) = brow (List.replicate n 0) := by
  apply Array.ext
  · simp [madeCells, brow, u8s]
  · intro i h1 h2
    simp [madeCells, brow, u8s, Value.cells, Nat.mod_one]

theorem run_make_bytes {P : Program} {t e : TypeId} {i : TypeInfo} (ht : P.underlying t = some (.slice e)) (hi : P.info? e = some i) (hz : i.zero = some (.int .u8 0)) (h1 : i.size = 1) (h2 : i.bytes = 1)
    (n : Nat) (L : Int) (hL : L = (n : Int)) (hn : n ≤ 1000000000) (w : World) :
    (Instr.makeSlice t (.int .i64 L) (.int .i64 L)).run P w = .ok (.slice (some ⟨w.heap.size, 0, none⟩) n n) (w.alloc (.cells (brow (List.replicate n 0)) e)) := by
  subst hL
  have h := run_make (P := P) w t e i (.int .u8 0) ht hi hz .i64 .i64 n n (by omega) (by omega) (by rw [h2]; omega) (by omega)
  rw [h, h1]
  simp only [Int.toNat_natCast]
  rw [madeCells_bytes]

theorem byteCells_u8s (l : List UInt8) : Lib.byteCells l = u8s l := rfl

/-- 'copy(row[o:], a)', the row the newest block. -/
theorem run_copy_bytes {P : Program} {dT sT ty e : TypeId} (hu : P.underlying dT = some (.slice e)) (hs : (P.info? e).map (·.size) = some 1) (w : World) (l a : List UInt8) (o dLen dCap g : Nat) (hg : g = w.heap.size) (hle : a.length ≤ dLen) (hfit : o + a.length ≤ l.length) :
    (Builtin.copy_ #[dT, sT] ty #[.slice (some ⟨g, o, none⟩) dLen dCap, gs a]).run P (w.alloc (.cells (brow l) e)) =
      .ok (.int .i64 (a.length : Int)) (w.alloc (.cells (brow (l.take o ++ a ++ l.drop (o + a.length))) e)) := by
  subst hg
  have hsz : (⟨a.toArray⟩ : ByteArray).size = a.length := by simp [ByteArray.size]
  have h := Lib.run_copy_row_string (P := P) (w.alloc (.cells (brow l) e)) dT sT ty e w.heap.size o dLen dCap ⟨a.toArray⟩ (brow l) e hu hs (heap_alloc_new w _) (by rw [hsz]; exact hle) (by rw [hsz, brow_size]; exact hfit)
  rw [h, World.setRow_alloc_new, hsz, byteCells_u8s]
  have e1 : ((brow l).toList.take o ++ u8s a ++ (brow l).toList.drop (o + a.length)).toArray = brow (l.take o ++ a ++ l.drop (o + a.length)) := by
    simp [brow, u8s, List.map_take, List.map_drop]
  rw [e1]
  rfl

theorem run_copy_none_bytes {P : Program} {dT sT ty e : TypeId} (hu : P.underlying dT = some (.slice e)) (hs : (P.info? e).map (·.size) = some 1) (w : World) (d : Option Addr) (dLen dCap : Nat) :
    (Builtin.copy_ #[dT, sT] ty #[.slice d dLen dCap, gs []]).run P w = .ok (.int .i64 0) w :=
  Lib.run_copy_empty_string w dT sT ty e d dLen dCap ⟨#[]⟩ hu (by cases h : P.info? e <;> simp_all) rfl

/-- 'string(row)', the row the newest block. -/
theorem run_string_bytes {P : Program} {src dst e : TypeId} (hs : P.underlying src = some (.slice e)) (he : P.underlying e = some (.int .u8)) (hd : P.underlying dst = some .string) (w : World) (l : List UInt8) (n cap g : Nat) (hg : g = w.heap.size) (hn : n = l.length) :
    (convert src dst (.slice (some ⟨g, 0, none⟩) n cap)).run P (w.alloc (.cells (brow l) e)) = .ok (gs l) (w.alloc (.cells (brow l) e)) := by
  subst hg; subst hn
  refine run_convert_bytes_back _ src dst e ⟨w.heap.size, 0, none⟩ cap l hs he hd ?_
  intro j hj
  have hadd : (⟨w.heap.size, 0, none⟩ : Addr).add j = ⟨w.heap.size, j, none⟩ := by unfold Addr.add; split <;> simp_all
  rw [hadd, World.cell?_alloc_mark w (brow l) e (0, 0) j]
  simp [brow, u8s, hj]

theorem size_info {P : Program} {e : TypeId} {z : Value} {size bytes : Nat} (h : (P.info? e).map (fun i => (i.zero, i.size, i.bytes)) = some (some z, size, bytes)) : (P.info? e).map (·.size) = some size := by
  cases hi : P.info? e with
  | none => simp [hi] at h
  | some i => simp [hi] at h ⊢; exact h.2.1
end Go.Proofs.YtdcahilfmhkmiaaGreatDoor

namespace Go.Proofs.YtdcahilfmhkmiaaGreatDoor
open Go.RowKit

abbrev Lg := List Int
/-- The i-th number. -/
def lgAt (l : Lg) (i : Nat) : Int := l.getD i 0
theorem lgAt_get {l : Lg} {i : Nat} (h : i < l.length) : lgAt l i = l[i] := by simp [lgAt, List.getD, h]
/-- The numbers l in memory. -/
structure RawLg (w : World) (a : Option Addr) (len : Nat) (l : Lg) : Prop where
  long : l.length = len
  most : len ≤ 9223372036854775807
  there : 0 < len → ∃ b o, a = some ⟨b, o, none⟩
  cell : ∀ b o, a = some ⟨b, o, none⟩ → ∀ i, i < len → w.cell? ⟨b, o + i, none⟩ = some (.int .i64 (lgAt l i))
  fit : ∀ i, i < len → -9223372036854775808 ≤ lgAt l i ∧ lgAt l i ≤ 9223372036854775807
/-- The same, small. -/
structure InLg (w : World) (a : Option Addr) (len : Nat) (l : Lg) : Prop extends RawLg w a len l where
  small : len ≤ 2000000
theorem RawLg.below {w w' : World} {a : Option Addr} {len : Nat} {l : Lg} (h : RawLg w a len l) (hb : Below w.heap.size w w') : RawLg w' a len l :=
  ⟨h.long, h.most, h.there, fun b o ha i hi => (hb.cell (World.block_lt_of_cell? w _ (h.cell b o ha i hi))).trans (h.cell b o ha i hi), h.fit⟩
theorem InLg.below {w w' : World} {a : Option Addr} {len : Nat} {l : Lg} (h : InLg w a len l) (hb : Below w.heap.size w w') : InLg w' a len l := ⟨h.toRawLg.below hb, h.small⟩
/-- A row whose block is as it was. -/
theorem InLg.kept {w w' : World} {a : Option Addr} {len : Nat} {l : Lg} (h : InLg w a len l) (hb : ∀ b o, a = some ⟨b, o, none⟩ → b < w.heap.size → w'.heap[b]? = w.heap[b]?) : InLg w' a len l :=
  ⟨⟨h.long, h.most, h.there, fun b o ha i hi => (World.cell?_of_block (w := w) (a := ⟨b, o + i, none⟩) (hb b o ha (World.block_lt_of_cell? w _ (h.cell b o ha i hi)))).trans (h.cell b o ha i hi), h.fit⟩, h.small⟩
theorem InLg.store {w : World} {g o len : Nat} {l : Lg} (h : InLg w (some ⟨g, o, none⟩) len l) {p : Addr} (hp : g ≠ p.block) (v : Value) : InLg (w.setCell p v) (some ⟨g, o, none⟩) len l :=
  h.kept fun b o' e _ => by cases e; exact Below.heap_setCell _ _ _ _ hp
/-- What is left of a budget behind some numbers. -/
def szLg (l : Lg) (n : Int) : Int := if n < (l.length : Int) then -1 else n - (l.length : Int)
theorem inLg_of {w : World} {a : Option Addr} {len : Nat} {l : Lg} {n : Int} (h : RawLg w a len l) (h1 : n ≤ 1048576) (hs : 0 ≤ szLg l n) : InLg w a len l := by
  have hl := h.long
  unfold szLg at hs
  split at hs
  · omega
  · exact ⟨h, by omega⟩
/-- The first k numbers of two rows are the same. -/
def eqLgTo (l m : Lg) (k : Nat) : Prop := ∀ j, j < k → lgAt l j = lgAt m j
theorem eqLgTo_zero (l m : Lg) : eqLgTo l m 0 := fun j h => by omega
theorem eqLgTo_succ {l m : Lg} {k : Nat} (h : eqLgTo l m k) (hk : lgAt l k = lgAt m k) : eqLgTo l m (k + 1) := fun j hj => by
  by_cases e : j = k
  · subst e; exact hk
  · exact h j (by omega)
theorem eqLgTo_all {l m : Lg} (hl : l.length = m.length) (h : eqLgTo l m l.length) : l = m := by
  apply List.ext_getElem hl
  intro i h1 h2
  have := h i h1
  rwa [lgAt_get h1, lgAt_get h2] at this
theorem lg_drewN {B : Nat} {a w : World} (h : Below B a w) (n : Nat) : Below B a (w.drewN n) := ⟨h.os, h.tape, h.output, h.size, h.block⟩

set_option maxHeartbeats 1000000 in
set_option maxRecDepth 100000 in
theorem szInt64S_calls {a : Option Addr} {len cap : Nat} {l : Lg} {w : World} (h : RawLg w a len l) (n : Int) (hn0 : 0 ≤ n) (hn1 : n ≤ 1048576) :
    Calls Tryz.prog 232 #[.slice a len cap, .int .i64 n] w fun e w' => e = .returned (.int .i64 (szLg l n)) ∧ Below w.heap.size w w' := by
  have hm := h.most
  have hlen := h.long
  by_cases hbig : n < (len : Int)
  · have hs : szLg l n = -1 := by unfold szLg; rw [if_pos (by omega)]
    have HS := Lib.hid hs; clear hs
    go_enter Tryz.func232, Tryz.ntmps232
    go_wp2_with fail
    all_goals first
      | (go_ret; exact ⟨ret_int (by rw [HS.out]), Below.refl _ _⟩)
      | (exfalso; omega)
  · have hs : szLg l n = n - (len : Int) := by unfold szLg; rw [if_neg (by omega), hlen]
    have HS := Lib.hid hs; clear hs
    go_enter Tryz.func232, Tryz.ntmps232
    go_wp2_with fail
    all_goals first
      | (go_ret; exact ⟨ret_int (by rw [HS.out]), Below.refl _ _⟩)
      | (exfalso; omega)

set_option maxHeartbeats 1000000 in
set_option maxRecDepth 100000 in
theorem eqInt64S_calls {a b : Option Addr} {la ca lb cb : Nat} {l m : Lg} {w : World} (h : InLg w a la l) (h' : InLg w b lb m) :
    Calls Tryz.prog 234 #[.slice a la ca, .slice b lb cb] w fun e w' => e = .returned (.bool (decide (l = m))) ∧ Below w.heap.size w w' := by
  have hm := h.small
  have hm' := h'.small
  have hl := h.long
  have hl' := h'.long
  by_cases hne : la = lb
  · subst hne
    have hres : ∃ R, R = decide (l = m) := ⟨_, rfl⟩
    obtain ⟨R, hR⟩ := hres
    rw [← hR]
    have HRR := Lib.hid hR
    clear hR
    go_enter Tryz.func234, Tryz.ntmps234
    go_wp2_with fail
    go_loopw [5] (fun i wr => ∃ k : Nat, i = .int .i64 (k : Int) ∧ k ≤ la ∧ eqLgTo l m k ∧ Below w.heap.size w wr) (fun i _ => la - (intOf i).toNat)
    case atStart => exact ⟨0, rfl, Nat.zero_le _, eqLgTo_zero _ _, Below.refl _ _⟩
    case round =>
      obtain ⟨k, rfl, hk, hto, hbl⟩ := hrel
      by_cases hkl : k < la
      · have hh := h.below hbl
        have hh' := h'.below hbl
        obtain ⟨b1, o1, rfl⟩ := hh.there (by omega)
        obtain ⟨b2, o2, rfl⟩ := hh'.there (by omega)
        have c0 := hh.cell b1 o1 rfl k hkl
        have d0 := hh'.cell b2 o2 rfl k hkl
        by_cases hq : lgAt l k = lgAt m k
        · have hto' := eqLgTo_succ hto hq
          generalize lgAt l k = t at *
          generalize lgAt m k = u at *
          subst hq
          have HT := Lib.hid hto'
          have HBL := Lib.hid hbl
          clear hh hh' h h' hto hto' hbl
          go_wp2_with fail
          go_quiet (fail)
          go_wp2_with fail
          exact ⟨⟨k + 1, by go_num, by omega, HT.out, lg_drewN HBL.out _⟩, by simp [intOf]; omega⟩
        · have hno : ¬ l = m := fun e => hq (by rw [e])
          have hr : R = false := by rw [HRR.out, decide_eq_false hno]
          generalize lgAt l k = t at *
          generalize lgAt m k = u at *
          have hd : (t != u) = true := by simpa using hq
          have hd2 : (t == u) = false := by simpa using hq
          have HR := Lib.hid hr
          have HBL := Lib.hid hbl
          clear hh hh' h h' hto hbl hno hr
          go_wp2_with fail
          go_quiet (fail)
          go_wp2_with fail
          go_ret
          exact ⟨ret_bool (by rw [HR.out]), lg_drewN HBL.out _⟩
      · have hkl' : k = la := by omega
        have he : l = m := eqLgTo_all (by omega) (by rw [hl, ← hkl']; exact hto)
        have hr : R = true := by rw [HRR.out, decide_eq_true he]
        have HR := Lib.hid hr
        clear h h' hto he hl hl' hr
        go_wp2_with fail
        go_ret
        exact ⟨ret_bool (by rw [HR.out]), hbl⟩
  · have he : ¬ l = m := fun e => by subst e; omega
    have HE := Lib.hid he
    have hd : ((la : Int) != (lb : Int)) = true := by simp; omega
    clear h h' he hl hl'
    go_enter Tryz.func234, Tryz.ntmps234
    go_wp2_with fail
    go_ret
    exact ⟨ret_bool (by rw [decide_eq_false HE.out]), Below.refl _ _⟩
end Go.Proofs.YtdcahilfmhkmiaaGreatDoor

namespace Go.Proofs.YtdcahilfmhkmiaaGreatDoor
open Go.RowKit

/-- What is kept: all blocks that there were, but those of S. -/
structure Kept (S : Nat → Prop) (w w' : World) : Prop where
  os : w'.os = w.os
  tape : w'.tape = w.tape
  output : w'.output = w.output
  size : w.heap.size ≤ w'.heap.size
  block : ∀ b, b < w.heap.size → ¬ S b → w'.heap[b]? = w.heap[b]?
theorem Kept.refl (S : Nat → Prop) (w : World) : Kept S w w := ⟨rfl, rfl, rfl, Nat.le_refl _, fun _ _ _ => rfl⟩
theorem Kept.trans {S : Nat → Prop} {a b c : World} (h : Kept S a b) (k : Kept S b c) : Kept S a c :=
  ⟨k.os.trans h.os, k.tape.trans h.tape, k.output.trans h.output, Nat.le_trans h.size k.size, fun i hi hs => (k.block i (Nat.lt_of_lt_of_le hi h.size) hs).trans (h.block i hi hs)⟩
theorem kept_below {S : Nat → Prop} {w w' : World} (h : Below w.heap.size w w') : Kept S w w' := ⟨h.os, h.tape, h.output, h.size, fun b hb _ => h.block b hb⟩
theorem Kept.toBelow {S : Nat → Prop} {w w' : World} {B : Nat} (h : Kept S w w') (hB : B ≤ w.heap.size) (hS : ∀ b, b < B → ¬ S b) : Below B w w' := ⟨h.os, h.tape, h.output, h.size, fun b hb => h.block b (by omega) (hS b hb)⟩
theorem kept_grown {S : Nat → Prop} {w w' : World} {g : Nat} (h : w.grownBy w' (some g)) (hg : S g) : Kept S w w' :=
  ⟨h.os, h.tape, h.output, h.size, fun b hb hs => h.block b hb (fun e => hs (by cases e; exact hg))⟩
end Go.Proofs.YtdcahilfmhkmiaaGreatDoor

namespace Go.Proofs.YtdcahilfmhkmiaaGreatDoor
open Go.RowKit

/-- A block of two cells. -/
structure Two (w : World) (g : Nat) (x y : Value) : Prop where
  fst : w.cell? ⟨g, 0, none⟩ = some x
  snd : w.cell? ⟨g, 1, none⟩ = some y
  frz0 : w.frozen? ⟨g, 0, none⟩ = false
  frz1 : w.frozen? ⟨g, 1, none⟩ = false
theorem Two.lt {w : World} {g : Nat} {x y : Value} (h : Two w g x y) : g < w.heap.size := World.block_lt_of_cell? _ _ h.fst
theorem Two.below {w w' : World} {g : Nat} {x y : Value} (h : Two w g x y) (hb : Below w.heap.size w w') : Two w' g x y :=
  ⟨(hb.cell h.lt).trans h.fst, (hb.cell h.lt).trans h.snd, (hb.frozen h.lt).trans h.frz0, (hb.frozen h.lt).trans h.frz1⟩
theorem pair_new (w : World) (x y : Value) (T : TypeId) : Two (w.alloc (.cells #[x, y] T)) w.heap.size x y := ⟨by simp, by simp, by simp, by simp⟩
theorem Two.set0 {w : World} {g : Nat} {x y : Value} (h : Two w g x y) (v : Value) : Two (w.setCell ⟨g, 0, none⟩ v) g v y :=
  ⟨World.cell?_setCell_same _ _ _ h.fst, (World.cell?_setCell_other _ _ _ _ (fun e => by cases e)).trans h.snd, (World.frozen?_setCell _ _ _ _).trans h.frz0, (World.frozen?_setCell _ _ _ _).trans h.frz1⟩
theorem Two.set1 {w : World} {g : Nat} {x y : Value} (h : Two w g x y) (v : Value) : Two (w.setCell ⟨g, 1, none⟩ v) g x v :=
  ⟨(World.cell?_setCell_other _ _ _ _ (fun e => by cases e)).trans h.fst, World.cell?_setCell_same _ _ _ h.snd, (World.frozen?_setCell _ _ _ _).trans h.frz0, (World.frozen?_setCell _ _ _ _).trans h.frz1⟩
theorem Two.other {w : World} {g : Nat} {x y : Value} (h : Two w g x y) {p : Addr} (hp : p.block ≠ g) (v : Value) : Two (w.setCell p v) g x y := by
  have hb : (w.setCell p v).heap[g]? = w.heap[g]? := Below.heap_setCell _ _ _ _ (by omega)
  exact ⟨(World.cell?_of_block (a := ⟨g, 0, none⟩) hb).trans h.fst, (World.cell?_of_block (a := ⟨g, 1, none⟩) hb).trans h.snd, (World.frozen?_of_block (a := ⟨g, 0, none⟩) hb).trans h.frz0, (World.frozen?_of_block (a := ⟨g, 1, none⟩) hb).trans h.frz1⟩

theorem three_new (w : World) (x y x' y' x'' y'' : Value) (T T' T'' : TypeId) :
    let W := ((w.alloc (.cells #[x, y] T)).alloc (.cells #[x', y'] T')).alloc (.cells #[x'', y''] T'')
    Two W w.heap.size x y ∧ Two W (w.heap.size + 1) x' y' ∧ Two W (w.heap.size + 1 + 1) x'' y'' ∧ W.heap.size = w.heap.size + 3 ∧ Below w.heap.size w W := by
  intro W
  have s1 : (w.alloc (.cells #[x, y] T)).heap.size = w.heap.size + 1 := by simp
  have s2 : ((w.alloc (.cells #[x, y] T)).alloc (.cells #[x', y'] T')).heap.size = w.heap.size + 1 + 1 := by simp
  have n1 := pair_new w x y T
  have n2 := pair_new (w.alloc (.cells #[x, y] T)) x' y' T'
  have n3 := pair_new ((w.alloc (.cells #[x, y] T)).alloc (.cells #[x', y'] T')) x'' y'' T''
  rw [s1] at n2
  rw [s2] at n3
  have b1 : Below (w.alloc (.cells #[x, y] T)).heap.size (w.alloc (.cells #[x, y] T)) ((w.alloc (.cells #[x, y] T)).alloc (.cells #[x', y'] T')) := (Below.refl _ _).alloc (Nat.le_refl _) _
  have b2 : Below ((w.alloc (.cells #[x, y] T)).alloc (.cells #[x', y'] T')).heap.size ((w.alloc (.cells #[x, y] T)).alloc (.cells #[x', y'] T')) W := (Below.refl _ _).alloc (Nat.le_refl _) _
  have b0 : Below w.heap.size w (w.alloc (.cells #[x, y] T)) := (Below.refl _ _).alloc (Nat.le_refl _) _
  exact ⟨(n1.below b1).below b2, n2.below b2, n3, by simp [W], (b0.trans (b1.mono (by simp))).trans (b2.mono (by simp; omega))⟩
end Go.Proofs.YtdcahilfmhkmiaaGreatDoor

namespace Go.Proofs.YtdcahilfmhkmiaaGreatDoor
open Go.RowKit

theorem isC_calls (x lo hi : Int) (w : World) : Calls Tryz.prog 77 #[.int .i64 x, .int .i64 lo, .int .i64 hi] w fun e w' => e = .returned (.bool (decide (lo ≤ x ∧ x ≤ hi))) ∧ w' = w := by
  have hd : decide (lo ≤ x ∧ x ≤ hi) = (decide (lo ≤ x) && decide (x ≤ hi)) := by simp
  rw [hd]
  by_cases h : x ≥ lo
  · go_enter Tryz.func77, Tryz.ntmps77
    go_wp2
    go_ret
    exact ⟨ret_bool (by rw [decide_eq_true h]; simp), rfl⟩
  · have HD := Lib.hid (decide_eq_false h)
    go_enter Tryz.func77, Tryz.ntmps77
    go_wp2
    go_ret
    exact ⟨ret_bool (by rw [HD.out]; simp), rfl⟩
end Go.Proofs.YtdcahilfmhkmiaaGreatDoor

namespace Go.Proofs.YtdcahilfmhkmiaaGreatDoor
open Go.RowKit

theorem extract_gs (t : List UInt8) (b n : Nat) : (⟨t.toArray⟩ : ByteArray).extract b (b + n) = ⟨((t.drop b).take n).toArray⟩ := by
  apply ByteArray.ext
  simp [ByteArray.extract, ByteArray.copySlice]
/-- 't[b:b+n]' of a text. -/
theorem slice_text {P : Program} {T : TypeId} (hT : P.underlying T = some .string) (t : List UInt8) (b n : Nat) (h : b + n ≤ t.length) (W : World) :
    (Instr.slice T (gs t) (some (.int .i64 (b : Int))) (some (.int .i64 ((b : Int) + (n : Int)))) none).run P W = .ok (gs ((t.drop b).take n)) W := by
  have hz : ((⟨t.toArray⟩ : ByteArray).size : Int) = t.length := by simp [ByteArray.size]
  rw [run_slice_string (P := P) (w := W) T ⟨t.toArray⟩ .i64 .i64 b ((b : Int) + (n : Int)) hT (by omega) (by omega) (by rw [hz]; omega)]
  have e : ((b : Int) + (n : Int)).toNat = b + n := by omega
  rw [e, Int.toNat_natCast, extract_gs]
/-- 't[:n]' of a text. -/
theorem slice_head {P : Program} {T : TypeId} (hT : P.underlying T = some .string) (t : List UInt8) (n : Nat) (L : Int) (hL : L = (n : Int)) (h : n ≤ t.length) (W : World) :
    (Instr.slice T (gs t) none (some (.int .i64 L)) none).run P W = .ok (gs (t.take n)) W := by
  subst hL
  have hz : ((⟨t.toArray⟩ : ByteArray).size : Int) = t.length := by simp [ByteArray.size]
  rw [run_slice_string_h W T ⟨t.toArray⟩ hT .i64 n (by omega) (by rw [hz]; omega)]
  have := extract_gs t 0 n
  simp at this
  simp [this]
/-- 't[n:]' of a text. -/
theorem slice_tail {P : Program} {T : TypeId} (hT : P.underlying T = some .string) (t : List UInt8) (n : Nat) (L : Int) (hL : L = (n : Int)) (h : n ≤ t.length) (W : World) :
    (Instr.slice T (gs t) (some (.int .i64 L)) none none).run P W = .ok (gs (t.drop n)) W := by
  subst hL
  have hz : (⟨t.toArray⟩ : ByteArray).size = t.length := by simp [ByteArray.size]
  rw [run_slice_string_l W T ⟨t.toArray⟩ hT .i64 n (by omega) (by rw [hz]; omega)]
  have := extract_gs t n (t.length - n)
  rw [show n + (t.length - n) = t.length by omega] at this
  rw [Int.toNat_natCast, hz, this]
  rw [List.take_of_length_le (by rw [List.length_drop]; exact Nat.le_refl _)]

end Go.Proofs.YtdcahilfmhkmiaaGreatDoor

namespace Go.Proofs.YtdcahilfmhkmiaaGreatDoor
open Go.RowKit

/-- A row of len elements of s cells each: the cells us, wherever they lie. -/
structure CellRow (w : World) (s : Nat) (a : Option Addr) (len : Nat) (us : List Value) : Prop where
  long : us.length = len * s
  most : len ≤ 2000000
  there : 0 < len → ∃ b o, a = some ⟨b, o, none⟩
  cell : ∀ b o, a = some ⟨b, o, none⟩ → ∀ j u, us[j]? = some u → w.cell? ⟨b, o + j, none⟩ = some u
  one : ∀ u ∈ us, u.oneCell' = true
theorem CellRow.below {w w' : World} {s : Nat} {a : Option Addr} {len : Nat} {us : List Value} (h : CellRow w s a len us) (hb : Below w.heap.size w w') : CellRow w' s a len us :=
  ⟨h.long, h.most, h.there, fun b o e j u hj => (hb.cell (World.block_lt_of_cell? w _ (h.cell b o e j u hj))).trans (h.cell b o e j u hj), h.one⟩
/-- The law: the source is a row of cells, wherever it lies. -/
theorem run_append_cells {P : Program} (w : World) (t ty : TypeId) (base : Nat) (e : TypeId) (i : TypeInfo) (z : Value) (s bs : Nat) (ht : P.underlying t = some (.slice e)) (hi : P.info? e = some i) (hz : i.zero = some z) (hs : i.size = s) (hb : i.bytes = bs)
    (hzc : z.cells.size = s) (hs0 : 0 < s) (hbs : bs ≤ 1000)
    {g n cap : Nat} {xs : List Value} (hown : w.ownsRow base e s (.slice (some ⟨g, 0, none⟩) n cap) n xs) {a : Option Addr} {len : Nat} (c : Nat) {us : List Value} (hin : CellRow w s a len us) (hn : n ≤ 2000000) (hbase : base ≤ w.heap.size) :
    ∃ g' cap' w', (Builtin.append_ #[t, t] ty #[.slice (some ⟨g, 0, none⟩) n cap, .slice a len c]).run P w = .ok (.slice (some ⟨g', 0, none⟩) (n + len) cap') w' ∧
      w'.ownsRow base e s (.slice (some ⟨g', 0, none⟩) (n + len) cap') (n + len) (xs ++ us) ∧ w.grownBy w' (some g) ∧ (g' = g ∨ g' = w.heap.size) := by
  have hm := hin.most
  have hl := hin.long
  cases a with
  | none =>
    have h0 : len = 0 := by
      rcases Nat.eq_zero_or_pos len with h | h
      · exact h
      · obtain ⟨b, o, h⟩ := hin.there h; cases h
    subst h0
    have hl0 : us = [] := List.eq_nil_of_length_eq_zero (by omega)
    subst hl0
    have hc : n ≤ cap := by
      rcases hown.2 with ⟨h, _⟩ | ⟨g', cap', cur, he, _, _, hnc, _⟩
      · cases h
      · injection he with _ _ he; omega
    have hr := run_append_room_src (P := P) w t t ty e i ht hi g 0 n cap (.slice none 0 c) 0 [] (Src.ofNil w ht c) (by omega) (fun j hj => by simp at hj) (fun j hj => by simp at hj)
    refine ⟨g, cap, w, hr, ?_, ⟨rfl, rfl, rfl, Nat.le_refl _, fun _ _ _ => rfl⟩, .inl rfl⟩
    simpa using hown
  | some ad =>
    have hnews : ∀ j u, us[j]? = some u → w.cell? (ad.add j) = some u := fun j u hj => by
      have hjl : j < us.length := (List.getElem?_eq_some_iff.1 hj).1
      have hlen : 0 < len := by
        rcases Nat.eq_zero_or_pos len with h | h
        · subst h; omega
        · exact h
      obtain ⟨b, o, ha⟩ := hin.there hlen
      injection ha with ha
      subst ha
      rw [Addr.add_lit]
      exact hin.cell b o rfl j u hj
    obtain ⟨v', w', hr, h2, h3, h4, h5⟩ := run_append_own_at (P := P) w base t ty e i z s bs ht hi hz hs hb hzc hs0 _ n xs hown ad len c us hl hnews hin.one (by simp [maxLen]; omega) (by
      have : (n + len) * bs ≤ 4000000 * 1000 := Nat.mul_le_mul (by omega) hbs
      omega) hbase
    rcases h2.2 with ⟨hv, _⟩ | ⟨g', cap', cur, hv, _⟩
    · have := (h4.1 hv).1; cases this
    · subst hv
      refine ⟨g', cap', w', hr, h2, h3, ?_⟩
      rcases h5 with h5 | h5
      · left; have := h5; simp [Value.ownBlock] at this; exact this
      · right; have := h5; simp [Value.ownBlock] at this; exact this
/-- At a step of a region that draws its order. -/
theorem step_append_cells {P : Program} (w : World) {ops : Array Oper} {o : Oper} {a : Act} {K : Act → World → Prop} {Q : Exit → Act → World → Prop} {E : Prop} (hgd : o.guard = none) (sl x : Operand) (t : TypeId)
    (ho : o.op = .call { callee := .builtin .append, args := #[sl, x], argTypes := #[t, t] })
    (base : Nat) (e : TypeId) (i : TypeInfo) (z : Value) (s bs : Nat) (ht : P.underlying t = some (.slice e)) (hi : P.info? e = some i) (hz : i.zero = some z) (hs1 : i.size = s) (hb : i.bytes = bs) (hzc : z.cells.size = s) (hs0 : 0 < s) (hbs : bs ≤ 1000)
    {g n cap : Nat} {xs : List Value} (hs : a.eval sl = .slice (some ⟨g, 0, none⟩) n cap) (hown : w.ownsRow base e s (.slice (some ⟨g, 0, none⟩) n cap) n xs) {ad : Option Addr} {len : Nat} (c : Nat) {us : List Value} (hx : a.eval x = .slice ad len c) (hin : CellRow w s ad len us) (hn : n ≤ 2000000) (hbase : base ≤ w.heap.size)
    (h : ∀ g' cap' w', w'.ownsRow base e s (.slice (some ⟨g', 0, none⟩) (n + len) cap') (n + len) (xs ++ us) → w.grownBy w' (some g) → (g' = g ∨ g' = w.heap.size) → K (a.put o.dst (.slice (some ⟨g', 0, none⟩) (n + len) cap')) w') :
    if Region.wanted o (yielded ops a.tmps) = true then Oper.wp P o a w K Q else E := by
  have hw : Region.wanted o (yielded ops a.tmps) = true := by simp [Region.wanted, hgd]
  rw [if_pos hw]
  obtain ⟨g', cap', w', hr, h2, h3, h4⟩ := run_append_cells (P := P) w t o.type base e i z s bs ht hi hz hs1 hb hzc hs0 hbs hown c hin hn hbase
  unfold Oper.wp execOp
  simp only [ho, resolve, invoke, builtin, Sem.run_bind, Sem.run_pure, Result.andThen_ok, List.map_toArray, List.map_cons, List.map_nil, hs, hx, hr]
  exact h g' cap' w' h2 h3 h4
/-- The same onto an empty row. -/
theorem step_copy_cells {P : Program} (w : World) {ops : Array Oper} {o : Oper} {a : Act} {K : Act → World → Prop} {Q : Exit → Act → World → Prop} {E : Prop} (hgd : o.guard = none) (sl x : Operand) (t : TypeId)
    (ho : o.op = .call { callee := .builtin .append, args := #[sl, x], argTypes := #[t, t] })
    (base : Nat) (e : TypeId) (i : TypeInfo) (z : Value) (s bs : Nat) (ht : P.underlying t = some (.slice e)) (hi : P.info? e = some i) (hz : i.zero = some z) (hs1 : i.size = s) (hb : i.bytes = bs) (hzc : z.cells.size = s) (hs0 : 0 < s) (hbs : bs ≤ 1000)
    {g cap : Nat} (hs : a.eval sl = .slice (some ⟨g, 0, none⟩) 0 cap) (hown : w.ownsRow base e s (.slice (some ⟨g, 0, none⟩) 0 cap) 0 []) {ad : Option Addr} {len : Nat} (c : Nat) {us : List Value} (hx : a.eval x = .slice ad len c) (hin : CellRow w s ad len us) (hbase : base ≤ w.heap.size)
    (h : ∀ g' cap' w', w'.ownsRow base e s (.slice (some ⟨g', 0, none⟩) len cap') len us → w.grownBy w' (some g) → (g' = g ∨ g' = w.heap.size) → K (a.put o.dst (.slice (some ⟨g', 0, none⟩) len cap')) w') :
    if Region.wanted o (yielded ops a.tmps) = true then Oper.wp P o a w K Q else E :=
  step_append_cells w hgd sl x t ho base e i z s bs ht hi hz hs1 hb hzc hs0 hbs hs hown c hx hin (Nat.zero_le _) hbase (fun g' cap' w' h1 h2 h3 => by
    rw [Nat.zero_add, List.nil_append] at h1
    rw [Nat.zero_add]
    exact h g' cap' w' h1 h2 h3)
/-- At the list of a plain region's operations. -/
theorem wpList_append_cells {P : Program} (w : World) {ops : Array Oper} {rest : List Oper} {o : Oper} {a : Act} {Q : Exit → Act → World → Prop} (hgd : o.guard = none) (sl x : Operand) (t : TypeId)
    (ho : o.op = .call { callee := .builtin .append, args := #[sl, x], argTypes := #[t, t] })
    (base : Nat) (e : TypeId) (i : TypeInfo) (z : Value) (s bs : Nat) (ht : P.underlying t = some (.slice e)) (hi : P.info? e = some i) (hz : i.zero = some z) (hs1 : i.size = s) (hb : i.bytes = bs) (hzc : z.cells.size = s) (hs0 : 0 < s) (hbs : bs ≤ 1000)
    {g n cap : Nat} {xs : List Value} (hs : a.eval sl = .slice (some ⟨g, 0, none⟩) n cap) (hown : w.ownsRow base e s (.slice (some ⟨g, 0, none⟩) n cap) n xs) {ad : Option Addr} {len : Nat} (c : Nat) {us : List Value} (hx : a.eval x = .slice ad len c) (hin : CellRow w s ad len us) (hn : n ≤ 2000000) (hbase : base ≤ w.heap.size)
    (h : ∀ g' cap' w', w'.ownsRow base e s (.slice (some ⟨g', 0, none⟩) (n + len) cap') (n + len) (xs ++ us) → w.grownBy w' (some g) → (g' = g ∨ g' = w.heap.size) → wpList P ops Q rest (a.put o.dst (.slice (some ⟨g', 0, none⟩) (n + len) cap')) w') :
    wpList P ops Q (o :: rest) a w := by
  refine wpList_plain hgd fun K hK => ?_
  obtain ⟨g', cap', w', hr, h2, h3, h4⟩ := run_append_cells (P := P) w t o.type base e i z s bs ht hi hz hs1 hb hzc hs0 hbs hown c hin hn hbase
  unfold Oper.wp execOp
  simp only [ho, resolve, invoke, builtin, Sem.run_bind, Sem.run_pure, Result.andThen_ok, List.map_toArray, List.map_cons, List.map_nil, hs, hx, hr]
  exact hK _ _ (h g' cap' w' h2 h3 h4)
theorem wpList_copy_cells {P : Program} (w : World) {ops : Array Oper} {rest : List Oper} {o : Oper} {a : Act} {Q : Exit → Act → World → Prop} (hgd : o.guard = none) (sl x : Operand) (t : TypeId)
    (ho : o.op = .call { callee := .builtin .append, args := #[sl, x], argTypes := #[t, t] })
    (base : Nat) (e : TypeId) (i : TypeInfo) (z : Value) (s bs : Nat) (ht : P.underlying t = some (.slice e)) (hi : P.info? e = some i) (hz : i.zero = some z) (hs1 : i.size = s) (hb : i.bytes = bs) (hzc : z.cells.size = s) (hs0 : 0 < s) (hbs : bs ≤ 1000)
    {g cap : Nat} (hs : a.eval sl = .slice (some ⟨g, 0, none⟩) 0 cap) (hown : w.ownsRow base e s (.slice (some ⟨g, 0, none⟩) 0 cap) 0 []) {ad : Option Addr} {len : Nat} (c : Nat) {us : List Value} (hx : a.eval x = .slice ad len c) (hin : CellRow w s ad len us) (hbase : base ≤ w.heap.size)
    (h : ∀ g' cap' w', w'.ownsRow base e s (.slice (some ⟨g', 0, none⟩) len cap') len us → w.grownBy w' (some g) → (g' = g ∨ g' = w.heap.size) → wpList P ops Q rest (a.put o.dst (.slice (some ⟨g', 0, none⟩) len cap')) w') :
    wpList P ops Q (o :: rest) a w :=
  wpList_append_cells w hgd sl x t ho base e i z s bs ht hi hz hs1 hb hzc hs0 hbs hs hown c hx hin (Nat.zero_le _) hbase (fun g' cap' w' h1 h2 h3 => by
    rw [Nat.zero_add, List.nil_append] at h1
    rw [Nat.zero_add]
    exact h g' cap' w' h1 h2 h3)
end Go.Proofs.YtdcahilfmhkmiaaGreatDoor

namespace Go.Proofs.YtdcahilfmhkmiaaGreatDoor
open Go.RowKit

/-- The digits of k before l. -/
def mGo : Nat → Nat → List UInt8 → List UInt8
  | 0, _, l => l
  | f + 1, k, l => if k = 0 then l else mGo f (k / 10) (UInt8.ofNat (48 + k % 10) :: l)
def mText (k : Nat) : List UInt8 := if k = 0 then [109, 48] else 109 :: mGo 20 k []

set_option maxHeartbeats 1000000 in
set_option maxRecDepth 100000 in
theorem markText_calls (k : Nat) (w : World) (hk : k ≤ 1000000000000) : Calls Tryz.prog 182 #[.int .i64 (k : Int)] w fun e w' => e = .returned (gs (mText k)) ∧ Below w.heap.size w w' := by
  by_cases h0 : k = 0
  · subst h0
    go_enter Tryz.func182, Tryz.ntmps182
    go_wp2
    go_ret
    exact ⟨rfl, Below.refl _ _⟩
  · have hm : mText k = 109 :: mGo 20 k [] := by unfold mText; rw [if_neg h0]
    have HM := Lib.hid hm; clear hm
    have hpos : (0 : Int) < (k : Int) := by omega
    go_enter Tryz.func182, Tryz.ntmps182
    go_wp2_with fail
    go_loopw [0, 3] (fun v s wr => ∃ (f m : Nat) (l : List UInt8), v = .int .i64 (m : Int) ∧ s = gs l ∧ m ≤ 1000000000000 ∧ l.length + f = 20 ∧ m < 10 ^ f ∧ mGo 20 k [] = mGo f m l ∧ Below w.heap.size w wr) (fun v _ _ => (intOf v).toNat)
    case atStart => exact ⟨20, k, [], rfl, rfl, hk, rfl, by omega, rfl, Below.refl _ _⟩
    case round =>
      obtain ⟨f, m, l, rfl, rfl, hm, hlf, hf, hgo, hbl⟩ := hrel
      have hll : l.length ≤ 20 := by omega
      have HBL := Lib.hid hbl
      by_cases hz : m = 0
      · subst hz
        have hl : mGo f 0 l = l := by cases f <;> simp [mGo]
        rw [hl] at hgo
        have HG := Lib.hid hgo
        clear hgo hl hbl hf h0 hpos hlf hm
        go_wp2_with fail
        go_ret
        exact ⟨by rw [HM.out, HG.out]; exact cat_gs [109] l, HBL.out⟩
      · obtain ⟨f, rfl⟩ : ∃ g, f = g + 1 := by cases f with | zero => simp at hf; omega | succ g => exact ⟨g, rfl⟩
        have hf' : m / 10 < 10 ^ f := Nat.div_lt_of_lt_mul (by rw [Nat.pow_succ] at hf; omega)
        have hl : mGo (f + 1) m l = mGo f (m / 10) (UInt8.ofNat (48 + m % 10) :: l) := by simp [mGo, hz]
        rw [hl] at hgo
        have HG := Lib.hid hgo
        have HF := Lib.hid hf'
        have hmp : (0 : Int) < (m : Int) := by omega
        have hdn : ((UInt8.ofNat (48 + m % 10)).toNat : Int) = 48 + (m : Int) % 10 := by
          rw [UInt8.toNat_ofNat']; omega
        generalize UInt8.ofNat (48 + m % 10) = d at *
        have hbr : brow [d] = #[.int .u8 (48 + (m : Int) % 10)] := by rw [← hdn]; rfl
        have hcv := run_string_bytes (P := Tryz.prog) (dst := 9) Tryz.underlying22 Tryz.underlying5 Tryz.underlying9 wr [d] 1 1 _ rfl rfl
        rw [hbr] at hcv
        clear hbr hdn
        have HL := Lib.hid hlf
        clear hgo hl hbl hf hf' h0 hpos hlf
        go_wp2_with fail
        refine ⟨⟨f, m / 10, d :: l, by go_num, ?_, by omega, ?_, HF.out, HG.out, HBL.out.alloc HBL.out.size _⟩, ?_⟩
        · rw [cat_ba [d] l]; rfl
        · have := HL.out; rw [List.length_cons]; omega
        · simp [intOf]; omega
end Go.Proofs.YtdcahilfmhkmiaaGreatDoor

namespace Go.Proofs.YtdcahilfmhkmiaaGreatDoor
open Go.RowKit

/-- A row's cells are there, and may be written. -/
structure OpenLg (w : World) (g len : Nat) : Prop where
  there : ∀ i, i < len → ∃ v, w.cell? ⟨g, i, none⟩ = some v
  free : ∀ i, i < len → w.frozen? ⟨g, i, none⟩ = false
theorem OpenLg.below {w w' : World} {g len : Nat} (h : OpenLg w g len) (hg : g < w.heap.size) (hb : Below w.heap.size w w') : OpenLg w' g len :=
  ⟨fun i hi => by obtain ⟨v, hv⟩ := h.there i hi; exact ⟨v, (hb.cell (p := ⟨g, i, none⟩) hg).trans hv⟩, fun i hi => (hb.frozen (p := ⟨g, i, none⟩) hg).trans (h.free i hi)⟩
theorem OpenLg.kept {w w' : World} {g len : Nat} (h : OpenLg w g len) (hb : w'.heap[g]? = w.heap[g]?) : OpenLg w' g len :=
  ⟨fun i hi => by obtain ⟨v, hv⟩ := h.there i hi; exact ⟨v, (World.cell?_of_block (a := ⟨g, i, none⟩) hb).trans hv⟩, fun i hi => (World.frozen?_of_block (a := ⟨g, i, none⟩) hb).trans (h.free i hi)⟩
theorem OpenLg.store {w : World} {g len : Nat} (h : OpenLg w g len) {p : Addr} (hp : g ≠ p.block) (v : Value) : OpenLg (w.setCell p v) g len := h.kept (Below.heap_setCell _ _ _ _ hp)
theorem run_make_longs {P : Program} {t e : TypeId} {i : TypeInfo} (ht : P.underlying t = some (.slice e)) (hi : P.info? e = some i) (hz : i.zero = some (.int .i64 0)) (h1 : i.size = 1) (h2 : i.bytes = 8)
    (n : Nat) (L : Int) (hL : L = (n : Int)) (hn : n ≤ 1000000000) (w : World) :
    (Instr.makeSlice t (.int .i64 L) (.int .i64 L)).run P w = .ok (.slice (some ⟨w.heap.size, 0, none⟩) n n) (w.alloc (.cells (madeCells (Value.cells (.int .i64 0)) (n * 1)) e)) := by
  subst hL
  have h := run_make (P := P) w t e i (.int .i64 0) ht hi hz .i64 .i64 n n (by omega) (by omega) (by rw [h2]; omega) (by omega)
  rw [h, h1]
  simp only [Int.toNat_natCast]
/-- The first k numbers of l stand in a row of cells. -/
def LgTo (xs : List Value) (l : Lg) (k : Nat) : Prop := ∀ j, j < k → xs[j]? = some (.int .i64 (lgAt l j))
theorem lgTo_zero (xs : List Value) (l : Lg) : LgTo xs l 0 := fun j h => by omega
theorem lgTo_succ {xs : List Value} {l : Lg} {k : Nat} (h : LgTo xs l k) (hl : k < xs.length) : LgTo (xs.set k (.int .i64 (lgAt l k))) l (k + 1) := fun j hj => by
  by_cases e : j = k
  · subst e
    rw [List.getElem?_set_self (by omega)]
  · rw [List.getElem?_set_ne (by omega)]; exact h j (by omega)
theorem own_under {w w' : World} {base : Nat} {e : TypeId} {size : Nat} {v : Value} {n : Nat} {xs : List Value} (h : w.ownsRow base e size v n xs) (hb : Below w.heap.size w w') : w'.ownsRow base e size v n xs := by
  refine ⟨h.1, ?_⟩
  rcases h.2 with hn | ⟨g, cap, cur, rfl, hbg, hgg, rest⟩
  · exact .inl hn
  · exact .inr ⟨g, cap, cur, rfl, hbg, (hb.block g (Array.getElem?_eq_some_iff.1 hgg).1).trans hgg, rest⟩
/-- A row that the call owns, full of numbers. -/
theorem inLg_own {w : World} {base g len cap : Nat} {e : TypeId} {xs : List Value} {l : Lg} (ho : w.ownsRow base e 1 (.slice (some ⟨g, 0, none⟩) len cap) len xs) (ht : LgTo xs l len) (hl : l.length = len) (hm : len ≤ 2000000)
    (hf : ∀ i, i < len → -9223372036854775808 ≤ lgAt l i ∧ lgAt l i ≤ 9223372036854775807) : InLg w (some ⟨g, 0, none⟩) len l ∧ OpenLg w g len ∧ base ≤ g ∧ g < w.heap.size := by
  have hx : xs.length = len := by have := ho.1; omega
  refine ⟨⟨⟨hl, by omega, fun _ => ⟨g, 0, rfl⟩, fun b o ha i hi => ?_, hf⟩, hm⟩, ⟨fun i hi => ?_, fun i hi => ho.frozenAt i⟩, ?_⟩
  · cases ha
    rw [Nat.zero_add]
    exact (ho.cellAt i (by omega)).trans (ht i hi)
  · exact ⟨_, (ho.cellAt i (by omega)).trans (ht i hi)⟩
  · rcases ho.2 with ⟨h, _⟩ | ⟨g', c', cur, he, hb, hh, _⟩
    · cases h
    · injection he with he1 he2 he3
      injection he1 with he1
      injection he1 with he1
      subst he1
      exact ⟨hb, (Array.getElem?_eq_some_iff.1 hh).1⟩

/-- A copy of a row of numbers. -/
def LgCopied (w : World) (len : Nat) (l : Lg) (e : Ending) (w' : World) : Prop :=
  ∃ g, e = .returned (.slice (some ⟨g, 0, none⟩) len len) ∧ InLg w' (some ⟨g, 0, none⟩) len l ∧ OpenLg w' g len ∧ w.heap.size ≤ g ∧ g < w'.heap.size ∧ Below w.heap.size w w'

set_option maxHeartbeats 1000000 in
set_option maxRecDepth 100000 in
theorem toInt64S_calls {a : Option Addr} {len cap : Nat} {l : Lg} {w : World} (h : InLg w a len l) :
    Calls Tryz.prog 233 #[.slice a len cap] w (LgCopied w len l) := by
  have hm := h.small
  have hlen := h.long
  have hzz : (Tryz.prog.info? 2).map (fun i => (i.zero, i.size, i.bytes)) = some (some (.int .i64 0), 1, 8) := by kernel_rfl
  cases hi : Tryz.prog.info? 2 with
  | none => rw [hi] at hzz; cases hzz
  | some i =>
    rw [hi] at hzz
    simp at hzz
    have hmk := run_make_longs (P := Tryz.prog) Tryz.underlying130 hi hzz.1 hzz.2.1 hzz.2.2 len (len : Int) rfl (by omega) w
    clear hzz hi
    have ho := World.ownsRow_lit (size := 1) (base := w.heap.size) (e := 2) w (madeCells (Value.cells (.int .i64 0)) (len * 1)) len (Nat.le_refl _) (by simp [maxLen]; omega) (size_madeCells _ _)
    generalize hg : w.heap.size = g at ho hmk
    have hbw : Below w.heap.size w (w.alloc (.cells (madeCells (Value.cells (.int .i64 0)) (len * 1)) 2)) := (Below.refl _ _).alloc (Nat.le_refl _) _
    have hlt : g < (w.alloc (.cells (madeCells (Value.cells (.int .i64 0)) (len * 1)) 2)).heap.size := by simp; omega
    generalize w.alloc (.cells (madeCells (Value.cells (.int .i64 0)) (len * 1)) 2) = w1 at *
    generalize (madeCells (Value.cells (.int .i64 0)) (len * 1)).toList = xs at *
    go_enter Tryz.func233, Tryz.ntmps233
    go_wp2_with fail
    go_loopw [4] (fun i wr => ∃ (k : Nat) (xs : List Value), i = .int .i64 (k : Int) ∧ k ≤ len ∧ wr.ownsRow g 2 1 (.slice (some ⟨g, 0, none⟩) len len) len xs ∧ LgTo xs l k ∧ Below g w wr) (fun i _ => len - (intOf i).toNat)
    case atStart => exact ⟨0, xs, rfl, Nat.zero_le _, ho, lgTo_zero _ _, hg ▸ hbw⟩
    case round =>
      obtain ⟨k, xs, rfl, hk, ho, hto, hbl⟩ := hrel
      subst hg
      by_cases hkl : k < len
      · have hh := h.below hbl
        obtain ⟨b, o, rfl⟩ := hh.there (by omega)
        have c0 := hh.cell b o rfl k hkl
        have hx : xs.length = len * 1 := ho.1
        have hs := lgTo_succ hto (by omega : k < xs.length)
        generalize lgAt l k = t at *
        obtain ⟨v0, hv0⟩ : ∃ v, xs[k]? = some v := ⟨_, List.getElem?_eq_getElem (by omega)⟩
        have e0 := (ho.cellAt k (by omega)).trans hv0
        have z0 := ho.frozenAt k
        have HO := Lib.hid (ho.stored k (.int .i64 t)).1
        have HT := Lib.hid hs
        have HBL := Lib.hid hbl
        clear hh h ho hto hs hbl hbw hx hmk hlt hv0
        go_wp2_with fail
        exact ⟨⟨k + 1, _, by go_num, by omega, HO.out, HT.out, HBL.out.setCell (by simp) _⟩, by simp [intOf]; omega⟩
      · have hkl' : k = len := by omega
        subst hkl'
        have hin := inLg_own ho hto hlen hm h.fit
        have HIN := Lib.hid hin
        clear hmk ho hto h hin
        go_wp2_with fail
        go_ret
        exact ⟨_, rfl, HIN.out.1, HIN.out.2.1, HIN.out.2.2.1, HIN.out.2.2.2, hbl⟩
end Go.Proofs.YtdcahilfmhkmiaaGreatDoor

namespace Go.Proofs.YtdcahilfmhkmiaaGreatDoor
open Go.RowKit

theorem lgAt_set {l : Lg} {i j : Nat} {x : Int} (hi : i < l.length) : lgAt (l.set i x) j = if j = i then x else lgAt l j := by
  unfold lgAt
  by_cases e : j = i
  · subst e; simp [List.getD, hi]
  · rw [if_neg e]; simp [List.getD, List.getElem?_set_ne (Ne.symm e)]
theorem lg_ext {n m : Lg} (hl : n.length = m.length) (h : ∀ i, i < n.length → lgAt n i = lgAt m i) : n = m := by
  apply List.ext_getElem hl
  intro i h1 h2
  have := h i h1
  rwa [lgAt_get h1, lgAt_get h2] at this
/-- The block of a row that is not empty. -/
def LgB (a : Option Addr) (len b : Nat) : Prop := 0 < len ∧ ∃ o, a = some ⟨b, o, none⟩
/-- A row's cells may be written. -/
def LgFree (w : World) (a : Option Addr) (len : Nat) : Prop := ∀ b o, a = some ⟨b, o, none⟩ → ∀ i, i < len → w.frozen? ⟨b, o + i, none⟩ = false
theorem InLg.lt {w : World} {a : Option Addr} {len : Nat} {l : Lg} (h : InLg w a len l) {b : Nat} (hb : LgB a len b) : b < w.heap.size := by
  obtain ⟨hl, o, e⟩ := hb
  exact World.block_lt_of_cell? w _ (h.cell b o e 0 hl)
theorem InLg.blk {w w' : World} {a : Option Addr} {len : Nat} {l : Lg} (h : InLg w a len l) (hb : ∀ b, LgB a len b → w'.heap[b]? = w.heap[b]?) : InLg w' a len l :=
  ⟨⟨h.long, h.most, h.there, fun b o ha i hi => (World.cell?_of_block (w := w) (a := ⟨b, o + i, none⟩) (hb b ⟨by omega, o, ha⟩)).trans (h.cell b o ha i hi), h.fit⟩, h.small⟩
theorem LgFree.blk {w w' : World} {a : Option Addr} {len : Nat} (h : LgFree w a len) (hb : ∀ b, LgB a len b → w'.heap[b]? = w.heap[b]?) : LgFree w' a len :=
  fun b o e i hi => (World.frozen?_of_block (w := w) (a := ⟨b, o + i, none⟩) (hb b ⟨by omega, o, e⟩)).trans (h b o e i hi)
theorem LgFree.set {w : World} {a : Option Addr} {len : Nat} (h : LgFree w a len) (p : Addr) (v : Value) : LgFree (w.setCell p v) a len :=
  fun b o e i hi => (World.frozen?_setCell _ _ _ _).trans (h b o e i hi)
theorem InLg.put {w : World} {b o len j : Nat} {l : Lg} (h : InLg w (some ⟨b, o, none⟩) len l) (hj : j < len) {x : Int} (hx : -9223372036854775808 ≤ x ∧ x ≤ 9223372036854775807) : InLg (w.setCell ⟨b, o + j, none⟩ (.int .i64 x)) (some ⟨b, o, none⟩) len (l.set j x) := by
  have hl := h.long
  refine ⟨⟨by simpa using h.long, h.most, h.there, fun b' o' e i hi => ?_, fun i hi => ?_⟩, h.small⟩
  · cases e
    rw [lgAt_set (by omega)]
    by_cases e : i = j
    · subst e
      rw [if_pos rfl]
      exact World.cell?_setCell_same _ _ _ (h.cell b o rfl i hi)
    · rw [if_neg e]
      exact (World.cell?_setCell_other _ _ _ _ (fun e' => by injection e'; omega)).trans (h.cell b o rfl i hi)
  · rw [lgAt_set (by omega)]
    split
    · exact hx
    · exact h.fit i hi
theorem kept_set {S : Nat → Prop} (w : World) (g o : Nat) (v : Value) (hg : S g) : Kept S w (w.setCell ⟨g, o, none⟩ v) :=
  ⟨rfl, rfl, rfl, by simp, fun k _ hk => Below.heap_setCell _ _ _ _ (fun e => hk (by subst e; exact hg))⟩
theorem Kept.mono {S T : Nat → Prop} {w w' : World} (h : Kept S w w') (hm : ∀ b, S b → T b) : Kept T w w' := ⟨h.os, h.tape, h.output, h.size, fun b hb hs => h.block b hb (fun e => hs (hm b e))⟩
def lmarks (k len : Nat) : Lg := (List.range len).map fun i => ((k + i : Nat) : Int)
theorem lmarks_len (k len : Nat) : (lmarks k len).length = len := by simp [lmarks]
theorem lmarks_at {k len i : Nat} (h : i < len) : lgAt (lmarks k len) i = ((k + i : Nat) : Int) := by simp [lgAt, lmarks, List.getD, h]

set_option maxHeartbeats 1000000 in
set_option maxRecDepth 100000 in
theorem markInt64S_calls {a : Option Addr} {len cap k : Nat} {l : Lg} {w : World} (h : InLg w a len l) (hf : LgFree w a len) (hk : k ≤ 100000000) :
    Calls Tryz.prog 183 #[.slice a len cap, .int .i64 (k : Int)] w fun e w' => e = .returned (.int .i64 ((k + len : Nat) : Int)) ∧ InLg w' a len (lmarks k len) ∧ LgFree w' a len ∧ Kept (LgB a len) w w' := by
  have hm := h.small
  go_enter Tryz.func183, Tryz.ntmps183
  go_wp2_with fail
  go_loopw [1, 5] (fun v i wr => ∃ (j : Nat) (m : Lg), i = .int .i64 (j : Int) ∧ v = .int .i64 ((k + j : Nat) : Int) ∧ j ≤ len ∧ InLg wr a len m ∧ LgFree wr a len ∧ (∀ i, i < j → lgAt m i = ((k + i : Nat) : Int)) ∧ Kept (LgB a len) w wr) (fun _ i _ => len - (intOf i).toNat)
  case atStart => exact ⟨0, l, rfl, rfl, Nat.zero_le _, h, hf, (fun i hi => absurd hi (by omega)), Kept.refl _ _⟩
  case round =>
    clear h hf
    obtain ⟨j, m, rfl, rfl, hj, hi, hf, hmk, hkp⟩ := hrel
    by_cases hjl : j < len
    · have hs1 : k + j + 1 ≤ 200000000 := by omega
      obtain ⟨b, o, rfl⟩ := hi.there (by omega)
      have e0 := hi.cell b o rfl j hjl
      have z0 := hf b o rfl j hjl
      have hl := hi.long
      have HI2 := Lib.hid (hi.put hjl (x := ((k + j : Nat) : Int)) (by omega))
      have HF2 := Lib.hid (hf.set ⟨b, o + j, none⟩ (.int .i64 ((k + j : Nat) : Int)))
      have HK2 := Lib.hid (hkp.trans (kept_set wr b (o + j) (.int .i64 ((k + j : Nat) : Int)) ⟨by omega, o, rfl⟩))
      have HM2 : Hid (∀ i, i < j + 1 → lgAt (m.set j ((k + j : Nat) : Int)) i = ((k + i : Nat) : Int)) := Lib.hid (fun i hi => by
        rw [lgAt_set (by omega)]
        by_cases e : i = j
        · rw [if_pos e, e]
        · rw [if_neg e]; exact hmk i (by omega))
      clear hi hf hmk hkp
      go_wp2_with fail
      exact ⟨⟨j + 1, _, by go_num, by go_num, by omega, HI2.out, HF2.out, HM2.out, HK2.out⟩, by simp [intOf]; omega⟩
    · have hjl' : j = len := by omega
      subst hjl'
      have he : m = lmarks k j := lg_ext (by rw [lmarks_len]; exact hi.long) (fun i hi' => by have := hi.long; rw [hmk i (by omega), lmarks_at (by omega)])
      subst he
      have HI := Lib.hid hi
      have HF := Lib.hid hf
      have HK := Lib.hid hkp
      clear hi hf hmk hkp
      go_wp2_with fail
      go_ret
      exact ⟨rfl, HI.out, HF.out, HK.out⟩

set_option maxHeartbeats 1000000 in
set_option maxRecDepth 100000 in
theorem heldInt64S_calls {a : Option Addr} {len cap k : Nat} {w : World} (h : InLg w a len (lmarks k len)) (hk : k ≤ 100000000) :
    Calls Tryz.prog 235 #[.slice a len cap, .int .i64 (k : Int)] w fun e w' => e = .returned (.int .i64 ((k + len : Nat) : Int)) ∧ Below w.heap.size w w' := by
  have hm := h.small
  go_enter Tryz.func235, Tryz.ntmps235
  go_wp2_with fail
  go_loopw [1, 5] (fun v i wr => ∃ j : Nat, i = .int .i64 (j : Int) ∧ v = .int .i64 ((k + j : Nat) : Int) ∧ j ≤ len ∧ Below w.heap.size w wr) (fun _ i _ => len - (intOf i).toNat)
  case atStart => exact ⟨0, rfl, rfl, Nat.zero_le _, Below.refl _ _⟩
  case round =>
    obtain ⟨j, rfl, rfl, hj, hbl⟩ := hrel
    by_cases hjl : j < len
    · have hh := h.below hbl
      obtain ⟨b, o, rfl⟩ := hh.there (by omega)
      have c0 := hh.cell b o rfl j hjl
      rw [lmarks_at hjl] at c0
      have hs1 : k + j + 1 ≤ 200000000 := by omega
      generalize hn : k + j = n at *
      have HN := Lib.hid hn
      have HBL := Lib.hid hbl
      clear hh h hbl hn
      go_wp2_with fail
      go_roundw
      case rel => exact ⟨j + 1, by go_num, by have := HN.out; exact val_int (by omega), by omega, HBL.out⟩
      case measure => simp [intOf]; omega
    · have hjl' : j = len := by omega
      subst hjl'
      clear h
      go_wp2_with fail
      go_ret
      exact ⟨rfl, hbl⟩
end Go.Proofs.YtdcahilfmhkmiaaGreatDoor

namespace Go.Proofs.YtdcahilfmhkmiaaGreatDoor
open Go.RowKit

/-- A From as a value: Want and Late. -/
def fromV (k : Int) (a : Option Addr) (la ca : Nat) : Value := .agg #[.int .i64 k, .slice a la ca]
abbrev Fr := Int × Lg
theorem szLg_le (l : Lg) (n : Int) (h : 0 ≤ n) : -1 ≤ szLg l n ∧ szLg l n ≤ n := by unfold szLg; split <;> omega
/-- What a call over a world with an argument's block keeps. -/
theorem below_box {w w1 : World} {o : Obj} (hb : Below (w.alloc o).heap.size (w.alloc o) w1) : Below w.heap.size w w1 :=
  ((Below.refl _ _).alloc (Nat.le_refl _) o).trans (hb.mono (by simp))
theorem below_boxes {w w1 : World} {o o' : Obj} (hb : Below ((w.alloc o).alloc o').heap.size ((w.alloc o).alloc o') w1) : Below w.heap.size w w1 := below_box (below_box hb)

set_option maxHeartbeats 1000000 in
set_option maxRecDepth 100000 in
theorem szFrom_calls {k : Int} {a : Option Addr} {la ca : Nat} {t : Lg} {w : World} (h : RawLg w a la t) (n : Int) (hn0 : 0 ≤ n) (hn1 : n ≤ 1048576) :
    Calls Tryz.prog 177 #[fromV k a la ca, .int .i64 n] w fun e w' => e = .returned (.int .i64 (szLg t n)) ∧ Below w.heap.size w w' := by
  have c1 := fun (w' : World) (hb : Below w.heap.size w w') => szInt64S_calls (cap := ca) (h.below hb) n hn0 hn1
  have b1 := szLg_le t n hn0
  generalize szLg t n = r at *
  have C1 := Lib.hid c1
  clear c1 h
  by_cases hr : r < 0
  · have hr1 : r = -1 := by omega
    have HR := Lib.hid hr1
    clear hr1
    unfold fromV
    go_enter Tryz.func177, Tryz.ntmps177
    go_wp2_with (go_at_call 232; refine (C1.out _ ((Below.refl _ _).alloc (Nat.le_refl _) _)).mono ?_; rintro e w1 ⟨rfl, hb1⟩; replace hb1 := below_box hb1)
    all_goals first
      | (go_ret; exact ⟨ret_int (by rw [HR.out]), hb1⟩)
      | (exfalso; omega)
  · unfold fromV
    go_enter Tryz.func177, Tryz.ntmps177
    go_wp2_with (go_at_call 232; refine (C1.out _ ((Below.refl _ _).alloc (Nat.le_refl _) _)).mono ?_; rintro e w1 ⟨rfl, hb1⟩; replace hb1 := below_box hb1)
    all_goals first
      | (go_ret; exact ⟨rfl, hb1⟩)
      | (exfalso; omega)

set_option maxHeartbeats 1000000 in
set_option maxRecDepth 100000 in
theorem eqFrom_calls {k k' : Int} {a a' : Option Addr} {la ca la' ca' : Nat} {t t' : Lg} {w : World} (h : InLg w a la t) (h' : InLg w a' la' t') :
    Calls Tryz.prog 181 #[fromV k a la ca, fromV k' a' la' ca'] w fun e w' => e = .returned (.bool (decide ((k, t) = (k', t')))) ∧ Below w.heap.size w w' := by
  have c1 := fun (w' : World) (hb : Below w.heap.size w w') => eqInt64S_calls (ca := ca) (cb := ca') (h.below hb) (h'.below hb)
  have hres : ∃ R, R = decide ((k, t) = (k', t')) := ⟨_, rfl⟩
  obtain ⟨R, hR⟩ := hres
  rw [← hR]
  clear h h'
  by_cases e1 : k = k'
  · have hR2 : R = decide (t = t') := by rw [hR]; simp [e1]
    generalize decide (t = t') = q at *
    subst e1
    have C1 := Lib.hid c1
    have HR := Lib.hid hR2
    clear hR hR2 c1
    cases q
    all_goals
      unfold fromV
      go_enter Tryz.func181, Tryz.ntmps181
      go_wp2_with (go_at_call 234; refine (C1.out _ (((Below.refl _ _).alloc (Nat.le_refl _) _).alloc (by simp) _)).mono ?_; rintro e w1 ⟨rfl, hb1⟩; replace hb1 := below_boxes hb1)
      go_ret
      exact ⟨ret_bool (by rw [HR.out]), hb1⟩
  · have hR2 : R = false := by rw [hR]; simp [e1]
    have HR := Lib.hid hR2
    clear hR hR2 c1
    have hd : (k != k') = true := by simpa using e1
    unfold fromV
    go_enter Tryz.func181, Tryz.ntmps181
    go_wp2_with fail
    go_ret
    exact ⟨ret_bool (by rw [HR.out]), ((Below.refl _ _).alloc (Nat.le_refl _) _).alloc (by simp) _⟩
end Go.Proofs.YtdcahilfmhkmiaaGreatDoor

namespace Go.Proofs.YtdcahilfmhkmiaaGreatDoor
open Go.RowKit

/-- A copy of a From. -/
def FrCopied (w : World) (k : Int) (t : Lg) (e : Ending) (w' : World) : Prop :=
  ∃ g, e = .returned (fromV k (some ⟨g, 0, none⟩) t.length t.length) ∧ InLg w' (some ⟨g, 0, none⟩) t.length t ∧ OpenLg w' g t.length ∧ w.heap.size ≤ g ∧ g < w'.heap.size ∧ Below w.heap.size w w'

set_option maxHeartbeats 1000000 in
set_option maxRecDepth 100000 in
theorem toFrom_calls {n : Int} {a : Option Addr} {la ca : Nat} {t : Lg} {w : World} (h : InLg w a la t) :
    Calls Tryz.prog 179 #[fromV n a la ca] w (FrCopied w n t) := by
  have e1 := h.long
  subst e1
  have c1 := fun (w' : World) (hb : Below w.heap.size w w') => toInt64S_calls (cap := ca) (h.below hb)
  have C1 := Lib.hid c1
  clear c1 h
  unfold fromV
  go_enter Tryz.func179, Tryz.ntmps179
  go_wp2_with fail
  have h3 := three_new w (.int .i64 n) (.slice a t.length ca) (.int .i64 0) (.slice none 0 0) (.int .i64 n) (.slice none 0 0) 202 159 159
  dsimp only at h3
  generalize ((w.alloc (.cells #[.int .i64 n, .slice a t.length ca] 202)).alloc (.cells #[.int .i64 0, .slice none 0 0] 159)).alloc (.cells #[.int .i64 n, .slice none 0 0] 159) = W at *
  obtain ⟨n1, n2, n3, hs, hb⟩ := h3
  refine (C1.out W hb).mono ?_
  rintro e w1 ⟨g, rfl, i1, o1, hg1, hg2, hb1⟩
  have n2 := n2.below hb1
  have n3 := n3.below hb1
  have hB1 := hb.trans (hb1.mono hb.size)
  obtain ⟨f0, f1, f2, f3⟩ := n2
  obtain ⟨e0, e1, e2, e3⟩ := n3
  have HB := Lib.hid hB1
  have I1 := Lib.hid i1
  have O1 := Lib.hid o1
  clear n1 hB1 hb1 hb i1 o1 C1
  go_wp2_with fail
  refine bodyPost_ret (v := fromV n (some ⟨g, 0, none⟩) t.length t.length) (by simp [fromV, results, Tryz.results179, go_sem, *]) rfl ?_
  refine ⟨g, rfl, ((I1.out.store (by simp; omega) _).store (by simp; omega) _).store (by simp; omega) _, ((O1.out.store (by simp; omega) _).store (by simp; omega) _).store (by simp; omega) _, by omega, by simpa using hg2,
    ((HB.out.setCell (by simp; omega) _).setCell (by simp) _).setCell (by simp) _⟩
end Go.Proofs.YtdcahilfmhkmiaaGreatDoor

namespace Go.Proofs.YtdcahilfmhkmiaaGreatDoor
open Go.RowKit

abbrev Frs := List Fr
/-- The i-th From. -/
def frAt (n : Frs) (i : Nat) : Fr := n.getD i (0, [])
theorem frAt_get {n : Frs} {i : Nat} (h : i < n.length) : frAt n i = n[i] := by simp [frAt, List.getD, h]
theorem frAt_mem {n : Frs} {i : Nat} (h : i < n.length) : frAt n i ∈ n := by rw [frAt_get h]; exact List.getElem_mem h
theorem frs_drop {n : Frs} {k : Nat} (h : k < n.length) : n.drop k = frAt n k :: n.drop (k + 1) := by
  rw [List.drop_eq_getElem_cons h, frAt_get h]
/-- A row's block is one of S. -/
def LgS (S : Nat → Prop) (a : Option Addr) (len : Nat) : Prop := ∀ b o, a = some ⟨b, o, none⟩ → 0 < len → S b
/-- A number of 64 bits. -/
def I64 (x : Int) : Prop := -9223372036854775808 ≤ x ∧ x ≤ 9223372036854775807
/-- The Froms n in memory, of whatever lengths. -/
structure RawFrs (w : World) (a : Option Addr) (len : Nat) (n : Frs) : Prop where
  long : n.length = len
  most : len ≤ 9223372036854775807
  there : 0 < len → ∃ b o, a = some ⟨b, o, none⟩
  cell : ∀ b o, a = some ⟨b, o, none⟩ → ∀ i, i < len → ∃ x cx, w.cell? ⟨b, o + i * 2, none⟩ = some (.int .i64 (frAt n i).1) ∧ w.cell? ⟨b, o + i * 2 + 1, none⟩ = some (.slice x (frAt n i).2.length cx) ∧
    RawLg w x (frAt n i).2.length (frAt n i).2
  fit : ∀ i, i < len → I64 (frAt n i).1
/-- The same, small, in blocks of S. -/
structure InFrs (S : Nat → Prop) (w : World) (a : Option Addr) (len : Nat) (n : Frs) : Prop where
  long : n.length = len
  most : len ≤ 2000000
  there : 0 < len → ∃ b o, a = some ⟨b, o, none⟩
  cell : ∀ b o, a = some ⟨b, o, none⟩ → ∀ i, i < len → S b ∧ ∃ x cx, w.cell? ⟨b, o + i * 2, none⟩ = some (.int .i64 (frAt n i).1) ∧ w.cell? ⟨b, o + i * 2 + 1, none⟩ = some (.slice x (frAt n i).2.length cx) ∧
    InLg w x (frAt n i).2.length (frAt n i).2 ∧ LgS S x (frAt n i).2.length
  fit : ∀ i, i < len → I64 (frAt n i).1
theorem RawFrs.below {w w' : World} {a : Option Addr} {len : Nat} {n : Frs} (h : RawFrs w a len n) (hb : Below w.heap.size w w') : RawFrs w' a len n :=
  ⟨h.long, h.most, h.there, fun b o e i hi => by
    obtain ⟨x, cx, c0, c1, r⟩ := h.cell b o e i hi
    exact ⟨x, cx, (hb.cell (World.block_lt_of_cell? w _ c0)).trans c0, (hb.cell (World.block_lt_of_cell? w _ c1)).trans c1, r.below hb⟩, h.fit⟩
theorem InFrs.below {S : Nat → Prop} {w w' : World} {a : Option Addr} {len : Nat} {n : Frs} (h : InFrs S w a len n) (hb : Below w.heap.size w w') : InFrs S w' a len n :=
  ⟨h.long, h.most, h.there, fun b o e i hi => by
    obtain ⟨hs, x, cx, c0, c1, r, s⟩ := h.cell b o e i hi
    exact ⟨hs, x, cx, (hb.cell (World.block_lt_of_cell? w _ c0)).trans c0, (hb.cell (World.block_lt_of_cell? w _ c1)).trans c1, r.below hb, s⟩, h.fit⟩
theorem InLg.pos {w : World} {a : Option Addr} {len : Nat} {l : Lg} {b o : Nat} (h : InLg w a len l) (e : a = some ⟨b, o, none⟩) (hl : 0 < len) : b < w.heap.size :=
  World.block_lt_of_cell? w _ (h.cell b o e 0 hl)
theorem InLg.keptS {S T : Nat → Prop} {w w' : World} {a : Option Addr} {len : Nat} {l : Lg} (h : InLg w a len l) (hs : LgS S a len) (hk : Kept T w w') (hd : ∀ b, S b → ¬ T b) : InLg w' a len l :=
  ⟨⟨h.long, h.most, h.there, fun b o ha i hi => (World.cell?_of_block (w := w) (a := ⟨b, o + i, none⟩) (hk.block b (h.pos ha (by omega)) (hd b (hs b o ha (by omega))))).trans (h.cell b o ha i hi), h.fit⟩, h.small⟩
theorem InFrs.kept {S T : Nat → Prop} {w w' : World} {a : Option Addr} {len : Nat} {n : Frs} (h : InFrs S w a len n) (hk : Kept T w w') (hd : ∀ b, S b → ¬ T b) : InFrs S w' a len n :=
  ⟨h.long, h.most, h.there, fun b o e i hi => by
    obtain ⟨hs, x, cx, c0, c1, r, s⟩ := h.cell b o e i hi
    have hb := hk.block b (World.block_lt_of_cell? w _ c0) (hd b hs)
    exact ⟨hs, x, cx, (World.cell?_of_block (a := ⟨b, o + i * 2, none⟩) hb).trans c0, (World.cell?_of_block (a := ⟨b, o + i * 2 + 1, none⟩) hb).trans c1, r.keptS s hk hd, s⟩, h.fit⟩
theorem InFrs.mono {S T : Nat → Prop} {w : World} {a : Option Addr} {len : Nat} {n : Frs} (h : InFrs S w a len n) (hm : ∀ b, S b → T b) : InFrs T w a len n :=
  ⟨h.long, h.most, h.there, fun b o e i hi => by
    obtain ⟨hs, x, cx, c0, c1, r, s⟩ := h.cell b o e i hi
    exact ⟨hm b hs, x, cx, c0, c1, r, fun b o e hl => hm b (s b o e hl)⟩, h.fit⟩
theorem inFrs_nil {S : Nat → Prop} {w : World} {a : Option Addr} : InFrs S w a 0 [] := ⟨rfl, by omega, (fun h => by omega), (fun _ _ _ i hi => by omega), (fun i hi => by omega)⟩

/-- What is left of a budget behind a row of Froms. -/
def szFrsGo : Frs → Int → Int
  | [], n => n
  | p :: l, n => if szLg p.2 n < 0 then -1 else szFrsGo l (szLg p.2 n)
theorem szFrsGo_cons (p : Fr) (l : Frs) (n : Int) : szFrsGo (p :: l) n = if szLg p.2 n < 0 then -1 else szFrsGo l (szLg p.2 n) := rfl
def szFrs (l : Frs) (n : Int) : Int := if n < (l.length : Int) then -1 else szFrsGo l (n - (l.length : Int))
theorem szFrsGo_le : ∀ (l : Frs) (n : Int), 0 ≤ n → -1 ≤ szFrsGo l n ∧ szFrsGo l n ≤ n
  | [], n, h => by simp [szFrsGo]; omega
  | p :: l, n, h => by
    have h1 := szLg_le p.2 n h
    rw [szFrsGo_cons]
    split
    · omega
    · have := szFrsGo_le l (szLg p.2 n) (by omega); omega
theorem szFrs_le (l : Frs) (n : Int) (h : 0 ≤ n) : -1 ≤ szFrs l n ∧ szFrs l n ≤ n := by
  unfold szFrs
  split
  · omega
  · have := szFrsGo_le l (n - (l.length : Int)) (by omega); omega
/-- How many numbers there are. -/
def frsSum : Frs → Nat
  | [] => 0
  | p :: l => 1 + p.2.length + frsSum l
theorem szFrsGo_sum : ∀ (l : Frs) (n : Int), 0 ≤ n → 0 ≤ szFrsGo l n → (frsSum l : Int) ≤ n + (l.length : Int)
  | [], n, h, _ => by simp [frsSum]; omega
  | p :: l, n, h0, h => by
    rw [szFrsGo_cons] at h
    split at h
    · omega
    · rename_i hn
      have h1 : szLg p.2 n = n - (p.2.length : Int) := by
        by_cases hb : n < (p.2.length : Int)
        · exact absurd (by unfold szLg; rw [if_pos hb]; omega) hn
        · unfold szLg; rw [if_neg hb]
      have := szFrsGo_sum l _ (by omega) h
      simp only [frsSum, List.length_cons]
      omega
theorem szFrs_sum {l : Frs} {n : Int} (h : 0 ≤ szFrs l n) : (frsSum l : Int) ≤ n := by
  unfold szFrs at h
  split at h
  · omega
  · have := szFrsGo_sum l _ (by omega) h; omega
theorem szFrsGo_each : ∀ (l : Frs) (n : Int), 0 ≤ n → n ≤ 1048576 → 0 ≤ szFrsGo l n → ∀ p ∈ l, ∃ m, 0 ≤ m ∧ m ≤ 1048576 ∧ 0 ≤ szLg p.2 m
  | [], _, _, _, _ => fun p hp => by cases hp
  | q :: l, n, h0, h1, h => by
    rw [szFrsGo_cons] at h
    have := szLg_le q.2 n h0
    split at h
    · omega
    · intro p hp
      rcases List.mem_cons.1 hp with rfl | hp
      · exact ⟨n, h0, h1, by omega⟩
      · exact szFrsGo_each l _ (by omega) (by omega) h p hp
/-- A row that the budget lets by is a small one. -/
theorem inFrs_of {w : World} {a : Option Addr} {len : Nat} {n : Frs} {m : Int} (h : RawFrs w a len n) (h0 : 0 ≤ m) (h1 : m ≤ 1048576) (hs : 0 ≤ szFrs n m) : InFrs (fun _ => True) w a len n := by
  have hl := h.long
  unfold szFrs at hs
  split at hs
  · omega
  · refine ⟨h.long, by omega, h.there, fun b o e i hi => ?_, h.fit⟩
    obtain ⟨x, cx, c0, c1, r⟩ := h.cell b o e i hi
    obtain ⟨m, m0, m1, hm⟩ := szFrsGo_each n _ (by omega) (by omega) hs (frAt n i) (frAt_mem (by omega))
    exact ⟨trivial, x, cx, c0, c1, inLg_of r m1 hm, fun _ _ _ _ => trivial⟩
/-- The first k Froms of two rows are the same. -/
def eqFrTo (l m : Frs) (k : Nat) : Prop := ∀ j, j < k → frAt l j = frAt m j
theorem eqFrTo_zero (l m : Frs) : eqFrTo l m 0 := fun j h => by omega
theorem eqFrTo_succ {l m : Frs} {k : Nat} (h : eqFrTo l m k) (hk : frAt l k = frAt m k) : eqFrTo l m (k + 1) := fun j hj => by
  by_cases e : j = k
  · subst e; exact hk
  · exact h j (by omega)
theorem eqFrTo_all {l m : Frs} (hl : l.length = m.length) (h : eqFrTo l m l.length) : l = m := by
  apply List.ext_getElem hl
  intro i h1 h2
  have := h i h1
  rwa [frAt_get h1, frAt_get h2] at this

/-- A row of Froms that may be written: its own cells, and those of each one's row; no two rows lie in one block. A i, C i: where the i-th one's row lies, and its room. -/
structure FrsOwn (S : Nat → Prop) (w : World) (a : Option Addr) (len : Nat) (n : Frs) (A : Nat → Option Addr) (C : Nat → Nat) : Prop where
  long : n.length = len
  most : len ≤ 2000000
  there : 0 < len → ∃ b o, a = some ⟨b, o, none⟩
  cell : ∀ b o, a = some ⟨b, o, none⟩ → ∀ i, i < len → w.cell? ⟨b, o + i * 2, none⟩ = some (.int .i64 (frAt n i).1) ∧ w.cell? ⟨b, o + i * 2 + 1, none⟩ = some (.slice (A i) (frAt n i).2.length (C i))
  free : LgFree w a (len * 2)
  blk : ∀ b, LgB a len b → S b
  late : ∀ i, i < len → InLg w (A i) (frAt n i).2.length (frAt n i).2 ∧ LgFree w (A i) (frAt n i).2.length
  lblk : ∀ i, i < len → ∀ b, LgB (A i) (frAt n i).2.length b → S b ∧ ¬ LgB a len b
  apart : ∀ i j, i < len → j < len → i ≠ j → ∀ b, LgB (A i) (frAt n i).2.length b → ¬ LgB (A j) (frAt n j).2.length b
  fit : ∀ i, i < len → I64 (frAt n i).1
  room : ∀ i, i < len → (frAt n i).2.length ≤ C i
theorem FrsOwn.in' {S : Nat → Prop} {w : World} {a : Option Addr} {len : Nat} {n : Frs} {A : Nat → Option Addr} {C : Nat → Nat} (h : FrsOwn S w a len n A C) : InFrs S w a len n :=
  ⟨h.long, h.most, h.there, fun b o e i hi => ⟨h.blk b ⟨by omega, o, e⟩, _, _, (h.cell b o e i hi).1, (h.cell b o e i hi).2, (h.late i hi).1, fun b' o' e' hl => (h.lblk i hi b' ⟨hl, o', e'⟩).1⟩, h.fit⟩
theorem FrsOwn.lt {S : Nat → Prop} {w : World} {a : Option Addr} {len : Nat} {n : Frs} {A : Nat → Option Addr} {C : Nat → Nat} (h : FrsOwn S w a len n A C) {b : Nat} (hb : LgB a len b) : b < w.heap.size := by
  obtain ⟨hl, o, e⟩ := hb
  exact World.block_lt_of_cell? w _ (h.cell b o e 0 hl).1
/-- What keeps each block of the row keeps the row. -/
theorem FrsOwn.blks {S : Nat → Prop} {w w' : World} {a : Option Addr} {len : Nat} {n : Frs} {A : Nat → Option Addr} {C : Nat → Nat} (h : FrsOwn S w a len n A C)
    (hb : ∀ b, b < w.heap.size → S b → w'.heap[b]? = w.heap[b]?) : FrsOwn S w' a len n A C := by
  have hg : ∀ b, LgB a len b → w'.heap[b]? = w.heap[b]? := fun b hl => hb b (h.lt hl) (h.blk b hl)
  refine ⟨h.long, h.most, h.there, fun b o e i hi => ?_, ?_, h.blk, fun i hi => ?_, h.lblk, h.apart, h.fit, h.room⟩
  · obtain ⟨c0, c1⟩ := h.cell b o e i hi
    have := hg b ⟨by omega, o, e⟩
    exact ⟨(World.cell?_of_block (a := ⟨b, o + i * 2, none⟩) this).trans c0, (World.cell?_of_block (a := ⟨b, o + i * 2 + 1, none⟩) this).trans c1⟩
  · exact h.free.blk fun b hl => hg b ⟨by have := hl.1; omega, hl.2⟩
  · have hl : ∀ b, LgB (A i) (frAt n i).2.length b → w'.heap[b]? = w.heap[b]? := fun b hl => hb b ((h.late i hi).1.lt hl) (h.lblk i hi b hl).1
    exact ⟨(h.late i hi).1.blk hl, (h.late i hi).2.blk hl⟩
theorem FrsOwn.below {S : Nat → Prop} {w w' : World} {a : Option Addr} {len : Nat} {n : Frs} {A : Nat → Option Addr} {C : Nat → Nat} (h : FrsOwn S w a len n A C) (hb : Below w.heap.size w w') : FrsOwn S w' a len n A C :=
  h.blks fun b hl _ => hb.block b hl
theorem FrsOwn.kept {S T : Nat → Prop} {w w' : World} {a : Option Addr} {len : Nat} {n : Frs} {A : Nat → Option Addr} {C : Nat → Nat} (h : FrsOwn S w a len n A C) (hk : Kept T w w') (hd : ∀ b, S b → ¬ T b) : FrsOwn S w' a len n A C :=
  h.blks fun b hl hs => hk.block b hl (hd b hs)
theorem FrsOwn.mono {S T : Nat → Prop} {w : World} {a : Option Addr} {len : Nat} {n : Frs} {A : Nat → Option Addr} {C : Nat → Nat} (h : FrsOwn S w a len n A C) (hm : ∀ b, S b → T b) : FrsOwn T w a len n A C :=
  ⟨h.long, h.most, h.there, h.cell, h.free, fun b hb => hm b (h.blk b hb), h.late, fun i hi b hb => ⟨hm b (h.lblk i hi b hb).1, (h.lblk i hi b hb).2⟩, h.apart, h.fit, h.room⟩
end Go.Proofs.YtdcahilfmhkmiaaGreatDoor

namespace Go.Proofs.YtdcahilfmhkmiaaGreatDoor
open Go.RowKit

/-- Four cells that a region reads, behind a call that makes memory. -/
theorem keepV4 {a w w' : World} {p q r s : Addr} {x y z u : Value} (hb : Below w.heap.size w w') (h : Below a.heap.size a w ∧ w.cell? p = some x ∧ w.cell? q = some y ∧ w.cell? r = some z ∧ w.cell? s = some u) :
    Below a.heap.size a w' ∧ w'.cell? p = some x ∧ w'.cell? q = some y ∧ w'.cell? r = some z ∧ w'.cell? s = some u :=
  have c {p : Addr} {x : Value} (h : w.cell? p = some x) : w'.cell? p = some x := (hb.cell (World.block_lt_of_cell? w _ h)).trans h
  ⟨h.1.trans (hb.mono h.1.size), c h.2.1, c h.2.2.1, c h.2.2.2.1, c h.2.2.2.2⟩

set_option maxHeartbeats 1000000 in
set_option maxRecDepth 100000 in
theorem szFromS_calls {a : Option Addr} {len cap : Nat} {l : Frs} {w : World} (h : RawFrs w a len l) (n : Int) (hn0 : 0 ≤ n) (hn1 : n ≤ 1048576) :
    Calls Tryz.prog 117 #[.slice a len cap, .int .i64 n] w fun e w' => e = .returned (.int .i64 (szFrs l n)) ∧ Below w.heap.size w w' := by
  have hm := h.most
  have hlen := h.long
  by_cases hbig : n < (len : Int)
  · have hs : szFrs l n = -1 := by unfold szFrs; rw [if_pos (by omega)]
    have HS := Lib.hid hs; clear hs
    go_enter Tryz.func117, Tryz.ntmps117
    go_wp2_with fail
    all_goals first
      | (go_ret; exact ⟨ret_int (by rw [HS.out]), Below.refl _ _⟩)
      | (exfalso; omega)
  · have hs : szFrs l n = szFrsGo (l.drop 0) (n - (len : Int)) := by unfold szFrs; rw [if_neg (by omega), hlen]; rfl
    have HS := Lib.hid hs; clear hs
    have hr : ∃ R, R = szFrs l n := ⟨_, rfl⟩
    obtain ⟨R, hR⟩ := hr
    rw [← hR] at HS
    rw [← hR]
    have HRR := Lib.hid hR
    clear hR
    go_enter Tryz.func117, Tryz.ntmps117
    go_wp2_with fail
    go_loopw [1, 5] (fun v i wr => ∃ (k : Nat) (m : Int), i = .int .i64 (k : Int) ∧ v = .int .i64 m ∧ k ≤ len ∧ 0 ≤ m ∧ m ≤ 1048576 ∧ R = szFrsGo (l.drop k) m ∧ Below w.heap.size w wr) (fun _ i _ => len - (intOf i).toNat)
    case atStart => exact ⟨0, _, rfl, rfl, Nat.zero_le _, by omega, by omega, HS.out, Below.refl _ _⟩
    case round =>
      clear HS
      obtain ⟨k, m, rfl, rfl, hk, hm0, hm1, hgo, hbl⟩ := hrel
      by_cases hkl : k < len
      · have hh := h.below hbl
        obtain ⟨b, o, rfl⟩ := hh.there (by omega)
        obtain ⟨x, cx, c0, c1, r0⟩ := hh.cell b o rfl k hkl
        rw [frs_drop (by omega : k < l.length), szFrsGo_cons] at hgo
        have hcall := szFrom_calls (k := (frAt l k).1) (ca := cx) r0 m hm0 hm1
        have hle := szLg_le (frAt l k).2 m hm0
        generalize szLg (frAt l k).2 m = r at *
        have HC := Lib.hid hcall
        have HBL := Lib.hid hbl
        clear hh h hbl hcall r0
        unfold fromV at HC
        by_cases hr : r < 0
        · rw [if_pos hr] at hgo
          have HG := Lib.hid hgo; clear hgo
          go_wp2_with (go_at_call 177; refine HC.out.mono ?_; rintro e w1 ⟨rfl, hb1⟩)
          all_goals first
            | (go_ret; exact ⟨ret_int (by rw [HG.out]), HBL.out.trans (hb1.mono HBL.out.size)⟩)
            | (exfalso; omega)
        · rw [if_neg hr] at hgo
          have HG := Lib.hid hgo; clear hgo
          go_wp2_with (go_at_call 177; refine HC.out.mono ?_; rintro e w1 ⟨rfl, hb1⟩)
          go_roundw
          case rel => exact ⟨k + 1, r, by go_num, rfl, by omega, by omega, by omega, HG.out, HBL.out.trans (hb1.mono HBL.out.size)⟩
          case measure => simp [intOf]; omega
      · have hd : l.drop k = [] := List.drop_eq_nil_of_le (by omega)
        rw [hd] at hgo
        have HG := Lib.hid hgo; clear hgo hd
        go_wp2_with fail
        go_ret
        exact ⟨ret_int (by rw [HG.out]; rfl), hbl⟩

set_option maxHeartbeats 1000000 in
set_option maxRecDepth 100000 in
theorem eqFromS_calls {S S' : Nat → Prop} {a b : Option Addr} {la ca lb cb : Nat} {l m : Frs} {w : World} (h : InFrs S w a la l) (h' : InFrs S' w b lb m) :
    Calls Tryz.prog 122 #[.slice a la ca, .slice b lb cb] w fun e w' => e = .returned (.bool (decide (l = m))) ∧ Below w.heap.size w w' := by
  have hm := h.most
  have hm' := h'.most
  have hl := h.long
  have hl' := h'.long
  by_cases hne : la = lb
  · subst hne
    have hres : ∃ R, R = decide (l = m) := ⟨_, rfl⟩
    obtain ⟨R, hR⟩ := hres
    rw [← hR]
    have HRR := Lib.hid hR
    clear hR
    go_enter Tryz.func122, Tryz.ntmps122
    go_wp2_with fail
    go_loopw [5] (fun i wr => ∃ k : Nat, i = .int .i64 (k : Int) ∧ k ≤ la ∧ eqFrTo l m k ∧ Below w.heap.size w wr) (fun i _ => la - (intOf i).toNat)
    case atStart => exact ⟨0, rfl, Nat.zero_le _, eqFrTo_zero _ _, Below.refl _ _⟩
    case round =>
      obtain ⟨k, rfl, hk, hto, hbl⟩ := hrel
      by_cases hkl : k < la
      · have hh := h.below hbl
        have hh' := h'.below hbl
        obtain ⟨b1, o1, rfl⟩ := hh.there (by omega)
        obtain ⟨b2, o2, rfl⟩ := hh'.there (by omega)
        obtain ⟨-, x, cx, c0, c1, r1, -⟩ := hh.cell b1 o1 rfl k hkl
        obtain ⟨-, x', cx', d0, d1, s1, -⟩ := hh'.cell b2 o2 rfl k hkl
        have hcall := fun (W : World) (hb : Below wr.heap.size wr W) => eqFrom_calls (w := W) (k := (frAt l k).1) (k' := (frAt m k).1) (ca := cx) (ca' := cx') (r1.below hb) (s1.below hb)
        by_cases hq : frAt l k = frAt m k
        · have hto' := eqFrTo_succ hto hq
          have HT := Lib.hid hto'
          clear hto'
          rw [show decide (((frAt l k).1, (frAt l k).2) = ((frAt m k).1, (frAt m k).2)) = true from decide_eq_true hq] at hcall
          have HC := Lib.hid hcall
          have HBL := Lib.hid hbl
          unfold fromV at HC
          generalize (frAt l k).1 = p0 at *
          generalize (frAt l k).2.length = p1 at *
          generalize (frAt m k).1 = q0 at *
          generalize (frAt m k).2.length = q1 at *
          clear hh hh' h h' hcall hto hbl hq r1 s1
          go_wp2_with fail
          first | (go_region_held3 (fun W => Below wr.heap.size wr W ∧ W.cell? ⟨b1, o1 + k * 2, none⟩ = some (.int .i64 p0) ∧ W.cell? ⟨b1, o1 + k * 2 + 1, none⟩ = some (.slice x p1 cx) ∧ W.cell? ⟨b2, o2 + k * 2, none⟩ = some (.int .i64 q0) ∧ W.cell? ⟨b2, o2 + k * 2 + 1, none⟩ = some (.slice x' q1 cx')) (first | exact ⟨(Below.refl _ _).drew, c0, c1, d0, d1⟩ | assumption | (refine keepV4 (by assumption) (by assumption))) (first | (go_at_call 181; (with_reducible refine (HC.out _ ?_).mono ?_); (· exact (by assumption : Below wr.heap.size wr _ ∧ _).1); rintro e w2 ⟨rfl, hb2⟩))) | fail
          have HB2 : Below w.heap.size w w2 := HBL.out.trans ((by assumption : Below wr.heap.size wr w2 ∧ _).1.mono HBL.out.size)
          go_wp2_with fail
          go_roundw
          case rel => exact ⟨k + 1, by go_num, by omega, HT.out, HB2⟩
          case measure => simp [intOf]; omega
        · have hto' : ¬ l = m := fun e => hq (by rw [e])
          have HT := Lib.hid hto'
          clear hto'
          rw [show decide (((frAt l k).1, (frAt l k).2) = ((frAt m k).1, (frAt m k).2)) = false from decide_eq_false hq] at hcall
          have HC := Lib.hid hcall
          have HBL := Lib.hid hbl
          unfold fromV at HC
          generalize (frAt l k).1 = p0 at *
          generalize (frAt l k).2.length = p1 at *
          generalize (frAt m k).1 = q0 at *
          generalize (frAt m k).2.length = q1 at *
          clear hh hh' h h' hcall hto hbl hq r1 s1
          go_wp2_with fail
          first | (go_region_held3 (fun W => Below wr.heap.size wr W ∧ W.cell? ⟨b1, o1 + k * 2, none⟩ = some (.int .i64 p0) ∧ W.cell? ⟨b1, o1 + k * 2 + 1, none⟩ = some (.slice x p1 cx) ∧ W.cell? ⟨b2, o2 + k * 2, none⟩ = some (.int .i64 q0) ∧ W.cell? ⟨b2, o2 + k * 2 + 1, none⟩ = some (.slice x' q1 cx')) (first | exact ⟨(Below.refl _ _).drew, c0, c1, d0, d1⟩ | assumption | (refine keepV4 (by assumption) (by assumption))) (first | (go_at_call 181; (with_reducible refine (HC.out _ ?_).mono ?_); (· exact (by assumption : Below wr.heap.size wr _ ∧ _).1); rintro e w2 ⟨rfl, hb2⟩))) | fail
          have HB2 : Below w.heap.size w w2 := HBL.out.trans ((by assumption : Below wr.heap.size wr w2 ∧ _).1.mono HBL.out.size)
          go_wp2_with fail
          go_ret
          exact ⟨ret_bool (by rw [HRR.out, decide_eq_false HT.out]), HB2⟩
      · have hkl' : k = la := by omega
        have he : l = m := eqFrTo_all (by omega) (by rw [hl, ← hkl']; exact hto)
        have HE := Lib.hid he
        clear h h' hto he hl hl'
        go_wp2_with fail
        go_ret
        exact ⟨ret_bool (by rw [HRR.out, decide_eq_true HE.out]), hbl⟩
  · have he : ¬ l = m := fun e => by subst e; omega
    have HE := Lib.hid he
    have hd : ((la : Int) != (lb : Int)) = true := by simp; omega
    clear h h' he hl hl'
    go_enter Tryz.func122, Tryz.ntmps122
    go_wp2_with fail
    go_ret
    exact ⟨ret_bool (by rw [decide_eq_false HE.out]), Below.refl _ _⟩
end Go.Proofs.YtdcahilfmhkmiaaGreatDoor

namespace Go.Proofs.YtdcahilfmhkmiaaGreatDoor
open Go.RowKit

theorem run_make_froms {P : Program} {t e : TypeId} {i : TypeInfo} (ht : P.underlying t = some (.slice e)) (hi : P.info? e = some i) (hz : i.zero = some (.agg #[.int .i64 0, .slice none 0 0])) (h1 : i.size = 2) (h2 : i.bytes = 32)
    (n : Nat) (L : Int) (hL : L = (n : Int)) (hn : n ≤ 1000000000) (w : World) :
    (Instr.makeSlice t (.int .i64 L) (.int .i64 L)).run P w = .ok (.slice (some ⟨w.heap.size, 0, none⟩) n n) (w.alloc (.cells (madeCells #[.int .i64 0, .slice none 0 0] (n * 2)) e)) := by
  subst hL
  have h := run_make (P := P) w t e i (.agg #[.int .i64 0, .slice none 0 0]) ht hi hz .i64 .i64 n n (by omega) (by omega) (by rw [h2]; omega) (by omega)
  rw [h, h1]
  simp only [Int.toNat_natCast]
  rfl
/-- The first k Froms of a row that the call makes. -/
structure FrsPart (w : World) (g k : Nat) (n : Frs) (P : Nat → Nat) : Prop where
  cell : ∀ i, i < k → w.cell? ⟨g, i * 2, none⟩ = some (.int .i64 (frAt n i).1) ∧ w.cell? ⟨g, i * 2 + 1, none⟩ = some (.slice (some ⟨P i, 0, none⟩) (frAt n i).2.length (frAt n i).2.length)
  late : ∀ i, i < k → InLg w (some ⟨P i, 0, none⟩) (frAt n i).2.length (frAt n i).2 ∧ OpenLg w (P i) (frAt n i).2.length
  order : ∀ i, i < k → g < P i ∧ P i < w.heap.size
  chain : ∀ i j, i < j → j < k → P i < P j
theorem frsPart_zero (w : World) (g : Nat) (n : Frs) (P : Nat → Nat) : FrsPart w g 0 n P := ⟨fun i h => by omega, fun i h => by omega, fun i h => by omega, fun i j _ h => by omega⟩
theorem FrsPart.below {w w' : World} {g k : Nat} {n : Frs} {P : Nat → Nat} (h : FrsPart w g k n P) (hb : Below w.heap.size w w') : FrsPart w' g k n P := by
  refine ⟨fun i hi => ?_, fun i hi => ?_, fun i hi => ?_, h.chain⟩
  · obtain ⟨c0, c1⟩ := h.cell i hi
    exact ⟨(hb.cell (World.block_lt_of_cell? w _ c0)).trans c0, (hb.cell (World.block_lt_of_cell? w _ c1)).trans c1⟩
  · have ho := h.order i hi
    exact ⟨(h.late i hi).1.below hb, (h.late i hi).2.below (by omega) hb⟩
  · have ho := h.order i hi
    have := hb.size
    omega
theorem FrsPart.store {w : World} {g k o : Nat} {n : Frs} {P : Nat → Nat} (h : FrsPart w g k n P) (hk : k * 2 ≤ o) (v : Value) : FrsPart (w.setCell ⟨g, o, none⟩ v) g k n P := by
  refine ⟨fun i hi => ?_, fun i hi => ?_, fun i hi => ?_, h.chain⟩
  · obtain ⟨c0, c1⟩ := h.cell i hi
    exact ⟨(World.cell?_setCell_other _ _ _ _ (fun e => by injection e; omega)).trans c0, (World.cell?_setCell_other _ _ _ _ (fun e => by injection e; omega)).trans c1⟩
  · have ho := h.order i hi
    exact ⟨(h.late i hi).1.store (by show P i ≠ g; omega) v, (h.late i hi).2.store (by show P i ≠ g; omega) v⟩
  · have ho := h.order i hi
    simpa using ho
theorem OpenLg.set {w : World} {g len o : Nat} (h : OpenLg w g len) (v : Value) : OpenLg (w.setCell ⟨g, o, none⟩ v) g len := by
  refine ⟨fun i hi => ?_, fun i hi => (World.frozen?_setCell _ _ _ _).trans (h.free i hi)⟩
  obtain ⟨u, hu⟩ := h.there i hi
  by_cases e : (⟨g, i, none⟩ : Addr) = ⟨g, o, none⟩
  · rw [e]; rw [e] at hu; exact ⟨v, World.cell?_setCell_same _ _ _ hu⟩
  · exact ⟨u, (World.cell?_setCell_other _ _ _ _ (fun e' => e e'.symm)).trans hu⟩
/-- One From more. -/
theorem frsPart_succ {w : World} {g k p len : Nat} {n : Frs} {P : Nat → Nat} (h : FrsPart w g k n P) (hop : OpenLg w g (len * 2)) (hk : k < len) (hgp : g < p) (hp : p < w.heap.size)
    (hold : ∀ i, i < k → P i < p) (i1 : InLg w (some ⟨p, 0, none⟩) (frAt n k).2.length (frAt n k).2) (o1 : OpenLg w p (frAt n k).2.length) :
    FrsPart ((w.setCell ⟨g, k * 2, none⟩ (.int .i64 (frAt n k).1)).setCell ⟨g, k * 2 + 1, none⟩ (.slice (some ⟨p, 0, none⟩) (frAt n k).2.length (frAt n k).2.length)) g (k + 1) n (fun i => if i = k then p else P i) := by
  obtain ⟨u0, hu0⟩ := hop.there (k * 2) (by omega)
  obtain ⟨u1, hu1⟩ := hop.there (k * 2 + 1) (by omega)
  generalize hv0 : Value.int .i64 (frAt n k).1 = v0
  generalize hv1 : Value.slice (some ⟨p, 0, none⟩) (frAt n k).2.length (frAt n k).2.length = v1
  have h2 := (h.store (o := k * 2) (Nat.le_refl _) v0).store (o := k * 2 + 1) (by omega) v1
  refine ⟨fun i hi => ?_, fun i hi => ?_, fun i hi => ?_, fun i j hij hj => ?_⟩
  · by_cases e : i = k
    · subst e
      simp only [↓reduceIte]
      exact ⟨(World.cell?_setCell_other _ _ _ _ (fun e => by injection e; omega)).trans ((World.cell?_setCell_same _ _ _ hu0).trans (by simp [← hv0])),
        (World.cell?_setCell_same _ _ _ ((World.cell?_setCell_other _ _ _ _ (fun e => by injection e; omega)).trans hu1)).trans (by simp [← hv1])⟩
    · simp only [if_neg e]
      exact h2.cell i (by omega)
  · by_cases e : i = k
    · subst e
      simp only [↓reduceIte]
      exact ⟨(i1.store (by show p ≠ g; omega) _).store (by show p ≠ g; omega) _, (o1.store (by show p ≠ g; omega) _).store (by show p ≠ g; omega) _⟩
    · simp only [if_neg e]
      exact h2.late i (by omega)
  · by_cases e : i = k
    · simp only [if_pos e]
      exact ⟨hgp, by simpa using hp⟩
    · simp only [if_neg e]
      exact h2.order i (by omega)
  · have e1 : i ≠ k := by omega
    simp only [if_neg e1]
    by_cases e : j = k
    · simp only [if_pos e]; exact hold i (by omega)
    · simp only [if_neg e]; exact h.chain i j hij (by omega)
theorem frsPart_own {w : World} {lo g len : Nat} {n : Frs} {P : Nat → Nat} (h : FrsPart w g len n P) (hop : OpenLg w g (len * 2)) (hl : n.length = len) (hm : len ≤ 2000000) (h0 : lo ≤ g) (h1 : g < w.heap.size) (hf : ∀ i, i < len → I64 (frAt n i).1) :
    FrsOwn (fun b => lo ≤ b ∧ b < w.heap.size) w (some ⟨g, 0, none⟩) len n (fun i => some ⟨P i, 0, none⟩) (fun i => (frAt n i).2.length) := by
  refine ⟨hl, hm, fun _ => ⟨g, 0, rfl⟩, fun b o e i hi => ?_, fun b o e i hi => ?_, fun b hb => ?_, fun i hi => ⟨(h.late i hi).1, fun b o e k hk => ?_⟩, fun i hi b hb => ?_, fun i j hi hj hij b hb hb' => ?_, hf, fun i _ => Nat.le_refl _⟩
  · cases e; rw [Nat.zero_add]; exact h.cell i hi
  · cases e; rw [Nat.zero_add]; exact hop.free i hi
  · obtain ⟨_, o, e⟩ := hb; cases e; exact ⟨h0, h1⟩
  · cases e; rw [Nat.zero_add]; exact (h.late i hi).2.free k hk
  · obtain ⟨_, o, e⟩ := hb
    cases e
    have ho := h.order i hi
    exact ⟨⟨by omega, ho.2⟩, fun hb' => by obtain ⟨_, o, e⟩ := hb'; cases e; omega⟩
  · obtain ⟨_, o, e⟩ := hb
    obtain ⟨_, o', e'⟩ := hb'
    injection e with e
    injection e' with e'
    injection e with e
    injection e' with e'
    rcases Nat.lt_or_gt_of_ne hij with h1 | h1
    · have := h.chain i j h1 hj; omega
    · have := h.chain j i h1 hi; omega

set_option maxHeartbeats 1000000 in
set_option maxRecDepth 100000 in
theorem toFromS_calls {S : Nat → Prop} {a : Option Addr} {len cap : Nat} {n : Frs} {w : World} (h : InFrs S w a len n) :
    Calls Tryz.prog 119 #[.slice a len cap] w fun e w' => ∃ g A C, e = .returned (.slice (some ⟨g, 0, none⟩) len len) ∧ w.heap.size ≤ g ∧ g < w'.heap.size ∧ FrsOwn (fun b => w.heap.size ≤ b ∧ b < w'.heap.size) w' (some ⟨g, 0, none⟩) len n A C ∧ Below w.heap.size w w' := by
  have hm := h.most
  have hlen := h.long
  have hzz : (Tryz.prog.info? 159).map (fun i => (i.zero, i.size, i.bytes)) = some (some (.agg #[.int .i64 0, .slice none 0 0]), 2, 32) := by kernel_rfl
  cases hi : Tryz.prog.info? 159 with
  | none => rw [hi] at hzz; cases hzz
  | some i =>
    rw [hi] at hzz
    simp at hzz
    have hmk := run_make_froms (P := Tryz.prog) Tryz.underlying24 hi hzz.1 hzz.2.1 hzz.2.2 len (len : Int) rfl (by omega) w
    clear hzz hi
    have ho := World.ownsRow_lit (size := 2) (base := w.heap.size) (e := 159) w (madeCells #[.int .i64 0, .slice none 0 0] (len * 2)) len (Nat.le_refl _) (by simp [maxLen]; omega) (size_madeCells _ _)
    generalize hg : w.heap.size = g at ho hmk
    have hbw : Below w.heap.size w (w.alloc (.cells (madeCells #[.int .i64 0, .slice none 0 0] (len * 2)) 159)) := (Below.refl _ _).alloc (Nat.le_refl _) _
    have hlt : g < (w.alloc (.cells (madeCells #[.int .i64 0, .slice none 0 0] (len * 2)) 159)).heap.size := by simp; omega
    generalize w.alloc (.cells (madeCells #[.int .i64 0, .slice none 0 0] (len * 2)) 159) = w1 at *
    generalize (madeCells #[.int .i64 0, .slice none 0 0] (len * 2)).toList = xs at *
    have hop : OpenLg w1 g (len * 2) := by
      have hx : xs.length = len * 2 := ho.1
      exact ⟨fun i hi => ⟨_, (ho.cellAt i (by omega)).trans (List.getElem?_eq_getElem (by omega))⟩, fun i _ => ho.frozenAt i⟩
    go_enter Tryz.func119, Tryz.ntmps119
    go_wp2_with fail
    go_loopw [4] (fun i wr => ∃ (k : Nat) (P : Nat → Nat), i = .int .i64 (k : Int) ∧ k ≤ len ∧ FrsPart wr g k n P ∧ OpenLg wr g (len * 2) ∧ g < wr.heap.size ∧ Below g w wr) (fun i _ => len - (intOf i).toNat)
    case atStart => exact ⟨0, id, rfl, Nat.zero_le _, frsPart_zero _ _ _ _, hop, hlt, hg ▸ hbw⟩
    case round =>
      clear hop hlt hbw hmk ho
      obtain ⟨k, P, rfl, hk, hpt, hop, hlt, hbl⟩ := hrel
      by_cases hkl : k < len
      · have hh := h.below (hg ▸ hbl)
        obtain ⟨b, o, rfl⟩ := hh.there (by omega)
        obtain ⟨-, x, cx, c0, c1, r0, -⟩ := hh.cell b o rfl k hkl
        have hcall := toFrom_calls (n := (frAt n k).1) (ca := cx) r0
        unfold FrCopied at hcall
        have HC := Lib.hid hcall
        have HP := Lib.hid hpt
        have HO := Lib.hid hop
        have HBL := Lib.hid hbl
        clear hh h hcall r0 hpt hop hbl
        unfold fromV at HC
        go_wp2_with fail
        refine HC.out.mono ?_
        rintro e w2 ⟨p, rfl, i1, o1, hp1, hp2, hb2⟩
        have hop2 := HO.out.below hlt hb2
        obtain ⟨v0, e0⟩ := hop2.there (k * 2) (by omega)
        obtain ⟨v1, e1⟩ := hop2.there (k * 2 + 1) (by omega)
        have f0 := hop2.free (k * 2) (by omega)
        have f1 := hop2.free (k * 2 + 1) (by omega)
        have hst := frsPart_succ (HP.out.below hb2) hop2 hkl (by omega) hp2 (fun i hi => by have := (HP.out.order i hi).2; omega) i1 o1
        have hop3 := (hop2.set (o := k * 2) (.int .i64 (frAt n k).1)).set (o := k * 2 + 1) (.slice (some ⟨p, 0, none⟩) (frAt n k).2.length (frAt n k).2.length)
        have hb3 := ((HBL.out.trans (hb2.mono (Nat.le_of_lt hlt))).setCell (p := ⟨g, k * 2, none⟩) (Nat.le_refl _) (.int .i64 (frAt n k).1)).setCell (p := ⟨g, k * 2 + 1, none⟩) (Nat.le_refl _) (.slice (some ⟨p, 0, none⟩) (frAt n k).2.length (frAt n k).2.length)
        have hs2 := hb2.size
        have HST := Lib.hid hst
        have HO3 := Lib.hid hop3
        have HB3 := Lib.hid hb3
        clear HC HP HO HBL hop2 hst hop3 hb3 hb2 i1 o1
        go_wp2_with fail
        exact ⟨⟨k + 1, _, by go_num, by omega, HST.out, HO3.out, by simp; omega, HB3.out⟩, by simp [intOf]; omega⟩
      · have hkl' : k = len := by omega
        subst hkl'
        have hin := frsPart_own (lo := g) hpt hop hlen hm (Nat.le_refl _) hlt h.fit
        have HIN := Lib.hid hin
        clear hpt hop h hin
        go_wp2_with fail
        go_ret
        exact ⟨_, _, _, rfl, Nat.le_refl _, hlt, HIN.out, hbl⟩
end Go.Proofs.YtdcahilfmhkmiaaGreatDoor

namespace Go.Proofs.YtdcahilfmhkmiaaGreatDoor
open Go.RowKit

def fmarks : Nat → Frs → Frs
  | _, [] => []
  | k, p :: r => ((k : Int), lmarks (k + 1) p.2.length) :: fmarks (k + 1 + p.2.length) r
theorem fmarks_len : ∀ (n : Frs) (k : Nat), (fmarks k n).length = n.length
  | [], _ => rfl
  | p :: r, k => by simp only [fmarks, List.length_cons, fmarks_len r]
theorem frsSum_take_succ : ∀ (n : Frs) (i : Nat), i < n.length → frsSum (n.take (i + 1)) = frsSum (n.take i) + 1 + (frAt n i).2.length
  | [], i, h => by simp at h
  | p :: r, 0, _ => by simp [frsSum, frAt, List.getD]
  | p :: r, i + 1, h => by
    have ih := frsSum_take_succ r i (by simpa using h)
    have e : frAt (p :: r) (i + 1) = frAt r i := by simp [frAt, List.getD]
    rw [e, List.take_succ_cons, List.take_succ_cons]
    simp only [frsSum]
    omega
theorem fmarks_at : ∀ (n : Frs) (k i : Nat), i < n.length → frAt (fmarks k n) i = (((k + frsSum (n.take i) : Nat) : Int), lmarks (k + frsSum (n.take i) + 1) (frAt n i).2.length)
  | [], _, i, h => by simp at h
  | p :: r, k, 0, _ => by simp [fmarks, frAt, List.getD, frsSum]
  | p :: r, k, i + 1, h => by
    have ih := fmarks_at r (k + 1 + p.2.length) i (by simpa using h)
    have e : frAt (p :: r) (i + 1) = frAt r i := by simp [frAt, List.getD]
    have e2 : frAt (fmarks k (p :: r)) (i + 1) = frAt (fmarks (k + 1 + p.2.length) r) i := by simp [frAt, List.getD, fmarks]
    rw [e, e2, ih, List.take_succ_cons]
    simp only [frsSum]
    have h1 : k + 1 + p.2.length + frsSum (r.take i) = k + (1 + p.2.length + frsSum (r.take i)) := by omega
    rw [h1]
theorem frsSum_take_le : ∀ (n : Frs) (i : Nat), frsSum (n.take i) ≤ frsSum n
  | [], i => by simp [frsSum]
  | p :: r, 0 => by simp [frsSum]
  | p :: r, i + 1 => by
    have := frsSum_take_le r i
    rw [List.take_succ_cons]
    simp only [frsSum]
    omega
theorem frAt_set {n : Frs} {i j : Nat} {p : Fr} (hi : i < n.length) : frAt (n.set i p) j = if j = i then p else frAt n j := by
  unfold frAt
  by_cases e : j = i
  · subst e; simp [List.getD, hi]
  · rw [if_neg e]; simp [List.getD, List.getElem?_set_ne (Ne.symm e)]
theorem frs_ext {n m : Frs} (hl : n.length = m.length) (h : ∀ i, i < n.length → frAt n i = frAt m i) : n = m := by
  apply List.ext_getElem hl
  intro i h1 h2
  have := h i h1
  rwa [frAt_get h1, frAt_get h2] at this

/-- A Want is written over. -/
theorem FrsOwn.want_set {S : Nat → Prop} {w : World} {b o len i : Nat} {n : Frs} {A : Nat → Option Addr} {C : Nat → Nat} (h : FrsOwn S w (some ⟨b, o, none⟩) len n A C) (hil : i < len) {x : Int} (hx : I64 x) :
    FrsOwn S (w.setCell ⟨b, o + i * 2, none⟩ (.int .i64 x)) (some ⟨b, o, none⟩) len (n.set i (x, (frAt n i).2)) A C := by
  have hlen := h.long
  have hat : ∀ j, frAt (n.set i (x, (frAt n i).2)) j = if j = i then (x, (frAt n i).2) else frAt n j := fun j => frAt_set (by omega)
  have hl2 : ∀ j, (frAt (n.set i (x, (frAt n i).2)) j).2 = (frAt n j).2 := fun j => by
    rw [hat]; split
    · rename_i e; rw [e]
    · rfl
  have hne : ∀ b', b' ≠ b → (w.setCell ⟨b, o + i * 2, none⟩ (.int .i64 x)).heap[b']? = w.heap[b']? := fun b' e => Below.heap_setCell _ _ _ _ e
  refine ⟨by simpa using h.long, h.most, h.there, fun b' o' e j hj => ?_, h.free.set _ _, h.blk, fun j hj => ?_, fun j hj => ?_, fun j k hj hk => ?_, fun j hj => ?_, fun j hj => ?_⟩
  · cases e
    rw [hl2]
    obtain ⟨c0, c1⟩ := h.cell b o rfl j hj
    refine ⟨?_, (World.cell?_setCell_other _ _ _ _ (fun e => by injection e; omega)).trans c1⟩
    rw [hat]
    by_cases e : j = i
    · subst e
      rw [if_pos rfl]
      exact World.cell?_setCell_same _ _ _ c0
    · rw [if_neg e]
      exact (World.cell?_setCell_other _ _ _ _ (fun e => by injection e; omega)).trans c0
  · rw [hl2]
    have hb : ∀ b', LgB (A j) (frAt n j).2.length b' → (w.setCell ⟨b, o + i * 2, none⟩ (.int .i64 x)).heap[b']? = w.heap[b']? := fun b' hb => hne b' (fun e => (h.lblk j hj b' hb).2 ⟨by omega, o, by rw [e]⟩)
    exact ⟨(h.late j hj).1.blk hb, (h.late j hj).2.set _ _⟩
  · rw [hl2]; exact h.lblk j hj
  · rw [hl2, hl2]; exact h.apart j k hj hk
  · rw [hat]
    split
    · exact hx
    · exact h.fit j hj
  · rw [hl2]; exact h.room j hj
/-- A row of Late is written over with as many numbers. -/
theorem FrsOwn.late_set {S : Nat → Prop} {w w' : World} {a : Option Addr} {len i : Nat} {n : Frs} {A : Nat → Option Addr} {C : Nat → Nat} (h : FrsOwn S w a len n A C) (hil : i < len) {t : Lg} (ht : t.length = (frAt n i).2.length) (hg : Kept (LgB (A i) (frAt n i).2.length) w w')
    (i1 : InLg w' (A i) (frAt n i).2.length t) (o1 : LgFree w' (A i) (frAt n i).2.length) : FrsOwn S w' a len (n.set i ((frAt n i).1, t)) A C := by
  have hlen := h.long
  have hat : ∀ j, frAt (n.set i ((frAt n i).1, t)) j = if j = i then ((frAt n i).1, t) else frAt n j := fun j => frAt_set (by omega)
  have hl1 : ∀ j, (frAt (n.set i ((frAt n i).1, t)) j).2.length = (frAt n j).2.length := fun j => by
    rw [hat]; split
    · rename_i e; rw [e]; exact ht
    · rfl
  have hl2 : ∀ j, (frAt (n.set i ((frAt n i).1, t)) j).1 = (frAt n j).1 := fun j => by
    rw [hat]; split
    · rename_i e; rw [e]
    · rfl
  have hga : ∀ b, LgB a len b → w'.heap[b]? = w.heap[b]? := fun b hb => hg.block b (h.lt hb) (fun e => (h.lblk i hil b e).2 hb)
  refine ⟨by simpa using h.long, h.most, h.there, fun b o e j hj => ?_, h.free.blk (fun b hb => hga b ⟨by have := hb.1; omega, hb.2⟩), h.blk, fun j hj => ?_, fun j hj => ?_, fun j k hj hk => ?_, fun j hj => ?_, fun j hj => ?_⟩
  · rw [hl1, hl2]
    obtain ⟨c0, c1⟩ := h.cell b o e j hj
    have hb := hga b ⟨by omega, o, e⟩
    exact ⟨(World.cell?_of_block (a := ⟨b, o + j * 2, none⟩) hb).trans c0, (World.cell?_of_block (a := ⟨b, o + j * 2 + 1, none⟩) hb).trans c1⟩
  · rw [hl1]
    by_cases e : j = i
    · subst e
      rw [hat, if_pos rfl]
      exact ⟨i1, o1⟩
    · rw [hat, if_neg e]
      have hb : ∀ b, LgB (A j) (frAt n j).2.length b → w'.heap[b]? = w.heap[b]? := fun b hb => hg.block b ((h.late j hj).1.lt hb) (h.apart j i hj hil e b hb)
      exact ⟨(h.late j hj).1.blk hb, (h.late j hj).2.blk hb⟩
  · rw [hl1]; exact h.lblk j hj
  · rw [hl1, hl1]; exact h.apart j k hj hk
  · rw [hl2]; exact h.fit j hj
  · rw [hl1]; exact h.room j hj

/-- The first i Froms are marked, the others are as they were. -/
structure FrsUp (m n : Frs) (k i : Nat) : Prop where
  long : m.length = n.length
  done : ∀ j, j < i → frAt m j = frAt (fmarks k n) j
  rest : ∀ j, i ≤ j → frAt m j = frAt n j
theorem frsUp_zero (n : Frs) (k : Nat) : FrsUp n n k 0 := ⟨rfl, fun j h => by omega, fun _ _ => rfl⟩
theorem frsUp_succ {m n : Frs} {k i : Nat} (h : FrsUp m n k i) (hi : i < n.length) :
    FrsUp ((m.set i (((k + frsSum (n.take i) : Nat) : Int), (frAt m i).2)).set i ((frAt (m.set i (((k + frsSum (n.take i) : Nat) : Int), (frAt m i).2)) i).1, lmarks (k + frsSum (n.take i) + 1) (frAt m i).2.length)) n k (i + 1) := by
  have hml := h.long
  have hr := h.rest i (Nat.le_refl _)
  refine ⟨by simpa using h.long, fun j hj => ?_, fun j hj => ?_⟩
  · rw [frAt_set (by simp; omega), frAt_set (by omega)]
    by_cases e : j = i
    · subst e
      rw [if_pos rfl, if_pos rfl, fmarks_at n k j hi, hr]
    · rw [if_neg e, frAt_set (by omega), if_neg e]
      exact h.done j (by omega)
  · rw [frAt_set (by simp; omega), if_neg (by omega), frAt_set (by omega), if_neg (by omega)]
    exact h.rest j (by omega)
theorem frsUp_all {m n : Frs} {k : Nat} (h : FrsUp m n k n.length) : m = fmarks k n :=
  frs_ext (by rw [fmarks_len, h.long]) (fun i hi => h.done i (by rw [← h.long]; exact hi))

set_option maxHeartbeats 2000000 in
set_option maxRecDepth 100000 in
theorem markFromS_calls {S : Nat → Prop} {w : World} {a : Option Addr} {len cap k : Nat} {n : Frs} {A : Nat → Option Addr} {C : Nat → Nat} (h : FrsOwn S w a len n A C) (hk : k + frsSum n ≤ 90000000) :
    Calls Tryz.prog 124 #[.slice a len cap, .int .i64 (k : Int)] w fun e w' => e = .returned (.int .i64 ((k + frsSum n : Nat) : Int)) ∧ FrsOwn S w' a len (fmarks k n) A C ∧ Kept S w w' := by
  have hm := h.most
  have hlen := h.long
  go_enter Tryz.func124, Tryz.ntmps124
  go_wp2_with fail
  go_loopw [1, 5] (fun v i wr => ∃ (j : Nat) (m : Frs), i = .int .i64 (j : Int) ∧ v = .int .i64 ((k + frsSum (n.take j) : Nat) : Int) ∧ j ≤ len ∧ FrsOwn S wr a len m A C ∧ FrsUp m n k j ∧ Kept S w wr) (fun _ i _ => len - (intOf i).toNat)
  case atStart => exact ⟨0, n, rfl, by simp [frsSum], Nat.zero_le _, h, frsUp_zero n k, Kept.refl _ _⟩
  case round =>
    clear h
    obtain ⟨j, m, rfl, rfl, hj, ho, hup, hkp⟩ := hrel
    by_cases hjl : j < len
    · have hst := frsSum_take_succ n j (by omega)
      have hsl := frsSum_take_le n (j + 1)
      have hr := hup.rest j (Nat.le_refl _)
      have hup2 := frsUp_succ hup (by omega)
      rw [← hr] at hst
      generalize hnx : frsSum (n.take (j + 1)) = x1 at *
      generalize frsSum (n.take j) = x0 at *
      have hpc : ((k + x0 : Nat) : Int) = (k : Int) + (x0 : Int) := by omega
      have hpc2 : ((k + x0 + 1 : Nat) : Int) = (k : Int) + (x0 : Int) + 1 := by omega
      rw [hpc] at hup2 ⊢
      obtain ⟨b, o, rfl⟩ := ho.there (by omega)
      have c0 := (ho.cell b o rfl j hjl).1
      have z0 := ho.free b o rfl (j * 2) (by omega)
      have ho1 := ho.want_set hjl (x := (k : Int) + (x0 : Int)) ⟨by omega, by omega⟩
      have hsb : S b := ho.blk b ⟨by omega, o, rfl⟩
      have e1 : frAt (m.set j ((k : Int) + (x0 : Int), (frAt m j).2)) j = ((k : Int) + (x0 : Int), (frAt m j).2) := by rw [frAt_set (by have := ho.long; omega), if_pos rfl]
      have d1 := (ho1.cell b o rfl j hjl).2
      rw [e1] at d1
      have hlt := ho1.late j hjl
      rw [e1] at hlt
      have hmk := markInt64S_calls (cap := C j) (k := k + x0 + 1) hlt.1 hlt.2 (by omega)
      rw [hpc2] at hmk
      have hk1 : Kept S wr (wr.setCell ⟨b, o + j * 2, none⟩ (.int .i64 ((k : Int) + (x0 : Int)))) := kept_set _ _ _ _ hsb
      have hk2 : k + x0 + 1 ≤ 200000000 := by omega
      have hsl2 : ∀ b', LgB (A j) (frAt m j).2.length b' → S b' := fun b' hb' => (ho.lblk j hjl b' hb').1
      have HO := Lib.hid ho1
      have HU := Lib.hid hup2
      have HK := Lib.hid (hkp.trans hk1)
      have HM := Lib.hid hmk
      have HX := Lib.hid hnx
      have HE := Lib.hid e1
      have HSL := Lib.hid hsl2
      clear hpc hpc2
      clear ho ho1 hup hup2 hkp hmk hr hnx e1 hlt hk1 hsl2 hsb
      go_wp2_with fail
      refine HM.out.mono ?_
      rintro e w1 ⟨rfl, i1, o1, g1⟩
      have ho2 := HO.out.late_set hjl (t := lmarks (k + x0 + 1) (frAt m j).2.length) (by rw [HE.out, lmarks_len]) (by rw [HE.out]; exact g1) (by rw [HE.out]; exact i1) (by rw [HE.out]; exact o1)
      have HO2 := Lib.hid ho2
      have HK2 := Lib.hid (HK.out.trans (g1.mono HSL.out))
      clear HO HK HM ho2 i1 o1 g1
      go_wp2_with fail
      go_roundw
      case rel => exact ⟨j + 1, _, by go_num, by rw [HX.out]; exact val_int (by omega), by omega, HO2.out, HU.out, HK2.out⟩
      case measure => simp [intOf]; omega
    · have hjl' : j = n.length := by omega
      have he := frsUp_all (hjl' ▸ hup)
      subst he
      have hx : n.take j = n := by rw [hjl']; exact List.take_length
      have HO := Lib.hid ho
      have HK := Lib.hid hkp
      have HX := Lib.hid hx
      clear ho hup hkp hx hjl'
      go_wp2_with fail
      go_ret
      exact ⟨ret_int (by rw [HX.out]), HO.out, HK.out⟩

set_option maxHeartbeats 2000000 in
set_option maxRecDepth 100000 in
theorem heldFromS_calls {S : Nat → Prop} {w : World} {a : Option Addr} {len cap k : Nat} {n : Frs} (h : InFrs S w a len (fmarks k n)) (hk : k + frsSum n ≤ 90000000) :
    Calls Tryz.prog 185 #[.slice a len cap, .int .i64 (k : Int)] w fun e w' => e = .returned (.int .i64 ((k + frsSum n : Nat) : Int)) ∧ Below w.heap.size w w' := by
  have hm := h.most
  have hlen := h.long
  rw [fmarks_len] at hlen
  go_enter Tryz.func185, Tryz.ntmps185
  go_wp2_with fail
  go_loopw [1, 5] (fun v i wr => ∃ j : Nat, i = .int .i64 (j : Int) ∧ v = .int .i64 ((k + frsSum (n.take j) : Nat) : Int) ∧ j ≤ len ∧ Below w.heap.size w wr) (fun _ i _ => len - (intOf i).toNat)
  case atStart => exact ⟨0, rfl, by simp [frsSum], Nat.zero_le _, Below.refl _ _⟩
  case round =>
    obtain ⟨j, rfl, rfl, hj, hbl⟩ := hrel
    by_cases hjl : j < len
    · have hst := frsSum_take_succ n j (by omega)
      have hsl := frsSum_take_le n (j + 1)
      have hh := h.below hbl
      obtain ⟨b, o, rfl⟩ := hh.there (by omega)
      obtain ⟨-, x, cx, c0, c1, r0, -⟩ := hh.cell b o rfl j hjl
      rw [fmarks_at n k j (by omega)] at c0 c1 r0
      dsimp only at c0 c1 r0
      rw [lmarks_len] at c1 r0
      generalize hnx : frsSum (n.take (j + 1)) = x1 at *
      generalize frsSum (n.take j) = x0 at *
      have hpc : ((k + x0 : Nat) : Int) = (k : Int) + (x0 : Int) := by omega
      have hpc2 : ((k + x0 + 1 : Nat) : Int) = (k : Int) + (x0 : Int) + 1 := by omega
      have hmk := fun (W : World) (hb : Below wr.heap.size wr W) => heldInt64S_calls (cap := cx) (k := k + x0 + 1) (r0.below hb) (by omega)
      rw [hpc2] at hmk
      rw [hpc] at c0 ⊢
      have hk2 : k + x0 + 1 ≤ 200000000 := by omega
      have HX := Lib.hid hnx
      have HM := Lib.hid hmk
      have HBL := Lib.hid hbl
      clear hh h hbl hmk r0 hnx hpc hpc2
      go_wp2_with fail
      refine (HM.out _ (Below.refl _ _)).mono ?_
      rintro e w2 ⟨rfl, hb2⟩
      have HB2 := Lib.hid (HBL.out.trans (hb2.mono HBL.out.size))
      clear hb2 HM HBL
      go_wp2_with fail
      go_roundw
      case rel => exact ⟨j + 1, by go_num, by rw [HX.out]; exact val_int (by omega), by omega, HB2.out⟩
      case measure => simp [intOf]; omega
    · have hjl' : j = n.length := by omega
      have hx : n.take j = n := by rw [hjl']; exact List.take_length
      have HX := Lib.hid hx
      clear h hx
      go_wp2_with fail
      go_ret
      exact ⟨ret_int (by rw [HX.out]), hbl⟩
end Go.Proofs.YtdcahilfmhkmiaaGreatDoor

namespace Go.Proofs.YtdcahilfmhkmiaaGreatDoor
open Go.RowKit

def lgv (l : Lg) : List Value := l.map fun x => .int .i64 x
theorem lgv_at {l : Lg} {j : Nat} (h : j < l.length) : (lgv l)[j]? = some (.int .i64 (lgAt l j)) := by
  unfold lgv
  rw [List.getElem?_map, List.getElem?_eq_getElem h, lgAt_get h]
  rfl
theorem lgv_one (l : Lg) : ∀ u ∈ lgv l, u.oneCell' = true := by
  intro u hu
  obtain ⟨t, _, rfl⟩ := List.mem_map.1 hu
  rfl
/-- A row of numbers as a source of an append. -/
theorem InLg.cells {w : World} {a : Option Addr} {len : Nat} {l : Lg} (h : InLg w a len l) : CellRow w 1 a len (lgv l) :=
  ⟨by simp [lgv, h.long], h.small, h.there, fun b o e j u hj => by
    have hjl : j < l.length := by
      have := (List.getElem?_eq_some_iff.1 hj).1
      simpa [lgv] using this
    rw [lgv_at hjl] at hj
    cases hj
    exact h.cell b o e j (by rw [← h.long]; exact hjl), lgv_one l⟩
/-- A row of numbers that the call owns. -/
theorem lg_own {w : World} {base g n cap : Nat} {e : TypeId} {l : Lg} (h : w.ownsRow base e 1 (.slice (some ⟨g, 0, none⟩) n cap) n (lgv l)) (hm : n ≤ 2000000) (hf : ∀ i, i < n → I64 (lgAt l i)) :
    InLg w (some ⟨g, 0, none⟩) n l ∧ LgFree w (some ⟨g, 0, none⟩) n ∧ base ≤ g ∧ g < w.heap.size := by
  have hl : l.length = n := by have := h.1; simp [lgv] at this; exact this
  refine ⟨⟨⟨hl, by omega, fun _ => ⟨g, 0, rfl⟩, fun b o e i hi => ?_, hf⟩, hm⟩, fun b o e i hi => ?_, h.lt g rfl⟩
  · cases e
    rw [Nat.zero_add]
    exact (h.cellAt i (by omega)).trans (lgv_at (by omega))
  · cases e
    rw [Nat.zero_add]
    exact h.frozenAt i
theorem cells_empty {w : World} {B g : Nat} {e : TypeId} {s : Nat} (h : w.heap[g]? = some (.cells #[] e (0, 0))) (hB : B ≤ g) : w.ownsRow B e s (.slice (some ⟨g, 0, none⟩) 0 0) 0 [] :=
  ⟨by simp, .inr ⟨g, 0, #[], rfl, hB, h, Nat.le_refl _, by simp [maxLen], by simp, by simp⟩⟩

/-- The room behind a row is there, and may be written. -/
def Spare (w : World) (x : Option Addr) (c : Nat) : Prop := 0 < c → ∃ b o cur T, x = some ⟨b, o, none⟩ ∧ w.heap[b]? = some (.cells cur T (0, 0)) ∧ o + c ≤ cur.size
theorem Spare.lt {w : World} {x : Option Addr} {c : Nat} (h : Spare w x c) {b : Nat} (hb : LgB x c b) : b < w.heap.size := by
  obtain ⟨hc, o, e⟩ := hb
  obtain ⟨b', o', cur, T, e', hg, _⟩ := h hc
  rw [e] at e'
  injection e' with e'
  injection e' with e'
  subst e'
  exact (Array.getElem?_eq_some_iff.1 hg).1
theorem Spare.blk {w w' : World} {x : Option Addr} {c : Nat} (h : Spare w x c) (hb : ∀ b, LgB x c b → w'.heap[b]? = w.heap[b]?) : Spare w' x c := fun hc => by
  obtain ⟨b, o, cur, T, e, hg, hl⟩ := h hc
  exact ⟨b, o, cur, T, e, (hb b ⟨hc, o, e⟩).trans hg, hl⟩
theorem Spare.below {w w' : World} {x : Option Addr} {c : Nat} (h : Spare w x c) (hb : Below w.heap.size w w') : Spare w' x c := h.blk fun b hl => hb.block b (h.lt hl)
theorem spare_zero {w : World} {x : Option Addr} : Spare w x 0 := fun h => by omega
theorem own_spare {w : World} {base g n cap : Nat} {e : TypeId} {xs : List Value} (h : w.ownsRow base e 1 (.slice (some ⟨g, 0, none⟩) n cap) n xs) : Spare w (some ⟨g, 0, none⟩) cap := fun _ => by
  rcases h.2 with ⟨h, _⟩ | ⟨g', c', cur, he, _, hg, _, _, hs, _⟩
  · cases h
  · injection he with e1 e2 e3
    injection e1 with e1
    injection e1 with e1
    subst e1 e3
    exact ⟨g, 0, cur, e, rfl, hg, by omega⟩
theorem LgB.mono {a : Option Addr} {n m b : Nat} (h : LgB a n b) (hm : n ≤ m) : LgB a m b := ⟨by have := h.1; omega, h.2⟩
/-- A row of Froms that may be written, and whose rows' rooms are there, too, each in a block of its own. -/
structure FrsSp (S : Nat → Prop) (w : World) (a : Option Addr) (len : Nat) (n : Frs) (A : Nat → Option Addr) (C : Nat → Nat) : Prop extends FrsOwn S w a len n A C where
  sp : ∀ i, i < len → Spare w (A i) (C i)
  sblk : ∀ i, i < len → ∀ b, LgB (A i) (C i) b → S b ∧ ¬ LgB a len b
  spart : ∀ i j, i < len → j < len → i ≠ j → ∀ b, LgB (A i) (C i) b → ¬ LgB (A j) (C j) b
theorem FrsSp.blks {S : Nat → Prop} {w w' : World} {a : Option Addr} {len : Nat} {n : Frs} {A : Nat → Option Addr} {C : Nat → Nat} (h : FrsSp S w a len n A C)
    (hb : ∀ b, b < w.heap.size → S b → w'.heap[b]? = w.heap[b]?) : FrsSp S w' a len n A C :=
  ⟨h.toFrsOwn.blks hb, fun i hi => (h.sp i hi).blk fun b hl => hb b ((h.sp i hi).lt hl) (h.sblk i hi b hl).1, h.sblk, h.spart⟩
theorem FrsSp.below {S : Nat → Prop} {w w' : World} {a : Option Addr} {len : Nat} {n : Frs} {A : Nat → Option Addr} {C : Nat → Nat} (h : FrsSp S w a len n A C) (hb : Below w.heap.size w w') : FrsSp S w' a len n A C :=
  h.blks fun b hl _ => hb.block b hl
theorem FrsSp.kept {S T : Nat → Prop} {w w' : World} {a : Option Addr} {len : Nat} {n : Frs} {A : Nat → Option Addr} {C : Nat → Nat} (h : FrsSp S w a len n A C) (hk : Kept T w w') (hd : ∀ b, S b → ¬ T b) : FrsSp S w' a len n A C :=
  h.blks fun b hl hs => hk.block b hl (hd b hs)
theorem FrsSp.mono {S T : Nat → Prop} {w : World} {a : Option Addr} {len : Nat} {n : Frs} {A : Nat → Option Addr} {C : Nat → Nat} (h : FrsSp S w a len n A C) (hm : ∀ b, S b → T b) : FrsSp T w a len n A C :=
  ⟨h.toFrsOwn.mono hm, h.sp, fun i hi b hb => ⟨hm b (h.sblk i hi b hb).1, (h.sblk i hi b hb).2⟩, h.spart⟩

/-- The first k of n, in a row v that the call owns; P i: the block of the i-th one's row, C i its room. -/
structure FrsCp (w : World) (B : Nat) (v : Value) (k : Nat) (xs : List Value) (n : Frs) (P C : Nat → Nat) : Prop where
  own : w.ownsRow B 159 2 v k xs
  each : ∀ i, i < k → xs[i * 2]? = some (.int .i64 (frAt n i).1) ∧ xs[i * 2 + 1]? = some (.slice (some ⟨P i, 0, none⟩) (frAt n i).2.length (C i))
  late : ∀ i, i < k → InLg w (some ⟨P i, 0, none⟩) (frAt n i).2.length (frAt n i).2 ∧ LgFree w (some ⟨P i, 0, none⟩) (frAt n i).2.length
  blk : ∀ i, i < k → B ≤ P i ∧ P i < w.heap.size ∧ v.ownBlock ≠ some (P i)
  chain : ∀ i j, i < j → j < k → P i < P j
  room : ∀ i, i < k → (frAt n i).2.length ≤ C i
  sp : ∀ i, i < k → Spare w (some ⟨P i, 0, none⟩) (C i)
theorem frsCp_zero (w : World) (B : Nat) (n : Frs) (P C : Nat → Nat) : FrsCp w B (.slice none 0 0) 0 [] n P C :=
  ⟨World.ownsRow_nil w B _ _, fun i h => by omega, fun i h => by omega, fun i h => by omega, fun i j _ h => by omega, fun i h => by omega, fun i h => by omega⟩
theorem cp_own_below {w w' : World} {base : Nat} {e : TypeId} {size : Nat} {v : Value} {n : Nat} {xs : List Value} (h : w.ownsRow base e size v n xs) (hb : Below w.heap.size w w') : w'.ownsRow base e size v n xs := by
  refine ⟨h.1, ?_⟩
  rcases h.2 with hn | ⟨g, cap, cur, rfl, hbg, hgg, rest⟩
  · exact .inl hn
  · exact .inr ⟨g, cap, cur, rfl, hbg, (hb.block g (Array.getElem?_eq_some_iff.1 hgg).1).trans hgg, rest⟩
theorem own_blk {w w' : World} {base : Nat} {e : TypeId} {size : Nat} {v : Value} {n : Nat} {xs : List Value} (h : w.ownsRow base e size v n xs) (hb : ∀ b, b < w.heap.size → v.ownBlock = some b → w'.heap[b]? = w.heap[b]?) : w'.ownsRow base e size v n xs := by
  refine ⟨h.1, ?_⟩
  rcases h.2 with hn | ⟨g, cap, cur, rfl, hbg, hgg, rest⟩
  · exact .inl hn
  · exact .inr ⟨g, cap, cur, rfl, hbg, (hb g (Array.getElem?_eq_some_iff.1 hgg).1 rfl).trans hgg, rest⟩
theorem own_kept {T : Nat → Prop} {w w' : World} {base : Nat} {e : TypeId} {size : Nat} {v : Value} {n : Nat} {xs : List Value} (h : w.ownsRow base e size v n xs) (hk : Kept T w w') (hd : ∀ b, v.ownBlock = some b → ¬ T b) : w'.ownsRow base e size v n xs :=
  own_blk h fun b hb he => hk.block b hb (hd b he)
theorem own_base {w : World} {base base' : Nat} {e : TypeId} {size : Nat} {v : Value} {n : Nat} {xs : List Value} (h : w.ownsRow base e size v n xs) (hb : base' ≤ base) : w.ownsRow base' e size v n xs :=
  ⟨h.1, h.2.elim .inl fun ⟨g, cap, cur, he, hg, r⟩ => .inr ⟨g, cap, cur, he, Nat.le_trans hb hg, r⟩⟩
theorem FrsCp.below {w w' : World} {B : Nat} {v : Value} {k : Nat} {xs : List Value} {n : Frs} {P C : Nat → Nat} (h : FrsCp w B v k xs n P C) (hb : Below w.heap.size w w') : FrsCp w' B v k xs n P C := by
  refine ⟨cp_own_below h.own hb, h.each, fun i hi => ?_, fun i hi => ?_, h.chain, h.room, fun i hi => (h.sp i hi).below hb⟩
  · obtain ⟨h1, h2⟩ := h.late i hi
    have hp := (h.blk i hi).2.1
    have hbk : ∀ b, LgB (some ⟨P i, 0, none⟩) (frAt n i).2.length b → w'.heap[b]? = w.heap[b]? := fun b hl => by
      obtain ⟨_, o, e⟩ := hl
      cases e
      exact hb.block _ hp
    exact ⟨h1.blk hbk, h2.blk hbk⟩
  · have := h.blk i hi
    exact ⟨this.1, Nat.lt_of_lt_of_le this.2.1 hb.size, this.2.2⟩
/-- A store elsewhere: into a block below all of it. -/
theorem FrsCp.store {w : World} {B : Nat} {v : Value} {k : Nat} {xs : List Value} {n : Frs} {P C : Nat → Nat} (h : FrsCp w B v k xs n P C) {p : Addr} (hp : p.block < B) (u : Value) : FrsCp (w.setCell p u) B v k xs n P C := by
  refine ⟨ownsRow_setCell_below h.own hp u, h.each, fun i hi => ?_, fun i hi => ?_, h.chain, h.room, fun i hi => (h.sp i hi).blk fun b hl => ?_⟩
  · obtain ⟨h1, h2⟩ := h.late i hi
    have hb := (h.blk i hi).1
    have hbk : ∀ b, LgB (some ⟨P i, 0, none⟩) (frAt n i).2.length b → (w.setCell p u).heap[b]? = w.heap[b]? := fun b hl => by
      obtain ⟨_, o, e⟩ := hl
      cases e
      exact Below.heap_setCell _ _ _ _ (by omega)
    exact ⟨h1.blk hbk, h2.set _ _⟩
  · have := h.blk i hi
    exact ⟨this.1, by simpa using this.2.1, this.2.2⟩
  · obtain ⟨_, o, e⟩ := hl
    cases e
    have hb := (h.blk i hi).1
    exact Below.heap_setCell _ _ _ _ (by omega)
/-- One From more behind the others. -/
theorem frsCp_succ {w w' : World} {B g' cap' k p c : Nat} {v : Value} {xs : List Value} {n : Frs} {P C : Nat → Nat} (h : FrsCp w B v k xs n P C)
    (hown : w'.ownsRow B 159 2 (.slice (some ⟨g', 0, none⟩) (k + 1) cap') (k + 1) (xs ++ [.int .i64 (frAt n k).1, .slice (some ⟨p, 0, none⟩) (frAt n k).2.length c]))
    (hgr : w.grownBy w' v.ownBlock) (hat : v.ownBlock = some g' ∨ g' = w.heap.size) (i1 : InLg w (some ⟨p, 0, none⟩) (frAt n k).2.length (frAt n k).2) (o1 : LgFree w (some ⟨p, 0, none⟩) (frAt n k).2.length)
    (hp : B ≤ p) (hpw : p < w.heap.size) (hpv : v.ownBlock ≠ some p) (hnew : ∀ i, i < k → P i < p) (hroom : (frAt n k).2.length ≤ c) (hsp : Spare w (some ⟨p, 0, none⟩) c) :
    FrsCp w' B (.slice (some ⟨g', 0, none⟩) (k + 1) cap') (k + 1) (xs ++ [.int .i64 (frAt n k).1, .slice (some ⟨p, 0, none⟩) (frAt n k).2.length c]) n (fun i => if i = k then p else P i) (fun i => if i = k then c else C i) := by
  have hl : xs.length = k * 2 := h.own.1
  have hsz := hgr.size
  have keep : ∀ {z len : Nat} {l : Lg}, v.ownBlock ≠ some z → z < w.heap.size → InLg w (some ⟨z, 0, none⟩) len l → LgFree w (some ⟨z, 0, none⟩) len → InLg w' (some ⟨z, 0, none⟩) len l ∧ LgFree w' (some ⟨z, 0, none⟩) len := fun {z len l} hz lz hi hf => by
    have hbk : ∀ b, LgB (some ⟨z, 0, none⟩) len b → w'.heap[b]? = w.heap[b]? := fun b hl => by
      obtain ⟨_, o, e⟩ := hl
      cases e
      exact hgr.block z lz (fun e => hz e.symm)
    exact ⟨hi.blk hbk, hf.blk hbk⟩
  have hne : ∀ z, v.ownBlock ≠ some z → z < w.heap.size → (Value.slice (some ⟨g', 0, none⟩) (k + 1) cap').ownBlock ≠ some z := fun z hz lz e => by
    have e : g' = z := by simpa [Value.ownBlock] using e
    rcases hat with h | h
    · exact hz (by rw [h, e])
    · omega
  have keepS : ∀ {z c : Nat}, v.ownBlock ≠ some z → z < w.heap.size → Spare w (some ⟨z, 0, none⟩) c → Spare w' (some ⟨z, 0, none⟩) c := fun {z c} hz lz hs => hs.blk fun b hl => by
    obtain ⟨_, o, e⟩ := hl
    cases e
    exact hgr.block z lz (fun e => hz e.symm)
  refine ⟨hown, fun i hi => ?_, fun i hi => ?_, fun i hi => ?_, fun i j hij hj => ?_, fun i hi => ?_, fun i hi => ?_⟩
  · by_cases e : i = k
    · subst e
      simp only [↓reduceIte]
      constructor
      · rw [List.getElem?_append_right (by omega), hl, Nat.sub_self]; rfl
      · rw [List.getElem?_append_right (by omega), hl, Nat.add_sub_cancel_left]; rfl
    · simp only [if_neg e]
      obtain ⟨e0, e1⟩ := h.each i (by omega)
      constructor
      · rw [List.getElem?_append_left (by omega)]; exact e0
      · rw [List.getElem?_append_left (by omega)]; exact e1
  · by_cases e : i = k
    · subst e
      simp only [↓reduceIte]
      exact keep hpv hpw i1 o1
    · simp only [if_neg e]
      have hb := h.blk i (by omega)
      exact keep hb.2.2 hb.2.1 (h.late i (by omega)).1 (h.late i (by omega)).2
  · by_cases e : i = k
    · simp only [if_pos e]
      exact ⟨hp, by omega, hne p hpv hpw⟩
    · simp only [if_neg e]
      have hb := h.blk i (by omega)
      exact ⟨hb.1, by omega, hne _ hb.2.2 hb.2.1⟩
  · have e1 : i ≠ k := by omega
    simp only [if_neg e1]
    by_cases e : j = k
    · simp only [if_pos e]; exact hnew i (by omega)
    · simp only [if_neg e]; exact h.chain i j hij (by omega)
  · by_cases e : i = k
    · subst e; simp only [↓reduceIte]; exact hroom
    · simp only [if_neg e]; exact h.room i (by omega)
  · by_cases e : i = k
    · subst e; simp only [↓reduceIte]; exact keepS hpv hpw hsp
    · simp only [if_neg e]
      have hb := h.blk i (by omega)
      exact keepS hb.2.2 hb.2.1 (h.sp i (by omega))
theorem own_room {w : World} {base g n cap : Nat} {e : TypeId} {s : Nat} {xs : List Value} (h : w.ownsRow base e s (.slice (some ⟨g, 0, none⟩) n cap) n xs) : n ≤ cap := by
  rcases h.2 with ⟨h, _⟩ | ⟨g', c', cur, he, _, _, hc, _⟩
  · cases h
  · injection he with _ _ he; omega
/-- The whole row. -/
theorem FrsCp.whole {w : World} {B k : Nat} {v : Value} {xs : List Value} {n : Frs} {P C : Nat → Nat} (h : FrsCp w B v k xs n P C) (hk : n.length = k) (hm : k ≤ 2000000) (h0 : 0 < k) (hf : ∀ i, i < k → I64 (frAt n i).1) :
    ∃ g cap, v = .slice (some ⟨g, 0, none⟩) k cap ∧ B ≤ g ∧ g < w.heap.size ∧ FrsSp (fun b => B ≤ b ∧ b < w.heap.size) w (some ⟨g, 0, none⟩) k n (fun i => some ⟨P i, 0, none⟩) C := by
  rcases h.own.2 with ⟨_, h1⟩ | ⟨g, cap, cur, rfl, hb, hg, _⟩
  · omega
  have hlt : g < w.heap.size := (Array.getElem?_eq_some_iff.1 hg).1
  have hne : ∀ i, i < k → g ≠ P i := fun i hi e => (h.blk i hi).2.2 (by simp [Value.ownBlock, e])
  have hnl : ∀ (c : Nat → Nat) (i j : Nat), i < k → j < k → i ≠ j → ∀ b, LgB (some ⟨P i, 0, none⟩) (c i) b → ¬ LgB (some ⟨P j, 0, none⟩) (c j) b := fun c i j hi hj hij b hl hl' => by
    obtain ⟨_, o, e⟩ := hl
    obtain ⟨_, o', e'⟩ := hl'
    injection e with e
    injection e' with e'
    injection e with e
    injection e' with e'
    rcases Nat.lt_or_gt_of_ne hij with h1 | h1
    · have := h.chain i j h1 hj; omega
    · have := h.chain j i h1 hi; omega
  have hbl : ∀ (c : Nat → Nat) (i : Nat), i < k → ∀ b, LgB (some ⟨P i, 0, none⟩) (c i) b → (B ≤ b ∧ b < w.heap.size) ∧ ¬ LgB (some ⟨g, 0, none⟩) k b := fun c i hi b hl => by
    obtain ⟨_, o, e⟩ := hl
    cases e
    exact ⟨⟨(h.blk i hi).1, (h.blk i hi).2.1⟩, fun hl' => by obtain ⟨_, o, e⟩ := hl'; injection e with e; injection e with e; exact hne i hi e⟩
  refine ⟨g, cap, rfl, hb, hlt, ⟨hk, hm, fun _ => ⟨g, 0, rfl⟩, fun b o e i hi => ?_, fun b o e i hi => ?_, fun b hl => ?_, fun i hi => h.late i hi, hbl (fun i => (frAt n i).2.length), hnl (fun i => (frAt n i).2.length), hf, h.room⟩, h.sp, hbl C, hnl C⟩
  · cases e
    rw [Nat.zero_add]
    obtain ⟨e0, e1⟩ := h.each i hi
    exact ⟨(h.own.cellAt (i * 2) (by omega)).trans e0, (h.own.cellAt (i * 2 + 1) (by omega)).trans e1⟩
  · cases e
    rw [Nat.zero_add]
    exact h.own.frozenAt i
  · obtain ⟨_, o, e⟩ := hl
    cases e
    exact ⟨hb, hlt⟩
end Go.Proofs.YtdcahilfmhkmiaaGreatDoor
