/- Small words that the other texts of this seat share: bytes as cells, a row of bytes that the call owns read as a string, and what is kept below a world. -/
import Derived.Handy
import Derived.Laws.IdiomStrings
import Derived.Lib.Hide
import Derived.Laws.BitsAllLaws
namespace Go.Proofs.Ytfjmcmdkmecgiaa
open Go.RowKit

/-- A list of bytes as a Go string. -/
abbrev gs (l : List UInt8) : Value := .string ⟨l.toArray⟩
/-- A list of bytes as cells. -/
def u8s (l : List UInt8) : List Value := l.map fun b => .int .u8 (b.toNat : Int)

theorem cat_ba (a b : List UInt8) : (⟨a.toArray⟩ : ByteArray) ++ ⟨b.toArray⟩ = ⟨(a ++ b).toArray⟩ := by
  apply ByteArray.ext; simp
theorem cat_gs (a b : List UInt8) : Ending.returned (.string ((⟨a.toArray⟩ : ByteArray) ++ ⟨b.toArray⟩)) = .returned (gs (a ++ b)) := by rw [cat_ba]

theorem u8s_append (a b : List UInt8) : u8s (a ++ b) = u8s a ++ u8s b := by simp [u8s]
theorem u8s_length (a : List UInt8) : (u8s a).length = a.length := by simp [u8s]

/-- 'string(b)', b a row that the call owns. -/
theorem run_own_string {P : Program} {w : World} {base : Nat} {src dst e : TypeId} {v : Value} {n : Nat} {l : List UInt8} (hs : P.underlying src = some (.slice e)) (he : P.underlying e = some (.int .u8)) (hd : P.underlying dst = some .string)
    (h : w.ownsRow base e 1 v n (u8s l)) : (convert src dst v).run P w = .ok (gs l) w := by
  have hn : n = l.length := by have := h.1; rw [u8s_length] at this; omega
  subst hn
  rcases h.2 with ⟨rfl, h0⟩ | ⟨g, cap, cur, rfl, hb, hg, hnc, hcm, hcs, htake⟩
  · have hl : l = [] := List.eq_nil_of_length_eq_zero h0
    subst hl
    rw [run_convert_bytes_string w src dst e none 0 0 hs he hd]
    rfl
  · refine run_convert_bytes_back w src dst e ⟨g, 0, none⟩ cap l hs he hd ?_
    intro j hj
    have hc := h.cells (g := g) rfl j (.int .u8 (l[j].toNat : Int)) (by simp [u8s, hj])
    exact hc

/-- One byte laid in a new cell, as 'append(b, x)' does first. -/
theorem byte_new (w : World) (e : TypeId) (x : Value) : ∀ (j : Nat) (u : Value), [x][j]? = some u → (w.alloc (.cells #[x] e)).cell? ((⟨w.heap.size, 0, none⟩ : Addr).add j) = some u := by
  intro j u hj
  match j, hj with
  | 0, hj => simp at hj; subst hj; simp [Addr.add]

theorem one_cell (k : IntKind) (n : Int) : ∀ u ∈ [Value.int k n], u.oneCell' = true := by intro u hu; simp at hu; subst hu; rfl

/-- After an append to a row of the call's own. -/
theorem below_grown {B : Nat} {a w w' : World} {v : Value} {e : TypeId} {n : Nat} {xs : List Value} (h : Below B a w) (hs : B ≤ w.heap.size) (hown : w.ownsRow B e 1 v n xs) (hg : w.grownBy w' v.ownBlock) : Below B a w' :=
  h.grown hg hs (fun k hk => (hown.lt k hk).1)

/-- What an append of one byte leaves. -/
theorem byte_step {B : Nat} {a w w' : World} {v v' : Value} {e e' : TypeId} {l : List UInt8} {b : UInt8} {n : Int} {x : Value} (hb : Below B a w) (hs : B ≤ w.heap.size) (hown : w.ownsRow B e 1 v l.length (u8s l)) (hn : (b.toNat : Int) = n)
    (hown' : w'.ownsRow B e 1 v' (l.length + 1) (u8s l ++ [.int .u8 n])) (hg : (w.alloc (.cells #[x] e')).grownBy w' v.ownBlock) :
    w'.ownsRow B e 1 v' (l ++ [b]).length (u8s (l ++ [b])) ∧ Below B a w' := by
  subst hn
  refine ⟨?_, ?_⟩
  · rw [u8s_append]; simpa [u8s] using hown'
  · exact (hb.alloc hs _).grown hg (by simp; omega) (fun k hk => (hown.lt k hk).1)

theorem cell_kept {w w2 : World} {o : Obj} (hb : Below (w.alloc o).heap.size (w.alloc o) w2) (i : Nat) : w2.cell? ⟨w.heap.size, i, none⟩ = (w.alloc o).cell? ⟨w.heap.size, i, none⟩ :=
  hb.cell (p := ⟨w.heap.size, i, none⟩) (by simp)
theorem size_kept {w w2 : World} {o : Obj} (hb : Below (w.alloc o).heap.size (w.alloc o) w2) : w.heap.size < w2.heap.size := by have := hb.size; simp at this; omega

theorem bcell {W w1 : World} (hb : Below W.heap.size W w1) : (∀ b o, b < W.heap.size → w1.cell? ⟨b, o, none⟩ = W.cell? ⟨b, o, none⟩) ∧ (∀ b o, b < W.heap.size → w1.frozen? ⟨b, o, none⟩ = W.frozen? ⟨b, o, none⟩) :=
  ⟨fun b o h => hb.cell (p := ⟨b, o, none⟩) h, fun b o h => hb.frozen (p := ⟨b, o, none⟩) h⟩
theorem ret_int {k : IntKind} {a b : Int} (h : a = b) : Ending.returned (.int k a) = .returned (.int k b) := by rw [h]
theorem ret_bool {a b : Bool} (h : a = b) : Ending.returned (.bool a) = .returned (.bool b) := by rw [h]
theorem val_int {k : IntKind} {a b : Int} (h : a = b) : Value.int k a = .int k b := by rw [h]

theorem i64_bounds {n : Int} (h : (Lit.int .i64 n).wf = true) : -9223372036854775808 ≤ n ∧ n ≤ 9223372036854775807 := by
  simp only [Lit.wf, Bool.and_eq_true, decide_eq_true_eq] at h
  have h1 : IntKind.i64.min = -9223372036854775808 := by decide
  have h2 : IntKind.i64.max = 9223372036854775807 := by decide
  rw [h1, h2] at h
  exact h

/-- '^x' of a uint64 and of a uint32. -/
theorem not_u64 (y : Int) (h0 : 0 ≤ y) (h1 : y < 18446744073709551616) : bits .xor .u64 IntKind.u64.max y = 18446744073709551615 - y := by
  obtain ⟨n, rfl⟩ := Int.eq_ofNat_of_zero_le h0
  have hm : IntKind.u64.max = ((18446744073709551615 : Nat) : Int) := by decide
  rw [hm, u64_xor_nat _ _ (by omega) (by omega)]
  have : 18446744073709551615 ^^^ n = 18446744073709551615 - n := by
    have e := BitVec.allOnes_xor (w := 64) (x := BitVec.ofNat 64 n)
    have e2 := congrArg BitVec.toNat e
    rw [BitVec.toNat_xor, BitVec.toNat_not, BitVec.toNat_ofNat, Nat.mod_eq_of_lt (by omega)] at e2
    simpa using e2
  rw [this]; omega
theorem not_u32 (y : Int) (h0 : 0 ≤ y) (h1 : y < 4294967296) : bits .xor .u32 IntKind.u32.max y = 4294967295 - y := by
  obtain ⟨n, rfl⟩ := Int.eq_ofNat_of_zero_le h0
  have hm : IntKind.u32.max = ((4294967295 : Nat) : Int) := by decide
  rw [hm, u32_xor_nat _ _ (by omega) (by omega)]
  have : 4294967295 ^^^ n = 4294967295 - n := by
    have e := BitVec.allOnes_xor (w := 32) (x := BitVec.ofNat 32 n)
    have e2 := congrArg BitVec.toNat e
    rw [BitVec.toNat_xor, BitVec.toNat_not, BitVec.toNat_ofNat, Nat.mod_eq_of_lt (by omega)] at e2
    simpa using e2
  rw [this]; omega
end Go.Proofs.Ytfjmcmdkmecgiaa
