/- A row of bytes that the call makes whole: make, copy from a string, read back as a string. -/
import Derived.Test.YtfjmcmdkmecgiaaBase
import Derived.Lib.BufferWrite
import Derived.Deep.WholeRow
namespace Go.Proofs.Ytfjmcmdkmecgiaa
open Go.RowKit

/-- The cells of a row of bytes. -/
def brow (l : List UInt8) : Array Value := (u8s l).toArray
theorem brow_size (l : List UInt8) : (brow l).size = l.length := by simp [brow, u8s]

theorem madeCells_bytes (n : Nat) : madeCells (Value.cells (.int .u8 0)) (n * 1) = brow (List.replicate n 0) := by
  apply Array.ext
  · simp [madeCells, brow, u8s]
  · intro i h1 h2
    simp [madeCells, brow, u8s, Value.cells, Nat.mod_one]

theorem run_make_bytes {P : Program} {t e : TypeId} {i : TypeInfo} (ht : P.underlying t = some (.slice e)) (hi : P.info? e = some i) (hz : i.zero = some (.int .u8 0)) (h1 : i.size = 1) (h2 : i.bytes = 1)
    (n : Nat) (L : Int) (hL : L = (n : Int)) (hn : n ≤ 1000000000) (w : World) :
    (Instr.makeSlice t (.int .i64 L) (.int .i64 L)).run P w = .ok (.slice (some ⟨w.heap.size, 0, none⟩) n n) (w.alloc (.cells (brow (List.replicate n 0)) e)) := by
  subst hL
  have h := run_make (P := P) w t e i (.int .u8 0) ht hi hz .i64 .i64 n n (by omega) (by omega) (by rw [h2]; omega) (by omega)
  rw [h, h1]
  simp only [Int.toNat_natCast]
  rw [madeCells_bytes]

theorem byteCells_u8s (l : List UInt8) : Lib.byteCells l = u8s l := rfl

/-- 'copy(row[o:], a)', the row the newest block. -/
theorem run_copy_bytes {P : Program} {dT sT ty e : TypeId} (hu : P.underlying dT = some (.slice e)) (hs : (P.info? e).map (·.size) = some 1) (w : World) (l a : List UInt8) (o dLen dCap g : Nat) (hg : g = w.heap.size) (hle : a.length ≤ dLen) (hfit : o + a.length ≤ l.length) :
    (Builtin.copy_ #[dT, sT] ty #[.slice (some ⟨g, o, none⟩) dLen dCap, gs a]).run P (w.alloc (.cells (brow l) e)) =
      .ok (.int .i64 (a.length : Int)) (w.alloc (.cells (brow (l.take o ++ a ++ l.drop (o + a.length))) e)) := by
  subst hg
  have hsz : (⟨a.toArray⟩ : ByteArray).size = a.length := by simp [ByteArray.size]
  have h := Lib.run_copy_row_string (P := P) (w.alloc (.cells (brow l) e)) dT sT ty e w.heap.size o dLen dCap ⟨a.toArray⟩ (brow l) e hu hs (heap_alloc_new w _) (by rw [hsz]; exact hle) (by rw [hsz, brow_size]; exact hfit)
  rw [h, World.setRow_alloc_new, hsz, byteCells_u8s]
  have e1 : ((brow l).toList.take o ++ u8s a ++ (brow l).toList.drop (o + a.length)).toArray = brow (l.take o ++ a ++ l.drop (o + a.length)) := by
    simp [brow, u8s, List.map_take, List.map_drop]
  rw [e1]
  rfl

theorem run_copy_none_bytes {P : Program} {dT sT ty e : TypeId} (hu : P.underlying dT = some (.slice e)) (hs : (P.info? e).map (·.size) = some 1) (w : World) (d : Option Addr) (dLen dCap : Nat) :
    (Builtin.copy_ #[dT, sT] ty #[.slice d dLen dCap, gs []]).run P w = .ok (.int .i64 0) w :=
  Lib.run_copy_empty_string w dT sT ty e d dLen dCap ⟨#[]⟩ hu (by cases h : P.info? e <;> simp_all) rfl

/-- 'string(row)', the row the newest block. -/
theorem run_string_bytes {P : Program} {src dst e : TypeId} (hs : P.underlying src = some (.slice e)) (he : P.underlying e = some (.int .u8)) (hd : P.underlying dst = some .string) (w : World) (l : List UInt8) (n cap g : Nat) (hg : g = w.heap.size) (hn : n = l.length) :
    (convert src dst (.slice (some ⟨g, 0, none⟩) n cap)).run P (w.alloc (.cells (brow l) e)) = .ok (gs l) (w.alloc (.cells (brow l) e)) := by
  subst hg; subst hn
  refine run_convert_bytes_back _ src dst e ⟨w.heap.size, 0, none⟩ cap l hs he hd ?_
  intro j hj
  have hadd : (⟨w.heap.size, 0, none⟩ : Addr).add j = ⟨w.heap.size, j, none⟩ := by unfold Addr.add; split <;> simp_all
  rw [hadd, World.cell?_alloc_mark w (brow l) e (0, 0) j]
  simp [brow, u8s, hj]

theorem size_info {P : Program} {e : TypeId} {z : Value} {size bytes : Nat} (h : (P.info? e).map (fun i => (i.zero, i.size, i.bytes)) = some (some z, size, bytes)) : (P.info? e).map (·.size) = some size := by
  cases hi : P.info? e with
  | none => simp [hi] at h
  | some i => simp [hi] at h ⊢; exact h.2.1
end Go.Proofs.Ytfjmcmdkmecgiaa
