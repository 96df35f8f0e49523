/- A byte of a text by its place. -/
import Derived.Test.YtjcdcaannajnpaaFnEnv
namespace Go.Proofs.Ytjcdcaannajnpaa
open Go.RowKit

theorem index_gs {P : Program} {T : TypeId} (hT : P.underlying T = some .string) (t : List UInt8) (j : Int) (m : Nat) (hj : j = (m : Int)) (d : UInt8) (h : t[m]? = some d) (W : World) :
    (Instr.index T (gs t) (.int .i64 j)).run P W = .ok (.int .u8 (d.toNat : Int)) W := by
  subst hj
  obtain ⟨hm, rfl⟩ := List.getElem?_eq_some_iff.1 h
  have hz : (⟨t.toArray⟩ : ByteArray).size = t.length := by simp [ByteArray.size]
  show (Instr.index T (.string ⟨t.toArray⟩) (.int .i64 (m : Int))).run P W = _
  rw [run_index_string (P := P) (w := W) T ⟨t.toArray⟩ .i64 (m : Int) hT, dif_pos ⟨by omega, by omega⟩]
  rfl
end Go.Proofs.Ytjcdcaannajnpaa
