/- Words that both taking and reading want. -/
import Derived.Test.YtdcahilfmhkmiaaGreatDoorRcvPlain
import Derived.Test.YtdcahilfmhkmiaaGreatDoorRcvCopy
namespace Go.Proofs.YtdcahilfmhkmiaaGreatDoor
open Go.RowKit

theorem pcs_of_own {w : World} {B len cap : Nat} {a : Option Addr} {l : List Pc} (h : w.ownsRow B 121 2 (.slice a len cap) len (pv l)) (hl : l.length = len) (hm : len ≤ 2000000)
    (hf : ∀ i, i < len → -9223372036854775808 ≤ (pcAt l i).1 ∧ (pcAt l i).1 ≤ 9223372036854775807 ∧ (pcAt l i).2.length ≤ 2000000) : PcsOwn (fun b => B ≤ b ∧ b < w.heap.size) w a len l := by
  cases a with
  | none =>
    have h0 : len = 0 := by
      rcases h.2 with ⟨_, h0⟩ | ⟨g, cap, cur, he, _⟩
      · exact h0
      · injection he with he1 _ _
        cases he1
    subst h0
    rw [List.eq_nil_of_length_eq_zero hl]
    exact pcsOwn_nil
  | some p =>
    rcases h.2 with ⟨he, _⟩ | ⟨g, cap', cur, he, _⟩
    · cases he
    · injection he with he1 he2 he3
      injection he1 with he1
      subst he1
      subst he3
      have hp := (pcs_own h hl hm hf)
      exact hp.1.mono (fun b e => by subst e; exact hp.2)
theorem Box.store14 {W : World} {g : Nat} {u0 u1 u2 u3 u4 u5 u6 u7 u8 u9 u10 u11 u12 u13 : Value} (k : Box W g [u0, u1, u2, u3, u4, u5, u6, u7, u8, u9, u10, u11, u12, u13]) (v0 v1 v2 v3 v4 v5 v6 v7 v8 v9 v10 v11 v12 v13 : Value) : Box (((((((((((((((W).setCell ⟨g, 0, none⟩ v0).setCell ⟨g, 1, none⟩ v1).setCell ⟨g, 2, none⟩ v2).setCell ⟨g, 3, none⟩ v3).setCell ⟨g, 4, none⟩ v4).setCell ⟨g, 5, none⟩ v5).setCell ⟨g, 6, none⟩ v6).setCell ⟨g, 7, none⟩ v7).setCell ⟨g, 8, none⟩ v8).setCell ⟨g, 9, none⟩ v9).setCell ⟨g, 10, none⟩ v10).setCell ⟨g, 11, none⟩ v11).setCell ⟨g, 12, none⟩ v12).setCell ⟨g, 13, none⟩ v13) g [v0, v1, v2, v3, v4, v5, v6, v7, v8, v9, v10, v11, v12, v13] := ((((((((((((((k).set 0 v0).set 1 v1).set 2 v2).set 3 v3).set 4 v4).set 5 v5).set 6 v6).set 7 v7).set 8 v8).set 9 v9).set 10 v10).set 11 v11).set 12 v12).set 13 v13
end Go.Proofs.YtdcahilfmhkmiaaGreatDoor
