/- The model's l06Sub where the number is the one that is wanted. -/
import Derived.Test.YtmgefmjfefmaoaaDoorSubDef
import Derived.Deep.QuietTactic
import Derived.BigQuiet
namespace Go.Proofs.YtmgefmjfefmaoaaDoor
open Go.RowKit

theorem frs_set_set (n : Frs) (k : Nat) (p q : Fr) : (n.set k p).set k q = n.set k q := by simp [List.set_set]
theorem frsOwn_drew {S : Nat → Prop} {w : World} {a : Option Addr} {len : Nat} {n : Frs} {A : Nat → Option Addr} {C : Nat → Nat} (h : FrsOwn S w a len n A C) (m : Nat) : FrsOwn S (w.drewN m) a len n A C := h.blks (fun _ _ _ => rfl)
theorem kept_drewN {S : Nat → Prop} {a w : World} (h : Kept S a w) (m : Nat) : Kept S a (w.drewN m) := ⟨h.os, h.tape, h.output, h.size, h.block⟩

theorem runN_cons (k x : Int) (l : Lg) : runN k (x :: l) = if x = k then runN (k + 1) l else (k, x :: l) := rfl
theorem kept_same {S : Nat → Prop} {a w w' : World} (h : Kept S a w) (h1 : w'.os = w.os) (h2 : w'.tape = w.tape) (h3 : w'.output = w.output) (h4 : w'.heap = w.heap) : Kept S a w' :=
  ⟨h1.trans h.os, h2.trans h.tape, h3.trans h.output, by rw [h4]; exact h.size, fun b hb hs => by rw [h4]; exact h.block b hb hs⟩
theorem lenAt_of {w w' : World} {a : Addr} {x : Option Addr} {n c : Nat} (h : w.cell? a = some (.slice x n c)) (hh : w'.heap = w.heap) : lenAt w' a = n := by
  have h' : w'.cell? a = some (.slice x n c) := (World.cell?_of_block (w := w) (w' := w') (a := a) (by rw [hh])).trans h
  simp [lenAt, h']
end Go.Proofs.YtmgefmjfefmaoaaDoor
