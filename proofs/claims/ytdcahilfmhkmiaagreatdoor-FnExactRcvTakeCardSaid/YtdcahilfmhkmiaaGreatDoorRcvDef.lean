/- Which Rcvs are right: plainly, and as the model tells it. -/
import Derived.Test.YtdcahilfmhkmiaaGreatDoorRcv
import Derived.Test.YtdcahilfmhkmiaaGreatDoorPackA
namespace Go.Proofs.YtdcahilfmhkmiaaGreatDoor
open Go.RowKit

/-- The place behind the last byte that is kept. -/
def lastN (rd : Int) (ps : List Pc) : Int := if ps.length = 0 then rd else pcEnd (pcAt ps (ps.length - 1))
/-- The k-th number of a Late keeps the rule. -/
def lateOk (f : Fr) (k : Nat) : Prop := f.1 < lgAt f.2 k ∧ (0 ≤ lgAt f.2 k ∧ lgAt f.2 k ≤ 1000000) ∧ (0 < k → lgAt f.2 (k - 1) < lgAt f.2 k)
def lateUp (f : Fr) (k : Nat) : Prop := ∀ i, i < k → lateOk f i
def fromOk (f : Fr) : Prop := (0 ≤ f.1 ∧ f.1 ≤ 1000000) ∧ f.2.length ≤ 8 ∧ lateUp f f.2.length
def fromUp (n : Frs) (i : Nat) : Prop := ∀ j, j < i → fromOk (frAt n j)
def fromsOk (n : Frs) : Prop := (1 ≤ n.length ∧ n.length ≤ 4) ∧ fromUp n n.length
instance (f : Fr) (k : Nat) : Decidable (lateUp f k) := by unfold lateUp lateOk; infer_instance
instance (f : Fr) : Decidable (fromOk f) := by unfold fromOk; infer_instance
instance (n : Frs) : Decidable (fromsOk n) := by unfold fromsOk fromUp; infer_instance
theorem lateUp_succ {f : Fr} {k : Nat} (h : lateUp f k) (hk : lateOk f k) : lateUp f (k + 1) := fun i hi => by
  by_cases e : i = k
  · subst e; exact hk
  · exact h i (by omega)
theorem fromUp_succ {n : Frs} {k : Nat} (h : fromUp n k) (hk : fromOk (frAt n k)) : fromUp n (k + 1) := fun i hi => by
  by_cases e : i = k
  · subst e; exact hk
  · exact h i (by omega)
theorem not_late {f : Fr} {k : Nat} (hk : k < f.2.length) (h : ¬ lateOk f k) : ¬ fromOk f := fun hr => h (hr.2.2 k hk)
theorem not_from {n : Frs} {k : Nat} (hk : k < n.length) (h : ¬ fromOk (frAt n k)) : ¬ fromsOk n := fun hr => h (hr.2 k hk)
/-- A Rcv is right. -/
def rcvOk (rd : Int) (ps : List Pc) (ed sz cp en : Int) (n : Frs) : Prop :=
  (0 ≤ rd ∧ rd ≤ 1000000) ∧ (0 ≤ ed ∧ ed ≤ 1000000) ∧ (1 ≤ cp ∧ cp ≤ 64) ∧ (1 ≤ sz ∧ sz ≤ cp) ∧ right ps ∧ (rd ≤ ed ∧ ed ≤ rd + sz) ∧ (0 < ps.length → rd ≤ (pcAt ps 0).1) ∧ lastN rd ps ≤ ed ∧
    (en = -1 ∨ (lastN rd ps ≤ en ∧ en ≤ 1000000)) ∧ fromsOk n
instance (rd : Int) (ps : List Pc) (ed sz cp en : Int) (n : Frs) : Decidable (rcvOk rd ps ed sz cp en n) := by unfold rcvOk; infer_instance

set_option maxHeartbeats 1000000 in
set_option maxRecDepth 100000 in
theorem lastS_calls {rd ed sz cp en : Int} {pa fa : Option Addr} {pl pc fl fc : Nat} {ps : List Pc} {w : World} (hp : InPcs w pa pl ps) (hr : right ps) :
    Calls Tryz.prog 86 #[rcvV rd pa pl pc ed sz cp en fa fl fc] w fun e w' => e = .returned (.int .i64 (lastN rd ps)) ∧ Below w.heap.size w w' := by
  have hl := hp.long
  have hm := hp.most
  unfold rcvV
  by_cases h0 : pl = 0
  · have hq : lastN rd ps = rd := by unfold lastN; rw [if_pos (by omega)]
    rw [hq]
    subst h0
    clear hp hr hq hl
    go_enter Tryz.func86, Tryz.ntmps86
    go_wp2_with fail
    go_ret
    exact ⟨rfl, (Below.refl _ _).alloc (Nat.le_refl _) _⟩
  · have hq : lastN rd ps = pcEnd (pcAt ps (pl - 1)) := by unfold lastN; rw [if_neg (by omega), hl]
    rw [hq]
    obtain ⟨b, o, rfl⟩ := hp.there (by omega)
    obtain ⟨c0, c1⟩ := hp.cell b o rfl (pl - 1) (by omega)
    have hok := hr.2 (pl - 1) (by omega)
    have hft := hp.fit (pl - 1) (by omega)
    have hpos : 0 < pl := by omega
    have hb : b < w.heap.size := World.block_lt_of_cell? w _ c0
    generalize hpv : pcAt ps (pl - 1) = p at *
    obtain ⟨at0, t⟩ := p
    have hend := fun W => endS_calls (at0, t) W
    have hwr : wrap64 (pcEnd (at0, t)) = pcEnd (at0, t) := IntWalk.wrap64_in _ (by have := hok.2.1; have := hok.2.2.1; rw [hpv] at this; rw [hpv] at *; unfold pcEnd; dsimp only at *; omega)
    rw [hwr] at hend
    generalize pcEnd (at0, t) = E at *
    have hkm : IntKind.i64.wrap ((pl : Int) - 1) = ((pl - 1 : Nat) : Int) := by rw [IntWalk.i64_in _ (by omega)]; omega
    have HE := Lib.hid hend
    dsimp only at c0 c1
    generalize hpm : pl - 1 = pm at *
    have hpl : pl = pm + 1 := by omega
    subst hpl
    clear hp hr hq hl hend hwr hok hft hpv h0
    go_enter Tryz.func86, Tryz.ntmps86
    go_wp2_with fail
    refine (HE.out _).mono ?_
    rintro e w1 ⟨rfl, hb1⟩
    have HB := Lib.hid (((Below.refl _ _).alloc (Nat.le_refl _) _).trans (hb1.mono (by simp)))
    clear hb1 HE
    go_wp2_with fail
    go_ret
    exact ⟨rfl, HB.out⟩
end Go.Proofs.YtdcahilfmhkmiaaGreatDoor
