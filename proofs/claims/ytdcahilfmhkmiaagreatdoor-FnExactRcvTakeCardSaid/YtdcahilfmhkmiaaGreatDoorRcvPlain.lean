/- What the calls of a Rcv answer, plainly. -/
import Derived.Test.YtdcahilfmhkmiaaGreatDoorSubDef
import Derived.Test.YtdcahilfmhkmiaaGreatDoorPutR
import Derived.Test.YtdcahilfmhkmiaaGreatDoorPackC
import Derived.Test.YtdcahilfmhkmiaaGreatDoorPackB
import Derived.Test.YtdcahilfmhkmiaaGreatDoorRcvOut
namespace Go.Proofs.YtdcahilfmhkmiaaGreatDoor
open Go.RowKit

/-- What a call hands back: the Rcv, Ack, Text, Done, Code. -/
structure RcR where
  rd : Int
  ps : List Pc
  ed : Int
  sz : Int
  cp : Int
  en : Int
  n : Frs
  kp : Int
  ks : Int
  kd : Int
  ke : Int
  t : List UInt8
  dn : Bool
  c : Int
/-- A code, and nothing beside it. -/
def rcBad (c : Int) : RcR := ⟨0, [], 0, 0, 0, 0, [], 0, 0, 0, 0, [], false, c⟩
def rcvNewN (paths size most : Int) : RcR :=
  if 1 ≤ paths ∧ paths ≤ 4 ∧ rcvOk 0 [] size size most (-1) (List.replicate paths.toNat (0, [])) then ⟨0, [], size, size, most, -1, List.replicate paths.toNat (0, []), 0, 0, 0, 0, [], false, 0⟩ else rcBad 1
/-- What is read: at most k of what is not missing. -/
def readT (rd : Int) (ps : List Pc) (k : Int) : List UInt8 := (fromN ps rd).take (min k ((fromN ps rd).length : Int)).toNat
def readSz (sz cp : Int) (len : Int) : Int := if sz ≤ 2 * len then min (2 * sz) cp else sz
def rcvReadN (rd : Int) (ps : List Pc) (ed sz cp en : Int) (n : Frs) (k : Int) : RcR :=
  if rcvOk rd ps ed sz cp en n ∧ 1 ≤ k then
    ⟨rd + ((readT rd ps k).length : Int), cutN ps (rd + ((readT rd ps k).length : Int)), max ed (min (rd + ((readT rd ps k).length : Int) + readSz sz cp ((readT rd ps k).length : Int)) 1000000), readSz sz cp ((readT rd ps k).length : Int), cp, en, n, 0, 0, 0, 0,
      readT rd ps k, decide (rd + ((readT rd ps k).length : Int) = en), 0⟩
  else rcBad 1
/-- The pieces behind one that is taken, with a code. -/
def takePs (rd : Int) (ps : List Pc) (ed : Int) (d : Int) (t : List UInt8) : List Pc × Int :=
  if max d rd < min (d + (t.length : Int)) ed then putR ps (max d rd) ((t.drop (max d rd - d).toNat).take (min (d + (t.length : Int)) ed - max d rd).toNat) else (ps, 0)
def takeEn (rd : Int) (ps : List Pc) (en e : Int) : Int := if e ≠ -1 ∧ en = -1 ∧ lastN rd ps ≤ e then e else en
/-- RcvTake of what is right, and a path that there is. -/
def takeN (rd : Int) (ps : List Pc) (ed sz cp en : Int) (n : Frs) (p s d : Int) (t : List UInt8) (e : Int) : RcR :=
  if (takePs rd ps ed d t).2 ≠ 0 then rcBad 9
  else if rcvOk rd (takePs rd ps ed d t).1 ed sz cp (takeEn rd (takePs rd ps ed d t).1 en e) (n.set p.toNat (subN (frAt n p.toNat) s)) then
    ⟨rd, (takePs rd ps ed d t).1, ed, sz, cp, takeEn rd (takePs rd ps ed d t).1 en e, n.set p.toNat (subN (frAt n p.toNat) s), p, (frAt (n.set p.toNat (subN (frAt n p.toNat) s)) p.toNat).1, rd + ((fromN (takePs rd ps ed d t).1 rd).length : Int), ed, [], false, 0⟩
  else rcBad 9
def rcvTakeN (rd : Int) (ps : List Pc) (ed sz cp en : Int) (n : Frs) (p s d : Int) (t : List UInt8) (e : Int) : RcR :=
  if ¬ rcvOk rd ps ed sz cp en n ∨ ¬ segOk p s d t e then rcBad 1
  else if (n.length : Int) ≤ p then rcBad 6
  else takeN rd ps ed sz cp en n p s d t e
/-- An answer in memory of its own. -/
def RcGot (w : World) (r : RcR) (e : Ending) (w' : World) : Prop :=
  ∃ pa pc fa fc, e = .returned (rcvOutV r.rd pa r.ps.length pc r.ed r.sz r.cp r.en fa r.n.length fc r.kp r.ks r.kd r.ke r.t r.dn r.c) ∧ InPcs w' pa r.ps.length r.ps ∧ (∀ b, LgB pa r.ps.length b → w.heap.size ≤ b ∧ b < w'.heap.size) ∧
    InFrs (fun b => w.heap.size ≤ b ∧ b < w'.heap.size) w' fa r.n.length r.n ∧ Below w.heap.size w w'
/-- The same where the answer's rows may be written, each in blocks of its own. -/
def RcOwn (w : World) (r : RcR) (e : Ending) (w' : World) : Prop :=
  ∃ pa pc fa fc A C S T, e = .returned (rcvOutV r.rd pa r.ps.length pc r.ed r.sz r.cp r.en fa r.n.length fc r.kp r.ks r.kd r.ke r.t r.dn r.c) ∧ PcsOwn S w' pa r.ps.length r.ps ∧ FrsOwn T w' fa r.n.length r.n A C ∧
    (∀ b, S b → ¬ T b) ∧ (∀ b, S b → w.heap.size ≤ b ∧ b < w'.heap.size) ∧ (∀ b, T b → w.heap.size ≤ b ∧ b < w'.heap.size) ∧ Below w.heap.size w w'
theorem RcOwn.got {w w' : World} {r : RcR} {e : Ending} (h : RcOwn w r e w') : RcGot w r e w' := by
  obtain ⟨pa, pc, fa, fc, A, C, S, T, rfl, hp, hf, _, hS, hT, hb⟩ := h
  exact ⟨pa, pc, fa, fc, rfl, hp.in', fun b hl => hS b (hp.blk b hl), hf.in'.mono hT, hb⟩
theorem rcBad_got {w w' : World} {c : Int} {pc fc : Nat} (hb : Below w.heap.size w w') : RcGot w (rcBad c) (.returned (rcvOutV 0 none 0 pc 0 0 0 0 none 0 fc 0 0 0 0 [] false c)) w' :=
  ⟨none, pc, none, fc, rfl, ⟨rfl, by simp [rcBad], (fun h => by simp [rcBad] at h), (fun _ _ _ i hi => by simp [rcBad] at hi), (fun i hi => by simp [rcBad] at hi)⟩, fun b hl => absurd hl.1 (by simp [rcBad]), inFrs_nil, hb⟩
theorem rcBad_own {w w' : World} {c : Int} {pc fc : Nat} (hb : Below w.heap.size w w') : RcOwn w (rcBad c) (.returned (rcvOutV 0 none 0 pc 0 0 0 0 none 0 fc 0 0 0 0 [] false c)) w' :=
  ⟨none, pc, none, fc, fun _ => none, fun _ => 0, fun _ => False, fun _ => False, rfl, pcsOwn_nil,
    ⟨rfl, by simp [rcBad], (fun h => by simp [rcBad] at h), (fun _ _ _ i hi => by simp [rcBad] at hi), (fun b o e i hi => by simp [rcBad] at hi), (fun b hl => absurd hl.1 (by simp [rcBad])), (fun i hi => by simp [rcBad] at hi), (fun i hi => by simp [rcBad] at hi), (fun i j hi => by simp [rcBad] at hi), (fun i hi => by simp [rcBad] at hi), (fun i hi => by simp [rcBad] at hi)⟩,
    fun _ h => h.elim, fun _ h => h.elim, fun _ h => h.elim, hb⟩
/-- An answer in memory of its own, whose rows' rooms are its own, too. -/
def RcSp (w : World) (r : RcR) (e : Ending) (w' : World) : Prop :=
  ∃ pa pc fa fc A C T, e = .returned (rcvOutV r.rd pa r.ps.length pc r.ed r.sz r.cp r.en fa r.n.length fc r.kp r.ks r.kd r.ke r.t r.dn r.c) ∧ InPcs w' pa r.ps.length r.ps ∧ w'.ownsRow w.heap.size 121 2 (.slice pa r.ps.length pc) r.ps.length (pv r.ps) ∧
    FrsSp T w' fa r.n.length r.n A C ∧ (∀ b, T b → (w.heap.size ≤ b ∧ b < w'.heap.size) ∧ (Value.slice pa r.ps.length pc).ownBlock ≠ some b) ∧ Below w.heap.size w w'
theorem RcSp.got {w w' : World} {r : RcR} {e : Ending} (h : RcSp w r e w') : RcGot w r e w' := by
  obtain ⟨pa, pc, fa, fc, A, C, T, rfl, hp, ho, hf, hT, hb⟩ := h
  exact ⟨pa, pc, fa, fc, rfl, hp, fun b hl => by obtain ⟨_, o, e⟩ := hl; exact ho.lt b (by rw [e]; rfl), hf.toFrsOwn.in'.mono (fun b e => (hT b e).1), hb⟩
theorem frsSp_nil {w : World} : FrsSp (fun _ => False) w none 0 [] (fun _ => none) (fun _ => 0) :=
  ⟨⟨rfl, by omega, (fun h => by omega), (fun _ _ _ i hi => by omega), (fun b o e i hi => by omega), (fun b hl => absurd hl.1 (by omega)), (fun i hi => by omega), (fun i hi => by omega), (fun i j hi => by omega), (fun i hi => by omega), (fun i hi => by omega)⟩, (fun i hi => by omega), (fun i hi => by omega), (fun i j hi => by omega)⟩
theorem rcBad_sp {w w' : World} {c : Int} (hb : Below w.heap.size w w') : RcSp w (rcBad c) (.returned (rcvOutV 0 none 0 0 0 0 0 0 none 0 0 0 0 0 0 [] false c)) w' :=
  ⟨none, 0, none, 0, fun _ => none, fun _ => 0, fun _ => False, rfl, ⟨rfl, by simp [rcBad], (fun h => by simp [rcBad] at h), (fun _ _ _ i hi => by simp [rcBad] at hi), (fun i hi => by simp [rcBad] at hi)⟩, World.ownsRow_nil _ _ _ _, frsSp_nil, fun b h => h.elim, hb⟩
theorem inPcs_none {w : World} {a : Option Addr} : InPcs w a 0 [] := ⟨rfl, by omega, (fun h => by omega), (fun _ _ _ i hi => by omega), (fun i hi => by omega)⟩
/-- A store of fourteen cells. -/
theorem kept14 (W : World) (g : Nat) (v0 v1 v2 v3 v4 v5 v6 v7 v8 v9 v10 v11 v12 v13 : Value) : Kept (fun b => b = g) W (((((((((((((((W).setCell ⟨g, 0, none⟩ v0).setCell ⟨g, 1, none⟩ v1).setCell ⟨g, 2, none⟩ v2).setCell ⟨g, 3, none⟩ v3).setCell ⟨g, 4, none⟩ v4).setCell ⟨g, 5, none⟩ v5).setCell ⟨g, 6, none⟩ v6).setCell ⟨g, 7, none⟩ v7).setCell ⟨g, 8, none⟩ v8).setCell ⟨g, 9, none⟩ v9).setCell ⟨g, 10, none⟩ v10).setCell ⟨g, 11, none⟩ v11).setCell ⟨g, 12, none⟩ v12).setCell ⟨g, 13, none⟩ v13) :=
  ((((((((((((((kept_set (S := fun b => b = g) _ g 0 v0 rfl)).trans (kept_set (S := fun b => b = g) _ g 1 v1 rfl)).trans (kept_set (S := fun b => b = g) _ g 2 v2 rfl)).trans (kept_set (S := fun b => b = g) _ g 3 v3 rfl)).trans (kept_set (S := fun b => b = g) _ g 4 v4 rfl)).trans (kept_set (S := fun b => b = g) _ g 5 v5 rfl)).trans (kept_set (S := fun b => b = g) _ g 6 v6 rfl)).trans (kept_set (S := fun b => b = g) _ g 7 v7 rfl)).trans (kept_set (S := fun b => b = g) _ g 8 v8 rfl)).trans (kept_set (S := fun b => b = g) _ g 9 v9 rfl)).trans (kept_set (S := fun b => b = g) _ g 10 v10 rfl)).trans (kept_set (S := fun b => b = g) _ g 11 v11 rfl)).trans (kept_set (S := fun b => b = g) _ g 12 v12 rfl)).trans (kept_set (S := fun b => b = g) _ g 13 v13 rfl)
theorem Box.frz14 {w : World} {g : Nat} {v0 v1 v2 v3 v4 v5 v6 v7 v8 v9 v10 v11 v12 v13 : Value} (k : Box w g [v0, v1, v2, v3, v4, v5, v6, v7, v8, v9, v10, v11, v12, v13]) :
    w.frozen? ⟨g, 0, none⟩ = false ∧ w.frozen? ⟨g, 1, none⟩ = false ∧ w.frozen? ⟨g, 2, none⟩ = false ∧ w.frozen? ⟨g, 3, none⟩ = false ∧ w.frozen? ⟨g, 4, none⟩ = false ∧ w.frozen? ⟨g, 5, none⟩ = false ∧ w.frozen? ⟨g, 6, none⟩ = false ∧ w.frozen? ⟨g, 7, none⟩ = false ∧ w.frozen? ⟨g, 8, none⟩ = false ∧ w.frozen? ⟨g, 9, none⟩ = false ∧ w.frozen? ⟨g, 10, none⟩ = false ∧ w.frozen? ⟨g, 11, none⟩ = false ∧ w.frozen? ⟨g, 12, none⟩ = false ∧ w.frozen? ⟨g, 13, none⟩ = false :=
  ⟨k.free 0 (by simp), k.free 1 (by simp), k.free 2 (by simp), k.free 3 (by simp), k.free 4 (by simp), k.free 5 (by simp), k.free 6 (by simp), k.free 7 (by simp), k.free 8 (by simp), k.free 9 (by simp), k.free 10 (by simp), k.free 11 (by simp), k.free 12 (by simp), k.free 13 (by simp)⟩
end Go.Proofs.YtdcahilfmhkmiaaGreatDoor
