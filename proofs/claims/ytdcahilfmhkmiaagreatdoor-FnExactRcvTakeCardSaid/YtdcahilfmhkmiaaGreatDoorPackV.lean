/- Small texts laid together: TakeL, Laid2, TakeQ10, TakeQ27, TakeQ8. -/
import Derived.Test.YtdcahilfmhkmiaaGreatDoorTakeN
import Derived.Test.YtdcahilfmhkmiaaGreatDoorTakeR
import Derived.Test.YtdcahilfmhkmiaaGreatDoorSegLaws
import Derived.Test.YtdcahilfmhkmiaaGreatDoorOpenRcv
import Derived.Deep.DeepCutAuto
import Derived.Test.YtdcahilfmhkmiaaGreatDoorAs
import Derived.Test.YtdcahilfmhkmiaaGreatDoorPackT
import Derived.LaidSub
import Derived.LaidMore
import Derived.ChangeArms

namespace Go.Proofs.YtdcahilfmhkmiaaGreatDoor
open Go.RowKit

def szSgN (t : List UInt8) (n : Int) : Int := if n < (t.length : Int) then -1 else n - (t.length : Int)
theorem szSegM_calls (p s d : Int) (t : List UInt8) (e n : Int) (w : World) (ht : t.length ≤ 9223372036854775807) (hn0 : 0 ≤ n) (hn1 : n ≤ 1048576) : Calls Tryz.prog 50 #[segV p s d t e, .int .i64 n] w fun x w' => x = .returned (.int .i64 (szSgN t n)) ∧ Below w.heap.size w w' := by
  by_cases h : n < (t.length : Int)
  · have hs : szSgN t n = -1 := by unfold szSgN; rw [if_pos h]
    have HS := Lib.hid hs; clear hs
    go_enter Tryz.func50, Tryz.ntmps50
    go_wp2
    all_goals first
      | (go_ret; exact ⟨ret_int (by rw [HS.out]), (Below.refl _ _).alloc (Nat.le_refl _) _⟩)
      | (exfalso; omega)
  · have hs : szSgN t n = n - (t.length : Int) := by unfold szSgN; rw [if_neg h]
    have HS := Lib.hid hs; clear hs
    go_enter Tryz.func50, Tryz.ntmps50
    go_wp2
    all_goals first
      | (go_ret; exact ⟨ret_int (by rw [HS.out]), (Below.refl _ _).alloc (Nat.le_refl _) _⟩)
      | (exfalso; omega)
theorem frsSum_le : ∀ (n : Frs), (∀ q ∈ n, q.2.length ≤ 8) → frsSum n ≤ 9 * n.length
  | [], _ => by simp [frsSum]
  | q :: r, h => by
    have h1 := h q (by simp)
    have h2 := frsSum_le r (fun x hx => h x (List.mem_cons_of_mem _ hx))
    simp only [frsSum, List.length_cons]
    omega
theorem rcvOk_small {rd ed sz cp en : Int} {ps : List Pc} {n : Frs} (h : rcvOk rd ps ed sz cp en n) : ps.length ≤ 40 ∧ frsSum n ≤ 36 := by
  obtain ⟨-, -, -, -, hr, -, -, -, -, hfr, hfu⟩ := h
  refine ⟨hr.1, ?_⟩
  have := frsSum_le n (fun q hq => by
    obtain ⟨k, hk, e⟩ := List.getElem_of_mem hq
    have := (hfu k hk).2.1
    rw [frAt_get hk, e] at this
    exact this)
  omega
theorem take_small (rd : Int) (ps : List Pc) (ed sz cp en : Int) (n : Frs) (p s d : Int) (t : List UInt8) (e : Int) : 1 + 2 * (rcvTakeN rd ps ed sz cp en n p s d t e).ps.length + frsSum (rcvTakeN rd ps ed sz cp en n p s d t e).n ≤ 90000000 := by
  have hb : ∀ c, 1 + 2 * (rcBad c).ps.length + frsSum (rcBad c).n ≤ 90000000 := fun c => by simp [rcBad, frsSum]
  unfold rcvTakeN
  split
  · exact hb 1
  · split
    · exact hb 6
    · unfold takeN
      split
      · exact hb 9
      · split
        · rename_i h
          have := rcvOk_small h
          dsimp only
          omega
        · exact hb 9
/-- The arguments' blocks. -/
structure ArgB (V : World) (a : Nat) (us ss : List Value) : Prop where
  one : Box V a us
  two : Box V (a + 1) ss
theorem ArgB.below {V V' : World} {a : Nat} {us ss : List Value} (h : ArgB V a us ss) (hb : Below V.heap.size V V') : ArgB V' a us ss := ⟨h.one.below hb, h.two.below hb⟩
theorem ArgB.kept {V V' : World} {a : Nat} {us ss : List Value} {S : Nat → Prop} (h : ArgB V a us ss) (hk : Kept S V V') (h0 : ¬ S a) (h1 : ¬ S (a + 1)) : ArgB V' a us ss := ⟨h.one.kept (hk.block _ h.one.lt h0), h.two.kept (hk.block _ h.two.lt h1)⟩
/-- What a region leaves in which the model takes. -/
def TkOut (w : World) (G : Nat) (r : RcR) (V : World) : Prop := ∃ pa pc fa fc, Box V G [.int .i64 r.rd, .slice pa r.ps.length pc, .int .i64 r.ed, .int .i64 r.sz, .int .i64 r.cp, .int .i64 r.en, .slice fa r.n.length fc, .int .i64 r.kp, .int .i64 r.ks, .int .i64 r.kd, .int .i64 r.ke, gs r.t, .bool r.dn, .int .i64 r.c] ∧ InPcs V pa r.ps.length r.ps ∧
  InFrs (fun b => b < V.heap.size ∧ b ≠ G) V fa r.n.length r.n ∧ (∀ b, LgB pa r.ps.length b → b < V.heap.size ∧ b ≠ G) ∧ w.heap.size ≤ G ∧ Below w.heap.size w V
/-- The same of the program, in memory of its own. -/
def TkOwn (w : World) (G : Nat) (r : RcR) (V : World) : Prop := ∃ pa pc fa fc A C S T, Box V G [.int .i64 r.rd, .slice pa r.ps.length pc, .int .i64 r.ed, .int .i64 r.sz, .int .i64 r.cp, .int .i64 r.en, .slice fa r.n.length fc, .int .i64 r.kp, .int .i64 r.ks, .int .i64 r.kd, .int .i64 r.ke, gs r.t, .bool r.dn, .int .i64 r.c] ∧ PcsOwn S V pa r.ps.length r.ps ∧ FrsOwn T V fa r.n.length r.n A C ∧
  (∀ b, S b → ¬ T b) ∧ (∀ b, S b → w.heap.size ≤ b ∧ b < V.heap.size ∧ b ≠ G) ∧ (∀ b, T b → w.heap.size ≤ b ∧ b < V.heap.size ∧ b ≠ G) ∧ w.heap.size ≤ G ∧ Below w.heap.size w V
theorem tkOut_store {w V : World} {G : Nat} {r : RcR} {pa fa : Option Addr} {pc fc : Nat} {S : Nat → Prop} (hA : Box V G [.int .i64 0, .slice none 0 0, .int .i64 0, .int .i64 0, .int .i64 0, .int .i64 0, .slice none 0 0, .int .i64 0, .int .i64 0, .int .i64 0, .int .i64 0, gs [], .bool false, .int .i64 0]) (hp : InPcs V pa r.ps.length r.ps) (hf : InFrs S V fa r.n.length r.n) (h1 : ∀ b, LgB pa r.ps.length b → b < V.heap.size ∧ b ≠ G) (h2 : ∀ b, S b → b < V.heap.size ∧ b ≠ G) (hG : w.heap.size ≤ G) (hb : Below w.heap.size w V) :
    TkOut w G r (((((((((((((((V).setCell ⟨G, 0, none⟩ (.int .i64 r.rd)).setCell ⟨G, 1, none⟩ (.slice pa r.ps.length pc)).setCell ⟨G, 2, none⟩ (.int .i64 r.ed)).setCell ⟨G, 3, none⟩ (.int .i64 r.sz)).setCell ⟨G, 4, none⟩ (.int .i64 r.cp)).setCell ⟨G, 5, none⟩ (.int .i64 r.en)).setCell ⟨G, 6, none⟩ (.slice fa r.n.length fc)).setCell ⟨G, 7, none⟩ (.int .i64 r.kp)).setCell ⟨G, 8, none⟩ (.int .i64 r.ks)).setCell ⟨G, 9, none⟩ (.int .i64 r.kd)).setCell ⟨G, 10, none⟩ (.int .i64 r.ke)).setCell ⟨G, 11, none⟩ (gs r.t)).setCell ⟨G, 12, none⟩ (.bool r.dn)).setCell ⟨G, 13, none⟩ (.int .i64 r.c)) := by
  have hK := kept14 V G (.int .i64 r.rd) (.slice pa r.ps.length pc) (.int .i64 r.ed) (.int .i64 r.sz) (.int .i64 r.cp) (.int .i64 r.en) (.slice fa r.n.length fc) (.int .i64 r.kp) (.int .i64 r.ks) (.int .i64 r.kd) (.int .i64 r.ke) (gs r.t) (.bool r.dn) (.int .i64 r.c)
  have hsz := hK.size
  exact ⟨pa, pc, fa, fc, hA.store14 (.int .i64 r.rd) (.slice pa r.ps.length pc) (.int .i64 r.ed) (.int .i64 r.sz) (.int .i64 r.cp) (.int .i64 r.en) (.slice fa r.n.length fc) (.int .i64 r.kp) (.int .i64 r.ks) (.int .i64 r.kd) (.int .i64 r.ke) (gs r.t) (.bool r.dn) (.int .i64 r.c), hp.blks (fun b hl hw => hK.block b hw (h1 b hl).2), (hf.kept hK (fun b e e' => (h2 b e).2 e')).mono (fun b e => ⟨Nat.lt_of_lt_of_le (h2 b e).1 hsz, (h2 b e).2⟩), fun b hl => ⟨Nat.lt_of_lt_of_le (h1 b hl).1 hsz, (h1 b hl).2⟩, hG, hb.trans (hK.toBelow hb.size (fun b hb e => by omega))⟩
theorem tkOwn_store {w V : World} {G : Nat} {r : RcR} {pa fa : Option Addr} {pc fc : Nat} {A : Nat → Option Addr} {C : Nat → Nat} {S T : Nat → Prop} (hA : Box V G [.int .i64 0, .slice none 0 0, .int .i64 0, .int .i64 0, .int .i64 0, .int .i64 0, .slice none 0 0, .int .i64 0, .int .i64 0, .int .i64 0, .int .i64 0, gs [], .bool false, .int .i64 0]) (hp : PcsOwn S V pa r.ps.length r.ps) (hf : FrsOwn T V fa r.n.length r.n A C) (hST : ∀ b, S b → ¬ T b) (h1 : ∀ b, S b → w.heap.size ≤ b ∧ b < V.heap.size ∧ b ≠ G) (h2 : ∀ b, T b → w.heap.size ≤ b ∧ b < V.heap.size ∧ b ≠ G) (hG : w.heap.size ≤ G) (hb : Below w.heap.size w V) :
    TkOwn w G r (((((((((((((((V).setCell ⟨G, 0, none⟩ (.int .i64 r.rd)).setCell ⟨G, 1, none⟩ (.slice pa r.ps.length pc)).setCell ⟨G, 2, none⟩ (.int .i64 r.ed)).setCell ⟨G, 3, none⟩ (.int .i64 r.sz)).setCell ⟨G, 4, none⟩ (.int .i64 r.cp)).setCell ⟨G, 5, none⟩ (.int .i64 r.en)).setCell ⟨G, 6, none⟩ (.slice fa r.n.length fc)).setCell ⟨G, 7, none⟩ (.int .i64 r.kp)).setCell ⟨G, 8, none⟩ (.int .i64 r.ks)).setCell ⟨G, 9, none⟩ (.int .i64 r.kd)).setCell ⟨G, 10, none⟩ (.int .i64 r.ke)).setCell ⟨G, 11, none⟩ (gs r.t)).setCell ⟨G, 12, none⟩ (.bool r.dn)).setCell ⟨G, 13, none⟩ (.int .i64 r.c)) := by
  have hK := kept14 V G (.int .i64 r.rd) (.slice pa r.ps.length pc) (.int .i64 r.ed) (.int .i64 r.sz) (.int .i64 r.cp) (.int .i64 r.en) (.slice fa r.n.length fc) (.int .i64 r.kp) (.int .i64 r.ks) (.int .i64 r.kd) (.int .i64 r.ke) (gs r.t) (.bool r.dn) (.int .i64 r.c)
  have hsz := hK.size
  exact ⟨pa, pc, fa, fc, A, C, S, T, hA.store14 (.int .i64 r.rd) (.slice pa r.ps.length pc) (.int .i64 r.ed) (.int .i64 r.sz) (.int .i64 r.cp) (.int .i64 r.en) (.slice fa r.n.length fc) (.int .i64 r.kp) (.int .i64 r.ks) (.int .i64 r.kd) (.int .i64 r.ke) (gs r.t) (.bool r.dn) (.int .i64 r.c), hp.kept hK (fun b e e' => (h1 b e).2.2 e'), hf.kept hK (fun b e e' => (h2 b e).2.2 e'), hST, fun b e => ⟨(h1 b e).1, Nat.lt_of_lt_of_le (h1 b e).2.1 hsz, (h1 b e).2.2⟩, fun b e => ⟨(h2 b e).1, Nat.lt_of_lt_of_le (h2 b e).2.1 hsz, (h2 b e).2.2⟩, hG, hb.trans (hK.toBelow hb.size (fun b hb e => by omega))⟩
end Go.Proofs.YtdcahilfmhkmiaaGreatDoor

namespace Go.Proofs.YtdcahilfmhkmiaaGreatDoor
open Go.RowKit Go.ChangeShapes Go.WideShapes Go.ChangeAt

theorem tab_laid : (Rows.laid_math_bits_deBruijn64tab : DataW Unit) = .agg (Lib.deBruijn64tab.map fun (n : Nat) => .lit (.int .u8 (n : Int))) := by kernel_rfl
theorem two_parts {W : World} (h : laidMetH Tryz.prog [("math/bits.deBruijn64tab", Rows.laid_math_bits_deBruijn64tab), ("errors.errorType", Rows.laid_errors_errorType)] W) :
    laidMet Tryz.prog [("math/bits.deBruijn64tab", Rows.laid_math_bits_deBruijn64tab)] W ∧ handlesMet Tryz.prog [("errors.errorType", Rows.laid_errors_errorType)] W := laidMetH_iff.1 h
theorem etCell_of_laid2 {W : World} (h : laidMetH Tryz.prog [("math/bits.deBruijn64tab", Rows.laid_math_bits_deBruijn64tab), ("errors.errorType", Rows.laid_errors_errorType)] W) : EtCell W :=
  etCell_of_laid (laidMetH_iff.2 (show laidMet Tryz.prog [] W ∧ handlesMet Tryz.prog [("errors.errorType", Rows.laid_errors_errorType)] W from ⟨laidMet_nil _ _, (two_parts h).2⟩))
theorem tzTab_of_laid2 {W : World} (h : laidMetH Tryz.prog [("math/bits.deBruijn64tab", Rows.laid_math_bits_deBruijn64tab), ("errors.errorType", Rows.laid_errors_errorType)] W) : TzTab W := by
  intro r hr
  obtain ⟨ps, ⟨g, t, cs, fuel, p, q, hg, ht, hv, hd, _, _⟩, _, _⟩ := (two_parts h).1
  obtain rfl := Option.some.inj ((show Tryz.prog.globalNamed "math/bits.deBruijn64tab" = some 1 by kernel_rfl).symm.trans hg)
  obtain rfl := Option.some.inj ((show (Tryz.prog.globals[1]?).map (·.type) = some 281 by kernel_rfl).symm.trans ht)
  rw [tab_laid] at hd
  obtain ⟨xs, m, _, ex, _, hl, hel⟩ := DataW.trod_array Tryz.underlying281 hd
  have c5 : Tryz.prog.cellsOf 5 = 1 := by kernel_rfl
  have hE := hel r hr
  rw [c5, Nat.mul_one, List.getElem?_eq_getElem (by omega)] at hE
  obtain ⟨z, e1, e2, _⟩ := DataW.trod_int Tryz.underlying5 hE
  have hlen : Lib.deBruijn64tab.length = 64 := by kernel_rfl
  have e3 : (xs.map (·.1)) = Lib.deBruijn64tab.map fun (n : Nat) => .lit (.int .u8 (n : Int)) := (DataW.agg.inj (Prod.mk.inj ex).1).symm
  have e4 : (xs.map (·.1))[r]? = (Lib.deBruijn64tab.map fun (n : Nat) => (DataW.lit (.int .u8 (n : Int)) : DataW Unit))[r]? := by rw [e3]
  rw [List.getElem?_map, List.getElem?_map, List.getElem?_eq_getElem (by omega : r < xs.length), List.getElem?_eq_getElem (by omega : r < Lib.deBruijn64tab.length), e2] at e4
  have hz : z = ((Lib.deBruijn64tab.getD r 0 : Nat) : Int) := by
    simp only [Option.map_some, Option.some.injEq, DataW.lit.injEq, Lit.int.injEq, true_and] at e4
    rw [e4, List.getD, List.getElem?_eq_getElem (by omega : r < Lib.deBruijn64tab.length)]; rfl
  rw [World.var?_cell hg hv r, ← hz]
  have : cs.toList[r]? = some (.int .u8 z) := by
    have h0 : ((cs.toList.drop r).take 1)[0]? = some (.int .u8 z) := by rw [e1]; rfl
    simpa using h0
  simpa using this
noncomputable def laidWorld2 (os : Os) : World :=
  let w0 := laidWorld os
  { w0 with heap := w0.heap.modify 1 fun
      | .cells _ t frozen => .cells (Lib.deBruijn64tab.map fun (n : Nat) => Value.int .u8 (n : Int)).toArray t frozen
      | o => o }
theorem laidWorld2_met (os : Os) (args : Array Value) : laidMetH Tryz.prog [("math/bits.deBruijn64tab", Rows.laid_math_bits_deBruijn64tab), ("errors.errorType", Rows.laid_errors_errorType)] ((laidWorld2 os).forCall (fun _ _ => 0) ⟨#[], args, []⟩).memory :=
  laidMetH_of_parts (laidMet_of_run' 8 (by kernel_rfl) (by kernel_rfl)) (by kernel_rfl)
end Go.Proofs.YtdcahilfmhkmiaaGreatDoor

namespace Go.Proofs.YtdcahilfmhkmiaaGreatDoor
open Go.RowKit

set_option maxHeartbeats 8000000 in
set_option maxRecDepth 200000 in
theorem takeReg10 {w V4 : World} {rd ed sz cp en : Int} {pa fa : Option Addr} {pc fc : Nat} {ps : List Pc} {n : Frs} {p s d : Int} {t : List UInt8} {e : Int} {r : RcR} {R : Ending → World → Prop} {K : Act → World → Prop} {u0 u1 u2 u4 u5 u6 u8 u9 u10 u11 u12 u13 u14 u15 u16 u17 u18 u19 u20 u21 u22 u23 u24 u25 u26 u27 u28 u29 u30 u31 u32 u33 u34 u35 u36 u37 u38 u39 u40 u41 u42 u43 u44 u45 u46 u47 u48 u49 u50 u51 u52 u53 u54 u55 u56 u57 u58 u59 u60 u61 u62 u63 u64 u65 u66 u67 u68 u69 u70 u71 u72 u73 u74 u75 u76 u77 u78 u79 u80 u81 : Value} {b7 xp xf : Nat} {SF : Nat → Prop} {XA : Nat → Option Addr} {XC : Nat → Nat} (wt : t.length ≤ 9223372036854775807) (hr : rcvTakeN rd ps ed sz cp en n p s d t e = r) (hb4 : Below w.heap.size w V4) (n4 : ArgB V4 w.heap.size [.int .i64 rd, .slice pa ps.length pc, .int .i64 ed, .int .i64 sz, .int .i64 cp, .int .i64 en, .slice fa n.length fc] [.int .i64 p, .int .i64 s, .int .i64 d, gs t, .int .i64 e]) (n7 : Box V4 b7 [.int .i64 rd, .slice (some ⟨xp, 0, none⟩) ps.length ps.length, .int .i64 ed, .int .i64 sz, .int .i64 cp, .int .i64 en, .slice (some ⟨xf, 0, none⟩) n.length n.length]) (hxp : PcsOwn (fun b => b = xp) V4 (some ⟨xp, 0, none⟩) ps.length ps) (hxf : FrsOwn SF V4 (some ⟨xf, 0, none⟩) n.length n XA XC) (hg : EtCell w) (htz : TzTab w)
    (hK : ∀ (t30 t31 t32 t33 : Value) (G : Nat) (V : World), TkOwn V4 G r V → K ⟨List.toArray (u0 :: u1 :: u2 :: .pointer (some ⟨w.heap.size + 1, 0, none⟩) :: u4 :: u5 :: u6 :: .pointer (some ⟨b7, 0, none⟩) :: .pointer (some ⟨G, 0, none⟩) :: u9 :: u10 :: u11 :: u12 :: u13 :: u14 :: u15 :: u16 :: u17 :: u18 :: u19 :: u20 :: u21 :: u22 :: u23 :: u24 :: u25 :: u26 :: u27 :: u28 :: u29 :: t30 :: t31 :: t32 :: t33 :: u34 :: u35 :: u36 :: u37 :: u38 :: u39 :: u40 :: u41 :: u42 :: u43 :: u44 :: u45 :: u46 :: u47 :: u48 :: u49 :: u50 :: u51 :: u52 :: u53 :: u54 :: u55 :: u56 :: u57 :: u58 :: u59 :: u60 :: u61 :: u62 :: u63 :: u64 :: u65 :: u66 :: u67 :: u68 :: u69 :: u70 :: u71 :: u72 :: u73 :: u74 :: u75 :: u76 :: u77 :: u78 :: u79 :: u80 :: u81 :: []), []⟩ V) :
    Code.wp Tryz.prog (Code.region 10 #[{ dst := some 30, op := Op.load 26 (Operand.tmp 7), type := 26, pos := "exact.go:2120", after := #[], guard := none }, { dst := some 31, op := Op.load 82 (Operand.tmp 3), type := 82, pos := "exact.go:2120", after := #[], guard := none }, { dst := some 32, op := Op.call { callee := Callee.value (Operand.func 52), args := #[Operand.tmp 31], argTypes := #[82] }, type := 28, pos := "exact.go:2120", after := #[{ on := 1, ground := Ground.data }], guard := none }, { dst := some 33, op := Op.call { callee := Callee.value (Operand.func 8), args := #[Operand.tmp 30, Operand.tmp 32], argTypes := #[26, 28] }, type := 34, pos := "exact.go:2120", after := #[{ on := 0, ground := Ground.data }, { on := 2, ground := Ground.data }, { on := 2, ground := Ground.chain }], guard := none }, { dst := some 8, op := Op.alloc 34, type := 0, pos := "exact.go:2120", after := #[], guard := none }, { dst := none, op := Op.store 34 (Operand.tmp 8) (Operand.tmp 33), type := 0, pos := "exact.go:2120", after := #[{ on := 4, ground := Ground.data }, { on := 3, ground := Ground.data }, { on := 3, ground := Ground.chain }, { on := 0, ground := Ground.phase }, { on := 1, ground := Ground.phase }, { on := 2, ground := Ground.phase }, { on := 3, ground := Ground.phase }, { on := 4, ground := Ground.phase }], guard := none }] true) (Exit.then K (bodyPost Tryz.prog Tryz.f5 R)) ⟨List.toArray (u0 :: u1 :: u2 :: .pointer (some ⟨w.heap.size + 1, 0, none⟩) :: u4 :: u5 :: u6 :: .pointer (some ⟨b7, 0, none⟩) :: u8 :: u9 :: u10 :: u11 :: u12 :: u13 :: u14 :: u15 :: u16 :: u17 :: u18 :: u19 :: u20 :: u21 :: u22 :: u23 :: u24 :: u25 :: u26 :: u27 :: u28 :: u29 :: u30 :: u31 :: u32 :: u33 :: u34 :: u35 :: u36 :: u37 :: u38 :: u39 :: u40 :: u41 :: u42 :: u43 :: u44 :: u45 :: u46 :: u47 :: u48 :: u49 :: u50 :: u51 :: u52 :: u53 :: u54 :: u55 :: u56 :: u57 :: u58 :: u59 :: u60 :: u61 :: u62 :: u63 :: u64 :: u65 :: u66 :: u67 :: u68 :: u69 :: u70 :: u71 :: u72 :: u73 :: u74 :: u75 :: u76 :: u77 :: u78 :: u79 :: u80 :: u81 :: []), []⟩ V4 := by
  have HTS := Lib.hid (fun W => toSeg_calls p s d t e W)
  unfold segV at HTS
  have HI := Lib.hid (fun (W : World) (a b : Option Addr) (S : Nat → Prop) (hp : InPcs W a ps.length ps) (hf : InFrs S W b n.length n) (hgW : EtCell W) (hzW : TzTab W) => rcvTakeI_calls (rd := rd) (ed := ed) (sz := sz) (cp := cp) (en := en) (pc := ps.length) (fc := n.length) hp hf p s d t e wt hgW hzW)
  unfold RcOwn rcvOutV at HI
  unfold rcvV segV at HI
  rw [hr] at HI
  have HB4 := Lib.hid hb4
  have N4 := Lib.hid n4
  have N7 := Lib.hid n7
  have XP := Lib.hid hxp
  have XF := Lib.hid hxf
  have HG := Lib.hid hg
  have HTZ := Lib.hid htz
  clear wt hr hb4 n4 n7 hxp hxf hg htz
  have HKK := Lib.hid hK
  clear hK
  refine wp_region_held_drew (S := (fun X => Below V4.heap.size V4 X)) (by kernel_rfl) ((Below.refl _ _).drew) (fun hHeld => ?_)
  refine wpAnyH_take (i := 0) (oi := _) (v := ?v2z0) rfl (by kernel_rfl) (by kernel_rfl) (by kernel_rfl) (fun _ _ _ h => h) (Or.inl ⟨by kernel_rfl, ?hy2z0⟩) (by with_reducible assumption) ?rest2z0
  case hy2z0 => (intro w hSw; (try dsimp only at hSw); obtain ⟨c0, c1, c2, c3, c4, c5, c6⟩ := (N7.out.below hSw).seven; go_simp; (try with_reducible rfl))
  (try simp only [Act.put, List.getElem_toArray, List.getElem_cons_zero, List.setIfInBounds_toArray, List.set_cons_succ, List.set_cons_zero])
  refine wpAnyH_take (i := 1) (oi := _) (v := ?v2z1) rfl (by kernel_rfl) (by kernel_rfl) (by kernel_rfl) (fun _ _ _ h => h) (Or.inl ⟨by kernel_rfl, ?hy2z1⟩) (by with_reducible assumption) ?rest2z1
  case hy2z1 => (intro w hSw; (try dsimp only at hSw); obtain ⟨e0, e1, e2, e3, e4⟩ := (N4.out.two.below hSw).five; go_simp; (try with_reducible rfl))
  (try simp only [Act.put, List.getElem_toArray, List.getElem_cons_succ, List.getElem_cons_zero, List.setIfInBounds_toArray, List.set_cons_succ, List.set_cons_zero])
  have HC : Below V4.heap.size V4 V4.drew := (Below.refl _ _).drew
  generalize V4.drew = v0 at *
  refine wpAnyH_ready (rs := [2, 4]) (by kernel_rfl) (by simp) (AllReadyH.cons (o := _) rfl (fun K hK => ?c2zc2) (AllReadyH.cons (o := _) rfl (fun K hK => ?c2za4) AllReadyH.nil))
  case c2zc2 =>
    go_simp
    refine (HTS.out _).mono ?_
    rintro e9 v1 ⟨rfl, hbN⟩
    go_simp
    refine hK.out _ _ (HC.trans (hbN.mono HC.size)) (fun hHeld2 => ?_)
    replace HC := HC.trans (hbN.mono HC.size)
    have hszv1 := hbN.size
    clear hHeld
    have hHeld := hHeld2
    clear hK K hHeld2 hbN
    (try simp only [Act.put, List.getElem_toArray, List.getElem_cons_succ, List.getElem_cons_zero, List.setIfInBounds_toArray, List.set_cons_succ, List.set_cons_zero])
    refine wpAnyH_ready (rs := [3, 4]) (by kernel_rfl) (by simp) (AllReadyH.cons (o := _) rfl (fun K hK => ?c2zcc3) (AllReadyH.cons (o := _) rfl (fun K hK => ?c2zca4) AllReadyH.nil))
    case c2zcc3 =>
      go_simp
      refine (HI.out _ _ _ _ (XP.out.below HC).in' (XF.out.below HC).in' (HG.out.below (HB4.out.trans (HC.mono HB4.out.size))) (HTZ.out.below (HB4.out.trans (HC.mono HB4.out.size)))).mono ?_
      rintro e9 v2 ⟨pa5, pc5, fa5, fc5, A5, C5, S5, T5, rfl, HT1, HT2, HT3, HT4, HT5, hbN⟩
      have hszS := HC.size
      go_simp
      refine hK.out _ _ (HC.trans (hbN.mono HC.size)) (fun hHeld2 => ?_)
      replace HC := HC.trans (hbN.mono HC.size)
      have hszv2 := hbN.size
      clear hHeld
      have hHeld := hHeld2
      clear hK K hHeld2 hbN
      (try simp only [Act.put, List.getElem_toArray, List.getElem_cons_succ, List.getElem_cons_zero, List.setIfInBounds_toArray, List.set_cons_succ, List.set_cons_zero])
      refine wpAnyH_ready (rs := [4]) (by kernel_rfl) (by simp) (AllReadyH.cons (o := _) rfl (fun K hK => ?c2zcca4) AllReadyH.nil)
      rw [if_pos (by kernel_rfl)]
      have HA := box_new v2 [.int .i64 0, .slice none 0 0, .int .i64 0, .int .i64 0, .int .i64 0, .int .i64 0, .slice none 0 0, .int .i64 0, .int .i64 0, .int .i64 0, .int .i64 0, gs [], .bool false, .int .i64 0] 34 (by simp)
      have hbN : Below v2.heap.size v2 (v2.alloc (.cells #[.int .i64 0, .slice none 0 0, .int .i64 0, .int .i64 0, .int .i64 0, .int .i64 0, .slice none 0 0, .int .i64 0, .int .i64 0, .int .i64 0, .int .i64 0, gs [], .bool false, .int .i64 0] 34)) := (Below.refl _ _).alloc (Nat.le_refl _) _
      have hsN : (v2.alloc (.cells #[.int .i64 0, .slice none 0 0, .int .i64 0, .int .i64 0, .int .i64 0, .int .i64 0, .slice none 0 0, .int .i64 0, .int .i64 0, .int .i64 0, .int .i64 0, gs [], .bool false, .int .i64 0] 34)).heap.size = v2.heap.size + 1 := by simp
      have HGL : V4.heap.size ≤ v2.heap.size := HC.size
      go_simp
      refine hK.out _ _ (HC.trans (hbN.mono HC.size)) (fun hHeld2 => ?_)
      generalize v2.alloc (.cells #[.int .i64 0, .slice none 0 0, .int .i64 0, .int .i64 0, .int .i64 0, .int .i64 0, .slice none 0 0, .int .i64 0, .int .i64 0, .int .i64 0, .int .i64 0, gs [], .bool false, .int .i64 0] 34) = v3 at *
      replace HC := HC.trans (hbN.mono HC.size)
      replace HT1 := HT1.below hbN
      replace HT2 := HT2.below hbN
      have hszv3 := hbN.size
      clear hHeld
      have hHeld := hHeld2
      clear hK K hHeld2 hbN
      (try simp only [Act.put, List.getElem_toArray, List.getElem_cons_succ, List.getElem_cons_zero, List.setIfInBounds_toArray, List.set_cons_succ, List.set_cons_zero])
      refine wpAnyH_ready (rs := [5]) (by kernel_rfl) (by simp) (AllReadyH.cons (o := _) rfl (fun K hK => ?c2zccas) AllReadyH.nil)
      rw [if_pos (by kernel_rfl)]
      obtain ⟨⟨d0, d1, d2, d3, d4, d5, d6⟩, d7, d8, d9, da, db, dc, dd⟩ := HA.fourteen
      obtain ⟨z0, z1, z2, z3, z4, z5, z6, z7, z8, z9, za, zb, zc, zd⟩ := HA.frz14
      have HE := tkOwn_store (pc := pc5) (fc := fc5) HA HT1 HT2 HT3 (fun b e => ⟨by have := HT4 b e; omega, by have := HT4 b e; omega, by have := HT4 b e; omega⟩) (fun b e => ⟨by have := HT5 b e; omega, by have := HT5 b e; omega, by have := HT5 b e; omega⟩) HGL HC
      have HE := Lib.hid HE
      clear HC HT1 HT2 HT3 HT4 HT5 hHeld HA
      go_simp
      refine hK.out _ _ ?_ (fun hHeld2 => ?_)
      · obtain ⟨_, _, _, _, _, _, _, _, _, _, _, _, _, _, _, hE⟩ := HE.out; exact hE
      clear hK K hHeld2 d0 d1 d2 d3 d4 d5 d6 d7 d8 d9 da db dc dd z0 z1 z2 z3 z4 z5 z6 z7 z8 z9 za zb zc zd
      (try simp only [Act.put, List.getElem_toArray, List.getElem_cons_succ, List.getElem_cons_zero, List.setIfInBounds_toArray, List.set_cons_succ, List.set_cons_zero])
      refine wpAnyH_done (by kernel_rfl) ?_ _
      exact HKK.out _ _ _ _ _ _ HE.out
    case c2zca4 =>
      rw [if_pos (by kernel_rfl)]
      have HA := box_new v1 [.int .i64 0, .slice none 0 0, .int .i64 0, .int .i64 0, .int .i64 0, .int .i64 0, .slice none 0 0, .int .i64 0, .int .i64 0, .int .i64 0, .int .i64 0, gs [], .bool false, .int .i64 0] 34 (by simp)
      have hbN : Below v1.heap.size v1 (v1.alloc (.cells #[.int .i64 0, .slice none 0 0, .int .i64 0, .int .i64 0, .int .i64 0, .int .i64 0, .slice none 0 0, .int .i64 0, .int .i64 0, .int .i64 0, .int .i64 0, gs [], .bool false, .int .i64 0] 34)) := (Below.refl _ _).alloc (Nat.le_refl _) _
      have hsN : (v1.alloc (.cells #[.int .i64 0, .slice none 0 0, .int .i64 0, .int .i64 0, .int .i64 0, .int .i64 0, .slice none 0 0, .int .i64 0, .int .i64 0, .int .i64 0, .int .i64 0, gs [], .bool false, .int .i64 0] 34)).heap.size = v1.heap.size + 1 := by simp
      have HGL : V4.heap.size ≤ v1.heap.size := HC.size
      go_simp
      refine hK.out _ _ (HC.trans (hbN.mono HC.size)) (fun hHeld2 => ?_)
      generalize v1.alloc (.cells #[.int .i64 0, .slice none 0 0, .int .i64 0, .int .i64 0, .int .i64 0, .int .i64 0, .slice none 0 0, .int .i64 0, .int .i64 0, .int .i64 0, .int .i64 0, gs [], .bool false, .int .i64 0] 34) = v4 at *
      replace HC := HC.trans (hbN.mono HC.size)
      have hszv4 := hbN.size
      clear hHeld
      have hHeld := hHeld2
      clear hK K hHeld2 hbN
      (try simp only [Act.put, List.getElem_toArray, List.getElem_cons_succ, List.getElem_cons_zero, List.setIfInBounds_toArray, List.set_cons_succ, List.set_cons_zero])
      refine wpAnyH_ready (rs := [3]) (by kernel_rfl) (by simp) (AllReadyH.cons (o := _) rfl (fun K hK => ?c2zcac3) AllReadyH.nil)
      go_simp
      refine (HI.out _ _ _ _ (XP.out.below HC).in' (XF.out.below HC).in' (HG.out.below (HB4.out.trans (HC.mono HB4.out.size))) (HTZ.out.below (HB4.out.trans (HC.mono HB4.out.size)))).mono ?_
      rintro e9 v5 ⟨pa5, pc5, fa5, fc5, A5, C5, S5, T5, rfl, HT1, HT2, HT3, HT4, HT5, hbN⟩
      have hszS := HC.size
      go_simp
      refine hK.out _ _ (HC.trans (hbN.mono HC.size)) (fun hHeld2 => ?_)
      replace HC := HC.trans (hbN.mono HC.size)
      replace HA := HA.below hbN
      have hszv5 := hbN.size
      clear hHeld
      have hHeld := hHeld2
      clear hK K hHeld2 hbN
      (try simp only [Act.put, List.getElem_toArray, List.getElem_cons_succ, List.getElem_cons_zero, List.setIfInBounds_toArray, List.set_cons_succ, List.set_cons_zero])
      refine wpAnyH_ready (rs := [5]) (by kernel_rfl) (by simp) (AllReadyH.cons (o := _) rfl (fun K hK => ?c2zcacs) AllReadyH.nil)
      rw [if_pos (by kernel_rfl)]
      obtain ⟨⟨d0, d1, d2, d3, d4, d5, d6⟩, d7, d8, d9, da, db, dc, dd⟩ := HA.fourteen
      obtain ⟨z0, z1, z2, z3, z4, z5, z6, z7, z8, z9, za, zb, zc, zd⟩ := HA.frz14
      have HE := tkOwn_store (pc := pc5) (fc := fc5) HA HT1 HT2 HT3 (fun b e => ⟨by have := HT4 b e; omega, by have := HT4 b e; omega, by have := HT4 b e; omega⟩) (fun b e => ⟨by have := HT5 b e; omega, by have := HT5 b e; omega, by have := HT5 b e; omega⟩) HGL HC
      have HE := Lib.hid HE
      clear HC HT1 HT2 HT3 HT4 HT5 hHeld HA
      go_simp
      refine hK.out _ _ ?_ (fun hHeld2 => ?_)
      · obtain ⟨_, _, _, _, _, _, _, _, _, _, _, _, _, _, _, hE⟩ := HE.out; exact hE
      clear hK K hHeld2 d0 d1 d2 d3 d4 d5 d6 d7 d8 d9 da db dc dd z0 z1 z2 z3 z4 z5 z6 z7 z8 z9 za zb zc zd
      (try simp only [Act.put, List.getElem_toArray, List.getElem_cons_succ, List.getElem_cons_zero, List.setIfInBounds_toArray, List.set_cons_succ, List.set_cons_zero])
      refine wpAnyH_done (by kernel_rfl) ?_ _
      exact HKK.out _ _ _ _ _ _ HE.out
  case c2za4 =>
    rw [if_pos (by kernel_rfl)]
    have HA := box_new v0 [.int .i64 0, .slice none 0 0, .int .i64 0, .int .i64 0, .int .i64 0, .int .i64 0, .slice none 0 0, .int .i64 0, .int .i64 0, .int .i64 0, .int .i64 0, gs [], .bool false, .int .i64 0] 34 (by simp)
    have hbN : Below v0.heap.size v0 (v0.alloc (.cells #[.int .i64 0, .slice none 0 0, .int .i64 0, .int .i64 0, .int .i64 0, .int .i64 0, .slice none 0 0, .int .i64 0, .int .i64 0, .int .i64 0, .int .i64 0, gs [], .bool false, .int .i64 0] 34)) := (Below.refl _ _).alloc (Nat.le_refl _) _
    have hsN : (v0.alloc (.cells #[.int .i64 0, .slice none 0 0, .int .i64 0, .int .i64 0, .int .i64 0, .int .i64 0, .slice none 0 0, .int .i64 0, .int .i64 0, .int .i64 0, .int .i64 0, gs [], .bool false, .int .i64 0] 34)).heap.size = v0.heap.size + 1 := by simp
    have HGL : V4.heap.size ≤ v0.heap.size := HC.size
    go_simp
    refine hK.out _ _ (HC.trans (hbN.mono HC.size)) (fun hHeld2 => ?_)
    generalize v0.alloc (.cells #[.int .i64 0, .slice none 0 0, .int .i64 0, .int .i64 0, .int .i64 0, .int .i64 0, .slice none 0 0, .int .i64 0, .int .i64 0, .int .i64 0, .int .i64 0, gs [], .bool false, .int .i64 0] 34) = v6 at *
    replace HC := HC.trans (hbN.mono HC.size)
    have hszv6 := hbN.size
    clear hHeld
    have hHeld := hHeld2
    clear hK K hHeld2 hbN
    (try simp only [Act.put, List.getElem_toArray, List.getElem_cons_succ, List.getElem_cons_zero, List.setIfInBounds_toArray, List.set_cons_succ, List.set_cons_zero])
    refine wpAnyH_ready (rs := [2]) (by kernel_rfl) (by simp) (AllReadyH.cons (o := _) rfl (fun K hK => ?c2zac2) AllReadyH.nil)
    go_simp
    refine (HTS.out _).mono ?_
    rintro e9 v7 ⟨rfl, hbN⟩
    go_simp
    refine hK.out _ _ (HC.trans (hbN.mono HC.size)) (fun hHeld2 => ?_)
    replace HC := HC.trans (hbN.mono HC.size)
    replace HA := HA.below hbN
    have hszv7 := hbN.size
    clear hHeld
    have hHeld := hHeld2
    clear hK K hHeld2 hbN
    (try simp only [Act.put, List.getElem_toArray, List.getElem_cons_succ, List.getElem_cons_zero, List.setIfInBounds_toArray, List.set_cons_succ, List.set_cons_zero])
    refine wpAnyH_ready (rs := [3]) (by kernel_rfl) (by simp) (AllReadyH.cons (o := _) rfl (fun K hK => ?c2zacc3) AllReadyH.nil)
    go_simp
    refine (HI.out _ _ _ _ (XP.out.below HC).in' (XF.out.below HC).in' (HG.out.below (HB4.out.trans (HC.mono HB4.out.size))) (HTZ.out.below (HB4.out.trans (HC.mono HB4.out.size)))).mono ?_
    rintro e9 v8 ⟨pa5, pc5, fa5, fc5, A5, C5, S5, T5, rfl, HT1, HT2, HT3, HT4, HT5, hbN⟩
    have hszS := HC.size
    go_simp
    refine hK.out _ _ (HC.trans (hbN.mono HC.size)) (fun hHeld2 => ?_)
    replace HC := HC.trans (hbN.mono HC.size)
    replace HA := HA.below hbN
    have hszv8 := hbN.size
    clear hHeld
    have hHeld := hHeld2
    clear hK K hHeld2 hbN
    (try simp only [Act.put, List.getElem_toArray, List.getElem_cons_succ, List.getElem_cons_zero, List.setIfInBounds_toArray, List.set_cons_succ, List.set_cons_zero])
    refine wpAnyH_ready (rs := [5]) (by kernel_rfl) (by simp) (AllReadyH.cons (o := _) rfl (fun K hK => ?c2zaccs) AllReadyH.nil)
    rw [if_pos (by kernel_rfl)]
    obtain ⟨⟨d0, d1, d2, d3, d4, d5, d6⟩, d7, d8, d9, da, db, dc, dd⟩ := HA.fourteen
    obtain ⟨z0, z1, z2, z3, z4, z5, z6, z7, z8, z9, za, zb, zc, zd⟩ := HA.frz14
    have HE := tkOwn_store (pc := pc5) (fc := fc5) HA HT1 HT2 HT3 (fun b e => ⟨by have := HT4 b e; omega, by have := HT4 b e; omega, by have := HT4 b e; omega⟩) (fun b e => ⟨by have := HT5 b e; omega, by have := HT5 b e; omega, by have := HT5 b e; omega⟩) HGL HC
    have HE := Lib.hid HE
    clear HC HT1 HT2 HT3 HT4 HT5 hHeld HA
    go_simp
    refine hK.out _ _ ?_ (fun hHeld2 => ?_)
    · obtain ⟨_, _, _, _, _, _, _, _, _, _, _, _, _, _, _, hE⟩ := HE.out; exact hE
    clear hK K hHeld2 d0 d1 d2 d3 d4 d5 d6 d7 d8 d9 da db dc dd z0 z1 z2 z3 z4 z5 z6 z7 z8 z9 za zb zc zd
    (try simp only [Act.put, List.getElem_toArray, List.getElem_cons_succ, List.getElem_cons_zero, List.setIfInBounds_toArray, List.set_cons_succ, List.set_cons_zero])
    refine wpAnyH_done (by kernel_rfl) ?_ _
    exact HKK.out _ _ _ _ _ _ HE.out
end Go.Proofs.YtdcahilfmhkmiaaGreatDoor

namespace Go.Proofs.YtdcahilfmhkmiaaGreatDoor
open Go.RowKit

set_option maxHeartbeats 8000000 in
set_option maxRecDepth 200000 in
theorem takeReg27 {w w12 : World} {rd ed sz cp en : Int} {pa fa : Option Addr} {pc fc : Nat} {ps : List Pc} {n : Frs} {p s d : Int} {t : List UInt8} {e : Int} {r : RcR} {R : Ending → World → Prop} {K : Act → World → Prop} {u0 u1 u4 u5 u6 u7 u8 u9 u10 u11 u12 u13 u14 u15 u16 u17 u18 u19 u20 u21 u22 u23 u24 u25 u26 u27 u28 u29 u30 u31 u32 u33 u34 u35 u36 u37 u38 u39 u40 u41 u42 u43 u44 u45 u46 u47 u48 u49 u50 u51 u52 u53 u54 u55 u56 u57 u58 u59 u60 u61 u62 u63 u64 u65 u66 u67 u68 u69 u70 u71 u72 u73 u74 u75 u76 u77 u78 u79 u80 u81 : Value} (hp : InPcs w pa ps.length ps) (hf : InFrs (fun _ => True) w fa n.length n) (wt : t.length ≤ 9223372036854775807) (hr : rcvTakeN rd ps ed sz cp en n p s d t e = r) (hb12 : Below w.heap.size w w12) (n12 : ArgB w12 w.heap.size [.int .i64 rd, .slice pa ps.length pc, .int .i64 ed, .int .i64 sz, .int .i64 cp, .int .i64 en, .slice fa n.length fc] [.int .i64 p, .int .i64 s, .int .i64 d, gs t, .int .i64 e]) (hg : EtCell w) (htz : TzTab w)
    (hK : ∀ (t65 t66 t67 t68 t69 : Value) (G : Nat) (V : World), TkOwn w12 G r V → K ⟨List.toArray (u0 :: u1 :: .pointer (some ⟨w.heap.size, 0, none⟩) :: .pointer (some ⟨w.heap.size + 1, 0, none⟩) :: u4 :: u5 :: u6 :: u7 :: u8 :: u9 :: u10 :: u11 :: .pointer (some ⟨G, 0, none⟩) :: u13 :: u14 :: u15 :: u16 :: u17 :: u18 :: u19 :: u20 :: u21 :: u22 :: u23 :: u24 :: u25 :: u26 :: u27 :: u28 :: u29 :: u30 :: u31 :: u32 :: u33 :: u34 :: u35 :: u36 :: u37 :: u38 :: u39 :: u40 :: u41 :: u42 :: u43 :: u44 :: u45 :: u46 :: u47 :: u48 :: u49 :: u50 :: u51 :: u52 :: u53 :: u54 :: u55 :: u56 :: u57 :: u58 :: u59 :: u60 :: u61 :: u62 :: u63 :: u64 :: t65 :: t66 :: t67 :: t68 :: t69 :: u70 :: u71 :: u72 :: u73 :: u74 :: u75 :: u76 :: u77 :: u78 :: u79 :: u80 :: u81 :: []), []⟩ V) :
    Code.wp Tryz.prog (Code.region 27 #[{ dst := some 65, op := Op.load 81 (Operand.tmp 2), type := 81, pos := "exact.go:2142", after := #[], guard := none }, { dst := some 66, op := Op.call { callee := Callee.value (Operand.func 51), args := #[Operand.tmp 65], argTypes := #[81] }, type := 26, pos := "exact.go:2142", after := #[{ on := 0, ground := Ground.data }], guard := none }, { dst := some 67, op := Op.load 82 (Operand.tmp 3), type := 82, pos := "exact.go:2142", after := #[], guard := none }, { dst := some 68, op := Op.call { callee := Callee.value (Operand.func 52), args := #[Operand.tmp 67], argTypes := #[82] }, type := 28, pos := "exact.go:2142", after := #[{ on := 2, ground := Ground.data }, { on := 1, ground := Ground.chain }], guard := none }, { dst := some 69, op := Op.call { callee := Callee.value (Operand.func 8), args := #[Operand.tmp 66, Operand.tmp 68], argTypes := #[26, 28] }, type := 34, pos := "exact.go:2142", after := #[{ on := 1, ground := Ground.data }, { on := 3, ground := Ground.data }, { on := 3, ground := Ground.chain }], guard := none }, { dst := some 12, op := Op.alloc 34, type := 0, pos := "exact.go:2142", after := #[], guard := none }, { dst := none, op := Op.store 34 (Operand.tmp 12) (Operand.tmp 69), type := 0, pos := "exact.go:2142", after := #[{ on := 5, ground := Ground.data }, { on := 4, ground := Ground.data }, { on := 4, ground := Ground.chain }, { on := 0, ground := Ground.phase }, { on := 1, ground := Ground.phase }, { on := 2, ground := Ground.phase }, { on := 3, ground := Ground.phase }, { on := 4, ground := Ground.phase }, { on := 5, ground := Ground.phase }], guard := none }] true) (Exit.then K (bodyPost Tryz.prog Tryz.f5 R)) ⟨List.toArray (u0 :: u1 :: .pointer (some ⟨w.heap.size, 0, none⟩) :: .pointer (some ⟨w.heap.size + 1, 0, none⟩) :: u4 :: u5 :: u6 :: u7 :: u8 :: u9 :: u10 :: u11 :: u12 :: u13 :: u14 :: u15 :: u16 :: u17 :: u18 :: u19 :: u20 :: u21 :: u22 :: u23 :: u24 :: u25 :: u26 :: u27 :: u28 :: u29 :: u30 :: u31 :: u32 :: u33 :: u34 :: u35 :: u36 :: u37 :: u38 :: u39 :: u40 :: u41 :: u42 :: u43 :: u44 :: u45 :: u46 :: u47 :: u48 :: u49 :: u50 :: u51 :: u52 :: u53 :: u54 :: u55 :: u56 :: u57 :: u58 :: u59 :: u60 :: u61 :: u62 :: u63 :: u64 :: u65 :: u66 :: u67 :: u68 :: u69 :: u70 :: u71 :: u72 :: u73 :: u74 :: u75 :: u76 :: u77 :: u78 :: u79 :: u80 :: u81 :: []), []⟩ w12 := by
  have HTO := Lib.hid (fun (W : World) (hb : Below w.heap.size w W) => toRcv_calls (rd := rd) (ed := ed) (sz := sz) (cp := cp) (en := en) (pc := pc) (fc := fc) (hp.below hb) (hf.below hb))
  unfold RcvCopied at HTO
  unfold rcvV at HTO
  have HTS := Lib.hid (fun W => toSeg_calls p s d t e W)
  unfold segV at HTS
  have HI := Lib.hid (fun (W : World) (a b : Option Addr) (S : Nat → Prop) (hp : InPcs W a ps.length ps) (hf : InFrs S W b n.length n) (hgW : EtCell W) (hzW : TzTab W) => rcvTakeI_calls (rd := rd) (ed := ed) (sz := sz) (cp := cp) (en := en) (pc := ps.length) (fc := n.length) hp hf p s d t e wt hgW hzW)
  unfold RcOwn rcvOutV at HI
  unfold rcvV segV at HI
  rw [hr] at HI
  have HB12 := Lib.hid hb12
  have N_12 := Lib.hid n12
  have HG := Lib.hid hg
  have HTZ := Lib.hid htz
  clear hp hf wt hr hb12 n12 hg htz
  have HKK := Lib.hid hK
  clear hK
  refine wp_region_held_drew (S := (fun X => Below w12.heap.size w12 X)) (by kernel_rfl) ((Below.refl _ _).drew) (fun hHeld => ?_)
  refine wpAnyH_take (i := 0) (oi := _) (v := ?v3z0) rfl (by kernel_rfl) (by kernel_rfl) (by kernel_rfl) (fun _ _ _ h => h) (Or.inl ⟨by kernel_rfl, ?hy3z0⟩) (by with_reducible assumption) ?rest3z0
  case hy3z0 => (intro w hSw; (try dsimp only at hSw); obtain ⟨c0, c1, c2, c3, c4, c5, c6⟩ := (N_12.out.one.below hSw).seven; go_simp; (try with_reducible rfl))
  (try simp only [Act.put, List.getElem_toArray, List.getElem_cons_zero, List.setIfInBounds_toArray, List.set_cons_succ, List.set_cons_zero])
  refine wpAnyH_take (i := 2) (oi := _) (v := ?v3z2) rfl (by kernel_rfl) (by kernel_rfl) (by kernel_rfl) (fun _ _ _ h => h) (Or.inl ⟨by kernel_rfl, ?hy3z2⟩) (by with_reducible assumption) ?rest3z2
  case hy3z2 => (intro w hSw; (try dsimp only at hSw); obtain ⟨e0, e1, e2, e3, e4⟩ := (N_12.out.two.below hSw).five; go_simp; (try with_reducible rfl))
  (try simp only [Act.put, List.getElem_toArray, List.getElem_cons_succ, List.getElem_cons_zero, List.setIfInBounds_toArray, List.set_cons_succ, List.set_cons_zero])
  have HC : Below w12.heap.size w12 w12.drew := (Below.refl _ _).drew
  generalize w12.drew = v0 at *
  refine wpAnyH_ready (rs := [1, 5]) (by kernel_rfl) (by simp) (AllReadyH.cons (o := _) rfl (fun K hK => ?c3zc1) (AllReadyH.cons (o := _) rfl (fun K hK => ?c3za5) AllReadyH.nil))
  case c3zc1 =>
    go_simp
    refine (HTO.out _ (HB12.out.trans (HC.mono HB12.out.size))).mono ?_
    rintro e9 v1 ⟨gp8, gf8, A8, C8, rfl, -, -, HPO, HFO, -, hbN⟩
    go_simp
    refine hK.out _ _ (HC.trans (hbN.mono HC.size)) (fun hHeld2 => ?_)
    replace HC := HC.trans (hbN.mono HC.size)
    have hszv1 := hbN.size
    clear hHeld
    have hHeld := hHeld2
    clear hK K hHeld2 hbN
    (try simp only [Act.put, List.getElem_toArray, List.getElem_cons_succ, List.getElem_cons_zero, List.setIfInBounds_toArray, List.set_cons_succ, List.set_cons_zero])
    refine wpAnyH_ready (rs := [3, 5]) (by kernel_rfl) (by simp) (AllReadyH.cons (o := _) rfl (fun K hK => ?c3zcc3) (AllReadyH.cons (o := _) rfl (fun K hK => ?c3zca5) AllReadyH.nil))
    case c3zcc3 =>
      go_simp
      refine (HTS.out _).mono ?_
      rintro e9 v2 ⟨rfl, hbN⟩
      go_simp
      refine hK.out _ _ (HC.trans (hbN.mono HC.size)) (fun hHeld2 => ?_)
      replace HC := HC.trans (hbN.mono HC.size)
      replace HPO := HPO.below hbN
      replace HFO := HFO.below hbN
      have hszv2 := hbN.size
      clear hHeld
      have hHeld := hHeld2
      clear hK K hHeld2 hbN
      (try simp only [Act.put, List.getElem_toArray, List.getElem_cons_succ, List.getElem_cons_zero, List.setIfInBounds_toArray, List.set_cons_succ, List.set_cons_zero])
      refine wpAnyH_ready (rs := [4, 5]) (by kernel_rfl) (by simp) (AllReadyH.cons (o := _) rfl (fun K hK => ?c3zccc4) (AllReadyH.cons (o := _) rfl (fun K hK => ?c3zcca5) AllReadyH.nil))
      case c3zccc4 =>
        go_simp
        refine (HI.out _ _ _ _ HPO.in' HFO.in' (HG.out.below (HB12.out.trans (HC.mono HB12.out.size))) (HTZ.out.below (HB12.out.trans (HC.mono HB12.out.size)))).mono ?_
        rintro e9 v3 ⟨pa5, pc5, fa5, fc5, A5, C5, S5, T5, rfl, HT1, HT2, HT3, HT4, HT5, hbN⟩
        have hszS := HC.size
        go_simp
        refine hK.out _ _ (HC.trans (hbN.mono HC.size)) (fun hHeld2 => ?_)
        replace HC := HC.trans (hbN.mono HC.size)
        have hszv3 := hbN.size
        clear hHeld
        have hHeld := hHeld2
        clear hK K hHeld2 hbN
        (try simp only [Act.put, List.getElem_toArray, List.getElem_cons_succ, List.getElem_cons_zero, List.setIfInBounds_toArray, List.set_cons_succ, List.set_cons_zero])
        refine wpAnyH_ready (rs := [5]) (by kernel_rfl) (by simp) (AllReadyH.cons (o := _) rfl (fun K hK => ?c3zccca5) AllReadyH.nil)
        rw [if_pos (by kernel_rfl)]
        have HA := box_new v3 [.int .i64 0, .slice none 0 0, .int .i64 0, .int .i64 0, .int .i64 0, .int .i64 0, .slice none 0 0, .int .i64 0, .int .i64 0, .int .i64 0, .int .i64 0, gs [], .bool false, .int .i64 0] 34 (by simp)
        have hbN : Below v3.heap.size v3 (v3.alloc (.cells #[.int .i64 0, .slice none 0 0, .int .i64 0, .int .i64 0, .int .i64 0, .int .i64 0, .slice none 0 0, .int .i64 0, .int .i64 0, .int .i64 0, .int .i64 0, gs [], .bool false, .int .i64 0] 34)) := (Below.refl _ _).alloc (Nat.le_refl _) _
        have hsN : (v3.alloc (.cells #[.int .i64 0, .slice none 0 0, .int .i64 0, .int .i64 0, .int .i64 0, .int .i64 0, .slice none 0 0, .int .i64 0, .int .i64 0, .int .i64 0, .int .i64 0, gs [], .bool false, .int .i64 0] 34)).heap.size = v3.heap.size + 1 := by simp
        have HGL : w12.heap.size ≤ v3.heap.size := HC.size
        go_simp
        refine hK.out _ _ (HC.trans (hbN.mono HC.size)) (fun hHeld2 => ?_)
        generalize v3.alloc (.cells #[.int .i64 0, .slice none 0 0, .int .i64 0, .int .i64 0, .int .i64 0, .int .i64 0, .slice none 0 0, .int .i64 0, .int .i64 0, .int .i64 0, .int .i64 0, gs [], .bool false, .int .i64 0] 34) = v4 at *
        replace HC := HC.trans (hbN.mono HC.size)
        replace HT1 := HT1.below hbN
        replace HT2 := HT2.below hbN
        have hszv4 := hbN.size
        clear hHeld
        have hHeld := hHeld2
        clear hK K hHeld2 hbN
        (try simp only [Act.put, List.getElem_toArray, List.getElem_cons_succ, List.getElem_cons_zero, List.setIfInBounds_toArray, List.set_cons_succ, List.set_cons_zero])
        refine wpAnyH_ready (rs := [6]) (by kernel_rfl) (by simp) (AllReadyH.cons (o := _) rfl (fun K hK => ?c3zcccas) AllReadyH.nil)
        rw [if_pos (by kernel_rfl)]
        obtain ⟨⟨d0, d1, d2, d3, d4, d5, d6⟩, d7, d8, d9, da, db, dc, dd⟩ := HA.fourteen
        obtain ⟨z0, z1, z2, z3, z4, z5, z6, z7, z8, z9, za, zb, zc, zd⟩ := HA.frz14
        have HE := tkOwn_store (pc := pc5) (fc := fc5) HA HT1 HT2 HT3 (fun b e => ⟨by have := HT4 b e; omega, by have := HT4 b e; omega, by have := HT4 b e; omega⟩) (fun b e => ⟨by have := HT5 b e; omega, by have := HT5 b e; omega, by have := HT5 b e; omega⟩) HGL HC
        have HE := Lib.hid HE
        clear HC HT1 HT2 HT3 HT4 HT5 hHeld HA
        go_simp
        refine hK.out _ _ ?_ (fun hHeld2 => ?_)
        · obtain ⟨_, _, _, _, _, _, _, _, _, _, _, _, _, _, _, hE⟩ := HE.out; exact hE
        clear hK K hHeld2 d0 d1 d2 d3 d4 d5 d6 d7 d8 d9 da db dc dd z0 z1 z2 z3 z4 z5 z6 z7 z8 z9 za zb zc zd
        (try simp only [Act.put, List.getElem_toArray, List.getElem_cons_succ, List.getElem_cons_zero, List.setIfInBounds_toArray, List.set_cons_succ, List.set_cons_zero])
        refine wpAnyH_done (by kernel_rfl) ?_ _
        exact HKK.out _ _ _ _ _ _ _ HE.out
      case c3zcca5 =>
        rw [if_pos (by kernel_rfl)]
        have HA := box_new v2 [.int .i64 0, .slice none 0 0, .int .i64 0, .int .i64 0, .int .i64 0, .int .i64 0, .slice none 0 0, .int .i64 0, .int .i64 0, .int .i64 0, .int .i64 0, gs [], .bool false, .int .i64 0] 34 (by simp)
        have hbN : Below v2.heap.size v2 (v2.alloc (.cells #[.int .i64 0, .slice none 0 0, .int .i64 0, .int .i64 0, .int .i64 0, .int .i64 0, .slice none 0 0, .int .i64 0, .int .i64 0, .int .i64 0, .int .i64 0, gs [], .bool false, .int .i64 0] 34)) := (Below.refl _ _).alloc (Nat.le_refl _) _
        have hsN : (v2.alloc (.cells #[.int .i64 0, .slice none 0 0, .int .i64 0, .int .i64 0, .int .i64 0, .int .i64 0, .slice none 0 0, .int .i64 0, .int .i64 0, .int .i64 0, .int .i64 0, gs [], .bool false, .int .i64 0] 34)).heap.size = v2.heap.size + 1 := by simp
        have HGL : w12.heap.size ≤ v2.heap.size := HC.size
        go_simp
        refine hK.out _ _ (HC.trans (hbN.mono HC.size)) (fun hHeld2 => ?_)
        generalize v2.alloc (.cells #[.int .i64 0, .slice none 0 0, .int .i64 0, .int .i64 0, .int .i64 0, .int .i64 0, .slice none 0 0, .int .i64 0, .int .i64 0, .int .i64 0, .int .i64 0, gs [], .bool false, .int .i64 0] 34) = v5 at *
        replace HC := HC.trans (hbN.mono HC.size)
        replace HPO := HPO.below hbN
        replace HFO := HFO.below hbN
        have hszv5 := hbN.size
        clear hHeld
        have hHeld := hHeld2
        clear hK K hHeld2 hbN
        (try simp only [Act.put, List.getElem_toArray, List.getElem_cons_succ, List.getElem_cons_zero, List.setIfInBounds_toArray, List.set_cons_succ, List.set_cons_zero])
        refine wpAnyH_ready (rs := [4]) (by kernel_rfl) (by simp) (AllReadyH.cons (o := _) rfl (fun K hK => ?c3zccac4) AllReadyH.nil)
        go_simp
        refine (HI.out _ _ _ _ HPO.in' HFO.in' (HG.out.below (HB12.out.trans (HC.mono HB12.out.size))) (HTZ.out.below (HB12.out.trans (HC.mono HB12.out.size)))).mono ?_
        rintro e9 v6 ⟨pa5, pc5, fa5, fc5, A5, C5, S5, T5, rfl, HT1, HT2, HT3, HT4, HT5, hbN⟩
        have hszS := HC.size
        go_simp
        refine hK.out _ _ (HC.trans (hbN.mono HC.size)) (fun hHeld2 => ?_)
        replace HC := HC.trans (hbN.mono HC.size)
        replace HA := HA.below hbN
        have hszv6 := hbN.size
        clear hHeld
        have hHeld := hHeld2
        clear hK K hHeld2 hbN
        (try simp only [Act.put, List.getElem_toArray, List.getElem_cons_succ, List.getElem_cons_zero, List.setIfInBounds_toArray, List.set_cons_succ, List.set_cons_zero])
        refine wpAnyH_ready (rs := [6]) (by kernel_rfl) (by simp) (AllReadyH.cons (o := _) rfl (fun K hK => ?c3zccacs) AllReadyH.nil)
        rw [if_pos (by kernel_rfl)]
        obtain ⟨⟨d0, d1, d2, d3, d4, d5, d6⟩, d7, d8, d9, da, db, dc, dd⟩ := HA.fourteen
        obtain ⟨z0, z1, z2, z3, z4, z5, z6, z7, z8, z9, za, zb, zc, zd⟩ := HA.frz14
        have HE := tkOwn_store (pc := pc5) (fc := fc5) HA HT1 HT2 HT3 (fun b e => ⟨by have := HT4 b e; omega, by have := HT4 b e; omega, by have := HT4 b e; omega⟩) (fun b e => ⟨by have := HT5 b e; omega, by have := HT5 b e; omega, by have := HT5 b e; omega⟩) HGL HC
        have HE := Lib.hid HE
        clear HC HT1 HT2 HT3 HT4 HT5 hHeld HA
        go_simp
        refine hK.out _ _ ?_ (fun hHeld2 => ?_)
        · obtain ⟨_, _, _, _, _, _, _, _, _, _, _, _, _, _, _, hE⟩ := HE.out; exact hE
        clear hK K hHeld2 d0 d1 d2 d3 d4 d5 d6 d7 d8 d9 da db dc dd z0 z1 z2 z3 z4 z5 z6 z7 z8 z9 za zb zc zd
        (try simp only [Act.put, List.getElem_toArray, List.getElem_cons_succ, List.getElem_cons_zero, List.setIfInBounds_toArray, List.set_cons_succ, List.set_cons_zero])
        refine wpAnyH_done (by kernel_rfl) ?_ _
        exact HKK.out _ _ _ _ _ _ _ HE.out
    case c3zca5 =>
      rw [if_pos (by kernel_rfl)]
      have HA := box_new v1 [.int .i64 0, .slice none 0 0, .int .i64 0, .int .i64 0, .int .i64 0, .int .i64 0, .slice none 0 0, .int .i64 0, .int .i64 0, .int .i64 0, .int .i64 0, gs [], .bool false, .int .i64 0] 34 (by simp)
      have hbN : Below v1.heap.size v1 (v1.alloc (.cells #[.int .i64 0, .slice none 0 0, .int .i64 0, .int .i64 0, .int .i64 0, .int .i64 0, .slice none 0 0, .int .i64 0, .int .i64 0, .int .i64 0, .int .i64 0, gs [], .bool false, .int .i64 0] 34)) := (Below.refl _ _).alloc (Nat.le_refl _) _
      have hsN : (v1.alloc (.cells #[.int .i64 0, .slice none 0 0, .int .i64 0, .int .i64 0, .int .i64 0, .int .i64 0, .slice none 0 0, .int .i64 0, .int .i64 0, .int .i64 0, .int .i64 0, gs [], .bool false, .int .i64 0] 34)).heap.size = v1.heap.size + 1 := by simp
      have HGL : w12.heap.size ≤ v1.heap.size := HC.size
      go_simp
      refine hK.out _ _ (HC.trans (hbN.mono HC.size)) (fun hHeld2 => ?_)
      generalize v1.alloc (.cells #[.int .i64 0, .slice none 0 0, .int .i64 0, .int .i64 0, .int .i64 0, .int .i64 0, .slice none 0 0, .int .i64 0, .int .i64 0, .int .i64 0, .int .i64 0, gs [], .bool false, .int .i64 0] 34) = v7 at *
      replace HC := HC.trans (hbN.mono HC.size)
      replace HPO := HPO.below hbN
      replace HFO := HFO.below hbN
      have hszv7 := hbN.size
      clear hHeld
      have hHeld := hHeld2
      clear hK K hHeld2 hbN
      (try simp only [Act.put, List.getElem_toArray, List.getElem_cons_succ, List.getElem_cons_zero, List.setIfInBounds_toArray, List.set_cons_succ, List.set_cons_zero])
      refine wpAnyH_ready (rs := [3]) (by kernel_rfl) (by simp) (AllReadyH.cons (o := _) rfl (fun K hK => ?c3zcac3) AllReadyH.nil)
      go_simp
      refine (HTS.out _).mono ?_
      rintro e9 v8 ⟨rfl, hbN⟩
      go_simp
      refine hK.out _ _ (HC.trans (hbN.mono HC.size)) (fun hHeld2 => ?_)
      replace HC := HC.trans (hbN.mono HC.size)
      replace HPO := HPO.below hbN
      replace HFO := HFO.below hbN
      replace HA := HA.below hbN
      have hszv8 := hbN.size
      clear hHeld
      have hHeld := hHeld2
      clear hK K hHeld2 hbN
      (try simp only [Act.put, List.getElem_toArray, List.getElem_cons_succ, List.getElem_cons_zero, List.setIfInBounds_toArray, List.set_cons_succ, List.set_cons_zero])
      refine wpAnyH_ready (rs := [4]) (by kernel_rfl) (by simp) (AllReadyH.cons (o := _) rfl (fun K hK => ?c3zcacc4) AllReadyH.nil)
      go_simp
      refine (HI.out _ _ _ _ HPO.in' HFO.in' (HG.out.below (HB12.out.trans (HC.mono HB12.out.size))) (HTZ.out.below (HB12.out.trans (HC.mono HB12.out.size)))).mono ?_
      rintro e9 v9 ⟨pa5, pc5, fa5, fc5, A5, C5, S5, T5, rfl, HT1, HT2, HT3, HT4, HT5, hbN⟩
      have hszS := HC.size
      go_simp
      refine hK.out _ _ (HC.trans (hbN.mono HC.size)) (fun hHeld2 => ?_)
      replace HC := HC.trans (hbN.mono HC.size)
      replace HA := HA.below hbN
      have hszv9 := hbN.size
      clear hHeld
      have hHeld := hHeld2
      clear hK K hHeld2 hbN
      (try simp only [Act.put, List.getElem_toArray, List.getElem_cons_succ, List.getElem_cons_zero, List.setIfInBounds_toArray, List.set_cons_succ, List.set_cons_zero])
      refine wpAnyH_ready (rs := [6]) (by kernel_rfl) (by simp) (AllReadyH.cons (o := _) rfl (fun K hK => ?c3zcaccs) AllReadyH.nil)
      rw [if_pos (by kernel_rfl)]
      obtain ⟨⟨d0, d1, d2, d3, d4, d5, d6⟩, d7, d8, d9, da, db, dc, dd⟩ := HA.fourteen
      obtain ⟨z0, z1, z2, z3, z4, z5, z6, z7, z8, z9, za, zb, zc, zd⟩ := HA.frz14
      have HE := tkOwn_store (pc := pc5) (fc := fc5) HA HT1 HT2 HT3 (fun b e => ⟨by have := HT4 b e; omega, by have := HT4 b e; omega, by have := HT4 b e; omega⟩) (fun b e => ⟨by have := HT5 b e; omega, by have := HT5 b e; omega, by have := HT5 b e; omega⟩) HGL HC
      have HE := Lib.hid HE
      clear HC HT1 HT2 HT3 HT4 HT5 hHeld HA
      go_simp
      refine hK.out _ _ ?_ (fun hHeld2 => ?_)
      · obtain ⟨_, _, _, _, _, _, _, _, _, _, _, _, _, _, _, hE⟩ := HE.out; exact hE
      clear hK K hHeld2 d0 d1 d2 d3 d4 d5 d6 d7 d8 d9 da db dc dd z0 z1 z2 z3 z4 z5 z6 z7 z8 z9 za zb zc zd
      (try simp only [Act.put, List.getElem_toArray, List.getElem_cons_succ, List.getElem_cons_zero, List.setIfInBounds_toArray, List.set_cons_succ, List.set_cons_zero])
      refine wpAnyH_done (by kernel_rfl) ?_ _
      exact HKK.out _ _ _ _ _ _ _ HE.out
  case c3za5 =>
    rw [if_pos (by kernel_rfl)]
    have HA := box_new v0 [.int .i64 0, .slice none 0 0, .int .i64 0, .int .i64 0, .int .i64 0, .int .i64 0, .slice none 0 0, .int .i64 0, .int .i64 0, .int .i64 0, .int .i64 0, gs [], .bool false, .int .i64 0] 34 (by simp)
    have hbN : Below v0.heap.size v0 (v0.alloc (.cells #[.int .i64 0, .slice none 0 0, .int .i64 0, .int .i64 0, .int .i64 0, .int .i64 0, .slice none 0 0, .int .i64 0, .int .i64 0, .int .i64 0, .int .i64 0, gs [], .bool false, .int .i64 0] 34)) := (Below.refl _ _).alloc (Nat.le_refl _) _
    have hsN : (v0.alloc (.cells #[.int .i64 0, .slice none 0 0, .int .i64 0, .int .i64 0, .int .i64 0, .int .i64 0, .slice none 0 0, .int .i64 0, .int .i64 0, .int .i64 0, .int .i64 0, gs [], .bool false, .int .i64 0] 34)).heap.size = v0.heap.size + 1 := by simp
    have HGL : w12.heap.size ≤ v0.heap.size := HC.size
    go_simp
    refine hK.out _ _ (HC.trans (hbN.mono HC.size)) (fun hHeld2 => ?_)
    generalize v0.alloc (.cells #[.int .i64 0, .slice none 0 0, .int .i64 0, .int .i64 0, .int .i64 0, .int .i64 0, .slice none 0 0, .int .i64 0, .int .i64 0, .int .i64 0, .int .i64 0, gs [], .bool false, .int .i64 0] 34) = v10 at *
    replace HC := HC.trans (hbN.mono HC.size)
    have hszv10 := hbN.size
    clear hHeld
    have hHeld := hHeld2
    clear hK K hHeld2 hbN
    (try simp only [Act.put, List.getElem_toArray, List.getElem_cons_succ, List.getElem_cons_zero, List.setIfInBounds_toArray, List.set_cons_succ, List.set_cons_zero])
    refine wpAnyH_ready (rs := [1]) (by kernel_rfl) (by simp) (AllReadyH.cons (o := _) rfl (fun K hK => ?c3zac1) AllReadyH.nil)
    go_simp
    refine (HTO.out _ (HB12.out.trans (HC.mono HB12.out.size))).mono ?_
    rintro e9 v11 ⟨gp8, gf8, A8, C8, rfl, -, -, HPO, HFO, -, hbN⟩
    go_simp
    refine hK.out _ _ (HC.trans (hbN.mono HC.size)) (fun hHeld2 => ?_)
    replace HC := HC.trans (hbN.mono HC.size)
    replace HA := HA.below hbN
    have hszv11 := hbN.size
    clear hHeld
    have hHeld := hHeld2
    clear hK K hHeld2 hbN
    (try simp only [Act.put, List.getElem_toArray, List.getElem_cons_succ, List.getElem_cons_zero, List.setIfInBounds_toArray, List.set_cons_succ, List.set_cons_zero])
    refine wpAnyH_ready (rs := [3]) (by kernel_rfl) (by simp) (AllReadyH.cons (o := _) rfl (fun K hK => ?c3zacc3) AllReadyH.nil)
    go_simp
    refine (HTS.out _).mono ?_
    rintro e9 v12 ⟨rfl, hbN⟩
    go_simp
    refine hK.out _ _ (HC.trans (hbN.mono HC.size)) (fun hHeld2 => ?_)
    replace HC := HC.trans (hbN.mono HC.size)
    replace HPO := HPO.below hbN
    replace HFO := HFO.below hbN
    replace HA := HA.below hbN
    have hszv12 := hbN.size
    clear hHeld
    have hHeld := hHeld2
    clear hK K hHeld2 hbN
    (try simp only [Act.put, List.getElem_toArray, List.getElem_cons_succ, List.getElem_cons_zero, List.setIfInBounds_toArray, List.set_cons_succ, List.set_cons_zero])
    refine wpAnyH_ready (rs := [4]) (by kernel_rfl) (by simp) (AllReadyH.cons (o := _) rfl (fun K hK => ?c3zaccc4) AllReadyH.nil)
    go_simp
    refine (HI.out _ _ _ _ HPO.in' HFO.in' (HG.out.below (HB12.out.trans (HC.mono HB12.out.size))) (HTZ.out.below (HB12.out.trans (HC.mono HB12.out.size)))).mono ?_
    rintro e9 v13 ⟨pa5, pc5, fa5, fc5, A5, C5, S5, T5, rfl, HT1, HT2, HT3, HT4, HT5, hbN⟩
    have hszS := HC.size
    go_simp
    refine hK.out _ _ (HC.trans (hbN.mono HC.size)) (fun hHeld2 => ?_)
    replace HC := HC.trans (hbN.mono HC.size)
    replace HA := HA.below hbN
    have hszv13 := hbN.size
    clear hHeld
    have hHeld := hHeld2
    clear hK K hHeld2 hbN
    (try simp only [Act.put, List.getElem_toArray, List.getElem_cons_succ, List.getElem_cons_zero, List.setIfInBounds_toArray, List.set_cons_succ, List.set_cons_zero])
    refine wpAnyH_ready (rs := [6]) (by kernel_rfl) (by simp) (AllReadyH.cons (o := _) rfl (fun K hK => ?c3zacccs) AllReadyH.nil)
    rw [if_pos (by kernel_rfl)]
    obtain ⟨⟨d0, d1, d2, d3, d4, d5, d6⟩, d7, d8, d9, da, db, dc, dd⟩ := HA.fourteen
    obtain ⟨z0, z1, z2, z3, z4, z5, z6, z7, z8, z9, za, zb, zc, zd⟩ := HA.frz14
    have HE := tkOwn_store (pc := pc5) (fc := fc5) HA HT1 HT2 HT3 (fun b e => ⟨by have := HT4 b e; omega, by have := HT4 b e; omega, by have := HT4 b e; omega⟩) (fun b e => ⟨by have := HT5 b e; omega, by have := HT5 b e; omega, by have := HT5 b e; omega⟩) HGL HC
    have HE := Lib.hid HE
    clear HC HT1 HT2 HT3 HT4 HT5 hHeld HA
    go_simp
    refine hK.out _ _ ?_ (fun hHeld2 => ?_)
    · obtain ⟨_, _, _, _, _, _, _, _, _, _, _, _, _, _, _, hE⟩ := HE.out; exact hE
    clear hK K hHeld2 d0 d1 d2 d3 d4 d5 d6 d7 d8 d9 da db dc dd z0 z1 z2 z3 z4 z5 z6 z7 z8 z9 za zb zc zd
    (try simp only [Act.put, List.getElem_toArray, List.getElem_cons_succ, List.getElem_cons_zero, List.setIfInBounds_toArray, List.set_cons_succ, List.set_cons_zero])
    refine wpAnyH_done (by kernel_rfl) ?_ _
    exact HKK.out _ _ _ _ _ _ _ HE.out
end Go.Proofs.YtdcahilfmhkmiaaGreatDoor

namespace Go.Proofs.YtdcahilfmhkmiaaGreatDoor
open Go.RowKit

set_option maxHeartbeats 8000000 in
set_option maxRecDepth 200000 in
theorem takeReg8 {w w2 : World} {rd ed sz cp en : Int} {pa fa : Option Addr} {pc fc : Nat} {ps : List Pc} {n : Frs} {p s d : Int} {t : List UInt8} {e : Int} {r : RcR} {R : Ending → World → Prop} {K : Act → World → Prop} {u0 u1 u4 u5 u6 u7 u8 u9 u10 u11 u12 u13 u14 u15 u16 u17 u18 u19 u20 u21 u22 u23 u24 u25 u26 u27 u28 u29 u30 u31 u32 u33 u34 u35 u36 u37 u38 u39 u40 u41 u42 u43 u44 u45 u46 u47 u48 u49 u50 u51 u52 u53 u54 u55 u56 u57 u58 u59 u60 u61 u62 u63 u64 u65 u66 u67 u68 u69 u70 u71 u72 u73 u74 u75 u76 u77 u78 u79 u80 u81 : Value} (hp : InPcs w pa ps.length ps) (hf : InFrs (fun _ => True) w fa n.length n) (wt : t.length ≤ 9223372036854775807) (hr : rcvTakeN rd ps ed sz cp en n p s d t e = r) (hb2 : Below w.heap.size w w2) (n2 : ArgB w2 w.heap.size [.int .i64 rd, .slice pa ps.length pc, .int .i64 ed, .int .i64 sz, .int .i64 cp, .int .i64 en, .slice fa n.length fc] [.int .i64 p, .int .i64 s, .int .i64 d, gs t, .int .i64 e])
    (hK : ∀ (t23 t24 t25 t26 t27 : Value) (G : Nat) (V : World), TkOut w2 G r V → K ⟨List.toArray (u0 :: u1 :: .pointer (some ⟨w.heap.size, 0, none⟩) :: .pointer (some ⟨w.heap.size + 1, 0, none⟩) :: u4 :: u5 :: .pointer (some ⟨G, 0, none⟩) :: u7 :: u8 :: u9 :: u10 :: u11 :: u12 :: u13 :: u14 :: u15 :: u16 :: u17 :: u18 :: u19 :: u20 :: u21 :: u22 :: t23 :: t24 :: t25 :: t26 :: t27 :: u28 :: u29 :: u30 :: u31 :: u32 :: u33 :: u34 :: u35 :: u36 :: u37 :: u38 :: u39 :: u40 :: u41 :: u42 :: u43 :: u44 :: u45 :: u46 :: u47 :: u48 :: u49 :: u50 :: u51 :: u52 :: u53 :: u54 :: u55 :: u56 :: u57 :: u58 :: u59 :: u60 :: u61 :: u62 :: u63 :: u64 :: u65 :: u66 :: u67 :: u68 :: u69 :: u70 :: u71 :: u72 :: u73 :: u74 :: u75 :: u76 :: u77 :: u78 :: u79 :: u80 :: u81 :: []), []⟩ V) :
    Code.wp Tryz.prog (Code.region 8 #[{ dst := some 23, op := Op.load 81 (Operand.tmp 2), type := 81, pos := "exact.go:2118", after := #[], guard := none }, { dst := some 24, op := Op.call { callee := Callee.value (Operand.func 51), args := #[Operand.tmp 23], argTypes := #[81] }, type := 26, pos := "exact.go:2118", after := #[{ on := 0, ground := Ground.data }], guard := none }, { dst := some 25, op := Op.load 82 (Operand.tmp 3), type := 82, pos := "exact.go:2118", after := #[], guard := none }, { dst := some 26, op := Op.call { callee := Callee.value (Operand.func 52), args := #[Operand.tmp 25], argTypes := #[82] }, type := 28, pos := "exact.go:2118", after := #[{ on := 2, ground := Ground.data }, { on := 1, ground := Ground.chain }], guard := none }, { dst := some 27, op := Op.call { callee := Callee.value (Operand.func 14), args := #[Operand.tmp 24, Operand.tmp 26], argTypes := #[26, 28] }, type := 34, pos := "exact.go:2118", after := #[{ on := 1, ground := Ground.data }, { on := 3, ground := Ground.data }, { on := 3, ground := Ground.chain }], guard := none }, { dst := some 6, op := Op.alloc 34, type := 0, pos := "exact.go:2118", after := #[], guard := none }, { dst := none, op := Op.store 34 (Operand.tmp 6) (Operand.tmp 27), type := 0, pos := "exact.go:2118", after := #[{ on := 5, ground := Ground.data }, { on := 4, ground := Ground.data }, { on := 4, ground := Ground.chain }, { on := 0, ground := Ground.phase }, { on := 1, ground := Ground.phase }, { on := 2, ground := Ground.phase }, { on := 3, ground := Ground.phase }, { on := 4, ground := Ground.phase }, { on := 5, ground := Ground.phase }], guard := none }] true) (Exit.then K (bodyPost Tryz.prog Tryz.f5 R)) ⟨List.toArray (u0 :: u1 :: .pointer (some ⟨w.heap.size, 0, none⟩) :: .pointer (some ⟨w.heap.size + 1, 0, none⟩) :: u4 :: u5 :: u6 :: u7 :: u8 :: u9 :: u10 :: u11 :: u12 :: u13 :: u14 :: u15 :: u16 :: u17 :: u18 :: u19 :: u20 :: u21 :: u22 :: u23 :: u24 :: u25 :: u26 :: u27 :: u28 :: u29 :: u30 :: u31 :: u32 :: u33 :: u34 :: u35 :: u36 :: u37 :: u38 :: u39 :: u40 :: u41 :: u42 :: u43 :: u44 :: u45 :: u46 :: u47 :: u48 :: u49 :: u50 :: u51 :: u52 :: u53 :: u54 :: u55 :: u56 :: u57 :: u58 :: u59 :: u60 :: u61 :: u62 :: u63 :: u64 :: u65 :: u66 :: u67 :: u68 :: u69 :: u70 :: u71 :: u72 :: u73 :: u74 :: u75 :: u76 :: u77 :: u78 :: u79 :: u80 :: u81 :: []), []⟩ w2 := by
  have HTO := Lib.hid (fun (W : World) (hb : Below w.heap.size w W) => toRcv_calls (rd := rd) (ed := ed) (sz := sz) (cp := cp) (en := en) (pc := pc) (fc := fc) (hp.below hb) (hf.below hb))
  unfold RcvCopied at HTO
  unfold rcvV at HTO
  have HTS := Lib.hid (fun W => toSeg_calls p s d t e W)
  unfold segV at HTS
  have HS := Lib.hid (fun (W : World) (a b : Option Addr) (S : Nat → Prop) (hp : InPcs W a ps.length ps) (hf : InFrs S W b n.length n) => rcvTakeS_calls (rd := rd) (ed := ed) (sz := sz) (cp := cp) (en := en) (pc := ps.length) (fc := n.length) hp hf p s d t e wt)
  unfold RcGot rcvOutV at HS
  unfold rcvV segV at HS
  rw [hr] at HS
  have HB2 := Lib.hid hb2
  have N2 := Lib.hid n2
  clear hp hf wt hr hb2 n2
  have HKK := Lib.hid hK
  clear hK
  refine wp_region_held_drew (S := (fun X => Below w2.heap.size w2 X)) (by kernel_rfl) ((Below.refl _ _).drew) (fun hHeld => ?_)
  refine wpAnyH_take (i := 0) (oi := _) (v := ?v1z0) rfl (by kernel_rfl) (by kernel_rfl) (by kernel_rfl) (fun _ _ _ h => h) (Or.inl ⟨by kernel_rfl, ?hy1z0⟩) (by with_reducible assumption) ?rest1z0
  case hy1z0 => (intro w hSw; (try dsimp only at hSw); obtain ⟨c0, c1, c2, c3, c4, c5, c6⟩ := (N2.out.one.below hSw).seven; go_simp; (try with_reducible rfl))
  (try simp only [Act.put, List.getElem_toArray, List.getElem_cons_zero, List.setIfInBounds_toArray, List.set_cons_succ, List.set_cons_zero])
  refine wpAnyH_take (i := 2) (oi := _) (v := ?v1z2) rfl (by kernel_rfl) (by kernel_rfl) (by kernel_rfl) (fun _ _ _ h => h) (Or.inl ⟨by kernel_rfl, ?hy1z2⟩) (by with_reducible assumption) ?rest1z2
  case hy1z2 => (intro w hSw; (try dsimp only at hSw); obtain ⟨e0, e1, e2, e3, e4⟩ := (N2.out.two.below hSw).five; go_simp; (try with_reducible rfl))
  (try simp only [Act.put, List.getElem_toArray, List.getElem_cons_succ, List.getElem_cons_zero, List.setIfInBounds_toArray, List.set_cons_succ, List.set_cons_zero])
  have HC : Below w2.heap.size w2 w2.drew := (Below.refl _ _).drew
  generalize w2.drew = v0 at *
  refine wpAnyH_ready (rs := [1, 5]) (by kernel_rfl) (by simp) (AllReadyH.cons (o := _) rfl (fun K hK => ?c1zc1) (AllReadyH.cons (o := _) rfl (fun K hK => ?c1za5) AllReadyH.nil))
  case c1zc1 =>
    go_simp
    refine (HTO.out _ (HB2.out.trans (HC.mono HB2.out.size))).mono ?_
    rintro e9 v1 ⟨gp8, gf8, A8, C8, rfl, -, -, HPO, HFO, -, hbN⟩
    go_simp
    refine hK.out _ _ (HC.trans (hbN.mono HC.size)) (fun hHeld2 => ?_)
    replace HC := HC.trans (hbN.mono HC.size)
    have hszv1 := hbN.size
    clear hHeld
    have hHeld := hHeld2
    clear hK K hHeld2 hbN
    (try simp only [Act.put, List.getElem_toArray, List.getElem_cons_succ, List.getElem_cons_zero, List.setIfInBounds_toArray, List.set_cons_succ, List.set_cons_zero])
    refine wpAnyH_ready (rs := [3, 5]) (by kernel_rfl) (by simp) (AllReadyH.cons (o := _) rfl (fun K hK => ?c1zcc3) (AllReadyH.cons (o := _) rfl (fun K hK => ?c1zca5) AllReadyH.nil))
    case c1zcc3 =>
      go_simp
      refine (HTS.out _).mono ?_
      rintro e9 v2 ⟨rfl, hbN⟩
      go_simp
      refine hK.out _ _ (HC.trans (hbN.mono HC.size)) (fun hHeld2 => ?_)
      replace HC := HC.trans (hbN.mono HC.size)
      replace HPO := HPO.below hbN
      replace HFO := HFO.below hbN
      have hszv2 := hbN.size
      clear hHeld
      have hHeld := hHeld2
      clear hK K hHeld2 hbN
      (try simp only [Act.put, List.getElem_toArray, List.getElem_cons_succ, List.getElem_cons_zero, List.setIfInBounds_toArray, List.set_cons_succ, List.set_cons_zero])
      refine wpAnyH_ready (rs := [4, 5]) (by kernel_rfl) (by simp) (AllReadyH.cons (o := _) rfl (fun K hK => ?c1zccc4) (AllReadyH.cons (o := _) rfl (fun K hK => ?c1zcca5) AllReadyH.nil))
      case c1zccc4 =>
        go_simp
        refine (HS.out _ _ _ _ HPO.in' HFO.in').mono ?_
        rintro e9 v3 ⟨pa5, pc5, fa5, fc5, rfl, HT1, HT3, HT2, hbN⟩
        clear HPO HFO
        have hszS := HC.size
        go_simp
        refine hK.out _ _ (HC.trans (hbN.mono HC.size)) (fun hHeld2 => ?_)
        replace HC := HC.trans (hbN.mono HC.size)
        have hszv3 := hbN.size
        clear hHeld
        have hHeld := hHeld2
        clear hK K hHeld2 hbN
        (try simp only [Act.put, List.getElem_toArray, List.getElem_cons_succ, List.getElem_cons_zero, List.setIfInBounds_toArray, List.set_cons_succ, List.set_cons_zero])
        refine wpAnyH_ready (rs := [5]) (by kernel_rfl) (by simp) (AllReadyH.cons (o := _) rfl (fun K hK => ?c1zccca5) AllReadyH.nil)
        rw [if_pos (by kernel_rfl)]
        have HA := box_new v3 [.int .i64 0, .slice none 0 0, .int .i64 0, .int .i64 0, .int .i64 0, .int .i64 0, .slice none 0 0, .int .i64 0, .int .i64 0, .int .i64 0, .int .i64 0, gs [], .bool false, .int .i64 0] 34 (by simp)
        have hbN : Below v3.heap.size v3 (v3.alloc (.cells #[.int .i64 0, .slice none 0 0, .int .i64 0, .int .i64 0, .int .i64 0, .int .i64 0, .slice none 0 0, .int .i64 0, .int .i64 0, .int .i64 0, .int .i64 0, gs [], .bool false, .int .i64 0] 34)) := (Below.refl _ _).alloc (Nat.le_refl _) _
        have hsN : (v3.alloc (.cells #[.int .i64 0, .slice none 0 0, .int .i64 0, .int .i64 0, .int .i64 0, .int .i64 0, .slice none 0 0, .int .i64 0, .int .i64 0, .int .i64 0, .int .i64 0, gs [], .bool false, .int .i64 0] 34)).heap.size = v3.heap.size + 1 := by simp
        have HGL : w2.heap.size ≤ v3.heap.size := HC.size
        go_simp
        refine hK.out _ _ (HC.trans (hbN.mono HC.size)) (fun hHeld2 => ?_)
        generalize v3.alloc (.cells #[.int .i64 0, .slice none 0 0, .int .i64 0, .int .i64 0, .int .i64 0, .int .i64 0, .slice none 0 0, .int .i64 0, .int .i64 0, .int .i64 0, .int .i64 0, gs [], .bool false, .int .i64 0] 34) = v4 at *
        replace HC := HC.trans (hbN.mono HC.size)
        replace HT1 := HT1.below hbN
        replace HT2 := HT2.below hbN
        have hszv4 := hbN.size
        clear hHeld
        have hHeld := hHeld2
        clear hK K hHeld2 hbN
        (try simp only [Act.put, List.getElem_toArray, List.getElem_cons_succ, List.getElem_cons_zero, List.setIfInBounds_toArray, List.set_cons_succ, List.set_cons_zero])
        refine wpAnyH_ready (rs := [6]) (by kernel_rfl) (by simp) (AllReadyH.cons (o := _) rfl (fun K hK => ?c1zcccas) AllReadyH.nil)
        rw [if_pos (by kernel_rfl)]
        obtain ⟨⟨d0, d1, d2, d3, d4, d5, d6⟩, d7, d8, d9, da, db, dc, dd⟩ := HA.fourteen
        obtain ⟨z0, z1, z2, z3, z4, z5, z6, z7, z8, z9, za, zb, zc, zd⟩ := HA.frz14
        have HE := tkOut_store (pc := pc5) (fc := fc5) HA HT1 HT2 (fun b e => ⟨by have := HT3 b e; omega, by have := HT3 b e; omega⟩) (fun b (e : _ ∧ _) => ⟨by omega, by omega⟩) HGL HC
        have HE := Lib.hid HE
        clear HC HT1 HT2 HT3 hHeld HA
        go_simp
        refine hK.out _ _ ?_ (fun hHeld2 => ?_)
        · obtain ⟨_, _, _, _, _, _, _, _, _, hE⟩ := HE.out; exact hE
        clear hK K hHeld2 d0 d1 d2 d3 d4 d5 d6 d7 d8 d9 da db dc dd z0 z1 z2 z3 z4 z5 z6 z7 z8 z9 za zb zc zd
        (try simp only [Act.put, List.getElem_toArray, List.getElem_cons_succ, List.getElem_cons_zero, List.setIfInBounds_toArray, List.set_cons_succ, List.set_cons_zero])
        refine wpAnyH_done (by kernel_rfl) ?_ _
        exact HKK.out _ _ _ _ _ _ _ HE.out
      case c1zcca5 =>
        rw [if_pos (by kernel_rfl)]
        have HA := box_new v2 [.int .i64 0, .slice none 0 0, .int .i64 0, .int .i64 0, .int .i64 0, .int .i64 0, .slice none 0 0, .int .i64 0, .int .i64 0, .int .i64 0, .int .i64 0, gs [], .bool false, .int .i64 0] 34 (by simp)
        have hbN : Below v2.heap.size v2 (v2.alloc (.cells #[.int .i64 0, .slice none 0 0, .int .i64 0, .int .i64 0, .int .i64 0, .int .i64 0, .slice none 0 0, .int .i64 0, .int .i64 0, .int .i64 0, .int .i64 0, gs [], .bool false, .int .i64 0] 34)) := (Below.refl _ _).alloc (Nat.le_refl _) _
        have hsN : (v2.alloc (.cells #[.int .i64 0, .slice none 0 0, .int .i64 0, .int .i64 0, .int .i64 0, .int .i64 0, .slice none 0 0, .int .i64 0, .int .i64 0, .int .i64 0, .int .i64 0, gs [], .bool false, .int .i64 0] 34)).heap.size = v2.heap.size + 1 := by simp
        have HGL : w2.heap.size ≤ v2.heap.size := HC.size
        go_simp
        refine hK.out _ _ (HC.trans (hbN.mono HC.size)) (fun hHeld2 => ?_)
        generalize v2.alloc (.cells #[.int .i64 0, .slice none 0 0, .int .i64 0, .int .i64 0, .int .i64 0, .int .i64 0, .slice none 0 0, .int .i64 0, .int .i64 0, .int .i64 0, .int .i64 0, gs [], .bool false, .int .i64 0] 34) = v5 at *
        replace HC := HC.trans (hbN.mono HC.size)
        replace HPO := HPO.below hbN
        replace HFO := HFO.below hbN
        have hszv5 := hbN.size
        clear hHeld
        have hHeld := hHeld2
        clear hK K hHeld2 hbN
        (try simp only [Act.put, List.getElem_toArray, List.getElem_cons_succ, List.getElem_cons_zero, List.setIfInBounds_toArray, List.set_cons_succ, List.set_cons_zero])
        refine wpAnyH_ready (rs := [4]) (by kernel_rfl) (by simp) (AllReadyH.cons (o := _) rfl (fun K hK => ?c1zccac4) AllReadyH.nil)
        go_simp
        refine (HS.out _ _ _ _ HPO.in' HFO.in').mono ?_
        rintro e9 v6 ⟨pa5, pc5, fa5, fc5, rfl, HT1, HT3, HT2, hbN⟩
        clear HPO HFO
        have hszS := HC.size
        go_simp
        refine hK.out _ _ (HC.trans (hbN.mono HC.size)) (fun hHeld2 => ?_)
        replace HC := HC.trans (hbN.mono HC.size)
        replace HA := HA.below hbN
        have hszv6 := hbN.size
        clear hHeld
        have hHeld := hHeld2
        clear hK K hHeld2 hbN
        (try simp only [Act.put, List.getElem_toArray, List.getElem_cons_succ, List.getElem_cons_zero, List.setIfInBounds_toArray, List.set_cons_succ, List.set_cons_zero])
        refine wpAnyH_ready (rs := [6]) (by kernel_rfl) (by simp) (AllReadyH.cons (o := _) rfl (fun K hK => ?c1zccacs) AllReadyH.nil)
        rw [if_pos (by kernel_rfl)]
        obtain ⟨⟨d0, d1, d2, d3, d4, d5, d6⟩, d7, d8, d9, da, db, dc, dd⟩ := HA.fourteen
        obtain ⟨z0, z1, z2, z3, z4, z5, z6, z7, z8, z9, za, zb, zc, zd⟩ := HA.frz14
        have HE := tkOut_store (pc := pc5) (fc := fc5) HA HT1 HT2 (fun b e => ⟨by have := HT3 b e; omega, by have := HT3 b e; omega⟩) (fun b (e : _ ∧ _) => ⟨by omega, by omega⟩) HGL HC
        have HE := Lib.hid HE
        clear HC HT1 HT2 HT3 hHeld HA
        go_simp
        refine hK.out _ _ ?_ (fun hHeld2 => ?_)
        · obtain ⟨_, _, _, _, _, _, _, _, _, hE⟩ := HE.out; exact hE
        clear hK K hHeld2 d0 d1 d2 d3 d4 d5 d6 d7 d8 d9 da db dc dd z0 z1 z2 z3 z4 z5 z6 z7 z8 z9 za zb zc zd
        (try simp only [Act.put, List.getElem_toArray, List.getElem_cons_succ, List.getElem_cons_zero, List.setIfInBounds_toArray, List.set_cons_succ, List.set_cons_zero])
        refine wpAnyH_done (by kernel_rfl) ?_ _
        exact HKK.out _ _ _ _ _ _ _ HE.out
    case c1zca5 =>
      rw [if_pos (by kernel_rfl)]
      have HA := box_new v1 [.int .i64 0, .slice none 0 0, .int .i64 0, .int .i64 0, .int .i64 0, .int .i64 0, .slice none 0 0, .int .i64 0, .int .i64 0, .int .i64 0, .int .i64 0, gs [], .bool false, .int .i64 0] 34 (by simp)
      have hbN : Below v1.heap.size v1 (v1.alloc (.cells #[.int .i64 0, .slice none 0 0, .int .i64 0, .int .i64 0, .int .i64 0, .int .i64 0, .slice none 0 0, .int .i64 0, .int .i64 0, .int .i64 0, .int .i64 0, gs [], .bool false, .int .i64 0] 34)) := (Below.refl _ _).alloc (Nat.le_refl _) _
      have hsN : (v1.alloc (.cells #[.int .i64 0, .slice none 0 0, .int .i64 0, .int .i64 0, .int .i64 0, .int .i64 0, .slice none 0 0, .int .i64 0, .int .i64 0, .int .i64 0, .int .i64 0, gs [], .bool false, .int .i64 0] 34)).heap.size = v1.heap.size + 1 := by simp
      have HGL : w2.heap.size ≤ v1.heap.size := HC.size
      go_simp
      refine hK.out _ _ (HC.trans (hbN.mono HC.size)) (fun hHeld2 => ?_)
      generalize v1.alloc (.cells #[.int .i64 0, .slice none 0 0, .int .i64 0, .int .i64 0, .int .i64 0, .int .i64 0, .slice none 0 0, .int .i64 0, .int .i64 0, .int .i64 0, .int .i64 0, gs [], .bool false, .int .i64 0] 34) = v7 at *
      replace HC := HC.trans (hbN.mono HC.size)
      replace HPO := HPO.below hbN
      replace HFO := HFO.below hbN
      have hszv7 := hbN.size
      clear hHeld
      have hHeld := hHeld2
      clear hK K hHeld2 hbN
      (try simp only [Act.put, List.getElem_toArray, List.getElem_cons_succ, List.getElem_cons_zero, List.setIfInBounds_toArray, List.set_cons_succ, List.set_cons_zero])
      refine wpAnyH_ready (rs := [3]) (by kernel_rfl) (by simp) (AllReadyH.cons (o := _) rfl (fun K hK => ?c1zcac3) AllReadyH.nil)
      go_simp
      refine (HTS.out _).mono ?_
      rintro e9 v8 ⟨rfl, hbN⟩
      go_simp
      refine hK.out _ _ (HC.trans (hbN.mono HC.size)) (fun hHeld2 => ?_)
      replace HC := HC.trans (hbN.mono HC.size)
      replace HPO := HPO.below hbN
      replace HFO := HFO.below hbN
      replace HA := HA.below hbN
      have hszv8 := hbN.size
      clear hHeld
      have hHeld := hHeld2
      clear hK K hHeld2 hbN
      (try simp only [Act.put, List.getElem_toArray, List.getElem_cons_succ, List.getElem_cons_zero, List.setIfInBounds_toArray, List.set_cons_succ, List.set_cons_zero])
      refine wpAnyH_ready (rs := [4]) (by kernel_rfl) (by simp) (AllReadyH.cons (o := _) rfl (fun K hK => ?c1zcacc4) AllReadyH.nil)
      go_simp
      refine (HS.out _ _ _ _ HPO.in' HFO.in').mono ?_
      rintro e9 v9 ⟨pa5, pc5, fa5, fc5, rfl, HT1, HT3, HT2, hbN⟩
      clear HPO HFO
      have hszS := HC.size
      go_simp
      refine hK.out _ _ (HC.trans (hbN.mono HC.size)) (fun hHeld2 => ?_)
      replace HC := HC.trans (hbN.mono HC.size)
      replace HA := HA.below hbN
      have hszv9 := hbN.size
      clear hHeld
      have hHeld := hHeld2
      clear hK K hHeld2 hbN
      (try simp only [Act.put, List.getElem_toArray, List.getElem_cons_succ, List.getElem_cons_zero, List.setIfInBounds_toArray, List.set_cons_succ, List.set_cons_zero])
      refine wpAnyH_ready (rs := [6]) (by kernel_rfl) (by simp) (AllReadyH.cons (o := _) rfl (fun K hK => ?c1zcaccs) AllReadyH.nil)
      rw [if_pos (by kernel_rfl)]
      obtain ⟨⟨d0, d1, d2, d3, d4, d5, d6⟩, d7, d8, d9, da, db, dc, dd⟩ := HA.fourteen
      obtain ⟨z0, z1, z2, z3, z4, z5, z6, z7, z8, z9, za, zb, zc, zd⟩ := HA.frz14
      have HE := tkOut_store (pc := pc5) (fc := fc5) HA HT1 HT2 (fun b e => ⟨by have := HT3 b e; omega, by have := HT3 b e; omega⟩) (fun b (e : _ ∧ _) => ⟨by omega, by omega⟩) HGL HC
      have HE := Lib.hid HE
      clear HC HT1 HT2 HT3 hHeld HA
      go_simp
      refine hK.out _ _ ?_ (fun hHeld2 => ?_)
      · obtain ⟨_, _, _, _, _, _, _, _, _, hE⟩ := HE.out; exact hE
      clear hK K hHeld2 d0 d1 d2 d3 d4 d5 d6 d7 d8 d9 da db dc dd z0 z1 z2 z3 z4 z5 z6 z7 z8 z9 za zb zc zd
      (try simp only [Act.put, List.getElem_toArray, List.getElem_cons_succ, List.getElem_cons_zero, List.setIfInBounds_toArray, List.set_cons_succ, List.set_cons_zero])
      refine wpAnyH_done (by kernel_rfl) ?_ _
      exact HKK.out _ _ _ _ _ _ _ HE.out
  case c1za5 =>
    rw [if_pos (by kernel_rfl)]
    have HA := box_new v0 [.int .i64 0, .slice none 0 0, .int .i64 0, .int .i64 0, .int .i64 0, .int .i64 0, .slice none 0 0, .int .i64 0, .int .i64 0, .int .i64 0, .int .i64 0, gs [], .bool false, .int .i64 0] 34 (by simp)
    have hbN : Below v0.heap.size v0 (v0.alloc (.cells #[.int .i64 0, .slice none 0 0, .int .i64 0, .int .i64 0, .int .i64 0, .int .i64 0, .slice none 0 0, .int .i64 0, .int .i64 0, .int .i64 0, .int .i64 0, gs [], .bool false, .int .i64 0] 34)) := (Below.refl _ _).alloc (Nat.le_refl _) _
    have hsN : (v0.alloc (.cells #[.int .i64 0, .slice none 0 0, .int .i64 0, .int .i64 0, .int .i64 0, .int .i64 0, .slice none 0 0, .int .i64 0, .int .i64 0, .int .i64 0, .int .i64 0, gs [], .bool false, .int .i64 0] 34)).heap.size = v0.heap.size + 1 := by simp
    have HGL : w2.heap.size ≤ v0.heap.size := HC.size
    go_simp
    refine hK.out _ _ (HC.trans (hbN.mono HC.size)) (fun hHeld2 => ?_)
    generalize v0.alloc (.cells #[.int .i64 0, .slice none 0 0, .int .i64 0, .int .i64 0, .int .i64 0, .int .i64 0, .slice none 0 0, .int .i64 0, .int .i64 0, .int .i64 0, .int .i64 0, gs [], .bool false, .int .i64 0] 34) = v10 at *
    replace HC := HC.trans (hbN.mono HC.size)
    have hszv10 := hbN.size
    clear hHeld
    have hHeld := hHeld2
    clear hK K hHeld2 hbN
    (try simp only [Act.put, List.getElem_toArray, List.getElem_cons_succ, List.getElem_cons_zero, List.setIfInBounds_toArray, List.set_cons_succ, List.set_cons_zero])
    refine wpAnyH_ready (rs := [1]) (by kernel_rfl) (by simp) (AllReadyH.cons (o := _) rfl (fun K hK => ?c1zac1) AllReadyH.nil)
    go_simp
    refine (HTO.out _ (HB2.out.trans (HC.mono HB2.out.size))).mono ?_
    rintro e9 v11 ⟨gp8, gf8, A8, C8, rfl, -, -, HPO, HFO, -, hbN⟩
    go_simp
    refine hK.out _ _ (HC.trans (hbN.mono HC.size)) (fun hHeld2 => ?_)
    replace HC := HC.trans (hbN.mono HC.size)
    replace HA := HA.below hbN
    have hszv11 := hbN.size
    clear hHeld
    have hHeld := hHeld2
    clear hK K hHeld2 hbN
    (try simp only [Act.put, List.getElem_toArray, List.getElem_cons_succ, List.getElem_cons_zero, List.setIfInBounds_toArray, List.set_cons_succ, List.set_cons_zero])
    refine wpAnyH_ready (rs := [3]) (by kernel_rfl) (by simp) (AllReadyH.cons (o := _) rfl (fun K hK => ?c1zacc3) AllReadyH.nil)
    go_simp
    refine (HTS.out _).mono ?_
    rintro e9 v12 ⟨rfl, hbN⟩
    go_simp
    refine hK.out _ _ (HC.trans (hbN.mono HC.size)) (fun hHeld2 => ?_)
    replace HC := HC.trans (hbN.mono HC.size)
    replace HPO := HPO.below hbN
    replace HFO := HFO.below hbN
    replace HA := HA.below hbN
    have hszv12 := hbN.size
    clear hHeld
    have hHeld := hHeld2
    clear hK K hHeld2 hbN
    (try simp only [Act.put, List.getElem_toArray, List.getElem_cons_succ, List.getElem_cons_zero, List.setIfInBounds_toArray, List.set_cons_succ, List.set_cons_zero])
    refine wpAnyH_ready (rs := [4]) (by kernel_rfl) (by simp) (AllReadyH.cons (o := _) rfl (fun K hK => ?c1zaccc4) AllReadyH.nil)
    go_simp
    refine (HS.out _ _ _ _ HPO.in' HFO.in').mono ?_
    rintro e9 v13 ⟨pa5, pc5, fa5, fc5, rfl, HT1, HT3, HT2, hbN⟩
    clear HPO HFO
    have hszS := HC.size
    go_simp
    refine hK.out _ _ (HC.trans (hbN.mono HC.size)) (fun hHeld2 => ?_)
    replace HC := HC.trans (hbN.mono HC.size)
    replace HA := HA.below hbN
    have hszv13 := hbN.size
    clear hHeld
    have hHeld := hHeld2
    clear hK K hHeld2 hbN
    (try simp only [Act.put, List.getElem_toArray, List.getElem_cons_succ, List.getElem_cons_zero, List.setIfInBounds_toArray, List.set_cons_succ, List.set_cons_zero])
    refine wpAnyH_ready (rs := [6]) (by kernel_rfl) (by simp) (AllReadyH.cons (o := _) rfl (fun K hK => ?c1zacccs) AllReadyH.nil)
    rw [if_pos (by kernel_rfl)]
    obtain ⟨⟨d0, d1, d2, d3, d4, d5, d6⟩, d7, d8, d9, da, db, dc, dd⟩ := HA.fourteen
    obtain ⟨z0, z1, z2, z3, z4, z5, z6, z7, z8, z9, za, zb, zc, zd⟩ := HA.frz14
    have HE := tkOut_store (pc := pc5) (fc := fc5) HA HT1 HT2 (fun b e => ⟨by have := HT3 b e; omega, by have := HT3 b e; omega⟩) (fun b (e : _ ∧ _) => ⟨by omega, by omega⟩) HGL HC
    have HE := Lib.hid HE
    clear HC HT1 HT2 HT3 hHeld HA
    go_simp
    refine hK.out _ _ ?_ (fun hHeld2 => ?_)
    · obtain ⟨_, _, _, _, _, _, _, _, _, hE⟩ := HE.out; exact hE
    clear hK K hHeld2 d0 d1 d2 d3 d4 d5 d6 d7 d8 d9 da db dc dd z0 z1 z2 z3 z4 z5 z6 z7 z8 z9 za zb zc zd
    (try simp only [Act.put, List.getElem_toArray, List.getElem_cons_succ, List.getElem_cons_zero, List.setIfInBounds_toArray, List.set_cons_succ, List.set_cons_zero])
    refine wpAnyH_done (by kernel_rfl) ?_ _
    exact HKK.out _ _ _ _ _ _ _ HE.out
end Go.Proofs.YtdcahilfmhkmiaaGreatDoor
