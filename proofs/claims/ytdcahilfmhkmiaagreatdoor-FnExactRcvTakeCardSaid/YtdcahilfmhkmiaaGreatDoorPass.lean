/- The program's room goes on; a reader handed out as a Rcv. -/
import Derived.Test.YtdcahilfmhkmiaaGreatDoorRcvD
import Derived.Test.YtdcahilfmhkmiaaGreatDoorRcvPlain
namespace Go.Proofs.YtdcahilfmhkmiaaGreatDoor
open Go.RowKit

theorem rcv_calls (rd ed sz cp : Int) (pa : Option Addr) (pl pc : Nat) (en : Int) (fa : Option Addr) (fl fc : Nat) (w : World) :
    Calls Tryz.prog 66 #[readerV rd ed sz cp pa pl pc en fa fl fc] w fun e w' => e = .returned (rcvV rd pa pl pc ed sz cp en fa fl fc) ∧ Below w.heap.size w w' := by
  unfold rcvV readerV
  go_enter Tryz.func66, Tryz.ntmps66
  go_wp2_with fail
  refine bodyPost_ret (v := .agg #[.int .i64 rd, .slice pa pl pc, .int .i64 ed, .int .i64 sz, .int .i64 cp, .int .i64 en, .slice fa fl fc]) (by simp [results, Tryz.results66, go_sem]) rfl ⟨rfl, ?_⟩
  exact ((Below.refl _ _).alloc (Nat.le_refl _) _).alloc (by simp) _
theorem box_dr {w : World} {g : Nat} {vs : List Value} (h : Box w g vs) : Box w.drew g vs := ⟨h.cell, h.free, h.pos⟩
theorem kept_dr {S : Nat → Prop} {a w : World} (h : Kept S a w) : Kept S a w.drew := ⟨h.os, h.tape, h.output, h.size, h.block⟩
theorem Box.vals {w : World} {g : Nat} {a d X Y Z : Value} {b c b' c' : Int} (h : Box w g [a, .int .i64 b, .int .i64 c, d, X, Y, Z]) (hb : b = b') (hc : c = c') : Box w g [a, .int .i64 b', .int .i64 c', d, X, Y, Z] := by subst hb; subst hc; exact h
theorem passBox {w : World} {g : Nat} {a b c d X Y Z : Value} (h : Box w g [a, b, c, d, X, Y, Z]) (a' : Value) (b' c' : Int) : Box ((((w.setCell ⟨g, 0, none⟩ a').setCell ⟨g, 2, none⟩ (.int .i64 c')).setCell ⟨g, 1, none⟩ (.int .i64 b')).drew.drew) g [a', .int .i64 b', .int .i64 c', d, X, Y, Z] ∧
    Kept (fun b => b = g) w ((((w.setCell ⟨g, 0, none⟩ a').setCell ⟨g, 2, none⟩ (.int .i64 c')).setCell ⟨g, 1, none⟩ (.int .i64 b')).drew.drew) :=
  ⟨box_dr (box_dr (((h.set 0 a').set 2 (.int .i64 c')).set 1 (.int .i64 b'))), kept_dr (kept_dr (((kept_set (S := fun b => b = g) _ g 0 a' rfl).trans (kept_set _ g 2 (.int .i64 c') rfl)).trans (kept_set _ g 1 (.int .i64 b') rfl)))⟩
theorem passBox2 {w : World} {g : Nat} {a b d X Y Z : Value} {c : Int} (h : Box w g [a, b, .int .i64 c, d, X, Y, Z]) (a' : Value) (b' : Int) : Box (((w.setCell ⟨g, 0, none⟩ a').setCell ⟨g, 1, none⟩ (.int .i64 b')).drew) g [a', .int .i64 b', .int .i64 c, d, X, Y, Z] ∧
    Kept (fun b => b = g) w (((w.setCell ⟨g, 0, none⟩ a').setCell ⟨g, 1, none⟩ (.int .i64 b')).drew) :=
  ⟨box_dr ((h.set 0 a').set 1 (.int .i64 b')), kept_dr ((kept_set (S := fun b => b = g) _ g 0 a' rfl).trans (kept_set _ g 1 (.int .i64 b') rfl))⟩
set_option maxHeartbeats 2000000 in
set_option maxRecDepth 100000 in
theorem pass_calls {w : World} {g : Nat} {rd ed sz cp : Int} {X Y Z : Value} (h : Box w g [.int .i64 rd, .int .i64 ed, .int .i64 sz, .int .i64 cp, X, Y, Z]) (n : Int) (hrd : 0 ≤ rd ∧ rd ≤ 1000000) (hed : 0 ≤ ed ∧ ed ≤ 1000000) (hsz : 1 ≤ sz ∧ sz ≤ cp) (hcp : cp ≤ 64) (hn : 0 ≤ n ∧ n ≤ 2000000) :
    Calls Tryz.prog 137 #[.pointer (some ⟨g, 0, none⟩), .int .i64 n] w fun e w' => e = .returned (.tuple #[]) ∧ Box w' g [.int .i64 (rd + n), .int .i64 (max ed (min (rd + n + readSz sz cp n) 1000000)), .int .i64 (readSz sz cp n), .int .i64 cp, X, Y, Z] ∧ Kept (fun b => b = g) w w' := by
  obtain ⟨c0, c1, c2, c3, -, -, -⟩ := h.seven
  obtain ⟨z0, z1, z2, z3, -, -, -⟩ := h.frz7
  have HH := Lib.hid h
  clear h
  by_cases hs : sz ≤ 2 * n
  · rw [show readSz sz cp n = min (2 * sz) cp by unfold readSz; rw [if_pos hs]]
    go_enter Tryz.func137, Tryz.ntmps137
    go_wp2_with (first | go_region | fail)
    all_goals
      exact bodyPost_end (v := .tuple #[]) (by simp [results, Tryz.results137, go_sem]) rfl ⟨rfl, (passBox HH.out _ _ _).1.vals (by omega) (by omega), (passBox HH.out _ _ _).2⟩
  · rw [show readSz sz cp n = sz by unfold readSz; rw [if_neg hs]]
    go_enter Tryz.func137, Tryz.ntmps137
    go_wp2_with (first | go_region | fail)
    all_goals
      exact bodyPost_end (v := .tuple #[]) (by simp [results, Tryz.results137, go_sem]) rfl ⟨rfl, (passBox2 HH.out _ _).1.vals (by omega) rfl, (passBox2 HH.out _ _).2⟩
end Go.Proofs.YtdcahilfmhkmiaaGreatDoor
