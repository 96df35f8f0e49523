/- What of a text there is room for, as the program cuts it; the end that is learned. -/
import Derived.Test.YtdcahilfmhkmiaaGreatDoorRcvD
import Derived.Test.YtdcahilfmhkmiaaGreatDoorRcvPlain
import Derived.Test.YtdcahilfmhkmiaaGreatDoorPackA
import Derived.Test.YtdcahilfmhkmiaaGreatDoorPass
namespace Go.Proofs.YtdcahilfmhkmiaaGreatDoor
open Go.RowKit

def inAt (rd ed d : Int) (t : List UInt8) : Int := if max d rd < min (d + (t.length : Int)) ed then max d rd else rd
def inText (rd ed d : Int) (t : List UInt8) : List UInt8 := if max d rd < min (d + (t.length : Int)) ed then (t.drop (max d rd - d).toNat).take (min (d + (t.length : Int)) ed - max d rd).toNat else []
set_option maxHeartbeats 4000000 in
set_option maxRecDepth 100000 in
theorem inside_lt (rd ed sz cp d lo hi : Int) (t X : List UInt8) (w : World) (hrd : 0 ≤ rd ∧ rd ≤ 1000000) (hed : 0 ≤ ed ∧ ed ≤ 1000000) (hd : 0 ≤ d ∧ d ≤ 1000000) (ht : t.length ≤ 16) (hlt : lo < hi)
    (hlo : (d < rd ∧ lo = rd) ∨ (rd ≤ d ∧ lo = d)) (hhi : (ed < d + (t.length : Int) ∧ hi = ed) ∨ (d + (t.length : Int) ≤ ed ∧ hi = d + (t.length : Int))) (hX : X = (t.drop (lo - d).toNat).take (hi - lo).toNat) :
    Calls Tryz.prog 129 #[roomV rd ed sz cp, .int .i64 d, gs t] w fun e w' => e = .returned (.tuple #[.int .i64 lo, gs X]) ∧ Below w.heap.size w w' := by
  unfold roomV
  have HB := Lib.hid ((((Below.refl w.heap.size w).alloc (Nat.le_refl _) (.cells #[.int .i64 rd, .int .i64 ed, .int .i64 sz, .int .i64 cp] 99)).drew).drew)
  have hBt : ((lo - d).toNat : Int) = lo - d := by omega
  have hNt : ((lo - d).toNat : Int) + ((hi - lo).toNat : Int) = hi - d := by omega
  have hsl := slice_text (P := Tryz.prog) Tryz.underlying9 t (lo - d).toNat (hi - lo).toNat (by omega)
  rw [hNt, hBt, ← hX] at hsl
  clear hBt hNt hX
  have hw1 : IntKind.i64.wrap (lo - d) = lo - d := IntWalk.i64_in _ (by omega)
  have hw2 : IntKind.i64.wrap (hi - d) = hi - d := IntWalk.i64_in _ (by omega)
  rcases hlo with ⟨h1, rfl⟩ | ⟨h1, rfl⟩ <;> rcases hhi with ⟨h2, rfl⟩ | ⟨h2, rfl⟩
  all_goals
    (try simp only [Int.sub_self] at hsl)
    go_enter Tryz.func129, Tryz.ntmps129
    go_wp2_with (first | go_region | fail)
    first
      | exact bodyPost_ret (v := .tuple #[.int .i64 lo, gs X]) (by simp [results, Tryz.results129, go_sem]) rfl ⟨rfl, HB.out⟩
      | exact bodyPost_ret (v := .tuple #[.int .i64 d, gs X]) (by simp [results, Tryz.results129, go_sem]) rfl ⟨rfl, HB.out⟩
      | exact bodyPost_ret (v := .tuple #[.int .i64 rd, gs X]) (by simp [results, Tryz.results129, go_sem]) rfl ⟨rfl, HB.out⟩
set_option maxHeartbeats 4000000 in
set_option maxRecDepth 100000 in
theorem inside_ge (rd ed sz cp d lo hi : Int) (t : List UInt8) (w : World) (hrd : 0 ≤ rd ∧ rd ≤ 1000000) (hed : 0 ≤ ed ∧ ed ≤ 1000000) (hd : 0 ≤ d ∧ d ≤ 1000000) (ht : t.length ≤ 16) (hlt : ¬ lo < hi)
    (hlo : (d < rd ∧ lo = rd) ∨ (rd ≤ d ∧ lo = d)) (hhi : (ed < d + (t.length : Int) ∧ hi = ed) ∨ (d + (t.length : Int) ≤ ed ∧ hi = d + (t.length : Int))) :
    Calls Tryz.prog 129 #[roomV rd ed sz cp, .int .i64 d, gs t] w fun e w' => e = .returned (.tuple #[.int .i64 rd, gs []]) ∧ Below w.heap.size w w' := by
  unfold roomV
  have HB := Lib.hid (((Below.refl w.heap.size w).alloc (Nat.le_refl _) (.cells #[.int .i64 rd, .int .i64 ed, .int .i64 sz, .int .i64 cp] 99)).drew)
  rcases hlo with ⟨h1, rfl⟩ | ⟨h1, rfl⟩ <;> rcases hhi with ⟨h2, rfl⟩ | ⟨h2, rfl⟩
  all_goals
    go_enter Tryz.func129, Tryz.ntmps129
    go_wp2_with (first | go_region | fail)
    first
      | exact bodyPost_ret (v := .tuple #[.int .i64 rd, gs []]) (by simp [results, Tryz.results129, go_sem]) rfl ⟨rfl, HB.out⟩
      | exact bodyPost_ret (v := .tuple #[.int .i64 lo, gs []]) (by simp [results, Tryz.results129, go_sem]) rfl ⟨rfl, HB.out⟩
theorem inside_calls (rd ed sz cp d : Int) (t : List UInt8) (w : World) (hrd : 0 ≤ rd ∧ rd ≤ 1000000) (hed : 0 ≤ ed ∧ ed ≤ 1000000) (hd : 0 ≤ d ∧ d ≤ 1000000) (ht : t.length ≤ 16) :
    Calls Tryz.prog 129 #[roomV rd ed sz cp, .int .i64 d, gs t] w fun e w' => e = .returned (.tuple #[.int .i64 (inAt rd ed d t), gs (inText rd ed d t)]) ∧ Below w.heap.size w w' := by
  have hlo : (d < rd ∧ max d rd = rd) ∨ (rd ≤ d ∧ max d rd = d) := by omega
  have hhi : (ed < d + (t.length : Int) ∧ min (d + (t.length : Int)) ed = ed) ∨ (d + (t.length : Int) ≤ ed ∧ min (d + (t.length : Int)) ed = d + (t.length : Int)) := by omega
  unfold inAt inText
  by_cases h : max d rd < min (d + (t.length : Int)) ed
  · rw [if_pos h, if_pos h]
    exact inside_lt rd ed sz cp d _ _ t _ w hrd hed hd ht h hlo hhi rfl
  · rw [if_neg h, if_neg h]
    exact inside_ge rd ed sz cp d _ _ t w hrd hed hd ht h hlo hhi
theorem takeEn_eq {rd en e : Int} {ps : List Pc} (h : 0 ≤ lastN rd ps) : takeEn rd ps en e = if en = -1 ∧ lastN rd ps ≤ e then e else en := by
  unfold takeEn
  by_cases h1 : en = -1 ∧ lastN rd ps ≤ e
  · rw [if_pos h1, if_pos ⟨by omega, h1⟩]
  · rw [if_neg h1, if_neg (fun h2 => h1 h2.2)]
set_option maxHeartbeats 2000000 in
set_option maxRecDepth 100000 in
theorem learnEnd_calls {rd ed sz cp en : Int} {pa fa : Option Addr} {pl pc fl fc g : Nat} {ps : List Pc} {w : World} (hb : Box w g [.int .i64 rd, .int .i64 ed, .int .i64 sz, .int .i64 cp, .slice pa pl pc, .int .i64 en, .slice fa fl fc]) (hp : InPcs w pa pl ps) (hr : right ps) (hl : 0 ≤ lastN rd ps) (e : Int) :
    Calls Tryz.prog 131 #[.pointer (some ⟨g, 0, none⟩), .int .i64 e] w fun x w' => x = .returned (.tuple #[]) ∧
      Box w' g [.int .i64 rd, .int .i64 ed, .int .i64 sz, .int .i64 cp, .slice pa pl pc, .int .i64 (takeEn rd ps en e), .slice fa fl fc] ∧ Kept (fun b => b = g) w w' := by
  rw [takeEn_eq hl]
  have H1 := Lib.hid (behindLast_calls (rd := rd) (ed := ed) (sz := sz) (cp := cp) (en := en) (pc := pc) (fa := fa) (fl := fl) (fc := fc) hp hr)
  generalize lastN rd ps = q at *
  unfold readerV at H1
  obtain ⟨c0, c1, c2, c3, c4, c5, c6⟩ := hb.seven
  have HB := Lib.hid hb
  clear hb hp hr hl
  cases h1 : (en == -1) with
  | false =>
    have hn : ¬ en = -1 := by simpa using h1
    rw [if_neg (fun h => hn h.1)]
    clear hn
    go_enter Tryz.func131, Tryz.ntmps131
    go_wp2_with fail
    exact bodyPost_end (v := .tuple #[]) (by simp [results, Tryz.results131, go_sem]) rfl ⟨rfl, HB.out, Kept.refl _ _⟩
  | true =>
    have hy : en = -1 := by simpa using h1
    by_cases h2 : q ≤ e
    · rw [if_pos ⟨hy, h2⟩]
      clear hy
      go_enter Tryz.func131, Tryz.ntmps131
      go_wp2_with fail
      (with_reducible refine H1.out.mono ?_); rintro x w1 ⟨rfl, hb1⟩
      have N1 := Lib.hid (HB.out.below hb1)
      have HK := Lib.hid (kept_below (S := fun b => b = g) hb1)
      clear hb1 HB H1 c0 c1 c2 c3 c4 c5 c6
      obtain ⟨c0, c1, c2, c3, c4, c5, c6⟩ := N1.out.seven
      obtain ⟨z0, z1, z2, z3, z4, z5, z6⟩ := N1.out.frz7
      go_wp2_with fail
      exact bodyPost_end (v := .tuple #[]) (by simp [results, Tryz.results131, go_sem]) rfl ⟨rfl, N1.out.set 5 (.int .i64 e), HK.out.trans (kept_set (S := fun b => b = g) w1 g 5 (.int .i64 e) rfl)⟩
    · rw [if_neg (fun h => h2 h.2)]
      clear hy
      go_enter Tryz.func131, Tryz.ntmps131
      go_wp2_with fail
      (with_reducible refine H1.out.mono ?_); rintro x w1 ⟨rfl, hb1⟩
      have N1 := Lib.hid (HB.out.below hb1)
      have HK := Lib.hid (kept_below (S := fun b => b = g) hb1)
      clear hb1 HB H1 c0 c1 c2 c3 c4 c5 c6
      go_wp2_with fail
      exact bodyPost_end (v := .tuple #[]) (by simp [results, Tryz.results131, go_sem]) rfl ⟨rfl, N1.out, HK.out⟩
end Go.Proofs.YtdcahilfmhkmiaaGreatDoor
