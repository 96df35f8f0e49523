/- The program opens a reader: a Rcv with lists of its own. -/
import Derived.Test.YtdcahilfmhkmiaaGreatDoorOwnR
import Derived.Test.YtdcahilfmhkmiaaGreatDoorPass
import Derived.Test.YtdcahilfmhkmiaaGreatDoorAs
import Derived.Test.YtdcahilfmhkmiaaGreatDoorRcvNew
namespace Go.Proofs.YtdcahilfmhkmiaaGreatDoor
open Go.RowKit

/-- What opening a reader answers, where the Rcv is right. -/
def Opened (w : World) (rd : Int) (pl : Nat) (ps : List Pc) (ed sz cp en : Int) (n : Frs) (e : Ending) (w' : World) : Prop :=
  ∃ xa xc gf cf A C, e = .returned (.tuple #[readerV rd ed sz cp xa pl xc en (some ⟨gf, 0, none⟩) n.length cf, .nilIface]) ∧ PcsOwn (fun b => w.heap.size ≤ b ∧ b < gf) w' xa pl ps ∧ FrsOwn (fun b => gf ≤ b ∧ b < w'.heap.size) w' (some ⟨gf, 0, none⟩) n.length n A C ∧ w.heap.size ≤ gf ∧ Below w.heap.size w w'
set_option maxHeartbeats 4000000 in
set_option maxRecDepth 100000 in
theorem openReader_calls {S : Nat → Prop} {rd ed sz cp en : Int} {pa fa : Option Addr} {pl pc fl fc : Nat} {ps : List Pc} {n : Frs} {w : World} (hp : InPcs w pa pl ps) (hf : InFrs S w fa fl n) (hok : rcvOk rd ps ed sz cp en n) :
    Calls Tryz.prog 63 #[rcvV rd pa pl pc ed sz cp en fa fl fc] w (Opened w rd pl ps ed sz cp en n) := by
  obtain rfl := hf.long
  have h1 := fun (W : World) (hb : Below w.heap.size w W) => rcvRightN_calls (rd := rd) (ed := ed) (sz := sz) (cp := cp) (en := en) (pc := pc) (fc := fc) (hp.below hb) (hf.below hb)
  rw [decide_eq_true hok] at h1
  have H1 := Lib.hid h1
  have H2 := Lib.hid (fun (W : World) (hb : Below w.heap.size w W) => ownR_calls (rd := rd) (ed := ed) (sz := sz) (cp := cp) (en := en) (pc := pc) (fc := fc) (hp.below hb) (hf.below hb) (by have := hok.2.2.2.2.2.2.2.2.2.1; omega))
  have H3 := Lib.hid (fun xa xc gf cf W => readerOf_calls rd xa pl xc ed sz cp en (some ⟨gf, 0, none⟩) n.length cf W)
  unfold RcvOwned at H2
  unfold readerV rcvV at *
  clear hp hf h1 hok
  go_enter Tryz.func63, Tryz.ntmps63
  go_wp2_with fail
  have n3 := box_two w [.int .i64 rd, .slice pa pl pc, .int .i64 ed, .int .i64 sz, .int .i64 cp, .int .i64 en, .slice fa n.length fc] [.int .i64 0, .int .i64 0, .int .i64 0, .int .i64 0, .slice none 0 0, .int .i64 0, .slice none 0 0] 26 101 (by simp) (by simp)
  dsimp only at n3
  generalize (w.alloc (.cells #[.int .i64 rd, .slice pa pl pc, .int .i64 ed, .int .i64 sz, .int .i64 cp, .int .i64 en, .slice fa n.length fc] 26)).alloc (.cells #[.int .i64 0, .int .i64 0, .int .i64 0, .int .i64 0, .slice none 0 0, .int .i64 0, .slice none 0 0] 101) = W at *
  obtain ⟨n1, n2, hs, hb0⟩ := n3
  obtain ⟨c0, c1, c2, c3, c4, c5, c6⟩ := n1.seven
  (with_reducible refine (H1.out _ hb0).mono ?_); rintro e w1 ⟨rfl, hb1⟩
  have N1 := Lib.hid (n1.below hb1)
  have N2 := Lib.hid (n2.below hb1)
  have HB1 := Lib.hid (hb0.trans (hb1.mono hb0.size))
  have hs1 : w.heap.size + 2 ≤ w1.heap.size := by have := hb1.size; omega
  clear n1 n2 hb0 hb1 hs c0 c1 c2 c3 c4 c5 c6 H1
  obtain ⟨c0, c1, c2, c3, c4, c5, c6⟩ := N1.out.seven
  go_wp2_with fail
  (with_reducible refine (H2.out _ HB1.out).mono ?_); rintro e w2 ⟨xa, xc, gf, cf, A, C, rfl, hpo, hfo, hgf, hb2⟩
  have HB2 := Lib.hid (HB1.out.trans (hb2.mono HB1.out.size))
  have N3 := Lib.hid (N2.out.below hb2)
  have HPO := Lib.hid hpo
  have HFO := Lib.hid hfo
  clear hb2 hpo hfo H2 N1 N2 HB1
  go_wp2_with fail
  (with_reducible refine (H3.out _ _ _ _ _).mono ?_); rintro e w3 ⟨rfl, hb3⟩
  have HB3 := Lib.hid (HB2.out.trans (hb3.mono HB2.out.size))
  have HPO3 := Lib.hid (HPO.out.below hb3)
  have HFO3 := Lib.hid (HFO.out.below hb3)
  have N4 := Lib.hid (N3.out.below hb3)
  have hs3 := hb3.size
  clear hb3 H3 HPO HFO N3 HB2 c0 c1 c2 c3 c4 c5 c6
  obtain ⟨y0, y1, y2, y3, y4, y5, y6⟩ := N4.out.seven
  obtain ⟨z0, z1, z2, z3, z4, z5, z6⟩ := N4.out.frz7
  go_wp2_with fail
  refine bodyPost_ret (v := .tuple #[.agg #[.int .i64 rd, .int .i64 ed, .int .i64 sz, .int .i64 cp, .slice xa pl xc, .int .i64 en, .slice (some ⟨gf, 0, none⟩) n.length cf], .nilIface]) (by simp [results, Tryz.results63, go_sem, *]) rfl ?_
  have hK := keptw7 w3 (w.heap.size + 1) (.int .i64 rd) (.int .i64 ed) (.int .i64 sz) (.int .i64 cp) (.slice xa pl xc) (.int .i64 en) (.slice (some ⟨gf, 0, none⟩) n.length cf)
  exact ⟨xa, xc, gf, cf, A, C, rfl, (HPO3.out.kept hK (fun b e e' => by omega)).mono (fun b e => by omega), (HFO3.out.kept hK (fun b e e' => by omega)).mono (fun b e => ⟨e.1, Nat.lt_of_lt_of_le (Nat.lt_of_lt_of_le e.2 hs3) hK.size⟩), by omega, HB3.out.trans (hK.toBelow HB3.out.size (fun b hb e => by omega))⟩

/-- What opening a reader answers, where the Rcv is not right. -/
theorem openBad_calls {S : Nat → Prop} {rd ed sz cp en : Int} {pa fa : Option Addr} {pl pc fl fc : Nat} {ps : List Pc} {n : Frs} {w : World} (hp : InPcs w pa pl ps) (hf : InFrs S w fa fl n) (hok : ¬ rcvOk rd ps ed sz cp en n) :
    Calls Tryz.prog 63 #[rcvV rd pa pl pc ed sz cp en fa fl fc] w fun e w' => e = .returned (.tuple #[readerV 0 0 0 0 none 0 0 0 none 0 0, faultV 1]) ∧ Below w.heap.size w w' := by
  have h1 := fun (W : World) (hb : Below w.heap.size w W) => rcvRightN_calls (rd := rd) (ed := ed) (sz := sz) (cp := cp) (en := en) (pc := pc) (fc := fc) (hp.below hb) (hf.below hb)
  rw [decide_eq_false hok] at h1
  have H1 := Lib.hid h1
  unfold readerV rcvV at *
  clear hp hf h1 hok
  go_enter Tryz.func63, Tryz.ntmps63
  go_wp2_with fail
  have n3 := box_two w [.int .i64 rd, .slice pa pl pc, .int .i64 ed, .int .i64 sz, .int .i64 cp, .int .i64 en, .slice fa fl fc] [.int .i64 0, .int .i64 0, .int .i64 0, .int .i64 0, .slice none 0 0, .int .i64 0, .slice none 0 0] 26 101 (by simp) (by simp)
  dsimp only at n3
  generalize (w.alloc (.cells #[.int .i64 rd, .slice pa pl pc, .int .i64 ed, .int .i64 sz, .int .i64 cp, .int .i64 en, .slice fa fl fc] 26)).alloc (.cells #[.int .i64 0, .int .i64 0, .int .i64 0, .int .i64 0, .slice none 0 0, .int .i64 0, .slice none 0 0] 101) = W at *
  obtain ⟨n1, n2, hs, hb0⟩ := n3
  obtain ⟨c0, c1, c2, c3, c4, c5, c6⟩ := n1.seven
  (with_reducible refine (H1.out _ hb0).mono ?_); rintro e w2 ⟨rfl, hb1⟩
  have K2 := Lib.hid (n2.below hb1)
  have HB2 := Lib.hid (hb0.trans (hb1.mono hb0.size))
  clear n1 n2 hb0 hb1 hs c0 c1 c2 c3 c4 c5 c6 H1
  obtain ⟨d0, d1, d2, d3, d4, d5, d6⟩ := K2.out.seven
  obtain ⟨z0, z1, z2, z3, z4, z5, z6⟩ := K2.out.frz7
  go_wp2_with fail
  refine bodyPost_ret (v := .tuple #[.agg #[.int .i64 0, .int .i64 0, .int .i64 0, .int .i64 0, .slice none 0 0, .int .i64 0, .slice none 0 0], faultV 1]) (by simp [results, Tryz.results63, go_sem, faultV, *]) rfl ⟨rfl, ?_⟩
  have hK := keptw7 w2 (w.heap.size + 1) (.int .i64 0) (.int .i64 0) (.int .i64 0) (.int .i64 0) (.slice none 0 0) (.int .i64 0) (.slice none 0 0)
  exact HB2.out.trans (hK.toBelow HB2.out.size (fun b hb e => by omega))
end Go.Proofs.YtdcahilfmhkmiaaGreatDoor
