/- The model's RcvRead. -/
import Derived.Test.YtdcahilfmhkmiaaGreatDoorRcvPlain
import Derived.Test.YtdcahilfmhkmiaaGreatDoorRcvCopy
import Derived.Test.YtdcahilfmhkmiaaGreatDoorRcvR
import Derived.Test.YtdcahilfmhkmiaaGreatDoorRcvAck
import Derived.Test.YtdcahilfmhkmiaaGreatDoorCutMem
import Derived.Test.YtdcahilfmhkmiaaGreatDoorPackA
import Derived.Test.YtdcahilfmhkmiaaGreatDoorMax
namespace Go.Proofs.YtdcahilfmhkmiaaGreatDoor
open Go.RowKit

/-- A store of seven cells. -/
theorem Box.store7 {W : World} {g : Nat} {a b c d e f h : Value} (k : Box W g [a, b, c, d, e, f, h]) (v0 v1 v2 v3 v4 v5 v6 : Value) :
    Box (((((((W.setCell ⟨g, 0, none⟩ v0).setCell ⟨g, 1, none⟩ v1).setCell ⟨g, 2, none⟩ v2).setCell ⟨g, 3, none⟩ v3).setCell ⟨g, 4, none⟩ v4).setCell ⟨g, 5, none⟩ v5).setCell ⟨g, 6, none⟩ v6) g [v0, v1, v2, v3, v4, v5, v6] ∧
    Kept (fun b => b = g) W (((((((W.setCell ⟨g, 0, none⟩ v0).setCell ⟨g, 1, none⟩ v1).setCell ⟨g, 2, none⟩ v2).setCell ⟨g, 3, none⟩ v3).setCell ⟨g, 4, none⟩ v4).setCell ⟨g, 5, none⟩ v5).setCell ⟨g, 6, none⟩ v6) :=
  ⟨((((((k.set 0 v0).set 1 v1).set 2 v2).set 3 v3).set 4 v4).set 5 v5).set 6 v6, ((((((kept_set (S := fun b => b = g) W g 0 v0 rfl).trans (kept_set _ g 1 v1 rfl)).trans (kept_set _ g 2 v2 rfl)).trans (kept_set _ g 3 v3 rfl)).trans (kept_set _ g 4 v4 rfl)).trans (kept_set _ g 5 v5 rfl)).trans (kept_set _ g 6 v6 rfl)⟩
theorem cutN_fit {w : World} {a : Option Addr} {len : Nat} {l : List Pc} (h : InPcs w a len l) (m : Int) (h0 : -9223372036854775808 ≤ m) (h1 : m ≤ 9223372036854775807) :
    (cutN l m).length ≤ 2000000 ∧ ∀ p ∈ cutN l m, -9223372036854775808 ≤ p.1 ∧ p.1 ≤ 9223372036854775807 ∧ p.2.length ≤ 2000000 := by
  have hl := h.long
  have hm := h.most
  refine ⟨Nat.le_trans (cutN_len l m) (by omega), fun q hq => ?_⟩
  have hf : ∀ p ∈ l, -9223372036854775808 ≤ p.1 ∧ p.1 ≤ 9223372036854775807 ∧ p.2.length ≤ 2000000 := fun p hp => by
    obtain ⟨k, hk, rfl⟩ := mem_pcAt hp
    exact h.fit k (by omega)
  rcases cutN_mem l m q hq with hq | ⟨hq, p, hp, hl⟩
  · exact hf q hq
  · have := (hf p hp).2.2; omega

/-- What lies in memory behind the cut: the answer being made in block g, its parts elsewhere. -/
structure RdMem (w : World) (g : Nat) (us os vs : List Value) (l : List Pc) (a : Option Addr) (c : Nat) (fa : Option Addr) (fl : Nat) (n : Frs) (V : World) : Prop where
  low : w.heap.size + 2 ≤ g
  below : Below w.heap.size w V
  box : Box V g vs
  one : Box V w.heap.size us
  two : Box V (w.heap.size + 1) os
  pcs : InPcs V a l.length l
  own : V.ownsRow (g + 1) 121 2 (.slice a l.length c) l.length (pv l)
  frs : ∃ A C, FrsSp (fun b => w.heap.size + 2 ≤ b ∧ b < g) V fa fl n A C
theorem RdMem.pblk {w V : World} {g : Nat} {us os vs : List Value} {l : List Pc} {a fa : Option Addr} {c fl : Nat} {n : Frs} (h : RdMem w g us os vs l a c fa fl n V) : ∀ b, LgB a l.length b → g < b ∧ b < V.heap.size := fun b hl => by
  obtain ⟨_, o, e⟩ := hl
  exact h.own.lt b (by rw [e]; rfl)
theorem RdMem.kept {w V V' : World} {g : Nat} {us os vs vs' : List Value} {l : List Pc} {a fa : Option Addr} {c fl : Nat} {n : Frs} (h : RdMem w g us os vs l a c fa fl n V) (hk : Kept (fun b => b = g) V V') (hb : Box V' g vs') : RdMem w g us os vs' l a c fa fl n V' := by
  have hlow := h.low
  obtain ⟨A, C, hf⟩ := h.frs
  have hg := h.box.lt
  refine ⟨h.low, h.below.trans (hk.toBelow h.below.size (fun b hb e => by omega)), hb, h.one.kept (hk.block _ h.one.lt (by omega)), h.two.kept (hk.block _ h.two.lt (by omega)), h.pcs.blks (fun b hl hw => hk.block b hw (by have := h.pblk b hl; omega)), own_kept h.own hk (fun b e e' => by have := h.own.lt b e; omega), A, C, hf.kept hk (fun b e e' => by omega)⟩
theorem RdMem.set {w V : World} {g : Nat} {us os vs : List Value} {l : List Pc} {a fa : Option Addr} {c fl : Nat} {n : Frs} (h : RdMem w g us os vs l a c fa fl n V) (i : Nat) (v : Value) : RdMem w g us os (vs.set i v) l a c fa fl n (V.setCell ⟨g, i, none⟩ v) :=
  h.kept (kept_set V g i v rfl) (h.box.set i v)
theorem RdMem.drew {w V : World} {g : Nat} {us os vs : List Value} {l : List Pc} {a fa : Option Addr} {c fl : Nat} {n : Frs} (h : RdMem w g us os vs l a c fa fl n V) : RdMem w g us os vs l a c fa fl n V.drew :=
  h.kept (kept_below (below_drew' V)) (box_drew h.box)
theorem RdMem.got {w V V' : World} {g : Nat} {us os vs : List Value} {l : List Pc} {a fa : Option Addr} {pc fc : Nat} {n : Frs} {rd ed sz cp en : Int} {T : List UInt8} {dn : Bool} (h : RdMem w g us os vs l a pc fa n.length n V) (hk : Kept (fun b => b = w.heap.size + 1) V V') :
    RcSp w ⟨rd, l, ed, sz, cp, en, n, 0, 0, 0, 0, T, dn, 0⟩ (.returned (rcvOutV rd a l.length pc ed sz cp en fa n.length fc 0 0 0 0 T dn 0)) V' := by
  have hlow := h.low
  obtain ⟨A, C, hf⟩ := h.frs
  have hg := h.box.lt
  exact ⟨a, pc, fa, fc, A, C, _, rfl, h.pcs.blks (fun b hl hw => hk.block b hw (by have := h.pblk b hl; omega)), own_base (own_kept h.own hk (fun b e e' => by have := h.own.lt b e; omega)) (by omega),
    hf.kept hk (fun b e e' => by omega), fun b e => ⟨⟨by omega, Nat.lt_of_lt_of_le (by omega) hk.size⟩, fun e' => by have := h.own.lt b e'; omega⟩, h.below.trans (hk.toBelow h.below.size (fun b hb e => by omega))⟩

set_option maxHeartbeats 4000000 in
set_option maxRecDepth 100000 in
theorem readBad_calls {S : Nat → Prop} {rd ed sz cp en : Int} {pa fa : Option Addr} {pl pc fl fc : Nat} {ps : List Pc} {n : Frs} {w : World} (hp : InPcs w pa pl ps) (hf : InFrs S w fa fl n) (k : Int) (h : ¬ (rcvOk rd ps ed sz cp en n ∧ 1 ≤ k)) :
    Calls Tryz.prog 15 #[rcvV rd pa pl pc ed sz cp en fa fl fc, .int .i64 k] w (RcSp w (rcBad 1)) := by
  have H1 := Lib.hid (fun (W : World) (hb : Below w.heap.size w W) => rcvRightS_calls (rd := rd) (ed := ed) (sz := sz) (cp := cp) (en := en) (pc := pc) (fc := fc) (hp.below hb) (hf.below hb))
  unfold rcvV at *
  by_cases hok : rcvOk rd ps ed sz cp en n
  · rw [decide_eq_true hok] at H1
    have hk : k < 1 := by by_cases hk : 1 ≤ k; exact absurd ⟨hok, hk⟩ h; omega
    clear hp hf h hok
    go_enter Tryz.func15, Tryz.ntmps15
    go_wp2_with fail
    have n3 := box_two w [.int .i64 rd, .slice pa pl pc, .int .i64 ed, .int .i64 sz, .int .i64 cp, .int .i64 en, .slice fa fl fc] [.int .i64 0, .slice none 0 0, .int .i64 0, .int .i64 0, .int .i64 0, .int .i64 0, .slice none 0 0, .int .i64 0, .int .i64 0, .int .i64 0, .int .i64 0, gs [], .bool false, .int .i64 0] 26 34 (by simp) (by simp)
    dsimp only at n3
    generalize (w.alloc (.cells #[.int .i64 rd, .slice pa pl pc, .int .i64 ed, .int .i64 sz, .int .i64 cp, .int .i64 en, .slice fa fl fc] 26)).alloc (.cells #[.int .i64 0, .slice none 0 0, .int .i64 0, .int .i64 0, .int .i64 0, .int .i64 0, .slice none 0 0, .int .i64 0, .int .i64 0, .int .i64 0, .int .i64 0, gs [], .bool false, .int .i64 0] 34) = W at *
    obtain ⟨n1, n2, hs, hb0⟩ := n3
    (with_reducible refine (H1.out _ hb0).mono ?_); rintro e w1 ⟨rfl, hb1⟩
    obtain ⟨⟨d0, d1, d2, d3, d4, d5, d6⟩, d7, d8, d9, da, db, dc, dd⟩ := (n2.below hb1).fourteen
    obtain ⟨z0, z1, z2, z3, z4, z5, z6, z7, z8, z9, za, zb, zc, zd⟩ := (n2.below hb1).frz14
    have HB := Lib.hid (hb0.trans (hb1.mono hb0.size))
    clear hb0 hb1 H1 n1 n2
    go_wp2_with fail
    refine bodyPost_ret (v := rcvOutV 0 none 0 0 0 0 0 0 none 0 0 0 0 0 0 [] false 1) (by simp [rcvOutV, results, Tryz.results15, go_sem, *]) rfl (rcBad_sp ?_)
    have hK := kept14 w1 (w.heap.size + 1) (.int .i64 0) (.slice none 0 0) (.int .i64 0) (.int .i64 0) (.int .i64 0) (.int .i64 0) (.slice none 0 0) (.int .i64 0) (.int .i64 0) (.int .i64 0) (.int .i64 0) (gs []) (.bool false) (.int .i64 1)
    exact HB.out.trans (hK.toBelow HB.out.size (fun b hb e => by omega))
  · rw [decide_eq_false hok] at H1
    clear hp hf h hok
    go_enter Tryz.func15, Tryz.ntmps15
    go_wp2_with fail
    have n3 := box_two w [.int .i64 rd, .slice pa pl pc, .int .i64 ed, .int .i64 sz, .int .i64 cp, .int .i64 en, .slice fa fl fc] [.int .i64 0, .slice none 0 0, .int .i64 0, .int .i64 0, .int .i64 0, .int .i64 0, .slice none 0 0, .int .i64 0, .int .i64 0, .int .i64 0, .int .i64 0, gs [], .bool false, .int .i64 0] 26 34 (by simp) (by simp)
    dsimp only at n3
    generalize (w.alloc (.cells #[.int .i64 rd, .slice pa pl pc, .int .i64 ed, .int .i64 sz, .int .i64 cp, .int .i64 en, .slice fa fl fc] 26)).alloc (.cells #[.int .i64 0, .slice none 0 0, .int .i64 0, .int .i64 0, .int .i64 0, .int .i64 0, .slice none 0 0, .int .i64 0, .int .i64 0, .int .i64 0, .int .i64 0, gs [], .bool false, .int .i64 0] 34) = W at *
    obtain ⟨n1, n2, hs, hb0⟩ := n3
    (with_reducible refine (H1.out _ hb0).mono ?_); rintro e w1 ⟨rfl, hb1⟩
    obtain ⟨⟨d0, d1, d2, d3, d4, d5, d6⟩, d7, d8, d9, da, db, dc, dd⟩ := (n2.below hb1).fourteen
    obtain ⟨z0, z1, z2, z3, z4, z5, z6, z7, z8, z9, za, zb, zc, zd⟩ := (n2.below hb1).frz14
    have HB := Lib.hid (hb0.trans (hb1.mono hb0.size))
    clear hb0 hb1 H1 n1 n2
    go_wp2_with fail
    refine bodyPost_ret (v := rcvOutV 0 none 0 0 0 0 0 0 none 0 0 0 0 0 0 [] false 1) (by simp [rcvOutV, results, Tryz.results15, go_sem, *]) rfl (rcBad_sp ?_)
    have hK := kept14 w1 (w.heap.size + 1) (.int .i64 0) (.slice none 0 0) (.int .i64 0) (.int .i64 0) (.int .i64 0) (.int .i64 0) (.slice none 0 0) (.int .i64 0) (.int .i64 0) (.int .i64 0) (.int .i64 0) (gs []) (.bool false) (.int .i64 1)
    exact HB.out.trans (hK.toBelow HB.out.size (fun b hb e => by omega))

set_option maxHeartbeats 8000000 in
set_option maxRecDepth 100000 in
theorem readGood_calls {S : Nat → Prop} {rd ed sz cp en : Int} {pa fa : Option Addr} {pl pc fl fc : Nat} {ps : List Pc} {n : Frs} {w : World} (hp : InPcs w pa pl ps) (hf : InFrs S w fa fl n) (k : Int) (hok : rcvOk rd ps ed sz cp en n) (hk : 1 ≤ k)
    (m : Nat) (hm : min k ((fromN ps rd).length : Int) = (m : Int)) (hml : m ≤ (fromN ps rd).length) (SZ : Int) (hSZ : SZ = readSz sz cp (m : Int)) :
    Calls Tryz.prog 15 #[rcvV rd pa pl pc ed sz cp en fa fl fc, .int .i64 k] w (RcSp w ⟨rd + (m : Int), cutN ps (rd + (m : Int)), max ed (min (rd + (m : Int) + SZ) 1000000), SZ, cp, en, n, 0, 0, 0, 0, (fromN ps rd).take m, decide (rd + (m : Int) = en), 0⟩) := by
  have hl := fromN_len ps rd (inPcs_small hp)
  have hfl := hf.long
  obtain ⟨hrd, hed, hcp, hsz, hrt, -, -, -, hen, hfr, -⟩ := id hok
  have H1 := Lib.hid (fun (W : World) (hb : Below w.heap.size w W) => rcvRightS_calls (rd := rd) (ed := ed) (sz := sz) (cp := cp) (en := en) (pc := pc) (fc := fc) (hp.below hb) (hf.below hb))
  rw [decide_eq_true hok] at H1
  have H2 := Lib.hid (fun (W : World) (hb : Below w.heap.size w W) => fromS_calls (cap := pc) (hp.below hb) hrt rd (by omega) (by omega))
  have H3 := Lib.hid (fun (W : World) (hb : Below w.heap.size w W) => copyRS_calls (rd := rd) (ed := ed) (sz := sz) (cp := cp) (en := en) (pc := pc) (fc := fc) (hp.below hb) (hf.below hb) (by omega))
  have HM := Lib.hid (fun W => minT_calls k ((fromN ps rd).length : Int) W)
  rw [hm] at HM
  have H4 := Lib.hid (fun (W : World) (a : Option Addr) (c : Nat) (h : InPcs W a pl ps) => cutS_calls (cap := c) h hrt (rd + (m : Int)) (by omega) (by omega))
  have hcf := cutN_fit hp (rd + (m : Int)) (by omega) (by omega)
  have HCF := Lib.hid hcf
  have hm2 : m ≤ 2000000 := by omega
  have hsl := slice_head (P := Tryz.prog) Tryz.underlying9 (fromN ps rd) m (m : Int) rfl hml
  have htl : ((fromN ps rd).take m).length = m := by simp; omega
  generalize cutN ps (rd + (m : Int)) = CP at *
  generalize (fromN ps rd).take m = T at *
  generalize fromN ps rd = t at *
  have HSL := Lib.hid hsl
  have HTL := Lib.hid htl
  have HSZ := Lib.hid hSZ
  have HEN := Lib.hid hen
  clear hp hf hok hfr hm hcf hsl htl hSZ hen hrt
  unfold rcvV at *
  go_enter Tryz.func15, Tryz.ntmps15
  go_wp2_with fail
  have n3 := box_two w [.int .i64 rd, .slice pa pl pc, .int .i64 ed, .int .i64 sz, .int .i64 cp, .int .i64 en, .slice fa fl fc] [.int .i64 0, .slice none 0 0, .int .i64 0, .int .i64 0, .int .i64 0, .int .i64 0, .slice none 0 0, .int .i64 0, .int .i64 0, .int .i64 0, .int .i64 0, gs [], .bool false, .int .i64 0] 26 34 (by simp) (by simp)
  dsimp only at n3
  generalize (w.alloc (.cells #[.int .i64 rd, .slice pa pl pc, .int .i64 ed, .int .i64 sz, .int .i64 cp, .int .i64 en, .slice fa fl fc] 26)).alloc (.cells #[.int .i64 0, .slice none 0 0, .int .i64 0, .int .i64 0, .int .i64 0, .int .i64 0, .slice none 0 0, .int .i64 0, .int .i64 0, .int .i64 0, .int .i64 0, gs [], .bool false, .int .i64 0] 34) = W at *
  obtain ⟨n1, n2, hs, hb0⟩ := n3
  (with_reducible refine (H1.out _ hb0).mono ?_); rintro e w1 ⟨rfl, hb1⟩
  replace n1 := n1.below hb1
  replace n2 := n2.below hb1
  obtain ⟨c0, c1, c2, c3, c4, c5, c6⟩ := n1.seven
  have hb2 := hb0.trans (hb1.mono hb0.size)
  have hs1 : w.heap.size + 2 ≤ w1.heap.size := by have := hb1.size; omega
  have N1 := Lib.hid n1
  have N2 := Lib.hid n2
  have HB := Lib.hid hb2
  clear hb0 hb1 H1 n1 n2 hb2 hs
  go_wp2_with fail
  (with_reducible refine (H2.out _ HB.out).mono ?_); rintro e w2 ⟨rfl, hb1⟩
  have M1 := Lib.hid (N1.out.below hb1)
  have M2 := Lib.hid (N2.out.below hb1)
  have HB2 := Lib.hid (HB.out.trans (hb1.mono HB.out.size))
  have hs2 : w.heap.size + 2 ≤ w2.heap.size := by have := hb1.size; omega
  clear hb1 N1 N2 HB H2 c0 c1 c2 c3 c4 c5 c6 hs1
  obtain ⟨c0, c1, c2, c3, c4, c5, c6⟩ := M1.out.seven
  go_wp2_with fail
  (with_reducible refine (HM.out _).mono ?_); rintro e w3 ⟨rfl, rfl⟩
  have hsl := HSL.out
  go_wp2_with fail
  (with_reducible refine (H3.out _ HB2.out).mono ?_); rintro e w4 ⟨gp, pc', g, cap, Q, C, rfl, hpo, hgp, hgp2, _, hfo, hb1⟩
  have hs4 : w.heap.size + 2 ≤ w4.heap.size := by have := hb1.size; omega
  have hb4 := HB2.out.trans (hb1.mono HB2.out.size)
  obtain ⟨c0, c1, c2, c3, c4, c5, c6⟩ := ((M1.out.below hb1).below ((Below.refl _ _).alloc (Nat.le_refl _) (.cells #[.int .i64 rd, .slice (some ⟨gp, 0, none⟩) pl pc', .int .i64 ed, .int .i64 sz, .int .i64 cp, .int .i64 en, .slice (some ⟨g, 0, none⟩) fl cap] 26))).seven
  have n8 := box_new w4 [.int .i64 (rd + (m : Int)), .slice (some ⟨gp, 0, none⟩) pl pc', .int .i64 ed, .int .i64 sz, .int .i64 cp, .int .i64 en, .slice (some ⟨g, 0, none⟩) fl cap] 26 (by simp)
  have hb5 : Below w4.heap.size w4 (w4.alloc (.cells #[.int .i64 (rd + (m : Int)), .slice (some ⟨gp, 0, none⟩) pl pc', .int .i64 ed, .int .i64 sz, .int .i64 cp, .int .i64 en, .slice (some ⟨g, 0, none⟩) fl cap] 26)) := (Below.refl _ _).alloc (Nat.le_refl _) _
  have hs7 : w4.heap.size + 1 ≤ (w4.alloc (.cells #[.int .i64 (rd + (m : Int)), .slice (some ⟨gp, 0, none⟩) pl pc', .int .i64 ed, .int .i64 sz, .int .i64 cp, .int .i64 en, .slice (some ⟨g, 0, none⟩) fl cap] 26)).heap.size := by simp
  have P1 := Lib.hid ((M1.out.below hb1).below hb5)
  have P2 := Lib.hid ((M2.out.below hb1).below hb5)
  have HPO := Lib.hid (hpo.below hb5)
  have HFO := Lib.hid (hfo.below hb5)
  have HB7 := Lib.hid (hb4.trans (hb5.mono hb4.size))
  obtain ⟨e0, e1, -⟩ := n8.seven
  have N8 := Lib.hid n8
  clear hb5 hb4 hb1 M1 M2 HB2 H3 HM HSL hsl hpo hfo n8
  have htl := HTL.out
  go_wp2_with fail
  generalize w4.alloc (.cells #[.int .i64 (rd + (m : Int)), .slice (some ⟨gp, 0, none⟩) pl pc', .int .i64 ed, .int .i64 sz, .int .i64 cp, .int .i64 en, .slice (some ⟨g, 0, none⟩) fl cap] 26) = V at *
  (with_reducible refine (H4.out _ _ pc' HPO.out.in').mono ?_); rintro e w5 ⟨v, rfl, hown, hb1⟩
  obtain ⟨a, c, rfl, hin⟩ := inPcs_row hown HCF.out.1 HCF.out.2
  have hM : RdMem w w4.heap.size [.int .i64 rd, .slice pa pl pc, .int .i64 ed, .int .i64 sz, .int .i64 cp, .int .i64 en, .slice fa fl fc] [.int .i64 0, .slice none 0 0, .int .i64 0, .int .i64 0, .int .i64 0, .int .i64 0, .slice none 0 0, .int .i64 0, .int .i64 0, .int .i64 0, .int .i64 0, gs [], .bool false, .int .i64 0] [.int .i64 (rd + (m : Int)), .slice (some ⟨gp, 0, none⟩) pl pc', .int .i64 ed, .int .i64 sz, .int .i64 cp, .int .i64 en, .slice (some ⟨g, 0, none⟩) fl cap] CP a c (some ⟨g, 0, none⟩) fl n w5 :=
    ⟨hs4, HB7.out.trans (hb1.mono HB7.out.size), N8.out.below hb1, P1.out.below hb1, P2.out.below hb1, hin, own_base hown hs7, _, _, (HFO.out.below hb1).mono (fun b e => by omega)⟩
  obtain ⟨y0, y1, y2, y3, y4, y5, y6⟩ := hM.box.frz7
  obtain ⟨d0, d1, d2, d3, d4, d5, d6⟩ := hM.box.seven
  have hM2 := hM.set 1 (.slice a CP.length c)
  dsimp only [List.set_cons_zero, List.set_cons_succ] at hM2
  clear c0 c1 c2 c3 c4 c5 c6
  obtain ⟨c0, c1, c2, c3, c4, c5, c6⟩ := hM2.one.seven
  have HM2 := Lib.hid hM2
  clear H4 HPO HFO HB7 N8 P1 P2 hown hin hM hb1 hM2 e0 e1 hs4 hs7 hgp hgp2 hs2
  by_cases hq : sz ≤ 2 * (m : Int)
  · have hse : min (2 * sz) cp = SZ := by rw [HSZ.out]; unfold readSz; rw [if_pos hq]
    have HN := Lib.hid (fun W => minT_calls (2 * sz) cp W)
    rw [hse] at HN
    have hSZ1 : 0 ≤ SZ ∧ SZ ≤ 64 := by omega
    clear hse
    have hM3 := HM2.out.set 3 (.int .i64 SZ)
    dsimp only [List.set_cons_zero, List.set_cons_succ] at hM3
    obtain ⟨f0, f1, f2, f3, f4, f5, f6⟩ := HM2.out.box.seven
    obtain ⟨x0, x1, x2, x3, x4, x5, x6⟩ := HM2.out.box.frz7
    have HM3 := Lib.hid hM3
    clear hM3
    go_wp2_with fail
    (with_reducible refine (HN.out _).mono ?_); rintro e w6 ⟨rfl, rfl⟩
    go_wp2_with fail
    clear c0 c1 c2 c3 c4 c5 c6 f0 f1 f2 f3 f4 f5 f6 x0 x1 x2 x3 x4 x5 x6 d0 d1 d2 d3 d4 d5 d6 y0 y1 y2 y3 y4 y5 y6 HN
    generalize (w5.setCell ⟨w4.heap.size, 1, none⟩ (.slice a CP.length c)).setCell ⟨w4.heap.size, 3, none⟩ (.int .i64 SZ) = V3 at *
    have hMd := HM3.out.drew
    obtain ⟨c0, c1, c2, c3, c4, c5, c6⟩ := hMd.one.seven
    obtain ⟨d0, d1, d2, d3, d4, d5, d6⟩ := hMd.box.seven
    obtain ⟨z0, z1, z2, z3, z4, z5, z6⟩ := hMd.box.frz7
    have hlo := hMd.low
    have HMN := Lib.hid (fun W => minT_calls (rd + (m : Int) + SZ) 1000000 W)
    have HMX := Lib.hid (fun W => maxS_calls ed (min (rd + (m : Int) + SZ) 1000000) W)
    generalize min (rd + (m : Int) + SZ) 1000000 = X1 at *
    generalize max ed X1 = NE at *
    have hwr : IntKind.i64.wrap (rd + (m : Int) + SZ) = rd + (m : Int) + SZ := IntWalk.i64_in _ (by omega)
    have HM4 := Lib.hid (HM3.out.set 2 (.int .i64 NE)).drew
    clear hMd HM2 HM3
    refine wp_region_held_drew (S := (fun V => V.cell? ⟨w.heap.size, 2, none⟩ = some (.int .i64 ed) ∧ V.cell? ⟨w4.heap.size, 0, none⟩ = some (.int .i64 (rd + (m : Int))) ∧ V.cell? ⟨w4.heap.size, 3, none⟩ = some (.int .i64 SZ))) (by kernel_rfl) (⟨c2, d0, d3⟩) (fun hHeld => ?_)
    refine wpAnyH_take (i := 0) (oi := _) (v := ?v1x0) rfl (by kernel_rfl) (by kernel_rfl) (by kernel_rfl) (fun _ _ _ h => h) (Or.inl ⟨by kernel_rfl, ?hy1x0⟩) (by with_reducible assumption) ?rest1x0
    case hy1x0 => (intro w hSw; (try dsimp only at hSw); go_simp; (try with_reducible rfl))
    (try simp only [Act.put, List.getElem_toArray, List.getElem_cons_zero, List.setIfInBounds_toArray, List.set_cons_succ, List.set_cons_zero])
    refine wpAnyH_take (i := 1) (oi := _) (v := ?v1x1) rfl (by kernel_rfl) (by kernel_rfl) (by kernel_rfl) (fun _ _ _ h => h) (Or.inl ⟨by kernel_rfl, ?hy1x1⟩) (by with_reducible assumption) ?rest1x1
    case hy1x1 => (intro w hSw; (try dsimp only at hSw); go_simp; (try with_reducible rfl))
    (try simp only [Act.put, List.getElem_toArray, List.getElem_cons_succ, List.getElem_cons_zero, List.setIfInBounds_toArray, List.set_cons_succ, List.set_cons_zero])
    refine wpAnyH_take (i := 2) (oi := _) (v := ?v1x2) rfl (by kernel_rfl) (by kernel_rfl) (by kernel_rfl) (fun _ _ _ h => h) (Or.inl ⟨by kernel_rfl, ?hy1x2⟩) (by with_reducible assumption) ?rest1x2
    case hy1x2 => (intro w hSw; (try dsimp only at hSw); go_simp; (try with_reducible rfl))
    (try simp only [Act.put, List.getElem_toArray, List.getElem_cons_succ, List.getElem_cons_zero, List.setIfInBounds_toArray, List.set_cons_succ, List.set_cons_zero])
    refine wpAnyH_take (i := 3) (oi := _) (v := ?v1x3) rfl (by kernel_rfl) (by kernel_rfl) (by kernel_rfl) (fun _ _ _ h => h) (Or.inl ⟨by kernel_rfl, ?hy1x3⟩) (by with_reducible assumption) ?rest1x3
    case hy1x3 => (intro w hSw; (try dsimp only at hSw); go_simp; (try with_reducible rfl))
    (try simp only [Act.put, List.getElem_toArray, List.getElem_cons_succ, List.getElem_cons_zero, List.setIfInBounds_toArray, List.set_cons_succ, List.set_cons_zero])
    refine wpAnyH_take (i := 4) (oi := _) (v := ?v1x4) rfl (by kernel_rfl) (by kernel_rfl) (by kernel_rfl) (fun _ _ _ h => h) (Or.inl ⟨by kernel_rfl, ?hy1x4⟩) (by with_reducible assumption) ?rest1x4
    case hy1x4 => (intro w hSw; (try dsimp only at hSw); go_simp; (try with_reducible rfl))
    (try simp only [Act.put, List.getElem_toArray, List.getElem_cons_succ, List.getElem_cons_zero, List.setIfInBounds_toArray, List.set_cons_succ, List.set_cons_zero])
    refine wpAnyH_take (i := 5) (oi := _) (v := ?v1x5) rfl (by kernel_rfl) (by kernel_rfl) (by kernel_rfl) (fun _ _ _ h => h) (Or.inl ⟨by kernel_rfl, ?hy1x5⟩) (by with_reducible assumption) ?rest1x5
    case hy1x5 => (intro w hSw; (try dsimp only at hSw); go_simp; (try with_reducible rfl))
    (try simp only [Act.put, List.getElem_toArray, List.getElem_cons_succ, List.getElem_cons_zero, List.setIfInBounds_toArray, List.set_cons_succ, List.set_cons_zero])
    refine wpAnyH_take (i := 6) (oi := _) (v := ?v1x6) rfl (by kernel_rfl) (by kernel_rfl) (by kernel_rfl) (fun _ _ _ h => h) (Or.inl ⟨by kernel_rfl, ?hy1x6⟩) (by with_reducible assumption) ?rest1x6
    case hy1x6 => (intro w hSw; (try dsimp only at hSw); go_simp; (try with_reducible rfl))
    (try simp only [Act.put, List.getElem_toArray, List.getElem_cons_succ, List.getElem_cons_zero, List.setIfInBounds_toArray, List.set_cons_succ, List.set_cons_zero])
    refine wpAnyH_ready (rs := [7]) (by kernel_rfl) (by simp) (AllReadyH.cons (o := _) rfl (fun K hK => ?c1x7) AllReadyH.nil)
    go_simp
    refine (HMN.out _).mono ?_
    rintro e wq ⟨rfl, rfl⟩
    go_simp
    refine hK.out _ _ (hHeld) (fun hHeld2 => ?_)
    clear hHeld
    have hHeld := hHeld2
    clear hK K hHeld2
    (try simp only [Act.put, List.getElem_toArray, List.getElem_cons_succ, List.getElem_cons_zero, List.setIfInBounds_toArray, List.set_cons_succ, List.set_cons_zero])
    refine wpAnyH_ready (rs := [8]) (by kernel_rfl) (by simp) (AllReadyH.cons (o := _) rfl (fun K hK => ?c1x8) AllReadyH.nil)
    go_simp
    refine (HMX.out _).mono ?_
    rintro e wq ⟨rfl, rfl⟩
    go_simp
    refine hK.out _ _ (hHeld) (fun hHeld2 => ?_)
    clear hHeld
    have hHeld := hHeld2
    clear hK K hHeld2
    (try simp only [Act.put, List.getElem_toArray, List.getElem_cons_succ, List.getElem_cons_zero, List.setIfInBounds_toArray, List.set_cons_succ, List.set_cons_zero])
    refine wpAnyH_take (i := 9) (oi := _) (v := ?v1x9) rfl (by kernel_rfl) (by kernel_rfl) (by kernel_rfl) (fun _ _ _ h => h) (Or.inl ⟨by kernel_rfl, ?hy1x9⟩) (by with_reducible assumption) ?rest1x9
    case hy1x9 => (intro w hSw; (try dsimp only at hSw); go_simp; (try with_reducible rfl))
    (try simp only [Act.put, List.getElem_toArray, List.getElem_cons_succ, List.getElem_cons_zero, List.setIfInBounds_toArray, List.set_cons_succ, List.set_cons_zero])
    refine wpAnyH_ready (rs := [10]) (by kernel_rfl) (by simp) (AllReadyH.cons (o := _) rfl (fun K hK => ?c1x10) AllReadyH.nil)
    go_simp
    refine hK.out _ _ ⟨(World.cell?_setCell_other _ _ _ _ (fun e => by injection e with e _ _; omega)).trans c2, (World.cell?_setCell_other _ _ _ _ (fun e => by injection e with _ e _; omega)).trans d0, (World.cell?_setCell_other _ _ _ _ (fun e => by injection e with _ e _; omega)).trans d3⟩ (fun _ => ?_)
    (try simp only [Act.put, List.getElem_toArray, List.getElem_cons_succ, List.getElem_cons_zero, List.setIfInBounds_toArray, List.set_cons_succ, List.set_cons_zero])
    refine wpAnyH_done (by kernel_rfl) ?_ _
    clear hK K hHeld c0 c1 c2 c3 c4 c5 c6 d0 d1 d2 d3 d4 d5 d6 z0 z1 z2 z3 z4 z5 z6 HMN HMX
    generalize (V3.setCell ⟨w4.heap.size, 2, none⟩ (.int .i64 NE)).drew = V4 at *
    obtain ⟨d0, d1, d2, d3, d4, d5, d6⟩ := HM4.out.box.seven
    obtain ⟨⟨g0, g1, g2, g3, g4, g5, g6⟩, g7, g8, g9, ga, gb, gc, gd⟩ := HM4.out.two.fourteen
    obtain ⟨z0, z1, z2, z3, z4, z5, z6, z7, z8, z9, za, zb, zc, zd⟩ := HM4.out.two.frz14
    go_wp2_with fail
    refine bodyPost_ret (v := rcvOutV (rd + (m : Int)) a CP.length c NE SZ cp en (some ⟨g, 0, none⟩) fl cap 0 0 0 0 T (decide (rd + (m : Int) = en)) 0) (by simp [rcvOutV, results, Tryz.results15, go_sem, *]; rfl) rfl ?_
    subst hfl
    exact HM4.out.got (kept14 V4 (w.heap.size + 1) (.int .i64 (rd + (m : Int))) (.slice a CP.length c) (.int .i64 NE) (.int .i64 SZ) (.int .i64 cp) (.int .i64 en) (.slice (some ⟨g, 0, none⟩) n.length cap) (.int .i64 0) (.int .i64 0) (.int .i64 0) (.int .i64 0) (gs T) (.bool (decide (rd + (m : Int) = en))) (.int .i64 0))
  · have hse : SZ = sz := by rw [HSZ.out]; unfold readSz; rw [if_neg hq]
    have hSZ1 : 0 ≤ SZ ∧ SZ ≤ 64 := by omega
    have HM3 := Lib.hid HM2.out
    rw [← hse] at HM3
    clear hse
    go_wp2_with fail
    clear c0 c1 c2 c3 c4 c5 c6 d0 d1 d2 d3 d4 d5 d6 y0 y1 y2 y3 y4 y5 y6
    generalize w5.setCell ⟨w4.heap.size, 1, none⟩ (.slice a CP.length c) = V3 at *
    have hMd := HM3.out.drew
    obtain ⟨c0, c1, c2, c3, c4, c5, c6⟩ := hMd.one.seven
    obtain ⟨d0, d1, d2, d3, d4, d5, d6⟩ := hMd.box.seven
    obtain ⟨z0, z1, z2, z3, z4, z5, z6⟩ := hMd.box.frz7
    have hlo := hMd.low
    have HMN := Lib.hid (fun W => minT_calls (rd + (m : Int) + SZ) 1000000 W)
    have HMX := Lib.hid (fun W => maxS_calls ed (min (rd + (m : Int) + SZ) 1000000) W)
    generalize min (rd + (m : Int) + SZ) 1000000 = X1 at *
    generalize max ed X1 = NE at *
    have hwr : IntKind.i64.wrap (rd + (m : Int) + SZ) = rd + (m : Int) + SZ := IntWalk.i64_in _ (by omega)
    have HM4 := Lib.hid (HM3.out.set 2 (.int .i64 NE)).drew
    clear hMd HM2 HM3
    refine wp_region_held_drew (S := (fun V => V.cell? ⟨w.heap.size, 2, none⟩ = some (.int .i64 ed) ∧ V.cell? ⟨w4.heap.size, 0, none⟩ = some (.int .i64 (rd + (m : Int))) ∧ V.cell? ⟨w4.heap.size, 3, none⟩ = some (.int .i64 SZ))) (by kernel_rfl) (⟨c2, d0, d3⟩) (fun hHeld => ?_)
    refine wpAnyH_take (i := 0) (oi := _) (v := ?v2x0) rfl (by kernel_rfl) (by kernel_rfl) (by kernel_rfl) (fun _ _ _ h => h) (Or.inl ⟨by kernel_rfl, ?hy2x0⟩) (by with_reducible assumption) ?rest2x0
    case hy2x0 => (intro w hSw; (try dsimp only at hSw); go_simp; (try with_reducible rfl))
    (try simp only [Act.put, List.getElem_toArray, List.getElem_cons_zero, List.setIfInBounds_toArray, List.set_cons_succ, List.set_cons_zero])
    refine wpAnyH_take (i := 1) (oi := _) (v := ?v2x1) rfl (by kernel_rfl) (by kernel_rfl) (by kernel_rfl) (fun _ _ _ h => h) (Or.inl ⟨by kernel_rfl, ?hy2x1⟩) (by with_reducible assumption) ?rest2x1
    case hy2x1 => (intro w hSw; (try dsimp only at hSw); go_simp; (try with_reducible rfl))
    (try simp only [Act.put, List.getElem_toArray, List.getElem_cons_succ, List.getElem_cons_zero, List.setIfInBounds_toArray, List.set_cons_succ, List.set_cons_zero])
    refine wpAnyH_take (i := 2) (oi := _) (v := ?v2x2) rfl (by kernel_rfl) (by kernel_rfl) (by kernel_rfl) (fun _ _ _ h => h) (Or.inl ⟨by kernel_rfl, ?hy2x2⟩) (by with_reducible assumption) ?rest2x2
    case hy2x2 => (intro w hSw; (try dsimp only at hSw); go_simp; (try with_reducible rfl))
    (try simp only [Act.put, List.getElem_toArray, List.getElem_cons_succ, List.getElem_cons_zero, List.setIfInBounds_toArray, List.set_cons_succ, List.set_cons_zero])
    refine wpAnyH_take (i := 3) (oi := _) (v := ?v2x3) rfl (by kernel_rfl) (by kernel_rfl) (by kernel_rfl) (fun _ _ _ h => h) (Or.inl ⟨by kernel_rfl, ?hy2x3⟩) (by with_reducible assumption) ?rest2x3
    case hy2x3 => (intro w hSw; (try dsimp only at hSw); go_simp; (try with_reducible rfl))
    (try simp only [Act.put, List.getElem_toArray, List.getElem_cons_succ, List.getElem_cons_zero, List.setIfInBounds_toArray, List.set_cons_succ, List.set_cons_zero])
    refine wpAnyH_take (i := 4) (oi := _) (v := ?v2x4) rfl (by kernel_rfl) (by kernel_rfl) (by kernel_rfl) (fun _ _ _ h => h) (Or.inl ⟨by kernel_rfl, ?hy2x4⟩) (by with_reducible assumption) ?rest2x4
    case hy2x4 => (intro w hSw; (try dsimp only at hSw); go_simp; (try with_reducible rfl))
    (try simp only [Act.put, List.getElem_toArray, List.getElem_cons_succ, List.getElem_cons_zero, List.setIfInBounds_toArray, List.set_cons_succ, List.set_cons_zero])
    refine wpAnyH_take (i := 5) (oi := _) (v := ?v2x5) rfl (by kernel_rfl) (by kernel_rfl) (by kernel_rfl) (fun _ _ _ h => h) (Or.inl ⟨by kernel_rfl, ?hy2x5⟩) (by with_reducible assumption) ?rest2x5
    case hy2x5 => (intro w hSw; (try dsimp only at hSw); go_simp; (try with_reducible rfl))
    (try simp only [Act.put, List.getElem_toArray, List.getElem_cons_succ, List.getElem_cons_zero, List.setIfInBounds_toArray, List.set_cons_succ, List.set_cons_zero])
    refine wpAnyH_take (i := 6) (oi := _) (v := ?v2x6) rfl (by kernel_rfl) (by kernel_rfl) (by kernel_rfl) (fun _ _ _ h => h) (Or.inl ⟨by kernel_rfl, ?hy2x6⟩) (by with_reducible assumption) ?rest2x6
    case hy2x6 => (intro w hSw; (try dsimp only at hSw); go_simp; (try with_reducible rfl))
    (try simp only [Act.put, List.getElem_toArray, List.getElem_cons_succ, List.getElem_cons_zero, List.setIfInBounds_toArray, List.set_cons_succ, List.set_cons_zero])
    refine wpAnyH_ready (rs := [7]) (by kernel_rfl) (by simp) (AllReadyH.cons (o := _) rfl (fun K hK => ?c2x7) AllReadyH.nil)
    go_simp
    refine (HMN.out _).mono ?_
    rintro e wq ⟨rfl, rfl⟩
    go_simp
    refine hK.out _ _ (hHeld) (fun hHeld2 => ?_)
    clear hHeld
    have hHeld := hHeld2
    clear hK K hHeld2
    (try simp only [Act.put, List.getElem_toArray, List.getElem_cons_succ, List.getElem_cons_zero, List.setIfInBounds_toArray, List.set_cons_succ, List.set_cons_zero])
    refine wpAnyH_ready (rs := [8]) (by kernel_rfl) (by simp) (AllReadyH.cons (o := _) rfl (fun K hK => ?c2x8) AllReadyH.nil)
    go_simp
    refine (HMX.out _).mono ?_
    rintro e wq ⟨rfl, rfl⟩
    go_simp
    refine hK.out _ _ (hHeld) (fun hHeld2 => ?_)
    clear hHeld
    have hHeld := hHeld2
    clear hK K hHeld2
    (try simp only [Act.put, List.getElem_toArray, List.getElem_cons_succ, List.getElem_cons_zero, List.setIfInBounds_toArray, List.set_cons_succ, List.set_cons_zero])
    refine wpAnyH_take (i := 9) (oi := _) (v := ?v2x9) rfl (by kernel_rfl) (by kernel_rfl) (by kernel_rfl) (fun _ _ _ h => h) (Or.inl ⟨by kernel_rfl, ?hy2x9⟩) (by with_reducible assumption) ?rest2x9
    case hy2x9 => (intro w hSw; (try dsimp only at hSw); go_simp; (try with_reducible rfl))
    (try simp only [Act.put, List.getElem_toArray, List.getElem_cons_succ, List.getElem_cons_zero, List.setIfInBounds_toArray, List.set_cons_succ, List.set_cons_zero])
    refine wpAnyH_ready (rs := [10]) (by kernel_rfl) (by simp) (AllReadyH.cons (o := _) rfl (fun K hK => ?c2x10) AllReadyH.nil)
    go_simp
    refine hK.out _ _ ⟨(World.cell?_setCell_other _ _ _ _ (fun e => by injection e with e _ _; omega)).trans c2, (World.cell?_setCell_other _ _ _ _ (fun e => by injection e with _ e _; omega)).trans d0, (World.cell?_setCell_other _ _ _ _ (fun e => by injection e with _ e _; omega)).trans d3⟩ (fun _ => ?_)
    (try simp only [Act.put, List.getElem_toArray, List.getElem_cons_succ, List.getElem_cons_zero, List.setIfInBounds_toArray, List.set_cons_succ, List.set_cons_zero])
    refine wpAnyH_done (by kernel_rfl) ?_ _
    clear hK K hHeld c0 c1 c2 c3 c4 c5 c6 d0 d1 d2 d3 d4 d5 d6 z0 z1 z2 z3 z4 z5 z6 HMN HMX
    generalize (V3.setCell ⟨w4.heap.size, 2, none⟩ (.int .i64 NE)).drew = V4 at *
    obtain ⟨d0, d1, d2, d3, d4, d5, d6⟩ := HM4.out.box.seven
    obtain ⟨⟨g0, g1, g2, g3, g4, g5, g6⟩, g7, g8, g9, ga, gb, gc, gd⟩ := HM4.out.two.fourteen
    obtain ⟨z0, z1, z2, z3, z4, z5, z6, z7, z8, z9, za, zb, zc, zd⟩ := HM4.out.two.frz14
    go_wp2_with fail
    refine bodyPost_ret (v := rcvOutV (rd + (m : Int)) a CP.length c NE SZ cp en (some ⟨g, 0, none⟩) fl cap 0 0 0 0 T (decide (rd + (m : Int) = en)) 0) (by simp [rcvOutV, results, Tryz.results15, go_sem, *]; rfl) rfl ?_
    subst hfl
    exact HM4.out.got (kept14 V4 (w.heap.size + 1) (.int .i64 (rd + (m : Int))) (.slice a CP.length c) (.int .i64 NE) (.int .i64 SZ) (.int .i64 cp) (.int .i64 en) (.slice (some ⟨g, 0, none⟩) n.length cap) (.int .i64 0) (.int .i64 0) (.int .i64 0) (.int .i64 0) (gs T) (.bool (decide (rd + (m : Int) = en))) (.int .i64 0))
theorem rcvReadSp_calls {S : Nat → Prop} {rd ed sz cp en : Int} {pa fa : Option Addr} {pl pc fl fc : Nat} {ps : List Pc} {n : Frs} {w : World} (hp : InPcs w pa pl ps) (hf : InFrs S w fa fl n) (k : Int) :
    Calls Tryz.prog 15 #[rcvV rd pa pl pc ed sz cp en fa fl fc, .int .i64 k] w (RcSp w (rcvReadN rd ps ed sz cp en n k)) := by
  by_cases h : rcvOk rd ps ed sz cp en n ∧ 1 ≤ k
  · have hm : min k ((fromN ps rd).length : Int) = ((min k ((fromN ps rd).length : Int)).toNat : Int) := by have := h.2; omega
    have hT : readT rd ps k = (fromN ps rd).take (min k ((fromN ps rd).length : Int)).toNat := rfl
    have hL : (readT rd ps k).length = (min k ((fromN ps rd).length : Int)).toNat := by rw [hT, List.length_take]; omega
    have hr : rcvReadN rd ps ed sz cp en n k = ⟨rd + ((min k ((fromN ps rd).length : Int)).toNat : Int), cutN ps (rd + ((min k ((fromN ps rd).length : Int)).toNat : Int)), max ed (min (rd + ((min k ((fromN ps rd).length : Int)).toNat : Int) + readSz sz cp ((min k ((fromN ps rd).length : Int)).toNat : Int)) 1000000), readSz sz cp ((min k ((fromN ps rd).length : Int)).toNat : Int), cp, en, n, 0, 0, 0, 0, (fromN ps rd).take (min k ((fromN ps rd).length : Int)).toNat, decide (rd + ((min k ((fromN ps rd).length : Int)).toNat : Int) = en), 0⟩ := by
      unfold rcvReadN
      rw [if_pos h, hL, hT]
    rw [hr]
    exact readGood_calls hp hf k h.1 h.2 _ hm (by omega) _ rfl
  · have hr : rcvReadN rd ps ed sz cp en n k = rcBad 1 := by unfold rcvReadN; rw [if_neg h]
    rw [hr]
    exact readBad_calls hp hf k h
theorem rcvReadS_calls {S : Nat → Prop} {rd ed sz cp en : Int} {pa fa : Option Addr} {pl pc fl fc : Nat} {ps : List Pc} {n : Frs} {w : World} (hp : InPcs w pa pl ps) (hf : InFrs S w fa fl n) (k : Int) :
    Calls Tryz.prog 15 #[rcvV rd pa pl pc ed sz cp en fa fl fc, .int .i64 k] w (RcGot w (rcvReadN rd ps ed sz cp en n k)) :=
  (rcvReadSp_calls hp hf k).mono fun _ _ h => h.got
end Go.Proofs.YtdcahilfmhkmiaaGreatDoor
