/- FnExactRcvNew: for every number of paths, size and most the program's RcvNew answers as the model's, in memory of its own. No condition. -/
import Derived.Test.YtmgefmjfefmaoaaRows
import Derived.Test.YtmgefmjfefmaoaaRcvI
import Derived.Test.YtmgefmjfefmaoaaOpenRcv
import Derived.Deep.RegionHeld3
import Derived.ProofKit
import Derived.OpenShut
import Derived.ShutString
import Derived.ChangeOld
import Derived.Below
namespace Go.Proofs.Ytmgefmjfefmaoaa.lawRcvNew
open Go.ChangeShapes Go.WideShapes Go.ChangeAt Go.RowKit
open Go.ChangeMaps (open_string shut_string)

theorem frsSum_rep : ∀ k : Nat, frsSum (List.replicate k (0, [])) = k
  | 0 => rfl
  | k + 1 => by rw [List.replicate_succ]; simp only [frsSum, frsSum_rep k]; simp; omega
theorem new_small (paths size most : Int) : 1 + 2 * (rcvNewN paths size most).ps.length + frsSum (rcvNewN paths size most).n ≤ 90000000 := by
  unfold rcvNewN
  split
  · rename_i h
    simp only [frsSum_rep, List.length_nil]
    omega
  · simp [rcBad, frsSum]
set_option maxHeartbeats 8000000 in
set_option maxRecDepth 100000 in
theorem walk (paths size most : Int) (w : World) (w1 : (Lit.int .i64 paths).wf = true) (w2 : (Lit.int .i64 size).wf = true) (w3 : (Lit.int .i64 most).wf = true) :
    Calls Try.prog 4 #[.int .i64 paths, .int .i64 size, .int .i64 most] w fun e w' => e = .returned (.bool true) ∧ Below w.heap.size w w' := by
  have hs := fun W => rcvNewS_calls paths size most W
  have hi := fun W => rcvNewI_calls paths size most W w1 w2 w3
  have hsm := new_small paths size most
  unfold RcGot rcvOutV at hs
  unfold RcOwn rcvOutV at hi
  generalize rcvNewN paths size most = r at *
  have HS := Lib.hid hs
  have HI := Lib.hid hi
  have HSM := Lib.hid hsm
  clear hs hi hsm w1 w2 w3
  go_enter Try.func4, Try.ntmps4
  go_wp2_with fail
  (with_reducible refine (HS.out _).mono ?_); rintro e w1 ⟨pa, pc, fa, fc, rfl, hp, hpb, hf, hb1⟩
  have n7 := box_new w1 [.int .i64 r.rd, .slice pa r.ps.length pc, .int .i64 r.ed, .int .i64 r.sz, .int .i64 r.cp, .int .i64 r.en, .slice fa r.n.length fc, .int .i64 r.kp, .int .i64 r.ks, .int .i64 r.kd, .int .i64 r.ke, gs r.t, .bool r.dn, .int .i64 r.c] 38 (by simp)
  have b7 : Below w1.heap.size w1 (w1.alloc (.cells #[.int .i64 r.rd, .slice pa r.ps.length pc, .int .i64 r.ed, .int .i64 r.sz, .int .i64 r.cp, .int .i64 r.en, .slice fa r.n.length fc, .int .i64 r.kp, .int .i64 r.ks, .int .i64 r.kd, .int .i64 r.ke, gs r.t, .bool r.dn, .int .i64 r.c] 38)) := (Below.refl _ _).alloc (Nat.le_refl _) _
  have hb1' := hb1.trans (b7.mono hb1.size)
  have s7 : (w1.alloc (.cells #[.int .i64 r.rd, .slice pa r.ps.length pc, .int .i64 r.ed, .int .i64 r.sz, .int .i64 r.cp, .int .i64 r.en, .slice fa r.n.length fc, .int .i64 r.kp, .int .i64 r.ks, .int .i64 r.kd, .int .i64 r.ke, gs r.t, .bool r.dn, .int .i64 r.c] 38)).heap.size = w1.heap.size + 1 := by simp
  have HP := Lib.hid (hp.below b7)
  have HF := Lib.hid (hf.below b7)
  have HPB := Lib.hid hpb
  have HB1 := Lib.hid hb1'
  have N7 := Lib.hid n7
  have hw1 := hb1.size
  clear hp hf hpb hb1 hb1' n7 b7 HS
  go_wp2_with fail
  generalize w1.alloc (.cells #[.int .i64 r.rd, .slice pa r.ps.length pc, .int .i64 r.ed, .int .i64 r.sz, .int .i64 r.cp, .int .i64 r.en, .slice fa r.n.length fc, .int .i64 r.kp, .int .i64 r.ks, .int .i64 r.kd, .int .i64 r.ke, gs r.t, .bool r.dn, .int .i64 r.c] 38) = V1 at *
  (with_reducible refine (HI.out _).mono ?_); rintro e w2 ⟨qa, qc, ga, gc, A, C, S, T, rfl, po, fo, hST, hS, hT, hb2⟩
  have n8 := box_new w2 [.int .i64 r.rd, .slice qa r.ps.length qc, .int .i64 r.ed, .int .i64 r.sz, .int .i64 r.cp, .int .i64 r.en, .slice ga r.n.length gc, .int .i64 r.kp, .int .i64 r.ks, .int .i64 r.kd, .int .i64 r.ke, gs r.t, .bool r.dn, .int .i64 r.c] 38 (by simp)
  have b8 : Below w2.heap.size w2 (w2.alloc (.cells #[.int .i64 r.rd, .slice qa r.ps.length qc, .int .i64 r.ed, .int .i64 r.sz, .int .i64 r.cp, .int .i64 r.en, .slice ga r.n.length gc, .int .i64 r.kp, .int .i64 r.ks, .int .i64 r.kd, .int .i64 r.ke, gs r.t, .bool r.dn, .int .i64 r.c] 38)) := (Below.refl _ _).alloc (Nat.le_refl _) _
  have s8 : (w2.alloc (.cells #[.int .i64 r.rd, .slice qa r.ps.length qc, .int .i64 r.ed, .int .i64 r.sz, .int .i64 r.cp, .int .i64 r.en, .slice ga r.n.length gc, .int .i64 r.kp, .int .i64 r.ks, .int .i64 r.kd, .int .i64 r.ke, gs r.t, .bool r.dn, .int .i64 r.c] 38)).heap.size = w2.heap.size + 1 := by simp
  have hb2' := hb2.trans (b8.mono hb2.size)
  have hw2 := hb2.size
  have PO := Lib.hid (po.below b8)
  have FO := Lib.hid (fo.below b8)
  have HST := Lib.hid hST
  have HSS := Lib.hid hS
  have HTT := Lib.hid hT
  have HP2 := Lib.hid (HP.out.below hb2')
  have HF2 := Lib.hid (HF.out.below hb2')
  have N72 := Lib.hid (N7.out.below hb2')
  have N8 := Lib.hid n8
  have HB2 := Lib.hid (HB1.out.trans (hb2'.mono HB1.out.size))
  obtain ⟨⟨a_0, a_1, a_2, a_3, a_4, a_5, a_6⟩, a_7, a_8, a_9, a_a, a_b, a_c, a_d⟩ := N72.out.fourteen
  obtain ⟨⟨b_0, b_1, b_2, b_3, b_4, b_5, b_6⟩, b_7, b_8, b_9, b_a, b_b, b_c, b_d⟩ := N8.out.fourteen
  have hE := eqRcvOut_same (rd := r.rd) (ed := r.ed) (sz := r.sz) (cp := r.cp) (en := r.en) (kp := r.kp) (ks := r.ks) (kd := r.kd) (ke := r.ke) (c := r.c) (pc := qc) (fc := gc) (pc' := pc) (fc' := fc) (t := r.t) (dn := r.dn) PO.out.in' FO.out.in' HP2.out HF2.out
  unfold rcvOutV at hE
  have HE := Lib.hid hE
  clear hE po fo hST hS hT hb2 hb2' n8 b8 HP HF N7 HB1
  go_wp2_with fail
  generalize w2.alloc (.cells #[.int .i64 r.rd, .slice qa r.ps.length qc, .int .i64 r.ed, .int .i64 r.sz, .int .i64 r.cp, .int .i64 r.en, .slice ga r.n.length gc, .int .i64 r.kp, .int .i64 r.ks, .int .i64 r.kd, .int .i64 r.ke, gs r.t, .bool r.dn, .int .i64 r.c] 38) = V2 at *
  (with_reducible refine HE.out.mono ?_); rintro e w3 ⟨rfl, hb3⟩
  clear a_0 a_1 a_2 a_3 a_4 a_5 a_6 a_7 a_8 a_9 a_a a_b a_c a_d b_0 b_1 b_2 b_3 b_4 b_5 b_6 b_7 b_8 b_9 b_a b_b b_c b_d
  have PO3 := Lib.hid (PO.out.below hb3)
  have FO3 := Lib.hid (FO.out.below hb3)
  have HP3 := Lib.hid (HP2.out.below hb3)
  have HF3 := Lib.hid (HF2.out.below hb3)
  have N73 := Lib.hid (N72.out.below hb3)
  have N83 := Lib.hid (N8.out.below hb3)
  have HB3 := Lib.hid (HB2.out.trans (hb3.mono HB2.out.size))
  have hw3 := hb3.size
  have hM := markRcvOut_calls (rd := r.rd) (ed := r.ed) (sz := r.sz) (cp := r.cp) (en := r.en) (kp := r.kp) (ks := r.ks) (kd := r.kd) (ke := r.ke) (c := r.c) (pc := qc) (fc := gc) (t := r.t) (dn := r.dn) (k := 1) PO3.out FO3.out HST.out (fun b h => by have := HSS.out b h; omega) HSM.out
  unfold rcvOutV at hM
  rw [show ((1 : Nat) : Int) = 1 from rfl] at hM
  obtain ⟨m, hm⟩ : ∃ m, m = 1 + 2 * r.ps.length + frsSum r.n := ⟨_, rfl⟩
  rw [← hm] at hM
  have HMM := Lib.hid hm
  have HM := Lib.hid hM
  obtain ⟨⟨b_0, b_1, b_2, b_3, b_4, b_5, b_6⟩, b_7, b_8, b_9, b_a, b_b, b_c, b_d⟩ := N83.out.fourteen
  have hmpos : ¬ ((m : Int) < 0) := by omega
  clear hM hm hb3 PO FO HP2 HF2 N72 N8 HB2 HE
  go_wp2_with fail
  (with_reducible refine HM.out.mono ?_); rintro e w4 ⟨rfl, po4, fo4, k4⟩
  clear b_0 b_1 b_2 b_3 b_4 b_5 b_6 b_7 b_8 b_9 b_a b_b b_c b_d
  have hb4 : Below w.heap.size w w4 := HB3.out.trans (k4.toBelow HB3.out.size (fun b hb hs => by rcases hs with h | h; (· have := HSS.out b h; omega); (· have := HTT.out b h; omega)))
  have hnS : ∀ b, (S b ∨ T b) → V1.heap.size ≤ b ∧ b < w2.heap.size := fun b h => h.elim (HSS.out b) (HTT.out b)
  have HP4 := Lib.hid (HP3.out.blks (fun b hl hlt => k4.block b hlt (fun hs => by have := hnS b hs; have := HPB.out b hl; omega)))
  have HF4 := Lib.hid (HF3.out.kept k4 (fun b hb hs => by have := hnS b hs; omega))
  have N74 := Lib.hid (N73.out.kept (k4.block _ N73.out.lt (fun hs => by have := hnS _ hs; omega)))
  have N84 := Lib.hid (N83.out.kept (k4.block _ N83.out.lt (fun hs => by have := hnS _ hs; omega)))
  have PO4 := Lib.hid po4
  have FO4 := Lib.hid fo4
  have HB4 := Lib.hid hb4
  have hw4 := k4.size
  have hH := fun (W : World) (hb : Below w4.heap.size w4 W) => heldRcvOut_calls (rd := r.rd) (ed := r.ed) (sz := r.sz) (cp := r.cp) (en := r.en) (kp := r.kp) (ks := r.ks) (kd := r.kd) (ke := r.ke) (c := r.c) (pc := qc) (fc := gc) (t := r.t) (dn := r.dn) (k := 1) (n := r.n) (PO4.out.in'.below hb) (FO4.out.in'.below hb) HSM.out
  unfold rcvOutV at hH
  rw [show ((1 : Nat) : Int) = 1 from rfl, ← HMM.out] at hH
  have HH := Lib.hid hH
  obtain ⟨⟨b_0, b_1, b_2, b_3, b_4, b_5, b_6⟩, b_7, b_8, b_9, b_a, b_b, b_c, b_d⟩ := N84.out.fourteen
  clear hH k4 po4 fo4 hb4 HP3 HF3 N73 N83 HB3 HM PO3 FO3
  go_wp2_with fail
  (with_reducible refine (HH.out _ (Below.refl _ _)).mono ?_); rintro e w5 ⟨rfl, hb5⟩
  clear b_0 b_1 b_2 b_3 b_4 b_5 b_6 b_7 b_8 b_9 b_a b_b b_c b_d
  have HB5 := Lib.hid (HB4.out.trans (hb5.mono HB4.out.size))
  have B45 := Lib.hid hb5
  have HP5 := Lib.hid (HP4.out.below hb5)
  have HF5 := Lib.hid (HF4.out.below hb5)
  have N75 := Lib.hid (N74.out.below hb5)
  have N85 := Lib.hid (N84.out.below hb5)
  clear hb5 HP4 HF4 N74 N84 HB4
  go_wp2_with fail
  (with_reducible refine (HI.out _).mono ?_); rintro e w6 ⟨ha, hc, ka, kc, A6, C6, S6, T6, rfl, po6, fo6, -, -, -, hb6⟩
  have n11 := box_new w6 [.int .i64 r.rd, .slice ha r.ps.length hc, .int .i64 r.ed, .int .i64 r.sz, .int .i64 r.cp, .int .i64 r.en, .slice ka r.n.length kc, .int .i64 r.kp, .int .i64 r.ks, .int .i64 r.kd, .int .i64 r.ke, gs r.t, .bool r.dn, .int .i64 r.c] 38 (by simp)
  have b11 : Below w6.heap.size w6 (w6.alloc (.cells #[.int .i64 r.rd, .slice ha r.ps.length hc, .int .i64 r.ed, .int .i64 r.sz, .int .i64 r.cp, .int .i64 r.en, .slice ka r.n.length kc, .int .i64 r.kp, .int .i64 r.ks, .int .i64 r.kd, .int .i64 r.ke, gs r.t, .bool r.dn, .int .i64 r.c] 38)) := (Below.refl _ _).alloc (Nat.le_refl _) _
  have hb6' := hb6.trans (b11.mono hb6.size)
  have HB6 := Lib.hid (HB5.out.trans (hb6'.mono HB5.out.size))
  have B46 := Lib.hid (B45.out.trans (hb6'.mono B45.out.size))
  have HP6 := Lib.hid (HP5.out.below hb6')
  have HF6 := Lib.hid (HF5.out.below hb6')
  have N76 := Lib.hid (N75.out.below hb6')
  have N86 := Lib.hid (N85.out.below hb6')
  have N11 := Lib.hid n11
  obtain ⟨⟨a_0, a_1, a_2, a_3, a_4, a_5, a_6⟩, a_7, a_8, a_9, a_a, a_b, a_c, a_d⟩ := N76.out.fourteen
  obtain ⟨⟨c_0, c_1, c_2, c_3, c_4, c_5, c_6⟩, c_7, c_8, c_9, c_a, c_b, c_c, c_d⟩ := N11.out.fourteen
  have hE := eqRcvOut_same (rd := r.rd) (ed := r.ed) (sz := r.sz) (cp := r.cp) (en := r.en) (kp := r.kp) (ks := r.ks) (kd := r.kd) (ke := r.ke) (c := r.c) (pc := hc) (fc := kc) (pc' := pc) (fc' := fc) (t := r.t) (dn := r.dn) (po6.below b11).in' (fo6.below b11).in' HP6.out HF6.out
  unfold rcvOutV at hE
  have HE := Lib.hid hE
  clear hE po6 fo6 hb6 hb6' n11 b11 HP5 HF5 N75 N85 HB5 B45 HI
  go_wp2_with fail
  generalize w6.alloc (.cells #[.int .i64 r.rd, .slice ha r.ps.length hc, .int .i64 r.ed, .int .i64 r.sz, .int .i64 r.cp, .int .i64 r.en, .slice ka r.n.length kc, .int .i64 r.kp, .int .i64 r.ks, .int .i64 r.kd, .int .i64 r.ke, gs r.t, .bool r.dn, .int .i64 r.c] 38) = V6 at *
  (with_reducible refine HE.out.mono ?_); rintro e w7 ⟨rfl, hb7⟩
  clear a_0 a_1 a_2 a_3 a_4 a_5 a_6 a_7 a_8 a_9 a_a a_b a_c a_d c_0 c_1 c_2 c_3 c_4 c_5 c_6 c_7 c_8 c_9 c_a c_b c_c c_d
  have HB7 := Lib.hid (HB6.out.trans (hb7.mono HB6.out.size))
  have B47 := Lib.hid (B46.out.trans (hb7.mono B46.out.size))
  have N87 := Lib.hid (N86.out.below hb7)
  obtain ⟨⟨b_0, b_1, b_2, b_3, b_4, b_5, b_6⟩, b_7, b_8, b_9, b_a, b_b, b_c, b_d⟩ := N87.out.fourteen
  clear hb7 HB6 B46 N86 N76 N11 HE HP6 HF6
  go_wp2_with fail
  (with_reducible refine (HH.out _ B47.out).mono ?_); rintro e w8 ⟨rfl, hb8⟩
  have HB8 := Lib.hid (HB7.out.trans (hb8.mono HB7.out.size))
  clear hb8 HB7 HH b_0 b_1 b_2 b_3 b_4 b_5 b_6 b_7 b_8 b_9 b_a b_b b_c b_d
  go_wp2_with fail
  go_ret
  exact ⟨rfl, HB8.out⟩
theorem own : ownKnob Try.prog.godebug = none := by kernel_rfl
theorem laidOut : laidOutB Try.prog = true := by kernel_rfl
set_option maxRecDepth 100000 in
theorem contract (H : Type) (enc : TypeId × Value → H) (W : World) (base : Nat) (args : Array Value) (ds gs : List (DataW H)) (before : List MemPlace)
    (hval : ∀ (j : Nat) t v, Try.f4.params[j]? = some t → args[j]? = some v → Value.okWide Try.prog W .any base t v)
    (hW : DataW.Whole enc Try.prog Try.f4.params.toList Rows.fnExactRcvNewSpec.vars false W args.toList ds gs before) :
    Calls Try.prog 4 args W fun e W' => ∃ v, e = .returned v ∧ Rows.fnExactRcvNewSpec.post enc Try.prog Try.f4 false true false false W args v W' := by
  have hW' := hW
  obtain ⟨p, q, hA0, hV, rfl, hfz, hnd⟩ := hW
  have hA : DataW.TrodAll enc Try.prog W 0 (fun _ => true) true Try.f4.params.toList args.toList ds p := hA0
  rw [Try.params4] at hA hval
  obtain ⟨v0, vs0, d0, ds0, p0, q0, hargs, rfl, rfl, h0, r0⟩ := trodAll_cons hA
  obtain ⟨v1, vs1, d1, ds1, p1, q1, rfl, rfl, rfl, h1, r1⟩ := trodAll_cons r0
  obtain ⟨v2, vs2, d2, ds2, p2, q2, rfl, rfl, rfl, h2, r2⟩ := trodAll_cons r1
  obtain ⟨rfl, rfl, rfl⟩ := trodAll_nil r2
  obtain rfl : args = #[v0, v1, v2] := by cases args; simp_all
  obtain ⟨rfl, rfl⟩ := trodVars_none hV
  obtain ⟨a0, rfl, rfl, rfl, w0⟩ := open_int Try.underlying2 (hval 0 2 v0 rfl rfl) h0
  obtain ⟨a1, rfl, rfl, rfl, w1⟩ := open_int Try.underlying2 (hval 1 2 v1 rfl rfl) h1
  obtain ⟨a2, rfl, rfl, rfl, w2⟩ := open_int Try.underlying2 (hval 2 2 v2 rfl rfl) h2
  clear hA0
  refine (walk a0 a1 a2 W w0 w1 w2).mono fun e W' ⟨he, bel⟩ => ?_
  subst he
  exact ⟨_, rfl, _, _, _, [], _, [], hW', trodAll_mk1 (shut_bool Try.underlying4 _), (trodAll_cons_mk (shut_int Try.underlying2 w0) (trodAll_cons_mk (shut_int Try.underlying2 w1) (trodAll_cons_mk (shut_int Try.underlying2 w2) trodAll_mk0))), rfl, bel.frame _, fun h => by cases h⟩

set_option maxRecDepth 100000 in
theorem lifted (os : Os) (started : os.Started) (H : Type) (enc : TypeId × Value → H) :
    ReturnsInHanded {} Try.checked os 4 .any (Rows.fnExactRcvNewSpec.pre6 enc Try.prog Try.f4 Rows.fnExactRcvNewRow.domain false) (Rows.fnExactRcvNewSpec.post enc Try.prog Try.f4 false true false false) := by
  refine returnsInHanded_of_change (C := Try.checked) own started (by kernel_rfl) Try.func4
    (ChangeSpec.witness6 (enc := enc) (C := Try.checked) false ⟨#[], #[.int .i64 0, .int .i64 0, .int .i64 0], []⟩ 8 (by kernel_rfl) (by kernel_rfl) (by kernel_rfl) (by kernel_rfl)) ?_
  intro W base args ds gs before hval hW hcnd _
  exact contract H enc W base args ds gs before hval hW

/-- THE STATEMENT. -/
theorem proved : Rows.FnExactRcvNewSaid :=
  OpenClaim.holds_of_wide 4 Try.f4 rfl rfl rfl rfl rfl rfl rfl ⟨rfl, rfl, rfl, rfl, rfl⟩ rfl rfl rfl rfl rfl (by kernel_rfl) Try.func4 (by kernel_rfl)
    (of_decide_eq_true (by kernel_rfl)) (by unfold Func.isWrapper; first | (rw [if_pos (by decide +kernel)]; kernel_rfl) | (rw [if_neg (by decide +kernel)]; exact ⟨rfl, rfl⟩))
    (fun os started H enc _ => lifted os started H enc)
#print axioms proved
end Go.Proofs.Ytmgefmjfefmaoaa.lawRcvNew
