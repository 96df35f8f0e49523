/- FnExactSndNew: for every number of paths, mss and edge the program's SndNew answers as the model's, in memory of its own. No condition. -/
import Derived.Test.YtfjmcmdkmecgiaaRows
import Derived.Test.YtfjmcmdkmecgiaaSndP
import Derived.Deep.RegionHeld3
import Derived.ProofKit
import Derived.OpenShut
import Derived.ShutString
import Derived.ChangeOld
import Derived.Below
namespace Go.Proofs.Ytfjmcmdkmecgiaa.lawSndNew
open Go.ChangeShapes Go.WideShapes Go.ChangeAt Go.RowKit
open Go.ChangeMaps (open_string shut_string)

set_option maxHeartbeats 8000000 in
set_option maxRecDepth 100000 in
theorem walk (p ms ed : Int) (w : World) (_ : (Lit.int .i64 p).wf = true) (_ : (Lit.int .i64 ms).wf = true) (_ : (Lit.int .i64 ed).wf = true) :
    Calls Try.prog 4 #[.int .i64 p, .int .i64 ms, .int .i64 ed] w fun e w' => e = .returned (.bool true) ∧ Below w.heap.size w w' := by
  have hs := fun W => sndNewS_calls p ms ed W
  have hi := fun W => sndNewI_calls p ms ed W
  unfold SdGot sndOutV at hs hi
  generalize sndNewN p ms ed = r at *
  have HS := Lib.hid hs
  have HI := Lib.hid hi
  clear hs hi
  go_enter Try.func4, Try.ntmps4
  go_wp2_with fail
  (with_reducible refine (HS.out _).mono ?_); rintro e w1 ⟨pa, pc, rfl, hn, hpb, hb1⟩
  have n7 := box_new w1 [.int .i64 0, gs [], .int .i64 0, .int .i64 r.ed, .bool r.op, .int .i64 r.ms, .slice pa r.n.length pc, .slice none 0 0, .int .i64 r.code] 35 (by simp)
  have b7 : Below w1.heap.size w1 (w1.alloc (.cells #[.int .i64 0, gs [], .int .i64 0, .int .i64 r.ed, .bool r.op, .int .i64 r.ms, .slice pa r.n.length pc, .slice none 0 0, .int .i64 r.code] 35)) := (Below.refl _ _).alloc (Nat.le_refl _) _
  have hb1' := hb1.trans (b7.mono hb1.size)
  have s7 : (w1.alloc (.cells #[.int .i64 0, gs [], .int .i64 0, .int .i64 r.ed, .bool r.op, .int .i64 r.ms, .slice pa r.n.length pc, .slice none 0 0, .int .i64 r.code] 35)).heap.size = w1.heap.size + 1 := by simp
  have HN := Lib.hid (hn.below b7)
  have HPB := Lib.hid hpb
  have HB1 := Lib.hid hb1'
  have N7 := Lib.hid n7
  have hw1 := hb1.size
  clear hn hpb hb1 hb1' n7 b7 HS
  go_wp2_with fail
  generalize w1.alloc (.cells #[.int .i64 0, gs [], .int .i64 0, .int .i64 r.ed, .bool r.op, .int .i64 r.ms, .slice pa r.n.length pc, .slice none 0 0, .int .i64 r.code] 35) = V1 at *
  (with_reducible refine (HI.out _).mono ?_); rintro e w2 ⟨qa, qc, rfl, hn, hpb, hb2⟩
  have n8 := box_new w2 [.int .i64 0, gs [], .int .i64 0, .int .i64 r.ed, .bool r.op, .int .i64 r.ms, .slice qa r.n.length qc, .slice none 0 0, .int .i64 r.code] 35 (by simp)
  have b8 : Below w2.heap.size w2 (w2.alloc (.cells #[.int .i64 0, gs [], .int .i64 0, .int .i64 r.ed, .bool r.op, .int .i64 r.ms, .slice qa r.n.length qc, .slice none 0 0, .int .i64 r.code] 35)) := (Below.refl _ _).alloc (Nat.le_refl _) _
  have s8 : (w2.alloc (.cells #[.int .i64 0, gs [], .int .i64 0, .int .i64 r.ed, .bool r.op, .int .i64 r.ms, .slice qa r.n.length qc, .slice none 0 0, .int .i64 r.code] 35)).heap.size = w2.heap.size + 1 := by simp
  have hb2' := hb2.trans (b8.mono hb2.size)
  have hw2 := hb2.size
  have HQ2 := Lib.hid (hn.below b8)
  have HQB := Lib.hid hpb
  have HN2 := Lib.hid (HN.out.below hb2')
  have N72 := Lib.hid (N7.out.below hb2')
  have N82 := Lib.hid n8
  have HB2 := Lib.hid (HB1.out.trans (hb2'.mono HB1.out.size))
  obtain ⟨⟨a0, a1, a2, a3, a4, a5, a6, a7, a8⟩, -⟩ := N72.out.nine
  obtain ⟨⟨b0, b1, b2, b3, b4, b5, b6, b7, b8⟩, -⟩ := N82.out.nine
  have hE := eqSndOut_bare (ed := r.ed) (ms := r.ms) (op := r.op) (code := r.code) (c := qc) (c' := pc) HQ2.out HN2.out
  unfold sndOutV at hE
  have HE := Lib.hid hE
  clear hE hn hpb hb2 hb2' n8 b8 HN N7 HB1
  go_wp2_with fail
  generalize w2.alloc (.cells #[.int .i64 0, gs [], .int .i64 0, .int .i64 r.ed, .bool r.op, .int .i64 r.ms, .slice qa r.n.length qc, .slice none 0 0, .int .i64 r.code] 35) = V2 at *
  (with_reducible refine HE.out.mono ?_); rintro e w3 ⟨rfl, hb3⟩
  clear a0 a1 a2 a3 a4 a5 a6 a7 a8
  clear b0 b1 b2 b3 b4 b5 b6 b7 b8
  have HQ3 := Lib.hid (HQ2.out.below hb3)
  have HN3 := Lib.hid (HN2.out.below hb3)
  have N73 := Lib.hid (N72.out.below hb3)
  have N83 := Lib.hid (N82.out.below hb3)
  have HB3 := Lib.hid (HB2.out.trans (hb3.mono HB2.out.size))
  have hw3 := hb3.size
  have hM := markSndOut_bare (ed := r.ed) (ms := r.ms) (op := r.op) (code := r.code) (c := qc) (k := 1) HQ3.out (by omega)
  unfold sndOutV at hM
  rw [show ((1 : Nat) : Int) = 1 from rfl] at hM
  obtain ⟨m, hm⟩ : ∃ m, m = 1 + 5 * r.n.length := ⟨_, rfl⟩
  rw [← hm] at hM
  have HMM := Lib.hid hm
  have HM := Lib.hid hM
  obtain ⟨⟨b0, b1, b2, b3, b4, b5, b6, b7, b8⟩, -⟩ := N83.out.nine
  have hmpos : ¬ ((m : Int) < 0) := by omega
  clear hM hm hb3 HQ2 HN2 N72 N82 HB2 HE
  go_wp2_with fail
  (with_reducible refine HM.out.mono ?_); rintro e w4 ⟨rfl, hq4, k4⟩
  clear b0 b1 b2 b3 b4 b5 b6 b7 b8
  have hQin : ∀ b, LgB qa r.n.length b → V1.heap.size ≤ b ∧ b < w2.heap.size := HQB.out
  have hb4 : Below w.heap.size w w4 := HB3.out.trans (k4.toBelow HB3.out.size (fun b hb hs => by have := hQin b hs; have := HB3.out.size; omega))
  have HN4 := Lib.hid (HN3.out.blk (fun b hl => k4.block b (HN3.out.lt hl) (fun hs => by have := hQin b hs; have := HPB.out b hl; omega)) k4.size)
  have N74 := Lib.hid (N73.out.kept (k4.block _ N73.out.lt (fun hs => by have := hQin _ hs; omega)))
  have N84 := Lib.hid (N83.out.kept (k4.block _ N83.out.lt (fun hs => by have := hQin _ hs; omega)))
  have HQ4 := Lib.hid hq4
  have HB4 := Lib.hid hb4
  have hw4 := k4.size
  have hH := fun (W : World) (hb : Below w4.heap.size w4 W) => heldSndOut_bare (ed := r.ed) (ms := r.ms) (op := r.op) (code := r.code) (c := qc) (k := 1) (HQ4.out.below hb) (by omega)
  unfold sndOutV at hH
  rw [show ((1 : Nat) : Int) = 1 from rfl, ← HMM.out] at hH
  have HH := Lib.hid hH
  obtain ⟨⟨b0, b1, b2, b3, b4, b5, b6, b7, b8⟩, -⟩ := N84.out.nine
  clear hH k4 hq4 hb4 HN3 N73 N83 HB3 HM HQ3 hQin
  go_wp2_with fail
  (with_reducible refine (HH.out _ (Below.refl _ _)).mono ?_); rintro e w5 ⟨rfl, hb5⟩
  clear b0 b1 b2 b3 b4 b5 b6 b7 b8
  have HB5 := Lib.hid (HB4.out.trans (hb5.mono HB4.out.size))
  have B45 := Lib.hid hb5
  have HN5 := Lib.hid (HN4.out.below hb5)
  have N75 := Lib.hid (N74.out.below hb5)
  have N85 := Lib.hid (N84.out.below hb5)
  clear hb5 HN4 N74 N84 HB4
  go_wp2_with fail
  (with_reducible refine (HI.out _).mono ?_); rintro e w6 ⟨ka, kc, rfl, hn, -, hb6⟩
  have n11 := box_new w6 [.int .i64 0, gs [], .int .i64 0, .int .i64 r.ed, .bool r.op, .int .i64 r.ms, .slice ka r.n.length kc, .slice none 0 0, .int .i64 r.code] 35 (by simp)
  have b11 : Below w6.heap.size w6 (w6.alloc (.cells #[.int .i64 0, gs [], .int .i64 0, .int .i64 r.ed, .bool r.op, .int .i64 r.ms, .slice ka r.n.length kc, .slice none 0 0, .int .i64 r.code] 35)) := (Below.refl _ _).alloc (Nat.le_refl _) _
  have hb6' := hb6.trans (b11.mono hb6.size)
  have HB6 := Lib.hid (HB5.out.trans (hb6'.mono HB5.out.size))
  have B46 := Lib.hid (B45.out.trans (hb6'.mono B45.out.size))
  have HN6 := Lib.hid (HN5.out.below hb6')
  have N76 := Lib.hid (N75.out.below hb6')
  have N86 := Lib.hid (N85.out.below hb6')
  have N11 := Lib.hid n11
  obtain ⟨⟨a0, a1, a2, a3, a4, a5, a6, a7, a8⟩, -⟩ := N76.out.nine
  obtain ⟨⟨c0, c1, c2, c3, c4, c5, c6, c7, c8⟩, -⟩ := N11.out.nine
  have hE := eqSndOut_bare (ed := r.ed) (ms := r.ms) (op := r.op) (code := r.code) (c := kc) (c' := pc) (hn.below b11) HN6.out
  unfold sndOutV at hE
  have HE := Lib.hid hE
  clear hE hn hb6 hb6' n11 b11 HN5 N75 N85 HB5 B45 HI
  go_wp2_with fail
  generalize w6.alloc (.cells #[.int .i64 0, gs [], .int .i64 0, .int .i64 r.ed, .bool r.op, .int .i64 r.ms, .slice ka r.n.length kc, .slice none 0 0, .int .i64 r.code] 35) = V6 at *
  (with_reducible refine HE.out.mono ?_); rintro e w7 ⟨rfl, hb7⟩
  clear a0 a1 a2 a3 a4 a5 a6 a7 a8
  clear c0 c1 c2 c3 c4 c5 c6 c7 c8
  have HB7 := Lib.hid (HB6.out.trans (hb7.mono HB6.out.size))
  have B47 := Lib.hid (B46.out.trans (hb7.mono B46.out.size))
  have N87 := Lib.hid (N86.out.below hb7)
  obtain ⟨⟨b0, b1, b2, b3, b4, b5, b6, b7, b8⟩, -⟩ := N87.out.nine
  clear hb7 HB6 B46 N86 N76 N11 HE HN6
  go_wp2_with fail
  (with_reducible refine (HH.out _ B47.out).mono ?_); rintro e w8 ⟨rfl, hb8⟩
  have HB8 := Lib.hid (HB7.out.trans (hb8.mono HB7.out.size))
  clear b0 b1 b2 b3 b4 b5 b6 b7 b8
  clear hb8 HB7 HH
  go_wp2_with fail
  go_ret
  exact ⟨rfl, HB8.out⟩
theorem own : ownKnob Try.prog.godebug = none := by kernel_rfl
theorem laidOut : laidOutB Try.prog = true := by kernel_rfl
set_option maxRecDepth 100000 in
theorem contract (H : Type) (enc : TypeId × Value → H) (W : World) (base : Nat) (args : Array Value) (ds gs : List (DataW H)) (before : List MemPlace)
    (hval : ∀ (j : Nat) t v, Try.f4.params[j]? = some t → args[j]? = some v → Value.okWide Try.prog W .any base t v)
    (hW : DataW.Whole enc Try.prog Try.f4.params.toList Rows.fnExactSndNewSpec.vars false W args.toList ds gs before) :
    Calls Try.prog 4 args W fun e W' => ∃ v, e = .returned v ∧ Rows.fnExactSndNewSpec.post enc Try.prog Try.f4 false true false false W args v W' := by
  have hW' := hW
  obtain ⟨p, q, hA0, hV, rfl, hfz, hnd⟩ := hW
  have hA : DataW.TrodAll enc Try.prog W 0 (fun _ => true) true Try.f4.params.toList args.toList ds p := hA0
  rw [Try.params4] at hA hval
  obtain ⟨v0, vs0, d0, ds0, p0, q0, hargs, rfl, rfl, h0, r0⟩ := trodAll_cons hA
  obtain ⟨v1, vs1, d1, ds1, p1, q1, rfl, rfl, rfl, h1, r1⟩ := trodAll_cons r0
  obtain ⟨v2, vs2, d2, ds2, p2, q2, rfl, rfl, rfl, h2, r2⟩ := trodAll_cons r1
  obtain ⟨rfl, rfl, rfl⟩ := trodAll_nil r2
  obtain rfl : args = #[v0, v1, v2] := by cases args; simp_all
  obtain ⟨rfl, rfl⟩ := trodVars_none hV
  obtain ⟨a0, rfl, rfl, rfl, w0⟩ := open_int Try.underlying2 (hval 0 2 v0 rfl rfl) h0
  obtain ⟨a1, rfl, rfl, rfl, w1⟩ := open_int Try.underlying2 (hval 1 2 v1 rfl rfl) h1
  obtain ⟨a2, rfl, rfl, rfl, w2⟩ := open_int Try.underlying2 (hval 2 2 v2 rfl rfl) h2
  clear hA0
  refine (walk a0 a1 a2 W w0 w1 w2).mono fun e W' ⟨he, bel⟩ => ?_
  subst he
  exact ⟨_, rfl, _, _, _, [], _, [], hW', trodAll_mk1 (shut_bool Try.underlying4 _), (trodAll_cons_mk (shut_int Try.underlying2 w0) (trodAll_cons_mk (shut_int Try.underlying2 w1) (trodAll_cons_mk (shut_int Try.underlying2 w2) trodAll_mk0))), rfl, bel.frame _, fun h => by cases h⟩

set_option maxRecDepth 100000 in
theorem lifted (os : Os) (started : os.Started) (H : Type) (enc : TypeId × Value → H) :
    ReturnsInHanded {} Try.checked os 4 .any (Rows.fnExactSndNewSpec.pre6 enc Try.prog Try.f4 Rows.fnExactSndNewRow.domain false) (Rows.fnExactSndNewSpec.post enc Try.prog Try.f4 false true false false) := by
  refine returnsInHanded_of_change (C := Try.checked) own started (by kernel_rfl) Try.func4
    (ChangeSpec.witness6 (enc := enc) (C := Try.checked) false ⟨#[], #[.int .i64 0, .int .i64 0, .int .i64 0], []⟩ 8 (by kernel_rfl) (by kernel_rfl) (by kernel_rfl) (by kernel_rfl)) ?_
  intro W base args ds gs before hval hW hcnd _
  exact contract H enc W base args ds gs before hval hW

/-- THE STATEMENT. -/
theorem proved : Rows.FnExactSndNewSaid :=
  OpenClaim.holds_of_wide 4 Try.f4 rfl rfl rfl rfl rfl rfl rfl ⟨rfl, rfl, rfl, rfl, rfl⟩ rfl rfl rfl rfl rfl (by kernel_rfl) Try.func4 (by kernel_rfl)
    (of_decide_eq_true (by kernel_rfl)) (by unfold Func.isWrapper; first | (rw [if_pos (by decide +kernel)]; kernel_rfl) | (rw [if_neg (by decide +kernel)]; exact ⟨rfl, rfl⟩))
    (fun os started H enc _ => lifted os started H enc)
#print axioms proved
end Go.Proofs.Ytfjmcmdkmecgiaa.lawSndNew
