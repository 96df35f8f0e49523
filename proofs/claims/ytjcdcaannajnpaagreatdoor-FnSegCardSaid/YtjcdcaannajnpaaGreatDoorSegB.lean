/- SegBytes and AckBytes, the program's and the model's. -/
import Derived.Test.YtjcdcaannajnpaaGreatDoorSegRS
import Derived.Test.YtjcdcaannajnpaaGreatDoorSegDef
import Derived.Test.YtjcdcaannajnpaaGreatDoorPutNums
import Derived.Deep.RegionHeld3
namespace Go.Proofs.YtjcdcaannajnpaaGreatDoor
open Go.RowKit

/-- Two texts put together, in whatever world. -/
theorem cat_op {P : Program} {a b c : List UInt8} {x : ByteArray} (hx : x = ⟨a.toArray⟩) (hc : c = a ++ b) (ha : a.length ≤ 1000) (hb : b.length ≤ 1000) (W : World) :
    (Op.stringOp .add x ⟨b.toArray⟩).run P W = .ok (gs c) W := by
  subst hx hc
  exact run_string_add_lists W a b (by omega) (by omega)
/-- Five cells that a region reads, behind a call that makes memory. -/
theorem keep5s {a w w' : World} {p q r s t : Addr} {x y z u v : Value} (hb : Below w.heap.size w w') (h : Below a.heap.size a w ∧ w.cell? p = some x ∧ w.cell? q = some y ∧ w.cell? r = some z ∧ w.cell? s = some u ∧ w.cell? t = some v) :
    Below a.heap.size a w' ∧ w'.cell? p = some x ∧ w'.cell? q = some y ∧ w'.cell? r = some z ∧ w'.cell? s = some u ∧ w'.cell? t = some v :=
  have c {p : Addr} {x : Value} (h : w.cell? p = some x) : w'.cell? p = some x := (hb.cell (World.block_lt_of_cell? w _ h)).trans h
  ⟨h.1.trans (hb.mono h.1.size), c h.2.1, c h.2.2.1, c h.2.2.2.1, c h.2.2.2.2.1, c h.2.2.2.2.2⟩
theorem keep4s {a w w' : World} {p q r s : Addr} {x y z u : Value} (hb : Below w.heap.size w w') (h : Below a.heap.size a w ∧ w.cell? p = some x ∧ w.cell? q = some y ∧ w.cell? r = some z ∧ w.cell? s = some u) :
    Below a.heap.size a w' ∧ w'.cell? p = some x ∧ w'.cell? q = some y ∧ w'.cell? r = some z ∧ w'.cell? s = some u :=
  have c {p : Addr} {x : Value} (h : w.cell? p = some x) : w'.cell? p = some x := (hb.cell (World.block_lt_of_cell? w _ h)).trans h
  ⟨h.1.trans (hb.mono h.1.size), c h.2.1, c h.2.2.1, c h.2.2.2.1, c h.2.2.2.2⟩

set_option maxHeartbeats 2000000 in
set_option maxRecDepth 100000 in
theorem segS_calls (p s d : Int) (t : List UInt8) (e : Int) (w : World) (hk : segOk p s d t e) :
    Calls Tryz.prog 47 #[segV p s d t e] w fun x w' => x = .returned (gs (sealN (segBody p s d t e))) ∧ Below w.heap.size w w' := by
  have hbl := segBody_len (p := p) (s := s) (d := d) (e := e) hk.2.1
  obtain ⟨b1, hb1⟩ : ∃ b, b = [83] ++ putN p := ⟨_, rfl⟩
  obtain ⟨b2, hb2⟩ : ∃ b, b = b1 ++ putN s := ⟨_, rfl⟩
  obtain ⟨b3, hb3⟩ : ∃ b, b = b2 ++ putN d := ⟨_, rfl⟩
  obtain ⟨b4, hb4⟩ : ∃ b, b = b3 ++ putT t := ⟨_, rfl⟩
  have hb5 : segBody p s d t e = b4 ++ putN e := by rw [hb4, hb3, hb2, hb1]; simp [segBody]
  have l1 := (putN_length p).1
  have l2 := (putN_length s).1
  have l3 := (putN_length d).1
  have l4 := putT_len hk.2.1
  have l5 := (putN_length e).1
  have K1 := cat_op (P := Tryz.prog) (x := ⟨#[83]⟩) rfl hb1 (by simp) (by omega)
  have K2 := cat_op (P := Tryz.prog) (x := ⟨b1.toArray⟩) rfl hb2 (by rw [hb1]; simp; omega) (by omega)
  have K3 := cat_op (P := Tryz.prog) (x := ⟨b2.toArray⟩) rfl hb3 (by rw [hb2, hb1]; simp; omega) (by omega)
  have K4 := cat_op (P := Tryz.prog) (x := ⟨b3.toArray⟩) rfl hb4 (by rw [hb3, hb2, hb1]; simp; omega) (by omega)
  have K5 := cat_op (P := Tryz.prog) (x := ⟨b4.toArray⟩) rfl hb5 (by rw [hb4, hb3, hb2, hb1]; simp; omega) (by omega)
  have HSL := Lib.hid (fun w => sealS_calls (segBody p s d t e) w (by omega))
  have HP := Lib.hid (fun w => putS_calls p w (by have := hk.1.1; omega) (by have := hk.1.1; omega))
  have HS := Lib.hid (fun w => putS_calls s w (by have := hk.1.2.1; omega) (by have := hk.1.2.1; omega))
  have HD := Lib.hid (fun w => putS_calls d w (by have := hk.1.2.2; omega) (by have := hk.1.2.2; omega))
  have HE := Lib.hid (fun w => putS_calls e w (by have := hk.2.2; omega) (by have := hk.2.2; omega))
  have HT := Lib.hid (fun w => putTextS_calls t w (by have := hk.2.1; omega))
  clear hbl hk hb1 hb2 hb3 hb4 hb5 l1 l2 l3 l4 l5
  generalize sealN (segBody p s d t e) = R at *
  generalize segBody p s d t e = b5 at *
  generalize putN p = q1 at *
  generalize putN s = q2 at *
  generalize putN d = q3 at *
  generalize putT t = q4 at *
  generalize putN e = q5 at *
  go_enter Tryz.func47, Tryz.ntmps47
  go_wp2_with fail
  have hb0 : Below w.heap.size w (w.alloc (.cells #[.int .i64 p, .int .i64 s, .int .i64 d, gs t, .int .i64 e] 24)) := (Below.refl _ _).alloc (Nat.le_refl _) _
  have c0 : (w.alloc (.cells #[.int .i64 p, .int .i64 s, .int .i64 d, gs t, .int .i64 e] 24)).cell? ⟨w.heap.size, 0, none⟩ = some (.int .i64 p) := by simp
  have c1 : (w.alloc (.cells #[.int .i64 p, .int .i64 s, .int .i64 d, gs t, .int .i64 e] 24)).cell? ⟨w.heap.size, 1, none⟩ = some (.int .i64 s) := by simp
  have c2 : (w.alloc (.cells #[.int .i64 p, .int .i64 s, .int .i64 d, gs t, .int .i64 e] 24)).cell? ⟨w.heap.size, 2, none⟩ = some (.int .i64 d) := by simp
  have c3 : (w.alloc (.cells #[.int .i64 p, .int .i64 s, .int .i64 d, gs t, .int .i64 e] 24)).cell? ⟨w.heap.size, 3, none⟩ = some (gs t) := by simp
  have c4 : (w.alloc (.cells #[.int .i64 p, .int .i64 s, .int .i64 d, gs t, .int .i64 e] 24)).cell? ⟨w.heap.size, 4, none⟩ = some (.int .i64 e) := by simp
  generalize w.alloc (.cells #[.int .i64 p, .int .i64 s, .int .i64 d, gs t, .int .i64 e] 24) = wb at *
  generalize w.heap.size = g at c0 c1 c2 c3 c4 ⊢
  first | (go_region_held3 (fun W => Below w.heap.size w W ∧ W.cell? ⟨g, 0, none⟩ = some (.int .i64 p) ∧ W.cell? ⟨g, 1, none⟩ = some (.int .i64 s) ∧ W.cell? ⟨g, 2, none⟩ = some (.int .i64 d) ∧ W.cell? ⟨g, 3, none⟩ = some (gs t) ∧ W.cell? ⟨g, 4, none⟩ = some (.int .i64 e)) (first | exact ⟨hb0.drew, c0, c1, c2, c3, c4⟩ | assumption | (refine keep5s (by assumption) (by assumption))) (first | (go_at_call 69; (with_reducible refine (HP.out _).mono ?_); rintro e w1 ⟨rfl, hb1⟩) | (go_at_call 69; (with_reducible refine (HS.out _).mono ?_); rintro e w1 ⟨rfl, hb1⟩) | (go_at_call 69; (with_reducible refine (HD.out _).mono ?_); rintro e w1 ⟨rfl, hb1⟩) | (go_at_call 69; (with_reducible refine (HE.out _).mono ?_); rintro e w1 ⟨rfl, hb1⟩) | (go_at_call 70; (with_reducible refine (HT.out _).mono ?_); rintro e w1 ⟨rfl, hb1⟩) | (go_at_call 36; (with_reducible refine (HSL.out _).mono ?_); rintro e w1 ⟨rfl, hb1⟩))) | fail
  go_wp2_with fail
  go_ret
  exact ⟨rfl, (by assumption : Below w.heap.size w _ ∧ _).1⟩

set_option maxHeartbeats 2000000 in
set_option maxRecDepth 100000 in
theorem ackS_calls (p s d : Int) (e : Int) (w : World) (hk : ackOk p s d e) :
    Calls Tryz.prog 48 #[ackV p s d e] w fun x w' => x = .returned (gs (sealN (ackBody p s d e))) ∧ Below w.heap.size w w' := by
  have hbl := ackBody_len p s d e
  obtain ⟨b1, hb1⟩ : ∃ b, b = [65] ++ putN p := ⟨_, rfl⟩
  obtain ⟨b2, hb2⟩ : ∃ b, b = b1 ++ putN s := ⟨_, rfl⟩
  obtain ⟨b3, hb3⟩ : ∃ b, b = b2 ++ putN d := ⟨_, rfl⟩
  have hb5 : ackBody p s d e = b3 ++ putN e := by rw [hb3, hb2, hb1]; simp [ackBody]
  have l1 := (putN_length p).1
  have l2 := (putN_length s).1
  have l3 := (putN_length d).1
  have l5 := (putN_length e).1
  have K1 := cat_op (P := Tryz.prog) (x := ⟨#[65]⟩) rfl hb1 (by simp) (by omega)
  have K2 := cat_op (P := Tryz.prog) (x := ⟨b1.toArray⟩) rfl hb2 (by rw [hb1]; simp; omega) (by omega)
  have K3 := cat_op (P := Tryz.prog) (x := ⟨b2.toArray⟩) rfl hb3 (by rw [hb2, hb1]; simp; omega) (by omega)
  have K5 := cat_op (P := Tryz.prog) (x := ⟨b3.toArray⟩) rfl hb5 (by rw [hb3, hb2, hb1]; simp; omega) (by omega)
  have HSL := Lib.hid (fun w => sealS_calls (ackBody p s d e) w (by omega))
  have HP := Lib.hid (fun w => putS_calls p w (by have := hk.1.1; omega) (by have := hk.1.1; omega))
  have HS := Lib.hid (fun w => putS_calls s w (by have := hk.1.2.1; omega) (by have := hk.1.2.1; omega))
  have HD := Lib.hid (fun w => putS_calls d w (by have := hk.1.2.2; omega) (by have := hk.1.2.2; omega))
  have HE := Lib.hid (fun w => putS_calls e w (by have := hk.2; omega) (by have := hk.2; omega))
  clear hbl hk hb1 hb2 hb3 hb5 l1 l2 l3 l5
  generalize sealN (ackBody p s d e) = R at *
  generalize ackBody p s d e = b5 at *
  generalize putN p = q1 at *
  generalize putN s = q2 at *
  generalize putN d = q3 at *
  generalize putN e = q5 at *
  go_enter Tryz.func48, Tryz.ntmps48
  go_wp2_with fail
  have hb0 : Below w.heap.size w (w.alloc (.cells #[.int .i64 p, .int .i64 s, .int .i64 d, .int .i64 e] 27)) := (Below.refl _ _).alloc (Nat.le_refl _) _
  have c0 : (w.alloc (.cells #[.int .i64 p, .int .i64 s, .int .i64 d, .int .i64 e] 27)).cell? ⟨w.heap.size, 0, none⟩ = some (.int .i64 p) := by simp
  have c1 : (w.alloc (.cells #[.int .i64 p, .int .i64 s, .int .i64 d, .int .i64 e] 27)).cell? ⟨w.heap.size, 1, none⟩ = some (.int .i64 s) := by simp
  have c2 : (w.alloc (.cells #[.int .i64 p, .int .i64 s, .int .i64 d, .int .i64 e] 27)).cell? ⟨w.heap.size, 2, none⟩ = some (.int .i64 d) := by simp
  have c3 : (w.alloc (.cells #[.int .i64 p, .int .i64 s, .int .i64 d, .int .i64 e] 27)).cell? ⟨w.heap.size, 3, none⟩ = some (.int .i64 e) := by simp
  generalize w.alloc (.cells #[.int .i64 p, .int .i64 s, .int .i64 d, .int .i64 e] 27) = wb at *
  generalize w.heap.size = g at c0 c1 c2 c3 ⊢
  first | (go_region_held3 (fun W => Below w.heap.size w W ∧ W.cell? ⟨g, 0, none⟩ = some (.int .i64 p) ∧ W.cell? ⟨g, 1, none⟩ = some (.int .i64 s) ∧ W.cell? ⟨g, 2, none⟩ = some (.int .i64 d) ∧ W.cell? ⟨g, 3, none⟩ = some (.int .i64 e)) (first | exact ⟨hb0.drew, c0, c1, c2, c3⟩ | assumption | (refine keep4s (by assumption) (by assumption))) (first | (go_at_call 69; (with_reducible refine (HP.out _).mono ?_); rintro e w1 ⟨rfl, hb1⟩) | (go_at_call 69; (with_reducible refine (HS.out _).mono ?_); rintro e w1 ⟨rfl, hb1⟩) | (go_at_call 69; (with_reducible refine (HD.out _).mono ?_); rintro e w1 ⟨rfl, hb1⟩) | (go_at_call 69; (with_reducible refine (HE.out _).mono ?_); rintro e w1 ⟨rfl, hb1⟩) | (go_at_call 36; (with_reducible refine (HSL.out _).mono ?_); rintro e w1 ⟨rfl, hb1⟩))) | fail
  go_wp2_with fail
  go_ret
  exact ⟨rfl, (by assumption : Below w.heap.size w _ ∧ _).1⟩

set_option maxHeartbeats 1000000 in
set_option maxRecDepth 100000 in
theorem segBytesS_calls (p s d : Int) (t : List UInt8) (e : Int) (w : World) (hl : t.length ≤ 9223372036854775807) :
    Calls Tryz.prog 12 #[segV p s d t e] w fun x w' => x = .returned (gs (segN p s d t e)) ∧ Below w.heap.size w w' := by
  have hr := fun w => segRightS_calls p s d t e w hl
  by_cases hk : segOk p s d t e
  · have hs := fun w => segS_calls p s d t e w hk
    rw [← segN_yes hk] at hs
    rw [decide_eq_true hk] at hr
    have HR := Lib.hid hr
    have HS := Lib.hid hs
    clear hk hr hs
    generalize segN p s d t e = R at *
    go_enter Tryz.func12, Tryz.ntmps12
    go_wp2_with fail
    (with_reducible refine (HR.out _).mono ?_); rintro e w1 ⟨rfl, hb1⟩
    have HB := Lib.hid hb1
    have hb2 : Below w.heap.size w w1 := ((Below.refl _ _).alloc (Nat.le_refl _) _).trans (hb1.mono (by simp))
    have HB2 := Lib.hid hb2
    obtain ⟨hc1, hf1⟩ := bcell hb1
    simp at hc1 hf1
    clear hb1 hb2
    go_wp2_with fail
    (with_reducible refine (HS.out _).mono ?_); rintro e w2 ⟨rfl, hb2⟩
    have HB3 := Lib.hid (HB2.out.trans (hb2.mono HB2.out.size))
    clear hb2
    go_wp2_with fail
    go_ret
    exact ⟨rfl, HB3.out⟩
  · have hn := segN_no hk
    rw [decide_eq_false hk] at hr
    have HN := Lib.hid hn
    have HR := Lib.hid hr
    clear hk hr hn
    go_enter Tryz.func12, Tryz.ntmps12
    go_wp2_with fail
    (with_reducible refine (HR.out _).mono ?_); rintro e w1 ⟨rfl, hb1⟩
    have HB2 := Lib.hid (((Below.refl _ _).alloc (Nat.le_refl _) _).trans (hb1.mono (by simp)) : Below w.heap.size w w1)
    clear hb1
    go_wp2_with fail
    go_ret
    exact ⟨by rw [HN.out]; rfl, HB2.out⟩

set_option maxHeartbeats 1000000 in
set_option maxRecDepth 100000 in
theorem ackBytesS_calls (p s d e : Int) (w : World) :
    Calls Tryz.prog 13 #[ackV p s d e] w fun x w' => x = .returned (gs (ackN p s d e)) ∧ Below w.heap.size w w' := by
  have hr := fun w => ackRightS_calls p s d e w
  by_cases hk : ackOk p s d e
  · have hs := fun w => ackS_calls p s d e w hk
    rw [← ackN_yes hk] at hs
    rw [decide_eq_true hk] at hr
    have HR := Lib.hid hr
    have HS := Lib.hid hs
    clear hk hr hs
    generalize ackN p s d e = R at *
    go_enter Tryz.func13, Tryz.ntmps13
    go_wp2_with fail
    (with_reducible refine (HR.out _).mono ?_); rintro e w1 ⟨rfl, hb1⟩
    have HB := Lib.hid hb1
    have hb2 : Below w.heap.size w w1 := ((Below.refl _ _).alloc (Nat.le_refl _) _).trans (hb1.mono (by simp))
    have HB2 := Lib.hid hb2
    obtain ⟨hc1, hf1⟩ := bcell hb1
    simp at hc1 hf1
    clear hb1 hb2
    go_wp2_with fail
    (with_reducible refine (HS.out _).mono ?_); rintro e w2 ⟨rfl, hb2⟩
    have HB3 := Lib.hid (HB2.out.trans (hb2.mono HB2.out.size))
    clear hb2
    go_wp2_with fail
    go_ret
    exact ⟨rfl, HB3.out⟩
  · have hn := ackN_no hk
    rw [decide_eq_false hk] at hr
    have HN := Lib.hid hn
    have HR := Lib.hid hr
    clear hk hr hn
    go_enter Tryz.func13, Tryz.ntmps13
    go_wp2_with fail
    (with_reducible refine (HR.out _).mono ?_); rintro e w1 ⟨rfl, hb1⟩
    have HB2 := Lib.hid (((Below.refl _ _).alloc (Nat.le_refl _) _).trans (hb1.mono (by simp)) : Below w.heap.size w w1)
    clear hb1
    go_wp2_with fail
    go_ret
    exact ⟨by rw [HN.out]; rfl, HB2.out⟩
end Go.Proofs.YtjcdcaannajnpaaGreatDoor
