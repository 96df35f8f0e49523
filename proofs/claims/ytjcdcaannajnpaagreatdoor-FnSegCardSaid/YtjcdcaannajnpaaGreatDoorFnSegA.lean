/- FnSeg: promise 4 as a law: what is sent comes back from its bytes; with one byte turned it is not read; a piece is not read as an answer, nor an answer as a piece. errors.errorType is laid (the card ties it). -/
import Derived.Test.YtjcdcaannajnpaaGreatDoorSegFacts
import Derived.Test.YtjcdcaannajnpaaGreatDoorDrawX
import Derived.Test.YtjcdcaannajnpaaGreatDoorSegS
import Derived.Test.YtjcdcaannajnpaaGreatDoorSegBI
import Derived.Test.YtjcdcaannajnpaaGreatDoorBytesOf
import Derived.Test.YtjcdcaannajnpaaGreatDoorLwAt
import Derived.Deep.DeepCutAuto
import Derived.Deep.DrawnRows
import Derived.Deep.RegionHeld3
import Derived.Deep.RegionWith
import Derived.IntWalk
namespace Go.Proofs.YtjcdcaannajnpaaGreatDoor
open Go.RowKit
attribute [local go_sem ↓] Go.wp_at_zero Go.wp_at_succ

theorem keepN9 {a w w' : World} {p0 p1 p2 p3 p4 p5 p6 p7 p8 : Addr} {x0 x1 x2 x3 x4 x5 x6 x7 x8 : Value} (hb : Below w.heap.size w w') (h : Below a.heap.size a w ∧ w.cell? p0 = some x0 ∧ w.cell? p1 = some x1 ∧ w.cell? p2 = some x2 ∧ w.cell? p3 = some x3 ∧ w.cell? p4 = some x4 ∧ w.cell? p5 = some x5 ∧ w.cell? p6 = some x6 ∧ w.cell? p7 = some x7 ∧ w.cell? p8 = some x8) : Below a.heap.size a w' ∧ w'.cell? p0 = some x0 ∧ w'.cell? p1 = some x1 ∧ w'.cell? p2 = some x2 ∧ w'.cell? p3 = some x3 ∧ w'.cell? p4 = some x4 ∧ w'.cell? p5 = some x5 ∧ w'.cell? p6 = some x6 ∧ w'.cell? p7 = some x7 ∧ w'.cell? p8 = some x8 :=
  have c {p : Addr} {x : Value} (h : w.cell? p = some x) : w'.cell? p = some x := (hb.cell (World.block_lt_of_cell? w _ h)).trans h
  ⟨h.1.trans (hb.mono h.1.size), c h.2.1, c h.2.2.1, c h.2.2.2.1, c h.2.2.2.2.1, c h.2.2.2.2.2.1, c h.2.2.2.2.2.2.1, c h.2.2.2.2.2.2.2.1, c h.2.2.2.2.2.2.2.2.1, c h.2.2.2.2.2.2.2.2.2⟩
theorem keepN20 {a w w' : World} {p0 p1 p2 p3 p4 p5 p6 p7 p8 p9 p10 p11 p12 p13 p14 p15 p16 p17 p18 p19 : Addr} {x0 x1 x2 x3 x4 x5 x6 x7 x8 x9 x10 x11 x12 x13 x14 x15 x16 x17 x18 x19 : Value} (hb : Below w.heap.size w w') (h : Below a.heap.size a w ∧ w.cell? p0 = some x0 ∧ w.cell? p1 = some x1 ∧ w.cell? p2 = some x2 ∧ w.cell? p3 = some x3 ∧ w.cell? p4 = some x4 ∧ w.cell? p5 = some x5 ∧ w.cell? p6 = some x6 ∧ w.cell? p7 = some x7 ∧ w.cell? p8 = some x8 ∧ w.cell? p9 = some x9 ∧ w.cell? p10 = some x10 ∧ w.cell? p11 = some x11 ∧ w.cell? p12 = some x12 ∧ w.cell? p13 = some x13 ∧ w.cell? p14 = some x14 ∧ w.cell? p15 = some x15 ∧ w.cell? p16 = some x16 ∧ w.cell? p17 = some x17 ∧ w.cell? p18 = some x18 ∧ w.cell? p19 = some x19) : Below a.heap.size a w' ∧ w'.cell? p0 = some x0 ∧ w'.cell? p1 = some x1 ∧ w'.cell? p2 = some x2 ∧ w'.cell? p3 = some x3 ∧ w'.cell? p4 = some x4 ∧ w'.cell? p5 = some x5 ∧ w'.cell? p6 = some x6 ∧ w'.cell? p7 = some x7 ∧ w'.cell? p8 = some x8 ∧ w'.cell? p9 = some x9 ∧ w'.cell? p10 = some x10 ∧ w'.cell? p11 = some x11 ∧ w'.cell? p12 = some x12 ∧ w'.cell? p13 = some x13 ∧ w'.cell? p14 = some x14 ∧ w'.cell? p15 = some x15 ∧ w'.cell? p16 = some x16 ∧ w'.cell? p17 = some x17 ∧ w'.cell? p18 = some x18 ∧ w'.cell? p19 = some x19 :=
  have c {p : Addr} {x : Value} (h : w.cell? p = some x) : w'.cell? p = some x := (hb.cell (World.block_lt_of_cell? w _ h)).trans h
  ⟨h.1.trans (hb.mono h.1.size), c h.2.1, c h.2.2.1, c h.2.2.2.1, c h.2.2.2.2.1, c h.2.2.2.2.2.1, c h.2.2.2.2.2.2.1, c h.2.2.2.2.2.2.2.1, c h.2.2.2.2.2.2.2.2.1, c h.2.2.2.2.2.2.2.2.2.1, c h.2.2.2.2.2.2.2.2.2.2.1, c h.2.2.2.2.2.2.2.2.2.2.2.1, c h.2.2.2.2.2.2.2.2.2.2.2.2.1, c h.2.2.2.2.2.2.2.2.2.2.2.2.2.1, c h.2.2.2.2.2.2.2.2.2.2.2.2.2.2.1, c h.2.2.2.2.2.2.2.2.2.2.2.2.2.2.2.1, c h.2.2.2.2.2.2.2.2.2.2.2.2.2.2.2.2.1, c h.2.2.2.2.2.2.2.2.2.2.2.2.2.2.2.2.2.1, c h.2.2.2.2.2.2.2.2.2.2.2.2.2.2.2.2.2.2.1, c h.2.2.2.2.2.2.2.2.2.2.2.2.2.2.2.2.2.2.2.1, c h.2.2.2.2.2.2.2.2.2.2.2.2.2.2.2.2.2.2.2.2⟩
theorem next_below {w w1 w2 : World} (h1 : Below w.heap.size w w1) (h2 : Below w1.heap.size w1 w2) : Below w.heap.size w w2 := h1.trans (h2.mono h1.size)
theorem seg_code (p s d e c : Int) (t : ByteArray) (W : World) : (Instr.field 33 (.agg #[.int .i64 p, .int .i64 s, .int .i64 d, .string t, .int .i64 e, .int .i64 c]) 1).run Tryz.prog W = .ok (.int .i64 c) W := by kernel_rfl
theorem ack_code (p s d e c : Int) (W : World) : (Instr.field 36 (.agg #[.int .i64 p, .int .i64 s, .int .i64 d, .int .i64 e, .int .i64 c]) 1).run Tryz.prog W = .ok (.int .i64 c) W := by kernel_rfl

theorem seg_back {t : List UInt8} {v : Value} (h : ∀ v', SegGot t v' → v' = v) (hl : t.length ≤ 9223372036854775807) (W : World) (hg : EtCell W) : Calls Tryz.prog 10 #[gs t] W fun e w' => e = .returned v ∧ Below W.heap.size W w' :=
  (segReadI_calls t W hg hl).mono fun e w' ⟨v', he, hv, hb⟩ => ⟨by rw [he, h v' hv], hb⟩
theorem ack_back {t : List UInt8} {v : Value} (h : ∀ v', AckGot t v' → v' = v) (hl : t.length ≤ 9223372036854775807) (W : World) (hg : EtCell W) : Calls Tryz.prog 11 #[gs t] W fun e w' => e = .returned v ∧ Below W.heap.size W w' :=
  (ackReadI_calls t W hg hl).mono fun e w' ⟨v', he, hv, hb⟩ => ⟨by rw [he, h v' hv], hb⟩
/-- A code was told. -/
def SegNo (W : World) (e : Ending) (w' : World) : Prop := ∃ c : Nat, c ≠ 0 ∧ e = .returned (segOut 0 0 0 [] 0 c) ∧ Below W.heap.size W w'
def AckNo (W : World) (e : Ending) (w' : World) : Prop := ∃ c : Nat, c ≠ 0 ∧ e = .returned (ackOut 0 0 0 0 c) ∧ Below W.heap.size W w'
theorem seg_not {t : List UInt8} (h : ∀ v', SegGot t v' → ∃ c : Nat, c ≠ 0 ∧ v' = segOut 0 0 0 [] 0 c) (hl : t.length ≤ 9223372036854775807) (W : World) (hg : EtCell W) : Calls Tryz.prog 10 #[gs t] W (SegNo W) :=
  (segReadI_calls t W hg hl).mono fun e w' ⟨v', he, hv, hb⟩ => by obtain ⟨c, hc, hv2⟩ := h v' hv; exact ⟨c, hc, by rw [he, hv2], hb⟩
theorem ack_not {t : List UInt8} (h : ∀ v', AckGot t v' → ∃ c : Nat, c ≠ 0 ∧ v' = ackOut 0 0 0 0 c) (hl : t.length ≤ 9223372036854775807) (W : World) (hg : EtCell W) : Calls Tryz.prog 11 #[gs t] W (AckNo W) :=
  (ackReadI_calls t W hg hl).mono fun e w' ⟨v', he, hv, hb⟩ => by obtain ⟨c, hc, hv2⟩ := h v' hv; exact ⟨c, hc, by rw [he, hv2], hb⟩
/-- One byte of a row was turned. -/
def TurnAt (w wx : World) (b : Nat) (T : List UInt8) (r : Nat) : Prop := ∃ q : Nat, q < 255 ∧ HasBytes wx b (turned T r (UInt8.ofNat (1 + q))) ∧ b < wx.heap.size ∧ Below w.heap.size w wx
theorem turn_one {T : List UInt8} {r q : Nat} (hr : r < T.length) (hq : q < 255) : UInt8.ofNat (1 + q) ≠ 0 ∧ (turned T r (UInt8.ofNat (1 + q))).length = T.length ∧ T.set r (T[r] ^^^ UInt8.ofNat (1 + q)) = turned T r (UInt8.ofNat (1 + q)) := by
  refine ⟨fun e => ?_, by unfold turned; simp, by unfold turned; rw [getD_at hr]⟩
  have := congrArg UInt8.toNat e
  rw [UInt8.toNat_ofNat'] at this
  have h0 : (0 : UInt8).toNat = 0 := rfl
  omega

set_option maxHeartbeats 8000000 in
set_option maxRecDepth 200000 in
theorem fnSeg_walk {a b : Option Addr} {la ca lb cb : Nat} {z z' : List Int} {w : World} (w0 : IsRow .u8 w a la ca z) (w1 : IsRow .u8 w b lb cb z') (hda : la ≤ 1048576) (hdb : lb ≤ 1048576) (hg : EtCell w) :
    Calls Tryz.prog 3 #[.slice a la ca, .slice b lb cb] w fun e w' => e = .returned (.bool true) ∧ Below w.heap.size w w' := by
  have HR0 := Lib.hid (inRow_of w0 (by omega))
  have HR1 := Lib.hid (inRow_of w1 (by omega))
  have HG := Lib.hid hg
  clear w0 w1 hg
  go_enter Tryz.func3, Tryz.ntmps3
  go_wp2_with fail
  (with_reducible refine (drawSegBytes_calls HR0.out).mono ?_)
  rintro e w1 ⟨n1, n2, n3, t, n4, rfl, hwd, hb1⟩
  have HB1 := Lib.hid hb1
  have HWS := Lib.hid hwd
  clear hb1 hwd
  go_wp2_with fail
  (with_reducible refine (drawAckBytes_calls (inRow_below HR0.out HB1.out)).mono ?_)
  rintro e w2 ⟨m1, m2, m3, m4, rfl, hwa, hb2⟩
  have HB2 := Lib.hid (next_below HB1.out hb2)
  have HWA := Lib.hid hwa
  clear hb2 hwa HB1 HR0
  have htl : t.length ≤ 20 := HWS.out.2.2.2.1
  have HTI := Lib.hid (fun W => segBytesI_calls n1 n2 n3 t n4 W (by omega))
  have HTS := Lib.hid (fun W => segBytesS_calls n1 n2 n3 t n4 W (by omega))
  have HUI := Lib.hid (fun W => ackBytesI_calls m1 m2 m3 m4 W)
  have HUS := Lib.hid (fun W => ackBytesS_calls m1 m2 m3 m4 W)
  have FS := Lib.hid (seg_facts n1 n2 n3 t n4)
  have FA := Lib.hid (ack_facts m1 m2 m3 m4)
  have hTl := segN_len n1 n2 n3 t n4
  have hUl := ackN_len m1 m2 m3 m4
  generalize segN n1 n2 n3 t n4 = T at *
  generalize ackN m1 m2 m3 m4 = U at *
  go_upto_region 4 with fail
  have G1 : ((w2.alloc (.cells #[.int .i64 n1, .int .i64 n2, .int .i64 n3, gs t, .int .i64 n4] 24)).alloc (.cells #[.int .i64 m1, .int .i64 m2, .int .i64 m3, .int .i64 m4] 27)).heap[w2.heap.size]? = some (.cells #[.int .i64 n1, .int .i64 n2, .int .i64 n3, gs t, .int .i64 n4] 24 (0, 0)) := kept_blk (new_there _ _) ((Below.refl _ _).alloc (Nat.le_refl _) _)
  have G2 : ((w2.alloc (.cells #[.int .i64 n1, .int .i64 n2, .int .i64 n3, gs t, .int .i64 n4] 24)).alloc (.cells #[.int .i64 m1, .int .i64 m2, .int .i64 m3, .int .i64 m4] 27)).heap[w2.heap.size + 1]? = some (.cells #[.int .i64 m1, .int .i64 m2, .int .i64 m3, .int .i64 m4] 27 (0, 0)) := by
    have := new_there (w2.alloc (.cells #[.int .i64 n1, .int .i64 n2, .int .i64 n3, gs t, .int .i64 n4] 24)) (.cells #[.int .i64 m1, .int .i64 m2, .int .i64 m3, .int .i64 m4] 27)
    simpa using this
  have hb3 := (HB2.out.alloc HB2.out.size (.cells #[.int .i64 n1, .int .i64 n2, .int .i64 n3, gs t, .int .i64 n4] 24)).alloc (by have := HB2.out.size; simp; omega) (.cells #[.int .i64 m1, .int .i64 m2, .int .i64 m3, .int .i64 m4] 27)
  generalize (w2.alloc (.cells #[.int .i64 n1, .int .i64 n2, .int .i64 n3, gs t, .int .i64 n4] 24)).alloc (.cells #[.int .i64 m1, .int .i64 m2, .int .i64 m3, .int .i64 m4] 27) = w3 at *
  generalize w2.heap.size = g at *
  have HB3 := Lib.hid hb3
  have HG1 := Lib.hid G1
  have HG2 := Lib.hid G2
  clear hb3 HB2
  go_cut [7, 8] (fun v7 v8 wx => v7 = gs T ∧ v8 = gs U ∧ Below w3.heap.size w3 wx)
  case first =>
    have s0 : w3.cell? ⟨g, 0, none⟩ = some (.int .i64 n1) := cell_of_row w3 g 0 _ _ _ G1
    have s1 : w3.cell? ⟨g, 1, none⟩ = some (.int .i64 n2) := cell_of_row w3 g 1 _ _ _ G1
    have s2 : w3.cell? ⟨g, 2, none⟩ = some (.int .i64 n3) := cell_of_row w3 g 2 _ _ _ G1
    have s3 : w3.cell? ⟨g, 3, none⟩ = some (gs t) := cell_of_row w3 g 3 _ _ _ G1
    have s4 : w3.cell? ⟨g, 4, none⟩ = some (.int .i64 n4) := cell_of_row w3 g 4 _ _ _ G1
    have a0 : w3.cell? ⟨g + 1, 0, none⟩ = some (.int .i64 m1) := cell_of_row w3 (g + 1) 0 _ _ _ G2
    have a1 : w3.cell? ⟨g + 1, 1, none⟩ = some (.int .i64 m2) := cell_of_row w3 (g + 1) 1 _ _ _ G2
    have a2 : w3.cell? ⟨g + 1, 2, none⟩ = some (.int .i64 m3) := cell_of_row w3 (g + 1) 2 _ _ _ G2
    have a3 : w3.cell? ⟨g + 1, 3, none⟩ = some (.int .i64 m4) := cell_of_row w3 (g + 1) 3 _ _ _ G2
    clear G1 G2
    first | (go_region_held3 (fun W => Below w3.heap.size w3 W ∧ W.cell? ⟨g, 0, none⟩ = some (.int .i64 n1) ∧ W.cell? ⟨g, 1, none⟩ = some (.int .i64 n2) ∧ W.cell? ⟨g, 2, none⟩ = some (.int .i64 n3) ∧ W.cell? ⟨g, 3, none⟩ = some (gs t) ∧ W.cell? ⟨g, 4, none⟩ = some (.int .i64 n4) ∧ W.cell? ⟨g + 1, 0, none⟩ = some (.int .i64 m1) ∧ W.cell? ⟨g + 1, 1, none⟩ = some (.int .i64 m2) ∧ W.cell? ⟨g + 1, 2, none⟩ = some (.int .i64 m3) ∧ W.cell? ⟨g + 1, 3, none⟩ = some (.int .i64 m4)) (first | exact ⟨(Below.refl _ _).drew, s0, s1, s2, s3, s4, a0, a1, a2, a3⟩ | assumption | (refine keepN9 (by assumption) (by assumption))) (first | (go_at_call 6; (with_reducible refine (HTI.out _).mono ?_); rintro e wz ⟨rfl, hbz⟩) | (go_at_call 7; (with_reducible refine (HUI.out _).mono ?_); rintro e wz ⟨rfl, hbz⟩))) | fail
    all_goals
      go_wp2_with fail
      go_meet
      exact ⟨rfl, rfl, (by assumption : Below w3.heap.size w3 _ ∧ _).1⟩
  case rest =>
    obtain ⟨rfl, rfl, hb4⟩ := hcut
    clear G1 G2
    replace HG1 := Lib.hid (kept_blk HG1.out hb4)
    replace HG2 := Lib.hid (kept_blk HG2.out hb4)
    replace HB3 := Lib.hid (next_below HB3.out hb4)
    clear hb4
    go_wp2_with fail
    (with_reducible refine (drawSegRead_calls (inRow_below HR1.out HB3.out)).mono ?_)
    rintro e w5 ⟨v, rfl, hv, hb5⟩
    replace HG1 := Lib.hid (kept_blk HG1.out hb5)
    replace HG2 := Lib.hid (kept_blk HG2.out hb5)
    replace HB3 := Lib.hid (next_below HB3.out hb5)
    clear hb5
    go_wp2_with fail
    (with_reducible refine (drawAckRead_calls (inRow_below HR1.out HB3.out)).mono ?_)
    rintro e w6 ⟨u, rfl, hu, hb6⟩
    replace HG1 := Lib.hid (kept_blk HG1.out hb6)
    replace HG2 := Lib.hid (kept_blk HG2.out hb6)
    replace HB3 := Lib.hid (next_below HB3.out hb6)
    clear hb6
    go_wp2_with fail
    (with_reducible refine (segReadI_calls v _ (HG.out.below HB3.out) (by omega)).mono ?_)
    rintro e w7 ⟨xv, rfl, hx, hb7⟩
    replace HG1 := Lib.hid (kept_blk HG1.out hb7)
    replace HG2 := Lib.hid (kept_blk HG2.out hb7)
    replace HB3 := Lib.hid (next_below HB3.out hb7)
    obtain ⟨p1, p2, p3, xt, p4, cx, rfl⟩ := hx.shape
    have HX := Lib.hid hx
    clear hb7 hx
    go_wp2_with fail
    (with_reducible refine (ackReadI_calls u _ (HG.out.below HB3.out) (by omega)).mono ?_)
    rintro e w8 ⟨yv, rfl, hy, hb8⟩
    replace HG1 := Lib.hid (kept_blk HG1.out hb8)
    replace HG2 := Lib.hid (kept_blk HG2.out hb8)
    replace HB3 := Lib.hid (next_below HB3.out hb8)
    obtain ⟨q1, q2, q3, q4, cy, rfl⟩ := hy.shape
    have HY := Lib.hid hy
    clear hb8 hy
    go_upto_region 7 with fail
    have G3 : ((w8.alloc (.cells #[.int .i64 p1, .int .i64 p2, .int .i64 p3, gs xt, .int .i64 p4, .int .i64 (cx : Int)] 33)).alloc (.cells #[.int .i64 q1, .int .i64 q2, .int .i64 q3, .int .i64 q4, .int .i64 (cy : Int)] 36)).heap[w8.heap.size]? = some (.cells #[.int .i64 p1, .int .i64 p2, .int .i64 p3, gs xt, .int .i64 p4, .int .i64 (cx : Int)] 33 (0, 0)) := kept_blk (new_there _ _) ((Below.refl _ _).alloc (Nat.le_refl _) _)
    have G4 : ((w8.alloc (.cells #[.int .i64 p1, .int .i64 p2, .int .i64 p3, gs xt, .int .i64 p4, .int .i64 (cx : Int)] 33)).alloc (.cells #[.int .i64 q1, .int .i64 q2, .int .i64 q3, .int .i64 q4, .int .i64 (cy : Int)] 36)).heap[w8.heap.size + 1]? = some (.cells #[.int .i64 q1, .int .i64 q2, .int .i64 q3, .int .i64 q4, .int .i64 (cy : Int)] 36 (0, 0)) := by
      have := new_there (w8.alloc (.cells #[.int .i64 p1, .int .i64 p2, .int .i64 p3, gs xt, .int .i64 p4, .int .i64 (cx : Int)] 33)) (.cells #[.int .i64 q1, .int .i64 q2, .int .i64 q3, .int .i64 q4, .int .i64 (cy : Int)] 36)
      simpa using this
    have hbn : Below w8.heap.size w8 ((w8.alloc (.cells #[.int .i64 p1, .int .i64 p2, .int .i64 p3, gs xt, .int .i64 p4, .int .i64 (cx : Int)] 33)).alloc (.cells #[.int .i64 q1, .int .i64 q2, .int .i64 q3, .int .i64 q4, .int .i64 (cy : Int)] 36)) := ((Below.refl _ _).alloc (Nat.le_refl _) _).alloc (by simp) _
    have G1 := kept_blk HG1.out hbn
    have G2 := kept_blk HG2.out hbn
    have hb9 := next_below HB3.out hbn
    clear hbn
    generalize (w8.alloc (.cells #[.int .i64 p1, .int .i64 p2, .int .i64 p3, gs xt, .int .i64 p4, .int .i64 (cx : Int)] 33)).alloc (.cells #[.int .i64 q1, .int .i64 q2, .int .i64 q3, .int .i64 q4, .int .i64 (cy : Int)] 36) = w9 at *
    generalize w8.heap.size = h at *
    replace HB3 := Lib.hid hb9
    replace HG1 := Lib.hid G1
    replace HG2 := Lib.hid G2
    have HG3 := Lib.hid G3
    have HG4 := Lib.hid G4
    clear hb9
    go_cut [74] (fun v wx => v = .bool false ∧ Below w9.heap.size w9 wx)
    case first =>
      have s0 : w9.cell? ⟨g, 0, none⟩ = some (.int .i64 n1) := cell_of_row w9 g 0 _ _ _ G1
      have s1 : w9.cell? ⟨g, 1, none⟩ = some (.int .i64 n2) := cell_of_row w9 g 1 _ _ _ G1
      have s2 : w9.cell? ⟨g, 2, none⟩ = some (.int .i64 n3) := cell_of_row w9 g 2 _ _ _ G1
      have s3 : w9.cell? ⟨g, 3, none⟩ = some (gs t) := cell_of_row w9 g 3 _ _ _ G1
      have s4 : w9.cell? ⟨g, 4, none⟩ = some (.int .i64 n4) := cell_of_row w9 g 4 _ _ _ G1
      have a0 : w9.cell? ⟨g + 1, 0, none⟩ = some (.int .i64 m1) := cell_of_row w9 (g + 1) 0 _ _ _ G2
      have a1 : w9.cell? ⟨g + 1, 1, none⟩ = some (.int .i64 m2) := cell_of_row w9 (g + 1) 1 _ _ _ G2
      have a2 : w9.cell? ⟨g + 1, 2, none⟩ = some (.int .i64 m3) := cell_of_row w9 (g + 1) 2 _ _ _ G2
      have a3 : w9.cell? ⟨g + 1, 3, none⟩ = some (.int .i64 m4) := cell_of_row w9 (g + 1) 3 _ _ _ G2
      have x0 : w9.cell? ⟨h, 0, none⟩ = some (.int .i64 p1) := cell_of_row w9 h 0 _ _ _ G3
      have x1 : w9.cell? ⟨h, 1, none⟩ = some (.int .i64 p2) := cell_of_row w9 h 1 _ _ _ G3
      have x2 : w9.cell? ⟨h, 2, none⟩ = some (.int .i64 p3) := cell_of_row w9 h 2 _ _ _ G3
      have x3 : w9.cell? ⟨h, 3, none⟩ = some (gs xt) := cell_of_row w9 h 3 _ _ _ G3
      have x4 : w9.cell? ⟨h, 4, none⟩ = some (.int .i64 p4) := cell_of_row w9 h 4 _ _ _ G3
      have x5 : w9.cell? ⟨h, 5, none⟩ = some (.int .i64 (cx : Int)) := cell_of_row w9 h 5 _ _ _ G3
      have y0 : w9.cell? ⟨h + 1, 0, none⟩ = some (.int .i64 q1) := cell_of_row w9 (h + 1) 0 _ _ _ G4
      have y1 : w9.cell? ⟨h + 1, 1, none⟩ = some (.int .i64 q2) := cell_of_row w9 (h + 1) 1 _ _ _ G4
      have y2 : w9.cell? ⟨h + 1, 2, none⟩ = some (.int .i64 q3) := cell_of_row w9 (h + 1) 2 _ _ _ G4
      have y3 : w9.cell? ⟨h + 1, 3, none⟩ = some (.int .i64 q4) := cell_of_row w9 (h + 1) 3 _ _ _ G4
      have y4 : w9.cell? ⟨h + 1, 4, none⟩ = some (.int .i64 (cy : Int)) := cell_of_row w9 (h + 1) 4 _ _ _ G4
      clear G1 G2 G3 G4
      have HXS := Lib.hid (fun W => (segReadS_calls v W (by omega)).mono (fun e w' hh => segEnd_same HX.out hh))
      have HYS := Lib.hid (fun W => (ackReadS_calls u W (by omega)).mono (fun e w' hh => ackEnd_same HY.out hh))
      have HSI := Lib.hid (fun W => segRightI_calls n1 n2 n3 t n4 W (by omega))
      have HSS := Lib.hid (fun W => segRightS_calls n1 n2 n3 t n4 W (by omega))
      have HAI := Lib.hid (fun W => ackRightI_calls m1 m2 m3 m4 W)
      have HAS := Lib.hid (fun W => ackRightS_calls m1 m2 m3 m4 W)
      generalize decide (segOk n1 n2 n3 t n4) = bs at *
      generalize decide (ackOk m1 m2 m3 m4) = ba at *
      clear HX HY FS FA HG1 HG2 HG3 HG4 HWS HWA HTI HUI HG HR1
      first | (go_region_held3 (fun W => Below w9.heap.size w9 W ∧ W.cell? ⟨g, 0, none⟩ = some (.int .i64 n1) ∧ W.cell? ⟨g, 1, none⟩ = some (.int .i64 n2) ∧ W.cell? ⟨g, 2, none⟩ = some (.int .i64 n3) ∧ W.cell? ⟨g, 3, none⟩ = some (gs t) ∧ W.cell? ⟨g, 4, none⟩ = some (.int .i64 n4) ∧ W.cell? ⟨g + 1, 0, none⟩ = some (.int .i64 m1) ∧ W.cell? ⟨g + 1, 1, none⟩ = some (.int .i64 m2) ∧ W.cell? ⟨g + 1, 2, none⟩ = some (.int .i64 m3) ∧ W.cell? ⟨g + 1, 3, none⟩ = some (.int .i64 m4) ∧ W.cell? ⟨h, 0, none⟩ = some (.int .i64 p1) ∧ W.cell? ⟨h, 1, none⟩ = some (.int .i64 p2) ∧ W.cell? ⟨h, 2, none⟩ = some (.int .i64 p3) ∧ W.cell? ⟨h, 3, none⟩ = some (gs xt) ∧ W.cell? ⟨h, 4, none⟩ = some (.int .i64 p4) ∧ W.cell? ⟨h, 5, none⟩ = some (.int .i64 (cx : Int)) ∧ W.cell? ⟨h + 1, 0, none⟩ = some (.int .i64 q1) ∧ W.cell? ⟨h + 1, 1, none⟩ = some (.int .i64 q2) ∧ W.cell? ⟨h + 1, 2, none⟩ = some (.int .i64 q3) ∧ W.cell? ⟨h + 1, 3, none⟩ = some (.int .i64 q4) ∧ W.cell? ⟨h + 1, 4, none⟩ = some (.int .i64 (cy : Int))) (first | exact ⟨(Below.refl _ _).drew, s0, s1, s2, s3, s4, a0, a1, a2, a3, x0, x1, x2, x3, x4, x5, y0, y1, y2, y3, y4⟩ | assumption | (refine keepN20 (by assumption) (by assumption))) (first | (go_at_call 12; (with_reducible refine (HTS.out _).mono ?_); rintro e wz ⟨rfl, hbz⟩) | (go_at_call 13; (with_reducible refine (HUS.out _).mono ?_); rintro e wz ⟨rfl, hbz⟩) | (go_at_call 14; (with_reducible refine (HXS.out _).mono ?_); rintro e wz ⟨rfl, hbz⟩) | (go_at_call 15; (with_reducible refine (HYS.out _).mono ?_); rintro e wz ⟨rfl, hbz⟩) | (go_at_call 16; (with_reducible refine (HSI.out _).mono ?_); rintro e wz ⟨rfl, hbz⟩) | (go_at_call 17; (with_reducible refine (HSS.out _).mono ?_); rintro e wz ⟨rfl, hbz⟩) | (go_at_call 18; (with_reducible refine (HAI.out _).mono ?_); rintro e wz ⟨rfl, hbz⟩) | (go_at_call 19; (with_reducible refine (HAS.out _).mono ?_); rintro e wz ⟨rfl, hbz⟩))) | fail
      all_goals
        go_wp2_with fail
        go_meet
        exact ⟨rfl, (by assumption : Below w9.heap.size w9 _ ∧ _).1⟩
    case rest =>
      obtain ⟨rfl, hb10⟩ := hcut
      clear G1 G2 G3 G4
      replace HG1 := Lib.hid (kept_blk HG1.out hb10)
      replace HG2 := Lib.hid (kept_blk HG2.out hb10)
      replace HG3 := Lib.hid (kept_blk HG3.out hb10)
      replace HG4 := Lib.hid (kept_blk HG4.out hb10)
      replace HB3 := Lib.hid (next_below HB3.out hb10)
      clear hb10
      go_upto_region 9 with fail
      go_cut [96] (fun v wx => v = .bool false ∧ Below wc.heap.size wc wx)
      case first =>
        have x0 : wc.cell? ⟨h, 0, none⟩ = some (.int .i64 p1) := cell_of_row wc h 0 _ _ _ HG3.out
        have x1 : wc.cell? ⟨h, 1, none⟩ = some (.int .i64 p2) := cell_of_row wc h 1 _ _ _ HG3.out
        have x2 : wc.cell? ⟨h, 2, none⟩ = some (.int .i64 p3) := cell_of_row wc h 2 _ _ _ HG3.out
        have x3 : wc.cell? ⟨h, 3, none⟩ = some (gs xt) := cell_of_row wc h 3 _ _ _ HG3.out
        have x4 : wc.cell? ⟨h, 4, none⟩ = some (.int .i64 p4) := cell_of_row wc h 4 _ _ _ HG3.out
        have x5 : wc.cell? ⟨h, 5, none⟩ = some (.int .i64 (cx : Int)) := cell_of_row wc h 5 _ _ _ HG3.out
        have y0 : wc.cell? ⟨h + 1, 0, none⟩ = some (.int .i64 q1) := cell_of_row wc (h + 1) 0 _ _ _ HG4.out
        have y1 : wc.cell? ⟨h + 1, 1, none⟩ = some (.int .i64 q2) := cell_of_row wc (h + 1) 1 _ _ _ HG4.out
        have y2 : wc.cell? ⟨h + 1, 2, none⟩ = some (.int .i64 q3) := cell_of_row wc (h + 1) 2 _ _ _ HG4.out
        have y3 : wc.cell? ⟨h + 1, 3, none⟩ = some (.int .i64 q4) := cell_of_row wc (h + 1) 3 _ _ _ HG4.out
        have y4 : wc.cell? ⟨h + 1, 4, none⟩ = some (.int .i64 (cy : Int)) := cell_of_row wc (h + 1) 4 _ _ _ HG4.out
        clear HG1 HG2 HG3 HG4 HTI HTS HUI HUS FS FA HR1 HG HB3 HWS HWA
        by_cases hcx : cx = 0
        · obtain ⟨hsv, hxl⟩ := seg_again HX.out hcx
          have H1 := Lib.hid (fun W => segBytesI_calls p1 p2 p3 xt p4 W (by omega))
          rw [hsv] at H1
          subst hcx
          by_cases hcy : cy = 0
          · have hav := ack_again HY.out hcy
            have H2 := Lib.hid (fun W => ackBytesI_calls q1 q2 q3 q4 W)
            rw [hav] at H2
            subst hcy
            clear hsv hav HX HY
            go_wp2_with fail
            (with_reducible refine (H1.out _).mono ?_)
            rintro e wz ⟨rfl, hbz⟩
            have HZ := Lib.hid hbz
            replace y0 := (HZ.out.cell (World.block_lt_of_cell? _ _ y0)).trans y0
            replace y1 := (HZ.out.cell (World.block_lt_of_cell? _ _ y1)).trans y1
            replace y2 := (HZ.out.cell (World.block_lt_of_cell? _ _ y2)).trans y2
            replace y3 := (HZ.out.cell (World.block_lt_of_cell? _ _ y3)).trans y3
            replace y4 := (HZ.out.cell (World.block_lt_of_cell? _ _ y4)).trans y4
            clear hbz x0 x1 x2 x3 x4 x5
            go_wp2_with fail
            (with_reducible refine (H2.out _).mono ?_)
            rintro e wy ⟨rfl, hby⟩
            have HY2 := Lib.hid hby
            clear hby y0 y1 y2 y3 y4
            go_wp2_with fail
            go_meet
            exact ⟨rfl, next_below HZ.out HY2.out⟩
          · have hd : ((cy : Int) == 0) = false := by simp; omega
            clear hsv HX HY hcy
            go_wp2_with fail
            (with_reducible refine (H1.out _).mono ?_)
            rintro e wz ⟨rfl, hbz⟩
            have HZ := Lib.hid hbz
            replace y0 := (HZ.out.cell (World.block_lt_of_cell? _ _ y0)).trans y0
            replace y1 := (HZ.out.cell (World.block_lt_of_cell? _ _ y1)).trans y1
            replace y2 := (HZ.out.cell (World.block_lt_of_cell? _ _ y2)).trans y2
            replace y3 := (HZ.out.cell (World.block_lt_of_cell? _ _ y3)).trans y3
            replace y4 := (HZ.out.cell (World.block_lt_of_cell? _ _ y4)).trans y4
            clear hbz x0 x1 x2 x3 x4 x5
            go_wp2_with fail
            go_meet
            exact ⟨rfl, HZ.out⟩
        · have hdx : ((cx : Int) == 0) = false := by simp; omega
          clear hcx
          by_cases hcy : cy = 0
          · have hav := ack_again HY.out hcy
            have H2 := Lib.hid (fun W => ackBytesI_calls q1 q2 q3 q4 W)
            rw [hav] at H2
            subst hcy
            clear hav HX HY
            go_wp2_with fail
            (with_reducible refine (H2.out _).mono ?_)
            rintro e wy ⟨rfl, hby⟩
            have HY2 := Lib.hid hby
            clear hby y0 y1 y2 y3 y4
            go_wp2_with fail
            go_meet
            exact ⟨rfl, HY2.out⟩
          · have hd : ((cy : Int) == 0) = false := by simp; omega
            clear HX HY hcy
            go_wp2_with fail
            go_meet
            exact ⟨rfl, Below.refl _ _⟩
      case rest =>
        obtain ⟨rfl, hb11⟩ := hcut
        replace HG1 := Lib.hid (kept_blk HG1.out hb11)
        replace HG2 := Lib.hid (kept_blk HG2.out hb11)
        replace HB3 := Lib.hid (next_below HB3.out hb11)
        clear hb11 HG3 HG4 HX HY HTI HTS HUI HUS HWS HWA
        go_upto_region 11 with fail
        go_cut [111] (fun v wx => v = .bool false ∧ Below wc.heap.size wc wx)
        case first =>
          by_cases hU : U = []
          · subst hU
            clear HG1 HG2 FA FS HR1 HG HB3
            go_quiet (fail)
            go_wp2_with fail
            go_meet
            exact ⟨rfl, kept_drewN (Below.refl _ _) _⟩
          · obtain ⟨fa1, fa2⟩ := FA.out hU
            have HAR := Lib.hid (ack_back fa1 (by omega))
            have HSR := Lib.hid (seg_not fa2 (by omega))
            have HET := Lib.hid (fun W (hb : Below wc.heap.size wc W) => HG.out.below (next_below HB3.out hb))
            have hUe : U.isEmpty = false := by simpa using hU
            have hUb : (U == []) = false := by simpa using hU
            have fs := seg_code
            have a0 : wc.cell? ⟨g + 1, 0, none⟩ = some (.int .i64 m1) := cell_of_row wc (g + 1) 0 _ _ _ HG2.out
            have a1 : wc.cell? ⟨g + 1, 1, none⟩ = some (.int .i64 m2) := cell_of_row wc (g + 1) 1 _ _ _ HG2.out
            have a2 : wc.cell? ⟨g + 1, 2, none⟩ = some (.int .i64 m3) := cell_of_row wc (g + 1) 2 _ _ _ HG2.out
            have a3 : wc.cell? ⟨g + 1, 3, none⟩ = some (.int .i64 m4) := cell_of_row wc (g + 1) 3 _ _ _ HG2.out
            clear HG1 HG2 FA FS HR1 HG HB3 fa1 fa2 hU
            first | (go_region_held3 (fun W => Below wc.heap.size wc W ∧ W.cell? ⟨g + 1, 0, none⟩ = some (.int .i64 m1) ∧ W.cell? ⟨g + 1, 1, none⟩ = some (.int .i64 m2) ∧ W.cell? ⟨g + 1, 2, none⟩ = some (.int .i64 m3) ∧ W.cell? ⟨g + 1, 3, none⟩ = some (.int .i64 m4)) (first | exact ⟨(Below.refl _ _).drew, a0, a1, a2, a3⟩ | assumption | (refine keep4s (by assumption) (by assumption))) (first | (go_at_call 11; (with_reducible refine (HAR.out _ ?_).mono ?_); (· exact HET.out _ (by assumption : Below wc.heap.size wc _ ∧ _).1); rintro e wz ⟨rfl, hbz⟩) | (go_at_call 10; (with_reducible refine (HSR.out _ ?_).mono ?_); (· exact HET.out _ (by assumption : Below wc.heap.size wc _ ∧ _).1); rintro e wz ⟨cc, hcc, rfl, hbz⟩; have hcd : ((cc : Int) == 0) = false := by simp; omega))) | fail
            all_goals
              go_wp2_with fail
              go_meet
              exact ⟨rfl, (by assumption : Below wc.heap.size wc _ ∧ _).1⟩
        case rest =>
          obtain ⟨rfl, hb12⟩ := hcut
          replace HG1 := Lib.hid (kept_blk HG1.out hb12)
          replace HB3 := Lib.hid (next_below HB3.out hb12)
          clear hb12 HG2 FA
          by_cases hT : T = []
          · subst hT
            go_wp2_with fail
            go_ret
            exact ⟨rfl, HB3.out⟩
          · obtain ⟨ft1, ft2, ft3⟩ := FS.out hT
            have HTR := Lib.hid (seg_back ft1 (by omega))
            have HTA := Lib.hid (ack_not ft2 (by omega))
            have HTN := Lib.hid ft3
            have hTe : T.isEmpty = false := by simpa using hT
            have hTb : (T == []) = false := by simpa using hT
            have hT1 : 1 ≤ T.length := by
              cases T with
              | nil => exact absurd rfl hT
              | cons c l => simp
            obtain ⟨cap, o, hcv, hby⟩ := to_bytes (P := Tryz.prog) (src := 9) (dst := 22) Tryz.underlying9 Tryz.underlying22 Tryz.underlying5 wc T
            have HBY := Lib.hid hby
            have HB4 := Lib.hid (HB3.out.alloc HB3.out.size o).drew
            clear ft1 ft2 ft3 hT FS hby
            go_wp2_with fail
            refine (lwAt_calls (inRow_below HR1.out HB4.out) 0 (by omega) (T.length : Int) (by omega) (by omega)).mono ?_
            rintro e w13 ⟨r, rfl, hr0, hr1, rfl⟩
            obtain ⟨r, rfl⟩ := Int.eq_ofNat_of_zero_le hr0
            have hrT : r < T.length := by omega
            have cr := HBY.out.cell r hrT
            have fr := HBY.out.free r hrT
            clear hcv hr0 hr1
            go_upto_region 17 with fail
            go_cut [] (fun wx => TurnAt wc wx wc.heap.size T r)
            case first =>
              go_region_with (go_at_call 20; refine (lwAt_calls (inRow_below HR1.out (by first | exact HB4.out | exact HB4.out.drew)) 1 (by omega) 255 (by omega) (by omega)).mono ?_; rintro e w14 ⟨q, rfl, hq0, hq1, rfl⟩)
              all_goals
                obtain ⟨q, rfl⟩ := Int.eq_ofNat_of_zero_le hq0
                have hq2 : q < 255 := by omega
                have hy : Value.int .u8 (bits .xor .u8 (T[r].toNat : Int) (1 + (q : Int))) = .int .u8 ((T[r] ^^^ UInt8.ofNat (1 + q)).toNat : Int) := by
                  have := xor_byte T[r] (1 + q) (by omega)
                  rw [← this]; congr 1
                have hby5 := HBY.out.set hrT _ _ hy
                rw [(turn_one hrT hq2).2.2] at hby5
                have HBY5 := Lib.hid hby5
                have hw8 : IntKind.u8.wrap (IntKind.i64.wrap (1 + (q : Int))) = 1 + (q : Int) := by rw [IntWalk.i64_in _ (by omega), IntWalk.u8_in _ (by omega)]
                have HW8 := Lib.hid hw8
                clear hy hby5 hq1 hq0 hw8
                go_wp2_with fail
                go_meet
                rw [HW8.out]
                exact ⟨q, hq2, ⟨HBY5.out.cell, HBY5.out.free⟩, by simp, (((((Below.refl _ _).alloc (Nat.le_refl _) o)).setCell (p := ⟨wc.heap.size, r, none⟩) (Nat.le_refl _) _).drew.drew)⟩
            case rest =>
              obtain ⟨q, hq2, hby, hbw, hb14⟩ := hcut
              obtain ⟨hx0, htl2, -⟩ := turn_one hrT hq2
              have HTQ := Lib.hid (seg_not (HTN.out r (UInt8.ofNat (1 + q)) · hrT hx0) (by rw [htl2]; omega))
              have HTL := Lib.hid htl2
              have HG1b := Lib.hid (kept_blk HG1.out hb14)
              have HB5 := Lib.hid (next_below HB3.out hb14)
              generalize turned T r (UInt8.ofNat (1 + q)) = TQ at *
              have HBY6 := Lib.hid hby
              have HET := Lib.hid (fun W (hb : Below wc.heap.size wc W) => HG.out.below (next_below HB5.out hb))
              have fs := seg_code
              have fa := ack_code
              have s0 : wc.cell? ⟨g, 0, none⟩ = some (.int .i64 n1) := cell_of_row wc g 0 _ _ _ HG1b.out
              have s1 : wc.cell? ⟨g, 1, none⟩ = some (.int .i64 n2) := cell_of_row wc g 1 _ _ _ HG1b.out
              have s2 : wc.cell? ⟨g, 2, none⟩ = some (.int .i64 n3) := cell_of_row wc g 2 _ _ _ HG1b.out
              have s3 : wc.cell? ⟨g, 3, none⟩ = some (gs t) := cell_of_row wc g 3 _ _ _ HG1b.out
              have s4 : wc.cell? ⟨g, 4, none⟩ = some (.int .i64 n4) := cell_of_row wc g 4 _ _ _ HG1b.out
              clear HBY HB4 HB3 HG HG1 HG1b HR1 HTN cr fr hby hx0 htl2 hb14
              go_wp2_with fail
              go_region_with (first | (go_at_call 10; (with_reducible refine (HTR.out _ ?_).mono ?_); (· exact HET.out _ (Below.refl _ _).drew); rintro e wz ⟨rfl, hbz⟩; have hbx : Below wc.heap.size wc wz := (Below.refl _ _).drew.trans hbz; have hcv2 := of_bytes (P := Tryz.prog) (src := 22) (dst := 9) Tryz.underlying22 Tryz.underlying5 Tryz.underlying9 (HBY6.out.below hbw hbx) T.length cap HTL.out.symm; have s0' := (hbx.cell (World.block_lt_of_cell? _ _ s0)).trans s0; have s1' := (hbx.cell (World.block_lt_of_cell? _ _ s1)).trans s1; have s2' := (hbx.cell (World.block_lt_of_cell? _ _ s2)).trans s2; have s3' := (hbx.cell (World.block_lt_of_cell? _ _ s3)).trans s3; have s4' := (hbx.cell (World.block_lt_of_cell? _ _ s4)).trans s4) | (go_at_call 10; (with_reducible refine (HTQ.out _ ?_).mono ?_); (· exact HET.out _ hbx); rintro e wy ⟨c1, hc1, rfl, hby2⟩; have hcd1 : ((c1 : Int) != 0) = true := (by simp; omega)) | (go_at_call 11; (with_reducible refine (HTA.out _ ?_).mono ?_); (· exact HET.out _ (next_below hbx hby2)); rintro e wq ⟨c2, hc2, rfl, hbq⟩; have hcd2 : ((c2 : Int) != 0) = true := (by simp; omega)))
              all_goals
                go_wp2_with fail
                go_ret
                exact ⟨rfl, next_below HB5.out (next_below (next_below hbx hby2) hbq)⟩
end Go.Proofs.YtjcdcaannajnpaaGreatDoor
