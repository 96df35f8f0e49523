/- The laws' words on a Rcv, and on what is handed back with it: whether two are the same, the marks. -/
import Derived.Test.YtdcahilfmhkmiaaGreatDoorRcv
import Derived.Test.YtdcahilfmhkmiaaGreatDoorSegR
namespace Go.Proofs.YtdcahilfmhkmiaaGreatDoor
open Go.RowKit

set_option maxHeartbeats 2000000 in
set_option maxRecDepth 100000 in
theorem eqRcv_same {S S' : Nat → Prop} {rd ed sz cp en : Int} {pa fa pa' fa' : Option Addr} {pl pc fl fc pl' pc' fl' fc' : Nat} {ps : List Pc} {n : Frs} {w : World} (hp : InPcs w pa pl ps) (hf : InFrs S w fa fl n) (hp' : InPcs w pa' pl' ps) (hf' : InFrs S' w fa' fl' n) :
    Calls Tryz.prog 54 #[rcvV rd pa pl pc ed sz cp en fa fl fc, rcvV rd pa' pl' pc' ed sz cp en fa' fl' fc'] w fun e w' => e = .returned (.bool true) ∧ Below w.heap.size w w' := by
  have h1 := fun (W : World) (hb : Below w.heap.size w W) => eqPieceS_calls (ca := pc) (cb := pc') (hp.below hb) (hp'.below hb)
  have h2 := fun (W : World) (hb : Below w.heap.size w W) => eqFromS_calls (ca := fc) (cb := fc') (hf.below hb) (hf'.below hb)
  rw [decide_eq_true (show ps = ps from rfl)] at h1
  rw [decide_eq_true (show n = n from rfl)] at h2
  have H1 := Lib.hid h1
  have H2 := Lib.hid h2
  clear h1 h2 hp hf hp' hf'
  unfold rcvV
  go_enter Tryz.func54, Tryz.ntmps54
  go_wp2_with fail
  have n3 := box_two w [.int .i64 rd, .slice pa pl pc, .int .i64 ed, .int .i64 sz, .int .i64 cp, .int .i64 en, .slice fa fl fc] [.int .i64 rd, .slice pa' pl' pc', .int .i64 ed, .int .i64 sz, .int .i64 cp, .int .i64 en, .slice fa' fl' fc'] 26 26 (by simp) (by simp)
  dsimp only at n3
  generalize (w.alloc (.cells #[.int .i64 rd, .slice pa pl pc, .int .i64 ed, .int .i64 sz, .int .i64 cp, .int .i64 en, .slice fa fl fc] 26)).alloc (.cells #[.int .i64 rd, .slice pa' pl' pc', .int .i64 ed, .int .i64 sz, .int .i64 cp, .int .i64 en, .slice fa' fl' fc'] 26) = W at *
  obtain ⟨n1, n2, hs, hb0⟩ := n3
  (with_reducible refine (H1.out _ hb0).mono ?_); rintro e w1 ⟨rfl, hb1⟩
  obtain ⟨c0, c1, c2, c3, c4, c5, c6⟩ := (n1.below hb1).seven
  obtain ⟨d0, d1, d2, d3, d4, d5, d6⟩ := (n2.below hb1).seven
  have HB1 := Lib.hid (hb0.trans (hb1.mono hb0.size))
  clear hb0 hb1 n1 n2 H1
  go_wp2_with fail
  (with_reducible refine (H2.out _ HB1.out).mono ?_); rintro e w2 ⟨rfl, hb2⟩
  have HB2 := Lib.hid (HB1.out.trans (hb2.mono HB1.out.size))
  clear hb2 HB1 H2
  go_wp2_with fail
  go_ret
  exact ⟨rfl, HB2.out⟩

set_option maxHeartbeats 2000000 in
set_option maxRecDepth 100000 in
theorem markRcv_calls {S T : Nat → Prop} {rd ed sz cp en : Int} {pa fa : Option Addr} {pl pc fl fc k : Nat} {ps : List Pc} {n : Frs} {A : Nat → Option Addr} {C : Nat → Nat} {w : World} (hp : PcsOwn S w pa pl ps) (hf : FrsOwn T w fa fl n A C)
    (hd : ∀ b, S b → ¬ T b) (hS : ∀ b, S b → b < w.heap.size) (hk : k + 2 * pl + frsSum n ≤ 90000000) :
    Calls Tryz.prog 55 #[rcvV rd pa pl pc ed sz cp en fa fl fc, .int .i64 (k : Int)] w fun e w' => e = .returned (.int .i64 ((k + 2 * pl + frsSum n : Nat) : Int)) ∧ PcsOwn S w' pa pl (marks k pl) ∧ FrsOwn T w' fa fl (fmarks (k + 2 * pl) n) A C ∧ Kept (fun b => S b ∨ T b) w w' := by
  have h1 := fun (W : World) (hb : Below w.heap.size w W) => markPcs_calls (cap := pc) (k := k) (hp.below hb) (by omega)
  have h2 := fun (W : World) (hf : FrsOwn T W fa fl n A C) => markFromS_calls (cap := fc) (k := k + 2 * pl) hf (by omega)
  have hf' := fun (W W' : World) (hb : Below w.heap.size w W) (hk : Kept S W W') => (hf.below hb).kept hk (fun b ht hs => hd b hs ht)
  have hc : ((k + 2 * pl : Nat) : Int) = (k : Int) + 2 * (pl : Int) := by omega
  have hc3 : ((k + 2 * pl + frsSum n : Nat) : Int) = (k : Int) + 2 * (pl : Int) + (frsSum n : Int) := by omega
  have hsn : ¬ S w.heap.size := fun h => by have := hS _ h; omega
  rw [hc] at h1 h2
  rw [hc3] at h2 ⊢
  have H1 := Lib.hid h1
  have H2 := Lib.hid h2
  have HF := Lib.hid hf'
  have HD := Lib.hid hd
  have HSN := Lib.hid hsn
  clear h1 h2 hp hf hf' hc hc3 hd hS hsn
  unfold rcvV
  go_enter Tryz.func55, Tryz.ntmps55
  go_wp2_with fail
  have n1 := box_new w [.int .i64 rd, .slice pa pl pc, .int .i64 ed, .int .i64 sz, .int .i64 cp, .int .i64 en, .slice fa fl fc] 26 (by simp)
  have hb0 : Below w.heap.size w (w.alloc (.cells #[.int .i64 rd, .slice pa pl pc, .int .i64 ed, .int .i64 sz, .int .i64 cp, .int .i64 en, .slice fa fl fc] 26)) := (Below.refl _ _).alloc (Nat.le_refl _) _
  generalize w.alloc (.cells #[.int .i64 rd, .slice pa pl pc, .int .i64 ed, .int .i64 sz, .int .i64 cp, .int .i64 en, .slice fa fl fc] 26) = W at *
  (with_reducible refine (H1.out _ hb0).mono ?_); rintro e w1 ⟨rfl, p1, k1⟩
  have f1 := HF.out W w1 hb0 k1
  obtain ⟨-, -, -, -, -, -, c6⟩ := (n1.kept (k1.block _ n1.lt HSN.out)).seven
  have HK1 := Lib.hid ((kept_below (S := fun b => S b ∨ T b) hb0).trans (k1.mono (fun b h => .inl h)))
  have HP1 := Lib.hid p1
  have HF1 := Lib.hid f1
  clear n1 hb0 k1 p1 f1 H1 HF HSN
  go_wp2_with fail
  (with_reducible refine (H2.out _ HF1.out).mono ?_); rintro e w2 ⟨rfl, f2, k2⟩
  have HP2 := Lib.hid (HP1.out.kept k2 HD.out)
  have HK2 := Lib.hid (HK1.out.trans (k2.mono (fun b h => .inr h)))
  have HF2 := Lib.hid f2
  clear k2 f2 H2 HP1 HF1 HK1
  go_wp2_with fail
  go_ret
  exact ⟨rfl, HP2.out, HF2.out, HK2.out⟩

set_option maxHeartbeats 2000000 in
set_option maxRecDepth 100000 in
theorem heldRcv_calls {T : Nat → Prop} {rd ed sz cp en : Int} {pa fa : Option Addr} {pl pc fl fc k : Nat} {n : Frs} {w : World} (hp : InPcs w pa pl (marks k pl)) (hf : InFrs T w fa fl (fmarks (k + 2 * pl) n)) (hk : k + 2 * pl + frsSum n ≤ 90000000) :
    Calls Tryz.prog 125 #[rcvV rd pa pl pc ed sz cp en fa fl fc, .int .i64 (k : Int)] w fun e w' => e = .returned (.int .i64 ((k + 2 * pl + frsSum n : Nat) : Int)) ∧ Below w.heap.size w w' := by
  have h1 := fun (W : World) (hb : Below w.heap.size w W) => held_calls (cap := pc) (k := k) (hp.below hb) (by omega)
  have h2 := fun (W : World) (hb : Below w.heap.size w W) => heldFromS_calls (cap := fc) (k := k + 2 * pl) (n := n) (hf.below hb) (by omega)
  have hc : ((k + 2 * pl : Nat) : Int) = (k : Int) + 2 * (pl : Int) := by omega
  have hc3 : ((k + 2 * pl + frsSum n : Nat) : Int) = (k : Int) + 2 * (pl : Int) + (frsSum n : Int) := by omega
  rw [hc] at h1 h2
  rw [hc3] at h2 ⊢
  have hn0 : (0 : Int) ≤ (frsSum n : Int) := by omega
  generalize (frsSum n : Int) = s at *
  have H1 := Lib.hid h1
  have H2 := Lib.hid h2
  clear h1 h2 hp hf hc hc3
  unfold rcvV
  go_enter Tryz.func125, Tryz.ntmps125
  go_wp2_with fail
  have n1 := box_new w [.int .i64 rd, .slice pa pl pc, .int .i64 ed, .int .i64 sz, .int .i64 cp, .int .i64 en, .slice fa fl fc] 26 (by simp)
  have hb0 : Below w.heap.size w (w.alloc (.cells #[.int .i64 rd, .slice pa pl pc, .int .i64 ed, .int .i64 sz, .int .i64 cp, .int .i64 en, .slice fa fl fc] 26)) := (Below.refl _ _).alloc (Nat.le_refl _) _
  generalize w.alloc (.cells #[.int .i64 rd, .slice pa pl pc, .int .i64 ed, .int .i64 sz, .int .i64 cp, .int .i64 en, .slice fa fl fc] 26) = W at *
  (with_reducible refine (H1.out _ hb0).mono ?_); rintro e w1 ⟨rfl, hb1⟩
  obtain ⟨-, -, -, -, -, -, c6⟩ := (n1.below hb1).seven
  have HB1 := Lib.hid (hb0.trans (hb1.mono hb0.size))
  clear n1 hb0 hb1 H1
  have hnn : ¬ ((k : Int) + 2 * (pl : Int) < 0) := by omega
  go_wp2_with fail
  (with_reducible refine (H2.out _ HB1.out).mono ?_); rintro e w2 ⟨rfl, hb2⟩
  have HB2 := Lib.hid (HB1.out.trans (hb2.mono HB1.out.size))
  clear hb2 H2 HB1
  have hnn : ¬ ((k : Int) + 2 * (pl : Int) + s < 0) := by omega
  go_wp2_with fail
  go_ret
  exact ⟨rfl, HB2.out⟩

/-- What a call of a Rcv hands back, as a value: the Rcv, Ack, Text, Done, Code. -/
def rcvOutV (rd : Int) (pa : Option Addr) (pl pc : Nat) (ed sz cp en : Int) (fa : Option Addr) (fl fc : Nat) (kp ks kd ke : Int) (t : List UInt8) (dn : Bool) (c : Int) : Value :=
  .agg #[.int .i64 rd, .slice pa pl pc, .int .i64 ed, .int .i64 sz, .int .i64 cp, .int .i64 en, .slice fa fl fc, .int .i64 kp, .int .i64 ks, .int .i64 kd, .int .i64 ke, gs t, .bool dn, .int .i64 c]
theorem eqAckR_calls (p s d e : Int) (w : World) : Calls Tryz.prog 120 #[ackV p s d e, ackV p s d e] w fun x w' => x = .returned (.bool true) ∧ Below w.heap.size w w' := by
  go_enter Tryz.func120, Tryz.ntmps120
  go_wp2
  go_ret
  exact ⟨rfl, by go_grown⟩
theorem Box.fourteen {w : World} {g : Nat} {v0 v1 v2 v3 v4 v5 v6 v7 v8 v9 va vb vc vd : Value} (k : Box w g [v0, v1, v2, v3, v4, v5, v6, v7, v8, v9, va, vb, vc, vd]) :
    (w.cell? ⟨g, 0, none⟩ = some v0 ∧ w.cell? ⟨g, 1, none⟩ = some v1 ∧ w.cell? ⟨g, 2, none⟩ = some v2 ∧ w.cell? ⟨g, 3, none⟩ = some v3 ∧ w.cell? ⟨g, 4, none⟩ = some v4 ∧ w.cell? ⟨g, 5, none⟩ = some v5 ∧ w.cell? ⟨g, 6, none⟩ = some v6) ∧
    w.cell? ⟨g, 7, none⟩ = some v7 ∧ w.cell? ⟨g, 8, none⟩ = some v8 ∧ w.cell? ⟨g, 9, none⟩ = some v9 ∧ w.cell? ⟨g, 10, none⟩ = some va ∧ w.cell? ⟨g, 11, none⟩ = some vb ∧ w.cell? ⟨g, 12, none⟩ = some vc ∧ w.cell? ⟨g, 13, none⟩ = some vd :=
  ⟨⟨k.cell 0 _ rfl, k.cell 1 _ rfl, k.cell 2 _ rfl, k.cell 3 _ rfl, k.cell 4 _ rfl, k.cell 5 _ rfl, k.cell 6 _ rfl⟩, k.cell 7 _ rfl, k.cell 8 _ rfl, k.cell 9 _ rfl, k.cell 10 _ rfl, k.cell 11 _ rfl, k.cell 12 _ rfl, k.cell 13 _ rfl⟩

set_option maxHeartbeats 2000000 in
set_option maxRecDepth 100000 in
theorem eqRcvOut_same {S S' : Nat → Prop} {rd ed sz cp en kp ks kd ke c : Int} {pa fa pa' fa' : Option Addr} {pl pc fl fc pl' pc' fl' fc' : Nat} {t : List UInt8} {dn : Bool} {ps : List Pc} {n : Frs} {w : World} (hp : InPcs w pa pl ps) (hf : InFrs S w fa fl n) (hp' : InPcs w pa' pl' ps) (hf' : InFrs S' w fa' fl' n) :
    Calls Tryz.prog 53 #[rcvOutV rd pa pl pc ed sz cp en fa fl fc kp ks kd ke t dn c, rcvOutV rd pa' pl' pc' ed sz cp en fa' fl' fc' kp ks kd ke t dn c] w fun e w' => e = .returned (.bool true) ∧ Below w.heap.size w w' := by
  have h1 := fun (W : World) (hb : Below w.heap.size w W) => eqRcv_same (rd := rd) (ed := ed) (sz := sz) (cp := cp) (en := en) (pc := pc) (pc' := pc') (fc := fc) (fc' := fc') (hp.below hb) (hf.below hb) (hp'.below hb) (hf'.below hb)
  have H1 := Lib.hid h1
  have H2 := Lib.hid (fun W => eqAckR_calls kp ks kd ke W)
  clear h1 hp hf hp' hf'
  unfold rcvV at H1
  unfold rcvOutV
  go_enter Tryz.func53, Tryz.ntmps53
  go_wp2_with fail
  have n3 := box_two w [.int .i64 rd, .slice pa pl pc, .int .i64 ed, .int .i64 sz, .int .i64 cp, .int .i64 en, .slice fa fl fc, .int .i64 kp, .int .i64 ks, .int .i64 kd, .int .i64 ke, gs t, .bool dn, .int .i64 c] [.int .i64 rd, .slice pa' pl' pc', .int .i64 ed, .int .i64 sz, .int .i64 cp, .int .i64 en, .slice fa' fl' fc', .int .i64 kp, .int .i64 ks, .int .i64 kd, .int .i64 ke, gs t, .bool dn, .int .i64 c] 34 34 (by simp) (by simp)
  dsimp only at n3
  generalize (w.alloc (.cells #[.int .i64 rd, .slice pa pl pc, .int .i64 ed, .int .i64 sz, .int .i64 cp, .int .i64 en, .slice fa fl fc, .int .i64 kp, .int .i64 ks, .int .i64 kd, .int .i64 ke, gs t, .bool dn, .int .i64 c] 34)).alloc (.cells #[.int .i64 rd, .slice pa' pl' pc', .int .i64 ed, .int .i64 sz, .int .i64 cp, .int .i64 en, .slice fa' fl' fc', .int .i64 kp, .int .i64 ks, .int .i64 kd, .int .i64 ke, gs t, .bool dn, .int .i64 c] 34) = W at *
  obtain ⟨n1, n2, hs, hb0⟩ := n3
  (with_reducible refine (H1.out _ hb0).mono ?_); rintro e w1 ⟨rfl, hb1⟩
  replace n1 := n1.below hb1
  replace n2 := n2.below hb1
  obtain ⟨-, c7, c8, c9, ca, cb, cc, cd⟩ := n1.fourteen
  obtain ⟨-, d7, d8, d9, da, db, dc, dd⟩ := n2.fourteen
  have HB1 := Lib.hid (hb0.trans (hb1.mono hb0.size))
  clear hb0 hb1 H1
  go_wp2_with fail
  (with_reducible refine (H2.out _).mono ?_); rintro e w2 ⟨rfl, hb2⟩
  clear c7 c8 c9 ca cb cc cd d7 d8 d9 da db dc dd
  obtain ⟨-, -, -, -, -, cb, cc, cd⟩ := (n1.below hb2).fourteen
  obtain ⟨-, -, -, -, -, db, dc, dd⟩ := (n2.below hb2).fourteen
  have HB2 := Lib.hid (HB1.out.trans (hb2.mono HB1.out.size))
  clear hb2 HB1 H2 n1 n2
  go_wp2_with fail
  go_ret
  exact ⟨rfl, HB2.out⟩

set_option maxHeartbeats 2000000 in
set_option maxRecDepth 100000 in
theorem markRcvOut_calls {S T : Nat → Prop} {rd ed sz cp en kp ks kd ke c : Int} {pa fa : Option Addr} {pl pc fl fc k : Nat} {t : List UInt8} {dn : Bool} {ps : List Pc} {n : Frs} {A : Nat → Option Addr} {C : Nat → Nat} {w : World} (hp : PcsOwn S w pa pl ps) (hf : FrsOwn T w fa fl n A C)
    (hd : ∀ b, S b → ¬ T b) (hS : ∀ b, S b → b < w.heap.size) (hk : k + 2 * pl + frsSum n ≤ 90000000) :
    Calls Tryz.prog 56 #[rcvOutV rd pa pl pc ed sz cp en fa fl fc kp ks kd ke t dn c, .int .i64 (k : Int)] w fun e w' => e = .returned (.int .i64 ((k + 2 * pl + frsSum n : Nat) : Int)) ∧ PcsOwn S w' pa pl (marks k pl) ∧ FrsOwn T w' fa fl (fmarks (k + 2 * pl) n) A C ∧ Kept (fun b => S b ∨ T b) w w' := by
  have h1 := fun (W : World) (hb : Below w.heap.size w W) => markRcv_calls (rd := rd) (ed := ed) (sz := sz) (cp := cp) (en := en) (pc := pc) (fc := fc) (hp.below hb) (hf.below hb) hd (fun b h => Nat.lt_of_lt_of_le (hS b h) hb.size) hk
  have H1 := Lib.hid h1
  clear h1 hp hf hd hS
  unfold rcvV at H1
  unfold rcvOutV
  generalize k + 2 * pl + frsSum n = q at *
  go_enter Tryz.func56, Tryz.ntmps56
  go_wp2_with fail
  have hb0 : Below w.heap.size w (w.alloc (.cells #[.int .i64 rd, .slice pa pl pc, .int .i64 ed, .int .i64 sz, .int .i64 cp, .int .i64 en, .slice fa fl fc, .int .i64 kp, .int .i64 ks, .int .i64 kd, .int .i64 ke, gs t, .bool dn, .int .i64 c] 34)) := (Below.refl _ _).alloc (Nat.le_refl _) _
  generalize w.alloc (.cells #[.int .i64 rd, .slice pa pl pc, .int .i64 ed, .int .i64 sz, .int .i64 cp, .int .i64 en, .slice fa fl fc, .int .i64 kp, .int .i64 ks, .int .i64 kd, .int .i64 ke, gs t, .bool dn, .int .i64 c] 34) = W at *
  (with_reducible refine (H1.out _ hb0).mono ?_); rintro e w1 ⟨rfl, p1, f1, k1⟩
  have HP := Lib.hid p1
  have HF := Lib.hid f1
  have HK := Lib.hid ((kept_below (S := fun b => S b ∨ T b) hb0).trans k1)
  clear p1 f1 k1 hb0 H1
  go_wp2_with fail
  go_ret
  exact ⟨rfl, HP.out, HF.out, HK.out⟩

set_option maxHeartbeats 2000000 in
set_option maxRecDepth 100000 in
theorem heldRcvOut_calls {T : Nat → Prop} {rd ed sz cp en kp ks kd ke c : Int} {pa fa : Option Addr} {pl pc fl fc k : Nat} {t : List UInt8} {dn : Bool} {n : Frs} {w : World} (hp : InPcs w pa pl (marks k pl)) (hf : InFrs T w fa fl (fmarks (k + 2 * pl) n)) (hk : k + 2 * pl + frsSum n ≤ 90000000) :
    Calls Tryz.prog 57 #[rcvOutV rd pa pl pc ed sz cp en fa fl fc kp ks kd ke t dn c, .int .i64 (k : Int)] w fun e w' => e = .returned (.int .i64 ((k + 2 * pl + frsSum n : Nat) : Int)) ∧ Below w.heap.size w w' := by
  have h1 := fun (W : World) (hb : Below w.heap.size w W) => heldRcv_calls (rd := rd) (ed := ed) (sz := sz) (cp := cp) (en := en) (pc := pc) (fc := fc) (k := k) (n := n) (hp.below hb) (hf.below hb) hk
  have H1 := Lib.hid h1
  clear h1 hp hf
  unfold rcvV at H1
  unfold rcvOutV
  generalize k + 2 * pl + frsSum n = q at *
  have hnn : ¬ ((q : Int) < 0) := by omega
  go_enter Tryz.func57, Tryz.ntmps57
  go_wp2_with fail
  have hb0 : Below w.heap.size w (w.alloc (.cells #[.int .i64 rd, .slice pa pl pc, .int .i64 ed, .int .i64 sz, .int .i64 cp, .int .i64 en, .slice fa fl fc, .int .i64 kp, .int .i64 ks, .int .i64 kd, .int .i64 ke, gs t, .bool dn, .int .i64 c] 34)) := (Below.refl _ _).alloc (Nat.le_refl _) _
  generalize w.alloc (.cells #[.int .i64 rd, .slice pa pl pc, .int .i64 ed, .int .i64 sz, .int .i64 cp, .int .i64 en, .slice fa fl fc, .int .i64 kp, .int .i64 ks, .int .i64 kd, .int .i64 ke, gs t, .bool dn, .int .i64 c] 34) = W at *
  (with_reducible refine (H1.out _ hb0).mono ?_); rintro e w1 ⟨rfl, hb1⟩
  have HB := Lib.hid (hb0.trans (hb1.mono hb0.size))
  clear hb1 hb0 H1
  go_wp2_with fail
  go_ret
  exact ⟨rfl, HB.out⟩

/-- Fourteen cells, behind a call that makes memory. -/
theorem keep14 {a w w' : World} {p0 p1 p2 p3 p4 p5 p6 p7 p8 p9 p10 p11 p12 p13 : Addr} {x0 x1 x2 x3 x4 x5 x6 x7 x8 x9 x10 x11 x12 x13 : Value} (hb : Below w.heap.size w w') (h : Below a.heap.size a w ∧ w.cell? p0 = some x0 ∧ w.cell? p1 = some x1 ∧ w.cell? p2 = some x2 ∧ w.cell? p3 = some x3 ∧ w.cell? p4 = some x4 ∧ w.cell? p5 = some x5 ∧ w.cell? p6 = some x6 ∧ w.cell? p7 = some x7 ∧ w.cell? p8 = some x8 ∧ w.cell? p9 = some x9 ∧ w.cell? p10 = some x10 ∧ w.cell? p11 = some x11 ∧ w.cell? p12 = some x12 ∧ w.cell? p13 = some x13) :
    Below a.heap.size a w' ∧ w'.cell? p0 = some x0 ∧ w'.cell? p1 = some x1 ∧ w'.cell? p2 = some x2 ∧ w'.cell? p3 = some x3 ∧ w'.cell? p4 = some x4 ∧ w'.cell? p5 = some x5 ∧ w'.cell? p6 = some x6 ∧ w'.cell? p7 = some x7 ∧ w'.cell? p8 = some x8 ∧ w'.cell? p9 = some x9 ∧ w'.cell? p10 = some x10 ∧ w'.cell? p11 = some x11 ∧ w'.cell? p12 = some x12 ∧ w'.cell? p13 = some x13 :=
  have c {p : Addr} {x : Value} (h : w.cell? p = some x) : w'.cell? p = some x := (hb.cell (World.block_lt_of_cell? w _ h)).trans h
  ⟨h.1.trans (hb.mono h.1.size), c (h.2).1, c (h.2.2).1, c (h.2.2.2).1, c (h.2.2.2.2).1, c (h.2.2.2.2.2).1, c (h.2.2.2.2.2.2).1, c (h.2.2.2.2.2.2.2).1, c (h.2.2.2.2.2.2.2.2).1, c (h.2.2.2.2.2.2.2.2.2).1, c (h.2.2.2.2.2.2.2.2.2.2).1, c (h.2.2.2.2.2.2.2.2.2.2.2).1, c (h.2.2.2.2.2.2.2.2.2.2.2.2).1, c (h.2.2.2.2.2.2.2.2.2.2.2.2.2).1, c (h.2.2.2.2.2.2.2.2.2.2.2.2.2.2)⟩
end Go.Proofs.YtdcahilfmhkmiaaGreatDoor
