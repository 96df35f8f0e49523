/- The model's l06Ack, RcvAck, RcvHeld. -/
import Derived.Test.YtdcahilfmhkmiaaGreatDoorRcvR
import Derived.Test.YtdcahilfmhkmiaaGreatDoorPackB
import Derived.Test.YtdcahilfmhkmiaaGreatDoorSegR
namespace Go.Proofs.YtdcahilfmhkmiaaGreatDoor
open Go.RowKit

/-- A block of n cells that may be written. -/
def OutBox (V : World) (g n : Nat) : Prop := ∃ vs : List Value, vs.length = n ∧ Box V g vs
theorem OutBox.below {V V' : World} {g n : Nat} (h : OutBox V g n) (hb : Below V.heap.size V V') : OutBox V' g n := by
  obtain ⟨vs, hl, h⟩ := h
  exact ⟨vs, hl, h.below hb⟩
theorem OutBox.set {V : World} {g n : Nat} (h : OutBox V g n) (i : Nat) (v : Value) : OutBox (V.setCell ⟨g, i, none⟩ v) g n := by
  obtain ⟨vs, hl, h⟩ := h
  exact ⟨vs.set i v, by simpa using hl, h.set i v⟩
theorem OutBox.drew {V : World} {g n : Nat} (h : OutBox V g n) : OutBox V.drew g n := by
  obtain ⟨vs, hl, h⟩ := h
  exact ⟨vs, hl, h.cell, h.free, h.pos⟩
theorem OutBox.four {V : World} {g : Nat} (h : OutBox V g 4) : ∃ a b c d, Box V g [a, b, c, d] := by
  obtain ⟨vs, hl, h⟩ := h
  match vs, hl with
  | [a, b, c, d], _ => exact ⟨a, b, c, d, h⟩
theorem Box.four {w : World} {g : Nat} {a b c d : Value} (k : Box w g [a, b, c, d]) :
    w.cell? ⟨g, 0, none⟩ = some a ∧ w.cell? ⟨g, 1, none⟩ = some b ∧ w.cell? ⟨g, 2, none⟩ = some c ∧ w.cell? ⟨g, 3, none⟩ = some d ∧
    w.frozen? ⟨g, 0, none⟩ = false ∧ w.frozen? ⟨g, 1, none⟩ = false ∧ w.frozen? ⟨g, 2, none⟩ = false ∧ w.frozen? ⟨g, 3, none⟩ = false :=
  ⟨k.cell 0 _ rfl, k.cell 1 _ rfl, k.cell 2 _ rfl, k.cell 3 _ rfl, k.free 0 (by simp), k.free 1 (by simp), k.free 2 (by simp), k.free 3 (by simp)⟩
theorem keepA {w V V' : World} {g n : Nat} {p0 p1 p2 p3 p4 : Addr} {x0 x1 x2 x3 x4 : Value} (hb : Below V.heap.size V V')
    (h : Below w.heap.size w V ∧ OutBox V g n ∧ V.cell? p0 = some x0 ∧ V.cell? p1 = some x1 ∧ V.cell? p2 = some x2 ∧ V.cell? p3 = some x3 ∧ V.cell? p4 = some x4) :
    Below w.heap.size w V' ∧ OutBox V' g n ∧ V'.cell? p0 = some x0 ∧ V'.cell? p1 = some x1 ∧ V'.cell? p2 = some x2 ∧ V'.cell? p3 = some x3 ∧ V'.cell? p4 = some x4 :=
  have c {p : Addr} {x : Value} (h : V.cell? p = some x) : V'.cell? p = some x := (hb.cell (World.block_lt_of_cell? V _ h)).trans h
  ⟨h.1.trans (hb.mono h.1.size), h.2.1.below hb, c h.2.2.1, c h.2.2.2.1, c h.2.2.2.2.1, c h.2.2.2.2.2.1, c h.2.2.2.2.2.2⟩
theorem keepA_set {w V : World} {g n : Nat} {p0 p1 p2 p3 p4 : Addr} {x0 x1 x2 x3 x4 : Value} (i : Nat) (v : Value) (hg : w.heap.size ≤ g) (h0 : g ≠ p0.block) (h1 : g ≠ p1.block) (h2 : g ≠ p2.block) (h3 : g ≠ p3.block) (h4 : g ≠ p4.block)
    (h : Below w.heap.size w V ∧ OutBox V g n ∧ V.cell? p0 = some x0 ∧ V.cell? p1 = some x1 ∧ V.cell? p2 = some x2 ∧ V.cell? p3 = some x3 ∧ V.cell? p4 = some x4) :
    Below w.heap.size w (V.setCell ⟨g, i, none⟩ v) ∧ OutBox (V.setCell ⟨g, i, none⟩ v) g n ∧ (V.setCell ⟨g, i, none⟩ v).cell? p0 = some x0 ∧ (V.setCell ⟨g, i, none⟩ v).cell? p1 = some x1 ∧ (V.setCell ⟨g, i, none⟩ v).cell? p2 = some x2 ∧ (V.setCell ⟨g, i, none⟩ v).cell? p3 = some x3 ∧ (V.setCell ⟨g, i, none⟩ v).cell? p4 = some x4 :=
  have c {p : Addr} {x : Value} (hp : g ≠ p.block) (h : V.cell? p = some x) : (V.setCell ⟨g, i, none⟩ v).cell? p = some x := (World.cell?_setCell_other _ _ _ _ (fun e => hp (by rw [← e]))).trans h
  ⟨h.1.setCell hg v, h.2.1.set i v, c h0 h.2.2.1, c h1 h.2.2.2.1, c h2 h.2.2.2.2.1, c h3 h.2.2.2.2.2.1, c h4 h.2.2.2.2.2.2⟩
theorem fromN_len : ∀ (l : List Pc) (n : Int), (∀ p ∈ l, p.2.length ≤ 2000000) → (fromN l n).length ≤ 2000000
  | [], n, _ => by simp [fromN]
  | p :: l, n, h => by
    rw [fromN_cons]
    split
    · have := h p (by simp); simp; omega
    · exact fromN_len l n (fun q hq => h q (List.mem_cons_of_mem _ hq))
theorem inPcs_small {w : World} {a : Option Addr} {len : Nat} {l : List Pc} (h : InPcs w a len l) : ∀ p ∈ l, p.2.length ≤ 2000000 := fun p hp => by
  obtain ⟨k, hk, he⟩ := mem_pcAt hp
  have := (h.fit k (by have := h.long; omega)).2.2
  rw [he] at this
  exact this

set_option maxHeartbeats 4000000 in
set_option maxRecDepth 100000 in
theorem ackS_calls {S : Nat → Prop} {rd ed sz cp en : Int} {pa fa : Option Addr} {pl pc fl fc : Nat} {ps : List Pc} {n : Frs} {w : World} (hp : InPcs w pa pl ps) (hf : InFrs S w fa fl n) (hr : right ps) (hrd : 0 ≤ rd ∧ rd ≤ 1000000) (k : Nat) (hk : k < fl) :
    Calls Tryz.prog 81 #[rcvV rd pa pl pc ed sz cp en fa fl fc, .int .i64 (k : Int)] w fun e w' => e = .returned (ackV k (frAt n k).1 (rd + ((fromN ps rd).length : Int)) ed) ∧ Below w.heap.size w w' := by
  have hl := fromN_len ps rd (inPcs_small hp)
  have hm := hf.most
  obtain ⟨b, o, rfl⟩ := hf.there (by omega)
  obtain ⟨-, x, cx, q0, -⟩ := hf.cell b o rfl k hk
  have hbw : b < w.heap.size := World.block_lt_of_cell? w _ q0
  have HF := Lib.hid (fun (W : World) (hb : Below w.heap.size w W) => fromS_calls (cap := pc) (hp.below hb) hr rd (by omega) (by omega))
  generalize (frAt n k).1 = want at *
  generalize fromN ps rd = t at *
  have h1 : (0 : Int) ≤ (k : Int) := by omega
  have h2 : (k : Int) < (fl : Int) := by omega
  clear hp hf hr
  unfold rcvV
  go_enter Tryz.func81, Tryz.ntmps81
  go_wp2_with fail
  have n3 := box_two w [.int .i64 rd, .slice pa pl pc, .int .i64 ed, .int .i64 sz, .int .i64 cp, .int .i64 en, .slice (some ⟨b, o, none⟩) fl fc] [.int .i64 0, .int .i64 0, .int .i64 0, .int .i64 0] 26 32 (by simp) (by simp)
  dsimp only at n3
  generalize (w.alloc (.cells #[.int .i64 rd, .slice pa pl pc, .int .i64 ed, .int .i64 sz, .int .i64 cp, .int .i64 en, .slice (some ⟨b, o, none⟩) fl fc] 26)).alloc (.cells #[.int .i64 0, .int .i64 0, .int .i64 0, .int .i64 0] 32) = W at *
  obtain ⟨n1, n2, hs, hb0⟩ := n3
  obtain ⟨c0, c1, c2, -, -, -, c6⟩ := n1.seven
  have q1 := (hb0.cell hbw).trans q0
  have HO : OutBox W (w.heap.size + 1) 4 := ⟨_, rfl, n2⟩
  clear q0 n1 n2
  have hq : w.heap.size + 1 ≠ w.heap.size := by omega
  have hwr : IntKind.i64.wrap (rd + (t.length : Int)) = rd + (t.length : Int) := IntWalk.i64_in _ (by omega)
  have hqb : w.heap.size + 1 ≠ b := by omega
  refine wp_region_held_drew (S := (fun V => Below w.heap.size w V ∧ OutBox V (w.heap.size + 1) 4 ∧ V.cell? ⟨w.heap.size, 0, none⟩ = some (.int .i64 rd) ∧ V.cell? ⟨w.heap.size, 1, none⟩ = some (.slice pa pl pc) ∧ V.cell? ⟨w.heap.size, 2, none⟩ = some (.int .i64 ed) ∧ V.cell? ⟨w.heap.size, 6, none⟩ = some (.slice (some ⟨b, o, none⟩) fl fc) ∧ V.cell? ⟨b, o + k * 2, none⟩ = some (.int .i64 want))) (by kernel_rfl) (⟨hb0.drew, HO.drew, c0, c1, c2, c6, q1⟩) (fun hHeld => ?_)
  refine wpAnyH_take (i := 0) (oi := _) (v := ?v1x0) rfl (by kernel_rfl) (by kernel_rfl) (by kernel_rfl) (fun _ _ _ h => h) (Or.inl ⟨by kernel_rfl, ?hy1x0⟩) (by with_reducible assumption) ?rest1x0
  case hy1x0 => (intro w hSw; (try dsimp only at hSw); go_simp; (try with_reducible rfl))
  (try simp only [Act.put, List.getElem_toArray, List.getElem_cons_zero, List.setIfInBounds_toArray, List.set_cons_succ, List.set_cons_zero])
  refine wpAnyH_take (i := 1) (oi := _) (v := ?v1x1) rfl (by kernel_rfl) (by kernel_rfl) (by kernel_rfl) (fun _ _ _ h => h) (Or.inl ⟨by kernel_rfl, ?hy1x1⟩) (by with_reducible assumption) ?rest1x1
  case hy1x1 => (intro w hSw; (try dsimp only at hSw); go_simp; (try with_reducible rfl))
  (try simp only [Act.put, List.getElem_toArray, List.getElem_cons_succ, List.getElem_cons_zero, List.setIfInBounds_toArray, List.set_cons_succ, List.set_cons_zero])
  refine wpAnyH_take (i := 2) (oi := _) (v := ?v1x2) rfl (by kernel_rfl) (by kernel_rfl) (by kernel_rfl) (fun _ _ _ h => h) (Or.inl ⟨by kernel_rfl, ?hy1x2⟩) (by with_reducible assumption) ?rest1x2
  case hy1x2 => (intro w hSw; (try dsimp only at hSw); go_simp; (try with_reducible rfl))
  (try simp only [Act.put, List.getElem_toArray, List.getElem_cons_succ, List.getElem_cons_zero, List.setIfInBounds_toArray, List.set_cons_succ, List.set_cons_zero])
  refine wpAnyH_take (i := 3) (oi := _) (v := ?v1x3) rfl (by kernel_rfl) (by kernel_rfl) (by kernel_rfl) (fun _ _ _ h => h) (Or.inl ⟨by kernel_rfl, ?hy1x3⟩) (by with_reducible assumption) ?rest1x3
  case hy1x3 => (intro w hSw; (try dsimp only at hSw); go_simp; (try with_reducible rfl))
  (try simp only [Act.put, List.getElem_toArray, List.getElem_cons_succ, List.getElem_cons_zero, List.setIfInBounds_toArray, List.set_cons_succ, List.set_cons_zero])
  refine wpAnyH_take (i := 4) (oi := _) (v := ?v1x4) rfl (by kernel_rfl) (by kernel_rfl) (by kernel_rfl) (fun _ _ _ h => h) (Or.inl ⟨by kernel_rfl, ?hy1x4⟩) (by with_reducible assumption) ?rest1x4
  case hy1x4 => (intro w hSw; (try dsimp only at hSw); go_simp; (try with_reducible rfl))
  (try simp only [Act.put, List.getElem_toArray, List.getElem_cons_succ, List.getElem_cons_zero, List.setIfInBounds_toArray, List.set_cons_succ, List.set_cons_zero])
  refine wpAnyH_take (i := 5) (oi := _) (v := ?v1x5) rfl (by kernel_rfl) (by kernel_rfl) (by kernel_rfl) (fun _ _ _ h => h) (Or.inl ⟨by kernel_rfl, ?hy1x5⟩) (by with_reducible assumption) ?rest1x5
  case hy1x5 => (intro w hSw; (try dsimp only at hSw); go_simp; (try with_reducible rfl))
  (try simp only [Act.put, List.getElem_toArray, List.getElem_cons_succ, List.getElem_cons_zero, List.setIfInBounds_toArray, List.set_cons_succ, List.set_cons_zero])
  refine wpAnyH_take (i := 6) (oi := _) (v := ?v1x6) rfl (by kernel_rfl) (by kernel_rfl) (by kernel_rfl) (fun _ _ _ h => h) (Or.inl ⟨by kernel_rfl, ?hy1x6⟩) (by with_reducible assumption) ?rest1x6
  case hy1x6 => (intro w hSw; (try dsimp only at hSw); go_simp; (try with_reducible rfl))
  (try simp only [Act.put, List.getElem_toArray, List.getElem_cons_succ, List.getElem_cons_zero, List.setIfInBounds_toArray, List.set_cons_succ, List.set_cons_zero])
  refine wpAnyH_take (i := 7) (oi := _) (v := ?v1x7) rfl (by kernel_rfl) (by kernel_rfl) (by kernel_rfl) (fun _ _ _ h => h) (Or.inl ⟨by kernel_rfl, ?hy1x7⟩) (by with_reducible assumption) ?rest1x7
  case hy1x7 => (intro w hSw; (try dsimp only at hSw); go_simp; (try with_reducible rfl))
  (try simp only [Act.put, List.getElem_toArray, List.getElem_cons_succ, List.getElem_cons_zero, List.setIfInBounds_toArray, List.set_cons_succ, List.set_cons_zero])
  refine wpAnyH_take (i := 8) (oi := _) (v := ?v1x8) rfl (by kernel_rfl) (by kernel_rfl) (by kernel_rfl) (fun _ _ _ h => h) (Or.inl ⟨by kernel_rfl, ?hy1x8⟩) (by with_reducible assumption) ?rest1x8
  case hy1x8 => (intro w hSw; (try dsimp only at hSw); go_simp; (try with_reducible rfl))
  (try simp only [Act.put, List.getElem_toArray, List.getElem_cons_succ, List.getElem_cons_zero, List.setIfInBounds_toArray, List.set_cons_succ, List.set_cons_zero])
  refine wpAnyH_take (i := 9) (oi := _) (v := ?v1x9) rfl (by kernel_rfl) (by kernel_rfl) (by kernel_rfl) (fun _ _ _ h => h) (Or.inl ⟨by kernel_rfl, ?hy1x9⟩) (by with_reducible assumption) ?rest1x9
  case hy1x9 => (intro w hSw; (try dsimp only at hSw); go_simp; (try with_reducible rfl))
  (try simp only [Act.put, List.getElem_toArray, List.getElem_cons_succ, List.getElem_cons_zero, List.setIfInBounds_toArray, List.set_cons_succ, List.set_cons_zero])
  refine wpAnyH_take (i := 10) (oi := _) (v := ?v1x10) rfl (by kernel_rfl) (by kernel_rfl) (by kernel_rfl) (fun _ _ _ h => h) (Or.inl ⟨by kernel_rfl, ?hy1x10⟩) (by with_reducible assumption) ?rest1x10
  case hy1x10 => (intro w hSw; (try dsimp only at hSw); go_simp; (try with_reducible rfl))
  (try simp only [Act.put, List.getElem_toArray, List.getElem_cons_succ, List.getElem_cons_zero, List.setIfInBounds_toArray, List.set_cons_succ, List.set_cons_zero])
  refine wpAnyH_take (i := 11) (oi := _) (v := ?v1x11) rfl (by kernel_rfl) (by kernel_rfl) (by kernel_rfl) (fun _ _ _ h => h) (Or.inl ⟨by kernel_rfl, ?hy1x11⟩) (by with_reducible assumption) ?rest1x11
  case hy1x11 => (intro w hSw; (try dsimp only at hSw); go_simp; (try with_reducible rfl))
  (try simp only [Act.put, List.getElem_toArray, List.getElem_cons_succ, List.getElem_cons_zero, List.setIfInBounds_toArray, List.set_cons_succ, List.set_cons_zero])
  refine wpAnyH_take (i := 12) (oi := _) (v := ?v1x12) rfl (by kernel_rfl) (by kernel_rfl) (by kernel_rfl) (fun _ _ _ h => h) (Or.inl ⟨by kernel_rfl, ?hy1x12⟩) (by with_reducible assumption) ?rest1x12
  case hy1x12 => (intro w hSw; (try dsimp only at hSw); go_simp; (try with_reducible rfl))
  (try simp only [Act.put, List.getElem_toArray, List.getElem_cons_succ, List.getElem_cons_zero, List.setIfInBounds_toArray, List.set_cons_succ, List.set_cons_zero])
  refine wpAnyH_take (i := 16) (oi := _) (v := ?v1x16) rfl (by kernel_rfl) (by kernel_rfl) (by kernel_rfl) (fun _ _ _ h => h) (Or.inl ⟨by kernel_rfl, ?hy1x16⟩) (by with_reducible assumption) ?rest1x16
  case hy1x16 => (intro w hSw; (try dsimp only at hSw); go_simp; (try with_reducible rfl))
  (try simp only [Act.put, List.getElem_toArray, List.getElem_cons_succ, List.getElem_cons_zero, List.setIfInBounds_toArray, List.set_cons_succ, List.set_cons_zero])
  refine wpAnyH_take (i := 17) (oi := _) (v := ?v1x17) rfl (by kernel_rfl) (by kernel_rfl) (by kernel_rfl) (fun _ _ _ h => h) (Or.inl ⟨by kernel_rfl, ?hy1x17⟩) (by with_reducible assumption) ?rest1x17
  case hy1x17 => (intro w hSw; (try dsimp only at hSw); go_simp; (try with_reducible rfl))
  (try simp only [Act.put, List.getElem_toArray, List.getElem_cons_succ, List.getElem_cons_zero, List.setIfInBounds_toArray, List.set_cons_succ, List.set_cons_zero])
  refine wpAnyH_ready (rs := [13]) (by kernel_rfl) (by simp) (AllReadyH.cons (o := _) rfl (fun K hK => ?c1x13) AllReadyH.nil)
  go_simp
  refine (HF.out _ hHeld.1).mono ?_
  rintro e wq ⟨rfl, hbq⟩
  go_simp
  refine hK.out _ _ (keepA hbq hHeld) (fun hHeld2 => ?_)
  clear hHeld
  have hHeld := hHeld2
  clear hK K hHeld2
  (try simp only [Act.put, List.getElem_toArray, List.getElem_cons_succ, List.getElem_cons_zero, List.setIfInBounds_toArray, List.set_cons_succ, List.set_cons_zero])
  refine wpAnyH_take (i := 14) (oi := _) (v := ?v1x14) rfl (by kernel_rfl) (by kernel_rfl) (by kernel_rfl) (fun _ _ _ h => h) (Or.inl ⟨by kernel_rfl, ?hy1x14⟩) (by with_reducible assumption) ?rest1x14
  case hy1x14 => (intro w hSw; (try dsimp only at hSw); go_simp; (try with_reducible rfl))
  (try simp only [Act.put, List.getElem_toArray, List.getElem_cons_succ, List.getElem_cons_zero, List.setIfInBounds_toArray, List.set_cons_succ, List.set_cons_zero])
  refine wpAnyH_take (i := 15) (oi := _) (v := ?v1x15) rfl (by kernel_rfl) (by kernel_rfl) (by kernel_rfl) (fun _ _ _ h => h) (Or.inl ⟨by kernel_rfl, ?hy1x15⟩) (by with_reducible assumption) ?rest1x15
  case hy1x15 => (intro w hSw; (try dsimp only at hSw); go_simp; (try with_reducible rfl))
  (try simp only [Act.put, List.getElem_toArray, List.getElem_cons_succ, List.getElem_cons_zero, List.setIfInBounds_toArray, List.set_cons_succ, List.set_cons_zero])
  refine wpAnyH_take (i := 18) (oi := _) (v := ?v1x18) rfl (by kernel_rfl) (by kernel_rfl) (by kernel_rfl) (fun _ _ _ h => h) (Or.inl ⟨by kernel_rfl, ?hy1x18⟩) (by with_reducible assumption) ?rest1x18
  case hy1x18 => (intro w hSw; (try dsimp only at hSw); go_simp; (try with_reducible rfl))
  (try simp only [Act.put, List.getElem_toArray, List.getElem_cons_succ, List.getElem_cons_zero, List.setIfInBounds_toArray, List.set_cons_succ, List.set_cons_zero])
  refine wpAnyH_ready (rs := [19]) (by kernel_rfl) (by simp) (AllReadyH.cons (o := _) rfl (fun K hK => ?c1x19) AllReadyH.nil)
  rw [if_pos (by kernel_rfl)]
  obtain ⟨y0, y1, y2, y3, hbx⟩ := hHeld.2.1.four
  obtain ⟨e0, e1, e2, e3, z0, z1, z2, z3⟩ := hbx.four
  have hst := keepA_set (g := w.heap.size + 1) 3 (.int .i64 ed) (Nat.le_succ _) hq hq hq hq hqb (keepA_set (g := w.heap.size + 1) 2 (.int .i64 (rd + (t.length : Int))) (Nat.le_succ _) hq hq hq hq hqb (keepA_set (g := w.heap.size + 1) 1 (.int .i64 want) (Nat.le_succ _) hq hq hq hq hqb (keepA_set (g := w.heap.size + 1) 0 (.int .i64 (k : Int)) (Nat.le_succ _) hq hq hq hq hqb hHeld)))
  have hbx2 := (((hbx.set 0 (.int .i64 (k : Int))).set 1 (.int .i64 want)).set 2 (.int .i64 (rd + (t.length : Int)))).set 3 (.int .i64 ed)
  have HST := Lib.hid hst
  have HBX := Lib.hid hbx2
  clear hst hbx hbx2 hHeld
  go_simp
  refine hK.out _ _ HST.out (fun _ => ?_)
  clear hK K
  (try simp only [Act.put, List.getElem_toArray, List.getElem_cons_succ, List.getElem_cons_zero, List.setIfInBounds_toArray, List.set_cons_succ, List.set_cons_zero])
  refine wpAnyH_done (by kernel_rfl) ?_ _
  have HBF := Lib.hid HST.out.1
  obtain ⟨f0, f1, f2, f3, -⟩ := HBX.out.four
  clear HST HBX e0 e1 e2 e3 z0 z1 z2 z3
  go_wp2_with fail
  refine bodyPost_ret (v := ackV k want (rd + (t.length : Int)) ed) (by simp [results, Tryz.results81, go_sem, *]) rfl ⟨rfl, HBF.out⟩

/-- The answer on a path. -/
def ackN (rd : Int) (ps : List Pc) (ed : Int) (n : Frs) (k : Nat) : Value := ackV k (frAt n k).1 (rd + ((fromN ps rd).length : Int)) ed
set_option maxHeartbeats 4000000 in
set_option maxRecDepth 100000 in
theorem rcvHeldS_calls {S : Nat → Prop} {rd ed sz cp en : Int} {pa fa : Option Addr} {pl pc fl fc : Nat} {ps : List Pc} {n : Frs} {w : World} (hp : InPcs w pa pl ps) (hf : InFrs S w fa fl n) :
    Calls Tryz.prog 21 #[rcvV rd pa pl pc ed sz cp en fa fl fc] w fun e w' => e = .returned (.int .i64 (if rcvOk rd ps ed sz cp en n then (bytesN ps : Int) else -1)) ∧ Below w.heap.size w w' := by
  have H1 := Lib.hid (fun (W : World) (hb : Below w.heap.size w W) => rcvRightS_calls (rd := rd) (ed := ed) (sz := sz) (cp := cp) (en := en) (pc := pc) (fc := fc) (hp.below hb) (hf.below hb))
  have H2 := Lib.hid (fun (W : World) (hb : Below w.heap.size w W) => bytesS_calls (cap := pc) (hp.below hb))
  clear hp hf
  unfold rcvV at *
  by_cases hok : rcvOk rd ps ed sz cp en n
  · rw [if_pos hok]
    rw [decide_eq_true hok] at H1
    clear hok
    go_enter Tryz.func21, Tryz.ntmps21
    go_wp2_with fail
    have n1 := box_new w [.int .i64 rd, .slice pa pl pc, .int .i64 ed, .int .i64 sz, .int .i64 cp, .int .i64 en, .slice fa fl fc] 26 (by simp)
    have hb0 : Below w.heap.size w (w.alloc (.cells #[.int .i64 rd, .slice pa pl pc, .int .i64 ed, .int .i64 sz, .int .i64 cp, .int .i64 en, .slice fa fl fc] 26)) := (Below.refl _ _).alloc (Nat.le_refl _) _
    generalize w.alloc (.cells #[.int .i64 rd, .slice pa pl pc, .int .i64 ed, .int .i64 sz, .int .i64 cp, .int .i64 en, .slice fa fl fc] 26) = W at *
    (with_reducible refine (H1.out _ hb0).mono ?_); rintro e w1 ⟨rfl, hb1⟩
    obtain ⟨-, c1, -⟩ := (n1.below hb1).seven
    have HB := Lib.hid (hb0.trans (hb1.mono hb0.size))
    clear hb0 hb1 H1 n1
    go_wp2_with fail
    (with_reducible refine (H2.out _ HB.out).mono ?_); rintro e w2 ⟨rfl, rfl⟩
    go_wp2_with fail
    go_ret
    exact ⟨rfl, HB.out⟩
  · rw [if_neg hok]
    rw [decide_eq_false hok] at H1
    clear hok
    go_enter Tryz.func21, Tryz.ntmps21
    go_wp2_with fail
    have hb0 : Below w.heap.size w (w.alloc (.cells #[.int .i64 rd, .slice pa pl pc, .int .i64 ed, .int .i64 sz, .int .i64 cp, .int .i64 en, .slice fa fl fc] 26)) := (Below.refl _ _).alloc (Nat.le_refl _) _
    generalize w.alloc (.cells #[.int .i64 rd, .slice pa pl pc, .int .i64 ed, .int .i64 sz, .int .i64 cp, .int .i64 en, .slice fa fl fc] 26) = W at *
    (with_reducible refine (H1.out _ hb0).mono ?_); rintro e w1 ⟨rfl, hb1⟩
    have HB := Lib.hid (hb0.trans (hb1.mono hb0.size))
    clear hb0 hb1 H1
    go_wp2_with fail
    go_ret
    exact ⟨rfl, HB.out⟩

set_option maxHeartbeats 4000000 in
set_option maxRecDepth 100000 in
theorem rcvAckS_calls {S : Nat → Prop} {rd ed sz cp en : Int} {pa fa : Option Addr} {pl pc fl fc : Nat} {ps : List Pc} {n : Frs} {w : World} (hp : InPcs w pa pl ps) (hf : InFrs S w fa fl n) (k : Int) :
    Calls Tryz.prog 19 #[rcvV rd pa pl pc ed sz cp en fa fl fc, .int .i64 k] w fun e w' => e = .returned (if rcvOk rd ps ed sz cp en n ∧ 0 ≤ k ∧ k < (n.length : Int) then ackN rd ps ed n k.toNat else ackV 0 0 0 0) ∧ Below w.heap.size w w' := by
  have hfl := hf.long
  have hfm := hf.most
  have H1 := Lib.hid (fun (W : World) (hb : Below w.heap.size w W) => rcvRightS_calls (rd := rd) (ed := ed) (sz := sz) (cp := cp) (en := en) (pc := pc) (fc := fc) (hp.below hb) (hf.below hb))
  have H3 := Lib.hid (fun W => isC_calls k 0 ((fl : Int) - 1) W)
  have hwr : IntKind.i64.wrap ((fl : Int) - 1) = (fl : Int) - 1 := IntWalk.i64_in _ (by omega)
  by_cases hok : rcvOk rd ps ed sz cp en n
  · rw [decide_eq_true hok] at H1
    by_cases hk : 0 ≤ k ∧ k ≤ (fl : Int) - 1
    · rw [if_pos ⟨hok, by omega⟩]
      obtain ⟨kn, rfl⟩ : ∃ kn : Nat, k = (kn : Int) := ⟨k.toNat, by omega⟩
      rw [Int.toNat_natCast]
      rw [decide_eq_true hk] at H3
      have H2 := Lib.hid (fun (W : World) (hb : Below w.heap.size w W) => ackS_calls (rd := rd) (ed := ed) (sz := sz) (cp := cp) (en := en) (pc := pc) (fc := fc) (hp.below hb) (hf.below hb) hok.2.2.2.2.1 hok.1 kn (by omega))
      unfold ackN
      generalize rd + ((fromN ps rd).length : Int) = q1 at *
      generalize (frAt n kn).1 = q2 at *
      clear hok hk hp hf hfl
      unfold rcvV at *
      go_enter Tryz.func19, Tryz.ntmps19
      go_wp2_with fail
      have n3 := box_two w [.int .i64 rd, .slice pa pl pc, .int .i64 ed, .int .i64 sz, .int .i64 cp, .int .i64 en, .slice fa fl fc] [.int .i64 0, .int .i64 0, .int .i64 0, .int .i64 0] 26 32 (by simp) (by simp)
      dsimp only at n3
      generalize (w.alloc (.cells #[.int .i64 rd, .slice pa pl pc, .int .i64 ed, .int .i64 sz, .int .i64 cp, .int .i64 en, .slice fa fl fc] 26)).alloc (.cells #[.int .i64 0, .int .i64 0, .int .i64 0, .int .i64 0] 32) = W at *
      obtain ⟨n1, n2, hs, hb0⟩ := n3
      (with_reducible refine (H1.out _ hb0).mono ?_); rintro e w1 ⟨rfl, hb1⟩
      replace n2 := n2.below hb1
      obtain ⟨c0, c1, c2, c3, c4, c5, c6⟩ := (n1.below hb1).seven
      have HB := Lib.hid (hb0.trans (hb1.mono hb0.size))
      clear hb0 hb1 H1 n1
      go_wp2_with fail
      (with_reducible refine (H3.out _).mono ?_); rintro e w2 ⟨rfl, rfl⟩
      go_wp2_with fail
      (with_reducible refine (H2.out _ HB.out).mono ?_); rintro e w3 ⟨rfl, hb3⟩
      obtain ⟨e0, e1, e2, e3, z0, z1, z2, z3⟩ := (n2.below hb3).four
      have HB3 := Lib.hid (HB.out.trans (hb3.mono HB.out.size))
      clear hb3 H2 H3 n2 HB c0 c1 c2 c3 c4 c5 c6
      go_wp2_with fail
      refine bodyPost_ret (v := ackV kn q2 q1 ed) (by simp [results, Tryz.results19, go_sem, *]) rfl ⟨rfl, ?_⟩
      exact (((HB3.out.setCell (Nat.le_succ _) _).setCell (Nat.le_succ _) _).setCell (Nat.le_succ _) _).setCell (Nat.le_succ _) _
    · rw [if_neg (fun h => hk (by omega))]
      rw [decide_eq_false hk] at H3
      clear hok hk hp hf hfl
      unfold rcvV at *
      go_enter Tryz.func19, Tryz.ntmps19
      go_wp2_with fail
      have n3 := box_two w [.int .i64 rd, .slice pa pl pc, .int .i64 ed, .int .i64 sz, .int .i64 cp, .int .i64 en, .slice fa fl fc] [.int .i64 0, .int .i64 0, .int .i64 0, .int .i64 0] 26 32 (by simp) (by simp)
      dsimp only at n3
      generalize (w.alloc (.cells #[.int .i64 rd, .slice pa pl pc, .int .i64 ed, .int .i64 sz, .int .i64 cp, .int .i64 en, .slice fa fl fc] 26)).alloc (.cells #[.int .i64 0, .int .i64 0, .int .i64 0, .int .i64 0] 32) = W at *
      obtain ⟨n1, n2, hs, hb0⟩ := n3
      (with_reducible refine (H1.out _ hb0).mono ?_); rintro e w1 ⟨rfl, hb1⟩
      obtain ⟨e0, e1, e2, e3, z0, z1, z2, z3⟩ := (n2.below hb1).four
      obtain ⟨c0, c1, c2, c3, c4, c5, c6⟩ := (n1.below hb1).seven
      have HB3 := Lib.hid (hb0.trans (hb1.mono hb0.size))
      clear hb0 hb1 H1 n1 n2
      go_wp2_with fail
      (with_reducible refine (H3.out _).mono ?_); rintro e w2 ⟨rfl, rfl⟩
      go_wp2_with fail
      refine bodyPost_ret (v := ackV 0 0 0 0) (by simp [results, Tryz.results19, go_sem, *]) rfl ⟨rfl, ?_⟩
      exact (((HB3.out.setCell (Nat.le_succ _) _).setCell (Nat.le_succ _) _).setCell (Nat.le_succ _) _).setCell (Nat.le_succ _) _
  · rw [decide_eq_false hok] at H1
    rw [if_neg (fun h => hok h.1)]
    clear hok hp hf hfl H3
    unfold rcvV at *
    go_enter Tryz.func19, Tryz.ntmps19
    go_wp2_with fail
    have n3 := box_two w [.int .i64 rd, .slice pa pl pc, .int .i64 ed, .int .i64 sz, .int .i64 cp, .int .i64 en, .slice fa fl fc] [.int .i64 0, .int .i64 0, .int .i64 0, .int .i64 0] 26 32 (by simp) (by simp)
    dsimp only at n3
    generalize (w.alloc (.cells #[.int .i64 rd, .slice pa pl pc, .int .i64 ed, .int .i64 sz, .int .i64 cp, .int .i64 en, .slice fa fl fc] 26)).alloc (.cells #[.int .i64 0, .int .i64 0, .int .i64 0, .int .i64 0] 32) = W at *
    obtain ⟨n1, n2, hs, hb0⟩ := n3
    (with_reducible refine (H1.out _ hb0).mono ?_); rintro e w1 ⟨rfl, hb1⟩
    obtain ⟨e0, e1, e2, e3, z0, z1, z2, z3⟩ := (n2.below hb1).four
    have HB3 := Lib.hid (hb0.trans (hb1.mono hb0.size))
    clear hb0 hb1 H1 n1 n2
    go_wp2_with fail
    refine bodyPost_ret (v := ackV 0 0 0 0) (by simp [results, Tryz.results19, go_sem, *]) rfl ⟨rfl, ?_⟩
    exact (((HB3.out.setCell (Nat.le_succ _) _).setCell (Nat.le_succ _) _).setCell (Nat.le_succ _) _).setCell (Nat.le_succ _) _
end Go.Proofs.YtdcahilfmhkmiaaGreatDoor
