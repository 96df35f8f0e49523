/- The laws' words on what the calls on nets hand back: held, marked, the same. -/
import Derived.Test.YthimndilobadeaaDoorNetMark
namespace Go.Proofs.YthimndilobadeaaDoor
open Go.RowKit

set_option maxHeartbeats 1000000 in
set_option maxRecDepth 100000 in
theorem heldWayS_calls {S : Nat → Prop} {a : Option Addr} {len cap k : Nat} {n : Nt} {w : World} (h : InNet S w a len (nmarks k n)) (hk : k + netSum n ≤ 100000000) :
    Calls Tryd.prog 26 #[.slice a len cap, .int .i64 (k : Int)] w fun e w' => e = .returned (.int .i64 ((k + netSum n : Nat) : Int)) ∧ Below w.heap.size w w' := by
  have hm := h.most
  have hlen := h.long
  rw [nmarks_len] at hlen
  go_enter Tryd.func26, Tryd.ntmps26
  go_wp2_with fail
  go_loopw [1, 5] (fun v i wr => ∃ j : Nat, i = .int .i64 (j : Int) ∧ v = .int .i64 ((k + netSum (n.take j) : Nat) : Int) ∧ j ≤ len ∧ Below w.heap.size w wr) (fun _ i _ => len - (intOf i).toNat)
  case atStart => exact ⟨0, rfl, by simp [netSum], Nat.zero_le _, Below.refl _ _⟩
  case round =>
    obtain ⟨j, rfl, rfl, hj, hbl⟩ := hrel
    by_cases hjl : j < len
    · have hh := h.below hbl
      obtain ⟨b, o, rfl⟩ := hh.there (by omega)
      obtain ⟨-, x, cx, y, cy, c0, c1, r0, r1, -, -⟩ := hh.cell b o rfl j hjl
      have hst := netSum_take_succ n j (by omega)
      have hsl := netSum_take_le n (j + 1)
      rw [nmarks_at n k j (by omega)] at c0 c1 r0 r1
      simp only [tmarks_len] at c0 c1 r0 r1
      generalize hnx : netSum (n.take (j + 1)) = x1 at *
      generalize netSum (n.take j) = x0 at *
      generalize (wyAt n j).1.length = p0 at *
      generalize (wyAt n j).2.length = p1 at *
      have hc1 := heldStringS_calls (cap := cx) r0 (by omega)
      have hc2 := fun (W : World) (hb : Below wr.heap.size wr W) => heldStringS_calls (cap := cy) (r1.below hb) (by omega)
      have H1 := Lib.hid hc1
      have H2 := Lib.hid hc2
      have HX := Lib.hid hnx
      have HBL := Lib.hid hbl
      clear hh h hc1 hc2 hnx hbl r0 r1
      go_wp2_with fail
      refine H1.out.mono ?_
      rintro e w1 ⟨rfl, hb1⟩
      have d1 := (hb1.cell (World.block_lt_of_cell? _ _ c1)).trans c1
      have hn1 : ¬ ((k + x0 + p0 : Nat) : Int) < 0 := by omega
      go_wp2_with fail
      all_goals first
        | (exfalso; omega)
        | skip
      refine (H2.out _ hb1).mono ?_
      rintro e w2 ⟨rfl, hb2⟩
      have HB2 := Lib.hid (HBL.out.trans ((hb1.trans (hb2.mono hb1.size)).mono HBL.out.size))
      clear hb1 hb2 HBL
      go_wp2_with fail
      all_goals first
        | (exfalso; omega)
        | skip
      go_roundw
      case rel => exact ⟨j + 1, by go_num, by rw [HX.out]; exact val_int (by omega), by omega, HB2.out⟩
      case measure => simp [intOf]; omega
    · have hjl' : j = n.length := by omega
      have hx : n.take j = n := by rw [hjl']; exact List.take_length
      have HX := Lib.hid hx
      have HBL := Lib.hid hbl
      clear h hbl hx
      go_wp2_with fail
      go_ret
      exact ⟨ret_int (by rw [HX.out]), HBL.out⟩

/-- What a call on nets hands back. -/
def netV (a : Option Addr) (len cap : Nat) (b : List UInt8) (c : Int) : Value := .agg #[.slice a len cap, gs b, .int .i64 c]

theorem below_arg3 {w w1 : World} {x y z : Value} {T : TypeId} (hb : Below (w.alloc (.cells #[x, y, z] T)).heap.size (w.alloc (.cells #[x, y, z] T)) w1) :
    Below w.heap.size w w1 ∧ w1.cell? ⟨w.heap.size, 1, none⟩ = some y ∧ w1.cell? ⟨w.heap.size, 2, none⟩ = some z := by
  refine ⟨below_arg hb, ?_, ?_⟩
  · rw [hb.cell (p := ⟨w.heap.size, 1, none⟩) (by simp), World.cell?_alloc_at _ _ _ _ (by simp)]; rfl
  · rw [hb.cell (p := ⟨w.heap.size, 2, none⟩) (by simp), World.cell?_alloc_at _ _ _ _ (by simp)]; rfl

set_option maxHeartbeats 1000000 in
set_option maxRecDepth 100000 in
theorem markNetOut_calls {w : World} {lo hi g len cap k : Nat} {n : Nt} {P Q : Nat → Nat} (bs : List UInt8) (c : Int) (h : NetOwn w lo hi g len n P Q) (hk : k + netSum n ≤ 100000000) :
    Calls Tryd.prog 12 #[netV (some ⟨g, 0, none⟩) len cap bs c, .int .i64 (k : Int)] w fun e w' => e = .returned (.int .i64 ((k + netSum n : Nat) : Int)) ∧ NetOwn w' lo hi g len (nmarks k n) P Q ∧ Kept (fun b => lo ≤ b ∧ b < hi) w w' := by
  have hb0 : ∀ o, Below w.heap.size w (w.alloc o) := fun o => (Below.refl _ _).alloc (Nat.le_refl _) o
  have hcall := fun o => markWayS_calls (cap := cap) (h.below (hb0 o)) hk
  have HC := Lib.hid hcall
  have HB := Lib.hid hb0
  clear hcall h hb0
  unfold netV
  go_enter Tryd.func12, Tryd.ntmps12
  go_wp2_with fail
  refine (HC.out _).mono ?_
  rintro e w1 ⟨rfl, ho, hkp⟩
  have HK := Lib.hid ((kept_below (HB.out _)).trans hkp)
  have HO := Lib.hid ho
  clear HC HB ho hkp
  go_wp2_with fail
  go_ret
  exact ⟨rfl, HO.out, HK.out⟩
theorem markNetNil_calls {cap : Nat} {w : World} (k : Nat) (bs : List UInt8) (c : Int) :
    Calls Tryd.prog 12 #[netV none 0 cap bs c, .int .i64 (k : Int)] w fun e w' => e = .returned (.int .i64 (k : Int)) ∧ Below w.heap.size w w' := by
  have hn : ∀ w : World, Calls Tryd.prog 11 #[.slice none 0 cap, .int .i64 (k : Int)] w fun e w' => e = .returned (.int .i64 (k : Int)) ∧ Below w.heap.size w w' := by
    intro w
    go_enter Tryd.func11, Tryd.ntmps11
    go_wp2_with fail
    go_loopw [1, 5] (fun v i wr => i = .int .i64 ((0 : Nat) : Int) ∧ v = .int .i64 (k : Int) ∧ Below w.heap.size w wr) (fun _ _ _ => 0)
    case atStart => exact ⟨rfl, rfl, Below.refl _ _⟩
    case round =>
      obtain ⟨rfl, rfl, hb⟩ := hrel
      go_wp2_with fail
      go_ret
      exact ⟨rfl, hb⟩
  have HC := Lib.hid hn
  clear hn
  unfold netV
  go_enter Tryd.func12, Tryd.ntmps12
  go_wp2_with fail
  refine (HC.out _).mono ?_
  rintro e w1 ⟨rfl, hb⟩
  have HB := Lib.hid (below_arg hb)
  clear HC hb
  go_wp2_with fail
  go_ret
  exact ⟨rfl, HB.out⟩

set_option maxHeartbeats 1000000 in
set_option maxRecDepth 100000 in
theorem heldNetOut_calls {S : Nat → Prop} {a : Option Addr} {len cap k : Nat} {n : Nt} {w : World} (bs : List UInt8) (c : Int) (h : InNet S w a len (nmarks k n)) (hk : k + netSum n ≤ 100000000) :
    Calls Tryd.prog 13 #[netV a len cap bs c, .int .i64 (k : Int)] w fun e w' => e = .returned (.int .i64 ((k + netSum n : Nat) : Int)) ∧ Below w.heap.size w w' := by
  have hcall := fun o => heldWayS_calls (cap := cap) (h.below ((Below.refl _ _).alloc (Nat.le_refl _) o)) hk
  have HC := Lib.hid hcall
  clear hcall h
  unfold netV
  go_enter Tryd.func13, Tryd.ntmps13
  go_wp2_with fail
  refine (HC.out _).mono ?_
  rintro e w1 ⟨rfl, hb⟩
  have HB := Lib.hid (below_arg hb)
  clear HC hb
  go_wp2_with fail
  all_goals first
    | (exfalso; omega)
    | (go_ret; exact ⟨rfl, HB.out⟩)

set_option maxHeartbeats 1000000 in
set_option maxRecDepth 100000 in
/-- The same net, the same bytes, the same code: told so. -/
theorem eqNetOut_calls {S S' : Nat → Prop} {a a' : Option Addr} {len len' cap cap' : Nat} {n : Nt} {w : World} (bs : List UInt8) (c : Int) (h : InNet S w a len n) (h' : InNet S' w a' len' n) :
    Calls Tryd.prog 9 #[netV a len cap bs c, netV a' len' cap' bs c] w fun e w' => e = .returned (.bool true) ∧ Below w.heap.size w w' := by
  have hcall := fun (W : World) (hb : Below w.heap.size w W) => eqWayS_calls (ca := cap) (cb := cap') (h.below hb) (h'.below hb)
  simp only [decide_true] at hcall
  have HC := Lib.hid hcall
  clear hcall h h'
  unfold netV
  go_enter Tryd.func9, Tryd.ntmps9
  go_wp2_with fail
  refine (HC.out _ (((Below.refl _ _).alloc (Nat.le_refl _) _).alloc (by simp) _)).mono ?_
  rintro e w1 ⟨rfl, hb⟩
  obtain ⟨hb1, d1, d2⟩ := below_arg3 hb
  obtain ⟨hb2, e1, e2⟩ := below_arg3 hb1
  rw [show ∀ o : Obj, (w.alloc o).heap.size = w.heap.size + 1 from fun o => by simp] at d1 d2
  have HB := Lib.hid hb2
  clear HC hb hb1 hb2
  go_wp2_with fail
  go_ret
  exact ⟨rfl, HB.out⟩
/-- A new box of three cells. -/
theorem box3 (w : World) (T : TypeId) : OpenTx (w.alloc (.cells #[.slice none 0 0, .string ⟨#[]⟩, .int .i64 0] T)) w.heap.size 3 := by
  have hc : ∀ j, (w.alloc (.cells #[.slice none 0 0, .string ⟨#[]⟩, .int .i64 0] T)).cell? ⟨w.heap.size, j, none⟩ = (#[.slice none 0 0, .string ⟨#[]⟩, .int .i64 0] : Array Value)[j]? := fun j => by rw [World.cell?_alloc_at _ _ _ _ (by simp)]
  refine ⟨fun i hi => ?_, fun i hi => by simp⟩
  rw [hc]
  exact ⟨_, Array.getElem?_eq_getElem (by simp; omega)⟩
end Go.Proofs.YthimndilobadeaaDoor
