/- The program's roadsOf: all that flies on the ways, two rings a way in one block. -/
import Derived.Test.YthimndilobadeaaDoorRoadO
import Derived.Test.YthimndilobadeaaDoorNetTo
import Derived.StillTailTactics
import Derived.Deep.RegionHeld3
import Derived.Deep.MidRow
namespace Go.Proofs.YthimndilobadeaaDoor
open Go.RowKit

def noRoad : Array Value := #[.string ⟨#[]⟩, .string ⟨#[]⟩, .string ⟨#[]⟩, .string ⟨#[]⟩, .string ⟨#[]⟩, .string ⟨#[]⟩, .string ⟨#[]⟩, .string ⟨#[]⟩, .int .i64 0, .int .i64 0, .string ⟨#[]⟩, .string ⟨#[]⟩, .string ⟨#[]⟩, .string ⟨#[]⟩, .string ⟨#[]⟩, .string ⟨#[]⟩, .string ⟨#[]⟩, .string ⟨#[]⟩, .int .i64 0, .int .i64 0]
theorem run_make_roads {P : Program} {t e : TypeId} {i : TypeInfo} (ht : P.underlying t = some (.slice e)) (hi : P.info? e = some i) (hz : i.zero = some (.agg noRoad)) (h1 : i.size = 20) (h2 : i.bytes = 288)
    (n : Nat) (L : Int) (hL : L = (n : Int)) (hn : n ≤ 1000000000) (w : World) :
    (Instr.makeSlice t (.int .i64 L) (.int .i64 L)).run P w = .ok (.slice (some ⟨w.heap.size, 0, none⟩) n n) (w.alloc (.cells (madeCells (Value.cells (.agg noRoad)) (n * 20)) e)) := by
  subst hL
  have h := run_make (P := P) w t e i (.agg noRoad) ht hi hz .i64 .i64 n n (by omega) (by omega) (by rw [h2]; omega) (by omega)
  rw [h, h1]
  simp only [Int.toNat_natCast]
/-- A way's two rings as cells. -/
def roadA (s : Nat → List UInt8) (c : Nat) (s2 : Nat → List UInt8) (c2 : Nat) : Array Value := #[gs (s 0), gs (s 1), gs (s 2), gs (s 3), gs (s 4), gs (s 5), gs (s 6), gs (s 7), .int .i64 0, .int .i64 (c : Int), gs (s2 0), gs (s2 1), gs (s2 2), gs (s2 3), gs (s2 4), gs (s2 5), gs (s2 6), gs (s2 7), .int .i64 0, .int .i64 (c2 : Int)]
theorem roadA_one (s : Nat → List UInt8) (c : Nat) (s2 : Nat → List UInt8) (c2 : Nat) : (roadA s c s2 c2).all (·.oneCell') = true := by simp [roadA, Value.oneCell']
/-- The first k ways of n stand as rings in block g. -/
def RoadsTo (w : World) (g k : Nat) (n : Nt) : Prop := ∀ i, i < k → (∃ f, RingAt w g (i * 20) f (wyAt n i).1) ∧ ∃ f, RingAt w g (i * 20 + 10) f (wyAt n i).2
theorem roadsTo_zero (w : World) (g : Nat) (n : Nt) : RoadsTo w g 0 n := fun i h => by omega
theorem RoadsTo.below {w w' : World} {g k : Nat} {n : Nt} (h : RoadsTo w g k n) (hb : Below w.heap.size w w') : RoadsTo w' g k n := fun i hi => by
  obtain ⟨⟨f, h1⟩, f', h2⟩ := h i hi
  exact ⟨⟨f, h1.below hb⟩, f', h2.below hb⟩

theorem grown_setCells (b : Nat) : ∀ (vs : List Value) (o : Nat) (w : World), w.grownBy (w.setCells b o vs) (some b) ∧ (w.setCells b o vs).heap.size = w.heap.size
  | [], _, w => ⟨⟨rfl, rfl, rfl, Nat.le_refl _, fun _ _ _ => rfl⟩, rfl⟩
  | v :: r, o, w => by
    obtain ⟨h1, h2⟩ := grown_setCells b r (o + 1) (w.setCell ⟨b, o, none⟩ v)
    exact ⟨tgrown_trans (tgrown_set w b o v) h1, by rw [World.setCells, h2]; simp⟩
/-- A ring that has just been laid. -/
theorem ring_laid {w : World} {b o : Nat} {s : Nat → List UInt8} {l : Tx} (hm : l.length ≤ 8) (hs : ∀ j, j < l.length → s j = txAt l j) (hc : ∀ j, j < 8 → w.cell? ⟨b, o + j, none⟩ = some (gs (s j)))
    (h8 : w.cell? ⟨b, o + 8, none⟩ = some (.int .i64 0)) (h9 : w.cell? ⟨b, o + 9, none⟩ = some (.int .i64 (l.length : Int))) (hf : ∀ j, j < 10 → w.frozen? ⟨b, o + j, none⟩ = false) : RingAt w b o 0 l :=
  ⟨by omega, hm, fun j hj => ⟨_, hc j hj⟩, h8, h9, fun j hj => by rw [show (0 + j) % 8 = j by omega, hc j (by omega), hs j hj], hf⟩
theorem roads_succ {w : World} {g k len : Nat} {n : Nt} {s s2 : Nat → List UInt8} {p0 p1 : Nat} (h : RoadsTo w g k n) (hop : OpenTx w g (len * 20)) (hk : k < len) (hfly : canFly (wyAt n k).1 ∧ canFly (wyAt n k).2) (h0 : (wyAt n k).1.length = p0) (h1 : (wyAt n k).2.length = p1)
    (hs : ∀ j, j < (wyAt n k).1.length → s j = txAt (wyAt n k).1 j) (hs2 : ∀ j, j < (wyAt n k).2.length → s2 j = txAt (wyAt n k).2 j) :
    RoadsTo (w.setCells g (k * 20) (roadA s p0 s2 p1).toList) g (k + 1) n ∧ OpenTx (w.setCells g (k * 20) (roadA s p0 s2 p1).toList) g (len * 20) := by
  subst h0 h1
  generalize hvs : (roadA s (wyAt n k).1.length s2 (wyAt n k).2.length).toList = vs
  have hl : vs.length = 20 := by rw [← hvs]; rfl
  have e1 : ∀ j, j < 8 → vs[j]? = some (gs (s j)) := by rw [← hvs]; exact eight rfl rfl rfl rfl rfl rfl rfl rfl
  have e8 : vs[8]? = some (.int .i64 0) := by rw [← hvs]; rfl
  have e9 : vs[9]? = some (.int .i64 ((wyAt n k).1.length : Int)) := by rw [← hvs]; rfl
  have e2 : ∀ j, j < 8 → vs[10 + j]? = some (gs (s2 j)) := by rw [← hvs]; exact eight rfl rfl rfl rfl rfl rfl rfl rfl
  have e18 : vs[18]? = some (.int .i64 0) := by rw [← hvs]; rfl
  have e19 : vs[19]? = some (.int .i64 ((wyAt n k).2.length : Int)) := by rw [← hvs]; rfl
  have hat : ∀ j v, vs[j]? = some v → (w.setCells g (k * 20) vs).cell? ⟨g, k * 20 + j, none⟩ = some v := fun j v hv => by
    obtain ⟨hj, rfl⟩ := List.getElem?_eq_some_iff.1 hv
    exact World.cell?_setCells_in g vs (k * 20) w (fun i hi => by obtain ⟨u, hu⟩ := hop.there (k * 20 + i) (by omega); rw [hu]; rfl) j hj
  have hfz : ∀ x, (w.setCells g (k * 20) vs).frozen? x = w.frozen? x := World.frozen?_setCells g vs (k * 20) w
  have hout : ∀ x, x < k * 20 ∨ k * 20 + 20 ≤ x → (w.setCells g (k * 20) vs).cell? ⟨g, x, none⟩ = w.cell? ⟨g, x, none⟩ := fun x hx => World.cell?_setCells_out g vs (k * 20) w _ (fun _ _ => by simp; omega)
  have keep : ∀ {o f : Nat} {l : Tx}, o + 10 ≤ k * 20 → RingAt w g o f l → RingAt (w.setCells g (k * 20) vs) g o f l := fun {o f l} ho hr => by
    have hf := hr.first
    exact ⟨hr.first, hr.most, fun j hj => by obtain ⟨t, ht⟩ := hr.slot j hj; exact ⟨t, (hout _ (by omega)).trans ht⟩, (hout _ (by omega)).trans hr.at8, (hout _ (by omega)).trans hr.at9, fun j hj => (hout _ (by omega)).trans (hr.item j hj), fun j hj => (hfz _).trans (hr.free j hj)⟩
  refine ⟨fun i hi => ?_, fun i hi => ?_, fun i hi => (hfz _).trans (hop.free i hi)⟩
  · by_cases e : i = k
    · subst e
      exact ⟨⟨0, ring_laid hfly.1.1 hs (fun j hj => hat j _ (e1 j hj)) (hat 8 _ e8) (hat 9 _ e9) (fun j hj => (hfz _).trans (hop.free _ (by omega)))⟩, 0, ring_laid hfly.2.1 hs2 (fun j hj => by rw [Nat.add_assoc]; exact hat (10 + j) _ (e2 j hj)) (by rw [Nat.add_assoc]; exact hat 18 _ e18) (by rw [Nat.add_assoc]; exact hat 19 _ e19) (fun j hj => (hfz _).trans (hop.free _ (by omega)))⟩
    · obtain ⟨⟨f, r1⟩, f', r2⟩ := h i (by omega)
      exact ⟨⟨f, keep (by omega) r1⟩, f', keep (by omega) r2⟩
  · by_cases e : k * 20 ≤ i ∧ i < k * 20 + 20
    · obtain ⟨j, rfl⟩ : ∃ j, i = k * 20 + j := ⟨i - k * 20, by omega⟩
      exact ⟨_, hat j _ (List.getElem?_eq_getElem (by omega))⟩
    · obtain ⟨v, hv⟩ := hop.there i hi
      exact ⟨v, (hout i (by omega)).trans hv⟩

/-- What holds while a way's rings are made and laid. -/
structure RS (w : World) (g len k : Nat) (n : Nt) (V : World) : Prop where
  below : Below w.heap.size w V
  lt : g < V.heap.size
  open' : OpenTx V g (len * 20)
  roads : RoadsTo V g k n
theorem keepR {w V V' : World} {g len k : Nat} {n : Nt} {p q : Addr} {x y : Value} (hb : Below V.heap.size V V') (h : RS w g len k n V ∧ V.cell? p = some x ∧ V.cell? q = some y) :
    RS w g len k n V' ∧ V'.cell? p = some x ∧ V'.cell? q = some y :=
  have c {p : Addr} {x : Value} (h : V.cell? p = some x) : V'.cell? p = some x := (hb.cell (World.block_lt_of_cell? V _ h)).trans h
  ⟨⟨h.1.below.trans (hb.mono h.1.below.size), Nat.lt_of_lt_of_le h.1.lt hb.size, h.1.open'.below h.1.lt hb, h.1.roads.below hb⟩, c h.2.1, c h.2.2⟩
theorem RoadsTo.store {w : World} {g k o : Nat} {n : Nt} (h : RoadsTo w g k n) (ho : k * 20 ≤ o) (v : Value) : RoadsTo (w.setCell ⟨g, o, none⟩ v) g k n := by
  have keep : ∀ {o' f : Nat} {l : Tx}, o' + 10 ≤ k * 20 → RingAt w g o' f l → RingAt (w.setCell ⟨g, o, none⟩ v) g o' f l := fun {o' f l} ho' hr => by
    have hf := hr.first
    have hout : ∀ x, x < k * 20 → (w.setCell ⟨g, o, none⟩ v).cell? ⟨g, x, none⟩ = w.cell? ⟨g, x, none⟩ := fun x hx => World.cell?_setCell_other _ _ _ _ (fun e => by injection e; omega)
    exact ⟨hr.first, hr.most, fun j hj => by obtain ⟨t, ht⟩ := hr.slot j hj; exact ⟨t, (hout _ (by omega)).trans ht⟩, (hout _ (by omega)).trans hr.at8, (hout _ (by omega)).trans hr.at9, fun j hj => (hout _ (by omega)).trans (hr.item j hj), fun j hj => (World.frozen?_setCell _ _ _ _).trans (hr.free j hj)⟩
  intro i hi
  obtain ⟨⟨f, r1⟩, f', r2⟩ := h i hi
  exact ⟨⟨f, keep (by omega) r1⟩, f', keep (by omega) r2⟩
theorem keepRS {w V : World} {g len k o b i j : Nat} {n : Nt} {x y v : Value} (hg : w.heap.size = g) (hb : g < b) (ho : k * 20 ≤ o) (h : RS w g len k n V ∧ V.cell? ⟨b, i, none⟩ = some x ∧ V.cell? ⟨b, j, none⟩ = some y) :
    RS w g len k n (V.setCell ⟨g, o, none⟩ v) ∧ (V.setCell ⟨g, o, none⟩ v).cell? ⟨b, i, none⟩ = some x ∧ (V.setCell ⟨g, o, none⟩ v).cell? ⟨b, j, none⟩ = some y :=
  ⟨⟨h.1.below.setCell (Nat.le_of_eq hg) _, by simpa using h.1.lt, h.1.open'.put _, h.1.roads.store ho _⟩, (World.cell?_setCell_other _ _ _ _ (fun e => by injection e; omega)).trans h.2.1, (World.cell?_setCell_other _ _ _ _ (fun e => by injection e; omega)).trans h.2.2⟩
theorem keepRSs {w : World} {g len k b i j : Nat} {n : Nt} {x y : Value} (hg : w.heap.size = g) (hb : g < b) : ∀ {V : World}, (RS w g len k n V ∧ V.cell? ⟨b, i, none⟩ = some x ∧ V.cell? ⟨b, j, none⟩ = some y) → ∀ (vs : List Value) (o : Nat), k * 20 ≤ o →
    RS w g len k n (V.setCells g o vs) ∧ (V.setCells g o vs).cell? ⟨b, i, none⟩ = some x ∧ (V.setCells g o vs).cell? ⟨b, j, none⟩ = some y
  | _, h, [], _, _ => h
  | _, h, v :: vs, o, ho => keepRSs hg hb (keepRS (v := v) hg hb ho h) vs (o + 1) (by omega)

set_option maxHeartbeats 2000000 in
set_option maxRecDepth 100000 in
theorem roadsOf_calls {S : Nat → Prop} {a : Option Addr} {len cap : Nat} {n : Nt} {w : World} (h : InNet S w a len n) (hr : netRight n) :
    Calls Tryd.prog 46 #[.slice a len cap] w fun e w' => ∃ g, e = .returned (.slice (some ⟨g, 0, none⟩) len len) ∧ RoadsTo w' g len n ∧ w.heap.size ≤ g ∧ g < w'.heap.size ∧ Below w.heap.size w w' := by
  have hm := h.most
  have hlen := h.long
  have hzz : (Tryd.prog.info? 73).map (fun i => (i.zero, i.size, i.bytes)) = some (some (.agg noRoad), 20, 288) := by kernel_rfl
  cases hi : Tryd.prog.info? 73 with
  | none => rw [hi] at hzz; cases hzz
  | some i =>
    rw [hi] at hzz
    simp at hzz
    have hmk := run_make_roads (P := Tryd.prog) Tryd.underlying43 hi hzz.1 hzz.2.1 hzz.2.2 len (len : Int) rfl (by omega) w
    clear hzz hi
    have ho := World.ownsRow_lit (size := 20) (base := w.heap.size) (e := 73) w (madeCells (Value.cells (.agg noRoad)) (len * 20)) len (Nat.le_refl _) (by simp [maxLen]; omega) (size_madeCells _ _)
    generalize hg : w.heap.size = g at ho hmk
    have hbw : Below w.heap.size w (w.alloc (.cells (madeCells (Value.cells (.agg noRoad)) (len * 20)) 73)) := (Below.refl _ _).alloc (Nat.le_refl _) _
    have hlt : g < (w.alloc (.cells (madeCells (Value.cells (.agg noRoad)) (len * 20)) 73)).heap.size := by simp; omega
    generalize w.alloc (.cells (madeCells (Value.cells (.agg noRoad)) (len * 20)) 73) = w1 at *
    generalize (madeCells (Value.cells (.agg noRoad)) (len * 20)).toList = xs at *
    have hop : OpenTx w1 g (len * 20) := by
      have hx : xs.length = len * 20 := ho.1
      exact ⟨fun i hi => ⟨_, (ho.cellAt i (by omega)).trans (List.getElem?_eq_getElem (by omega))⟩, fun i _ => ho.frozenAt i⟩
    go_enter Tryd.func46, Tryd.ntmps46
    go_wp2_with fail
    go_loopw [11] (fun i wr => ∃ k : Nat, i = .int .i64 (k : Int) ∧ k ≤ len ∧ RoadsTo wr g k n ∧ OpenTx wr g (len * 20) ∧ g < wr.heap.size ∧ Below g w wr) (fun i _ => len - (intOf i).toNat)
    case atStart => exact ⟨0, rfl, Nat.zero_le _, roadsTo_zero _ _ _, hop, hlt, hg ▸ hbw⟩
    case round =>
      clear hop hlt hbw hmk ho
      obtain ⟨k, rfl, hk, hrd, hop, hlt, hbl⟩ := hrel
      by_cases hkl : k < len
      · obtain ⟨b, o, rfl⟩ := h.there (by omega)
        obtain ⟨-, x, cx, y, cy, c0, c1, r0, r1, -, -⟩ := h.cell b o rfl k hkl
        have hfly := hr.2 k (by omega)
        have hbl' : Below w.heap.size w wr := hg ▸ hbl
        replace c0 := (hbl'.cell (World.block_lt_of_cell? _ _ c0)).trans c0
        replace c1 := (hbl'.cell (World.block_lt_of_cell? _ _ c1)).trans c1
        have hc1 := fun (V : World) (hb : Below w.heap.size w V) => ringOf_calls (cap := cx) (r0.below hb) (by have := hfly.1.1; omega)
        have hc2 := fun (V : World) (hb : Below w.heap.size w V) => ringOf_calls (cap := cy) (r1.below hb) (by have := hfly.2.1; omega)
        generalize hp0 : (wyAt n k).1.length = p0 at *
        generalize hp1 : (wyAt n k).2.length = p1 at *
        have hbx : Below wr.heap.size wr (wr.alloc (.cells #[.slice x p0 cx, .slice y p1 cy] 41)) := (Below.refl _ _).alloc (Nat.le_refl _) _
        have n1 := two_new wr (.slice x p0 cx) (.slice y p1 cy) 41
        have hrs := (keepR (p := ⟨b, o + k * 2, none⟩) (q := ⟨b, o + k * 2 + 1, none⟩) hbx ⟨(⟨hbl', hlt, hop, hrd⟩ : RS w g len k n wr), c0, c1⟩).1
        have hrs2 := (keepR (p := ⟨wr.heap.size, 0, none⟩) (q := ⟨wr.heap.size, 1, none⟩) ((Below.refl _ _).drew) ⟨hrs, n1.fst, n1.snd⟩)
        have hgb : g < wr.heap.size := hlt
        unfold ringV at hc1 hc2
        have H1 := Lib.hid hc1
        have H2 := Lib.hid hc2
        have HRS := Lib.hid hrs2
        clear hc1 hc2 hrd hop hbl hbl' r0 r1 h hrs hrs2 hbx n1
        go_wp2_with fail
        generalize wr.alloc (.cells #[.slice x p0 cx, .slice y p1 cy] 41) = W at *
        refine wp_region_held_drew (S := (fun V => RS w g len k n V ∧ V.cell? ⟨wr.heap.size, 0, none⟩ = some (.slice x p0 cx) ∧ V.cell? ⟨wr.heap.size, 1, none⟩ = some (.slice y p1 cy))) (by kernel_rfl) HRS.out (fun hHeld => ?_)
        refine wpAnyH_take (i := 0) (oi := _) (v := ?v0) rfl (by kernel_rfl) (by kernel_rfl) (by kernel_rfl) (fun _ _ _ h => h) (Or.inl ⟨by rfl, ?hy0⟩) (by with_reducible assumption) ?rest0
        case hy0 => (intro w hSw; (try dsimp only at hSw); go_simp; (try with_reducible rfl))
        (try simp only [Act.put])
        refine wpAnyH_take (i := 1) (oi := _) (v := ?v1) rfl (by kernel_rfl) (by kernel_rfl) (by kernel_rfl) (fun _ _ _ h => h) (Or.inl ⟨by rfl, ?hy1⟩) (by with_reducible assumption) ?rest1
        case hy1 => (intro w hSw; (try dsimp only at hSw); go_simp; (try with_reducible rfl))
        (try simp only [Act.put])
        refine wpAnyH_take (i := 2) (oi := _) (v := ?v2) rfl (by kernel_rfl) (by kernel_rfl) (by kernel_rfl) (fun _ _ _ h => h) (Or.inl ⟨by rfl, ?hy2⟩) (by with_reducible assumption) ?rest2
        case hy2 => (intro w hSw; (try dsimp only at hSw); go_simp; (try with_reducible rfl))
        (try simp only [Act.put])
        refine wpAnyH_take (i := 3) (oi := _) (v := ?v3) rfl (by kernel_rfl) (by kernel_rfl) (by kernel_rfl) (fun _ _ _ h => h) (Or.inl ⟨by rfl, ?hy3⟩) (by with_reducible assumption) ?rest3
        case hy3 => (intro w hSw; (try dsimp only at hSw); go_simp; (try with_reducible rfl))
        (try simp only [Act.put])
        refine wpAnyH_take (i := 5) (oi := _) (v := ?v5) rfl (by kernel_rfl) (by kernel_rfl) (by kernel_rfl) (fun _ _ _ h => h) (Or.inl ⟨by rfl, ?hy5⟩) (by with_reducible assumption) ?rest5
        case hy5 => (intro w hSw; (try dsimp only at hSw); go_simp; (try with_reducible rfl))
        (try simp only [Act.put])
        refine wpAnyH_take (i := 6) (oi := _) (v := ?v6) rfl (by kernel_rfl) (by kernel_rfl) (by kernel_rfl) (fun _ _ _ h => h) (Or.inl ⟨by rfl, ?hy6⟩) (by with_reducible assumption) ?rest6
        case hy6 => (intro w hSw; (try dsimp only at hSw); go_simp; (try with_reducible rfl))
        (try simp only [Act.put])
        refine wpAnyH_ready (rs := [4]) (by kernel_rfl) (by simp) (AllReadyH.cons (o := _) rfl (fun K hK => ?c4) AllReadyH.nil)
        go_simp
        refine (H1.out _ hHeld.1.below).mono ?_
        rintro e W1 ⟨s, rfl, hs, hb1⟩
        have HS := Lib.hid hs
        clear hs
        go_simp
        refine hK.out _ _ (keepR hb1 hHeld) (fun hHeld1 => ?_)
        clear hK K hHeld
        (try simp only [Act.put])
        refine wpAnyH_ready (rs := [7]) (by kernel_rfl) (by simp) (AllReadyH.cons (o := _) rfl (fun K hK => ?c7) AllReadyH.nil)
        go_simp
        refine (H2.out _ hHeld1.1.below).mono ?_
        rintro e W2 ⟨s2, rfl, hs2, hb2⟩
        have HS2 := Lib.hid hs2
        clear hs2
        go_simp
        refine hK.out _ _ (keepR hb2 hHeld1) (fun hHeld2 => ?_)
        clear hK K hHeld1
        (try simp only [Act.put])
        refine wpAnyH_take (i := 8) (oi := _) (v := ?v8) rfl (by kernel_rfl) (by kernel_rfl) (by kernel_rfl) (fun _ _ _ h => h) (Or.inl ⟨by rfl, ?hy8⟩) (by with_reducible assumption) ?rest8
        case hy8 => (intro w hSw; (try dsimp only at hSw); go_simp; (try with_reducible rfl))
        (try simp only [Act.put])
        refine wpAnyH_take (i := 9) (oi := _) (v := ?v9) rfl (by kernel_rfl) (by kernel_rfl) (by kernel_rfl) (fun _ _ _ h => h) (Or.inl ⟨by rfl, ?hy9⟩) (by with_reducible assumption) ?rest9
        case hy9 => (intro w hSw; (try dsimp only at hSw); go_simp; (try with_reducible rfl))
        (try simp only [Act.put])
        refine wpAnyH_ready (rs := [10]) (by kernel_rfl) (by simp) (AllReadyH.cons (o := _) rfl (fun K hK => ?c10) AllReadyH.nil)
        rw [if_pos (by rfl)]
        have hth : W2.there g (k * 20) (roadA s p0 s2 p1).size := fun j hj => by
          have hj' : j < 20 := hj
          obtain ⟨v, hv⟩ := hHeld2.1.open'.there (k * 20 + j) (by omega)
          exact ⟨by rw [hv]; rfl, hHeld2.1.open'.free (k * 20 + j) (by omega)⟩
        refine wp_store_mid 73 _ _ rfl g (k * 20) (roadA s p0 s2 p1) rfl (by unfold roadA; rfl) hth (by kernel_rfl) (roadA_one s p0 s2 p1) ?_
        have hst := roads_succ (s := s) (s2 := s2) hHeld2.1.roads hHeld2.1.open' hkl hfly hp0 hp1 (fun j hj => HS.out j (by rw [← hp0]; exact hj)) (fun j hj => HS2.out j (by rw [← hp1]; exact hj))
        have hgr := grown_setCells g (roadA s p0 s2 p1).toList (k * 20) W2
        have hb5 : Below g w (W2.setCells g (k * 20) (roadA s p0 s2 p1).toList) := (hg ▸ hHeld2.1.below : Below g w W2).grown hgr.1 (Nat.le_of_lt hHeld2.1.lt) (fun k e => by cases e; exact Nat.le_refl _)
        have hs5 : g < (W2.setCells g (k * 20) (roadA s p0 s2 p1).toList).heap.size := by rw [hgr.2]; exact hHeld2.1.lt
        have hS := keepRSs hg hgb hHeld2 (roadA s p0 s2 p1).toList (k * 20) (Nat.le_refl _)
        generalize W2.setCells g (k * 20) (roadA s p0 s2 p1).toList = V at *
        refine hK.out _ _ hS (fun _ => ?_)
        (try simp only [Act.put])
        refine wpAnyH_done (by kernel_rfl) ?_ _
        have J1 := Lib.hid hst
        have J2 := Lib.hid hb5
        have J3 := Lib.hid hs5
        clear hst hb5 hs5 hgr HS HS2 H1 H2 HRS hHeld2 hS hK K hth
        go_wp2_with fail
        exact ⟨⟨k + 1, by go_num, by omega, J1.out.1, J1.out.2, J3.out, J2.out⟩, by simp [intOf]; omega⟩
      · have hkl' : k = len := by omega
        subst hkl'
        have H1 := Lib.hid hrd
        have H2 := Lib.hid hbl
        clear hrd hop h hbl
        go_wp2_with fail
        go_ret
        exact ⟨_, rfl, H1.out, by omega, hlt, H2.out⟩
end Go.Proofs.YthimndilobadeaaDoor
