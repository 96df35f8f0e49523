/- A Rcv with lists of its own: the program's (impl.Rcv).own. -/
import Derived.Test.YtdcahilfmhkmiaaGreatDoorCloneP
import Derived.Test.YtdcahilfmhkmiaaGreatDoorRcv
import Derived.Test.YtdcahilfmhkmiaaGreatDoorRcvDef
import Derived.Test.YtdcahilfmhkmiaaGreatDoorRcvPlain
namespace Go.Proofs.YtdcahilfmhkmiaaGreatDoor
open Go.RowKit

/-- What lies in memory while a Rcv's lists are copied: the Froms' row in gf, k of its rows already the call's own. -/
structure OwMem (w : World) (xa : Option Addr) (pl : Nat) (ps : List Pc) (gf fl : Nat) (B1 B2 : List Value) (n : Frs) (k : Nat) (A : Nat → Option Addr) (C : Nat → Nat) (V : World) : Prop where
  low : w.heap.size + 2 ≤ gf ∧ gf < V.heap.size
  below : Below w.heap.size w V
  one : Box V w.heap.size B1
  two : Box V (w.heap.size + 1) B2
  pcs : PcsOwn (fun b => w.heap.size + 2 ≤ b ∧ b < gf) V xa pl ps
  cell : ∀ i, i < fl → V.cell? ⟨gf, i * 2, none⟩ = some (.int .i64 (frAt n i).1) ∧ V.frozen? ⟨gf, i * 2, none⟩ = false ∧ V.frozen? ⟨gf, i * 2 + 1, none⟩ = false
  done : ∀ i, i < k → V.cell? ⟨gf, i * 2 + 1, none⟩ = some (.slice (A i) (frAt n i).2.length (C i)) ∧ InLg V (A i) (frAt n i).2.length (frAt n i).2 ∧ LgFree V (A i) (frAt n i).2.length ∧ (frAt n i).2.length ≤ C i ∧ ∀ b, LgB (A i) (frAt n i).2.length b → gf < b ∧ b < V.heap.size
  todo : ∀ i, k ≤ i → i < fl → ∃ x cx, V.cell? ⟨gf, i * 2 + 1, none⟩ = some (.slice x (frAt n i).2.length cx) ∧ InLg w x (frAt n i).2.length (frAt n i).2
  apart : ∀ i j, i < k → j < k → i ≠ j → ∀ b, LgB (A i) (frAt n i).2.length b → ¬ LgB (A j) (frAt n j).2.length b
theorem OwMem.next {w V V' : World} {xa : Option Addr} {pl : Nat} {ps : List Pc} {gf fl : Nat} {B1 B2 : List Value} {n : Frs} {k : Nat} {A : Nat → Option Addr} {C : Nat → Nat} (h : OwMem w xa pl ps gf fl B1 B2 n k A C V) (hb : Below V.heap.size V V') : OwMem w xa pl ps gf fl B1 B2 n k A C V' := by
  have hlow := h.low
  have hbs := hb.size
  refine ⟨⟨h.low.1, by omega⟩, h.below.trans (hb.mono h.below.size), h.one.below hb, h.two.below hb, h.pcs.below hb, fun i hi => ?_, fun i hi => ?_, fun i hk hi => ?_, h.apart⟩
  · obtain ⟨c0, z0, z1⟩ := h.cell i hi
    exact ⟨(hb.cell (p := ⟨gf, i * 2, none⟩) hlow.2).trans c0, (hb.frozen (p := ⟨gf, i * 2, none⟩) hlow.2).trans z0, (hb.frozen (p := ⟨gf, i * 2 + 1, none⟩) hlow.2).trans z1⟩
  · obtain ⟨c1, l1, f1, hc, hbk⟩ := h.done i hi
    exact ⟨(hb.cell (p := ⟨gf, i * 2 + 1, none⟩) hlow.2).trans c1, l1.below hb, f1.blk (fun b hl => hb.block b (l1.lt hl)), hc, fun b hl => ⟨(hbk b hl).1, Nat.lt_of_lt_of_le (hbk b hl).2 hbs⟩⟩
  · obtain ⟨x, cx, c1, l1⟩ := h.todo i hk hi
    exact ⟨x, cx, (hb.cell (p := ⟨gf, i * 2 + 1, none⟩) hlow.2).trans c1, l1⟩
/-- One row more is the call's own. -/
theorem OwMem.put {w V V' : World} {xa : Option Addr} {pl : Nat} {ps : List Pc} {gf fl : Nat} {B1 B2 : List Value} {n : Frs} {k : Nat} {A : Nat → Option Addr} {C : Nat → Nat} (h : OwMem w xa pl ps gf fl B1 B2 n k A C V) (hb : Below V.heap.size V V') (hk : k < fl) {x : Option Addr} {c : Nat}
    (i1 : InLg V' x (frAt n k).2.length (frAt n k).2) (f1 : LgFree V' x (frAt n k).2.length) (hx : ∀ b, LgB x (frAt n k).2.length b → V.heap.size ≤ b ∧ b < V'.heap.size) (hc : (frAt n k).2.length ≤ c) :
    OwMem w xa pl ps gf fl B1 B2 n (k + 1) (fun i => if i = k then x else A i) (fun i => if i = k then c else C i) (V'.setCell ⟨gf, k * 2 + 1, none⟩ (.slice x (frAt n k).2.length c)) := by
  have h' := h.next hb
  have hlow := h.low
  have hlow' := h'.low
  have hbs := hb.size
  obtain ⟨x0, cx0, c0, _⟩ := h'.todo k (Nat.le_refl _) hk
  have hne : ∀ b, b ≠ gf → (V'.setCell ⟨gf, k * 2 + 1, none⟩ (.slice x (frAt n k).2.length c)).heap[b]? = V'.heap[b]? := fun b e => Below.heap_setCell _ _ _ _ e
  refine ⟨⟨h.low.1, by simpa using hlow'.2⟩, h'.below.setCell (by dsimp only; omega) _, h'.one.other (by dsimp only; omega) _, h'.two.other (by dsimp only; omega) _,
    h'.pcs.kept (kept_set (S := fun b => b = gf) _ gf _ _ rfl) (fun b e e' => by omega), fun i hi => ?_, fun i hi => ?_, fun i hki hi => ?_, fun i j hi hj hij b hl => ?_⟩
  · obtain ⟨d0, z0, z1⟩ := h'.cell i hi
    exact ⟨(World.cell?_setCell_other _ _ _ _ (fun e => by injection e; omega)).trans d0, by simpa using z0, by simpa using z1⟩
  · by_cases e : i = k
    · subst e
      simp only [↓reduceIte]
      exact ⟨World.cell?_setCell_same _ _ _ c0, i1.blk (fun b hl => hne b (by have := hx b hl; omega)), f1.set _ _, hc, fun b hl => ⟨by have := hx b hl; omega, by have := hx b hl; simpa using this.2⟩⟩
    · simp only [if_neg e]
      obtain ⟨d1, l1, g1, hc1, hbk⟩ := h'.done i (by omega)
      exact ⟨(World.cell?_setCell_other _ _ _ _ (fun e' => by injection e'; omega)).trans d1, l1.blk (fun b hl => hne b (by have := hbk b hl; omega)), g1.set _ _, hc1, fun b hl => ⟨(hbk b hl).1, by simpa using (hbk b hl).2⟩⟩
  · obtain ⟨y, cy, d1, l1⟩ := h'.todo i (by omega) hi
    exact ⟨y, cy, (World.cell?_setCell_other _ _ _ _ (fun e' => by injection e'; omega)).trans d1, l1⟩
  · by_cases e : i = k
    · simp only [if_pos e] at hl
      simp only [if_neg (show j ≠ k by omega)]
      subst e
      have h1 := hx b hl
      intro hl'
      have h2 := (h.done j (by omega)).2.2.2.2 b hl'
      omega
    · simp only [if_neg e] at hl
      by_cases e2 : j = k
      · simp only [if_pos e2]
        subst e2
        have h2 := (h.done i (by omega)).2.2.2.2 b hl
        intro hl'
        have h1 := hx b hl'
        omega
      · simp only [if_neg e2]
        exact h.apart i j (by omega) (by omega) hij b hl
/-- All of them are. -/
theorem OwMem.whole {w V : World} {xa : Option Addr} {pl : Nat} {ps : List Pc} {gf fl : Nat} {B1 B2 : List Value} {n : Frs} {A : Nat → Option Addr} {C : Nat → Nat} (h : OwMem w xa pl ps gf fl B1 B2 n fl A C V) (hl : n.length = fl) (hm : fl ≤ 2000000) (hf : ∀ i, i < fl → I64 (frAt n i).1) :
    FrsOwn (fun b => gf ≤ b ∧ b < V.heap.size) V (some ⟨gf, 0, none⟩) fl n A C := by
  have hlow := h.low
  refine ⟨hl, hm, fun _ => ⟨gf, 0, rfl⟩, fun b o e i hi => ?_, fun b o e i hi => ?_, fun b hb => ?_, fun i hi => ⟨(h.done i hi).2.1, (h.done i hi).2.2.1⟩, fun i hi b hb => ?_, fun i j hi hj hij => h.apart i j hi hj hij, hf, fun i hi => (h.done i hi).2.2.2.1⟩
  · cases e
    rw [Nat.zero_add]
    exact ⟨(h.cell i hi).1, (h.done i hi).1⟩
  · cases e
    rw [Nat.zero_add]
    have hc := h.cell (i / 2) (by omega)
    by_cases hp : i % 2 = 0
    · have := hc.2.1; rwa [show i / 2 * 2 = i by omega] at this
    · have := hc.2.2; rwa [show i / 2 * 2 + 1 = i by omega] at this
  · obtain ⟨_, o, e⟩ := hb
    cases e
    exact ⟨Nat.le_refl _, hlow.2⟩
  · have := (h.done i hi).2.2.2.2 b hb
    exact ⟨⟨by omega, this.2⟩, fun hl' => by obtain ⟨_, o, e⟩ := hl'; injection e with e; injection e with e; omega⟩
theorem keptw7 (W : World) (g : Nat) (v0 v1 v2 v3 v4 v5 v6 : Value) : Kept (fun b => b = g) W ((((((((W).setCell ⟨g, 0, none⟩ v0).setCell ⟨g, 1, none⟩ v1).setCell ⟨g, 2, none⟩ v2).setCell ⟨g, 3, none⟩ v3).setCell ⟨g, 4, none⟩ v4).setCell ⟨g, 5, none⟩ v5).setCell ⟨g, 6, none⟩ v6) :=
  ((((((kept_set (S := fun b => b = g) _ g 0 v0 rfl).trans (kept_set (S := fun b => b = g) _ g 1 v1 rfl)).trans (kept_set (S := fun b => b = g) _ g 2 v2 rfl)).trans (kept_set (S := fun b => b = g) _ g 3 v3 rfl)).trans (kept_set (S := fun b => b = g) _ g 4 v4 rfl)).trans (kept_set (S := fun b => b = g) _ g 5 v5 rfl)).trans (kept_set (S := fun b => b = g) _ g 6 v6 rfl)

/-- What a Rcv with lists of its own is. -/
def RcvOwned (w : World) (rd : Int) (pl : Nat) (ps : List Pc) (ed sz cp en : Int) (n : Frs) (e : Ending) (w' : World) : Prop :=
  ∃ xa xc gf cf A C, e = .returned (rcvV rd xa pl xc ed sz cp en (some ⟨gf, 0, none⟩) n.length cf) ∧ PcsOwn (fun b => w.heap.size ≤ b ∧ b < gf) w' xa pl ps ∧ FrsOwn (fun b => gf ≤ b ∧ b < w'.heap.size) w' (some ⟨gf, 0, none⟩) n.length n A C ∧ w.heap.size ≤ gf ∧ Below w.heap.size w w'
set_option maxHeartbeats 4000000 in
set_option maxRecDepth 100000 in
theorem ownR_calls {S : Nat → Prop} {rd ed sz cp en : Int} {pa fa : Option Addr} {pl pc fl fc : Nat} {ps : List Pc} {n : Frs} {w : World} (hp : InPcs w pa pl ps) (hf : InFrs S w fa fl n) (h0 : 0 < fl) :
    Calls Tryz.prog 127 #[rcvV rd pa pl pc ed sz cp en fa fl fc] w (RcvOwned w rd pl ps ed sz cp en n) := by
  have hfl := hf.long
  have hm := hf.most
  have HFIT := Lib.hid hf.fit
  have HFL := Lib.hid hfl
  obtain ⟨xs, hxs, hcr⟩ := hf.cells
  have H1 := Lib.hid (fun (W : World) (hb : Below w.heap.size w W) => clonePs_calls (cap := pc) (hp.below hb))
  have H2 := Lib.hid (fun (W : World) (hb : Below w.heap.size w W) => cloneFr_calls (cap := fc) (hcr.below hb) h0)
  have HXS := Lib.hid hxs
  unfold rcvV at *
  clear hp hf hxs hcr
  go_enter Tryz.func127, Tryz.ntmps127
  go_wp2_with fail
  have n3 := box_two w [.int .i64 rd, .slice pa pl pc, .int .i64 ed, .int .i64 sz, .int .i64 cp, .int .i64 en, .slice fa fl fc] [.int .i64 0, .slice none 0 0, .int .i64 0, .int .i64 0, .int .i64 0, .int .i64 0, .slice none 0 0] 26 26 (by simp) (by simp)
  dsimp only at n3
  generalize (w.alloc (.cells #[.int .i64 rd, .slice pa pl pc, .int .i64 ed, .int .i64 sz, .int .i64 cp, .int .i64 en, .slice fa fl fc] 26)).alloc (.cells #[.int .i64 0, .slice none 0 0, .int .i64 0, .int .i64 0, .int .i64 0, .int .i64 0, .slice none 0 0] 26) = W at *
  obtain ⟨n1, n2, hs, hb0⟩ := n3
  obtain ⟨c0, c1, c2, c3, c4, c5, c6⟩ := n1.seven
  (with_reducible refine (H1.out _ hb0).mono ?_); rintro e w1 ⟨xa, xc, rfl, hpo, hb1⟩
  have N1 := Lib.hid (n1.below hb1)
  have N2 := Lib.hid (n2.below hb1)
  have HB1 := Lib.hid (hb0.trans (hb1.mono hb0.size))
  have HPO := Lib.hid hpo
  have hs1 : w.heap.size + 2 ≤ w1.heap.size := by have := hb1.size; omega
  clear n1 n2 hb0 hb1 c0 c1 c2 c3 c4 c5 c6 H1 hpo
  obtain ⟨c0, c1, c2, c3, c4, c5, c6⟩ := N1.out.seven
  obtain ⟨z0, z1, z2, z3, z4, z5, z6⟩ := N1.out.frz7
  have m1 := N1.out.set 1 (.slice xa pl xc)
  have m2 := N2.out.other (p := ⟨w.heap.size, 1, none⟩) (by dsimp only; omega) (.slice xa pl xc)
  have mp := HPO.out.kept (kept_set (S := fun b => b = w.heap.size) w1 w.heap.size 1 (.slice xa pl xc) rfl) (fun b e e' => by omega)
  have mb := HB1.out.setCell (p := ⟨w.heap.size, 1, none⟩) (Nat.le_refl _) (.slice xa pl xc)
  have ms : (w1.setCell ⟨w.heap.size, 1, none⟩ (.slice xa pl xc)).heap.size = w1.heap.size := by simp
  dsimp only [List.set_cons_zero, List.set_cons_succ] at m1
  have M1 := Lib.hid m1
  have M2 := Lib.hid m2
  have MP := Lib.hid mp
  have MB := Lib.hid mb
  clear m1 m2 mp mb HPO HB1 N1 N2
  go_wp2_with fail
  generalize w1.setCell ⟨w.heap.size, 1, none⟩ (.slice xa pl xc) = V1 at *
  clear c0 c1 c2 c3 c4 c5 c6 z0 z1 z2 z3 z4 z5 z6
  obtain ⟨c0, c1, c2, c3, c4, c5, c6⟩ := M1.out.seven
  obtain ⟨z0, z1, z2, z3, z4, z5, z6⟩ := M1.out.frz7
  (with_reducible refine (H2.out _ MB.out).mono ?_); rintro e w2 ⟨gf, cf, rfl, hfo, hb2⟩
  obtain ⟨hg1, hg2⟩ := hfo.lt gf rfl
  have hs2 := hb2.size
  have k1 := (M1.out.below hb2).set 6 (.slice (some ⟨gf, 0, none⟩) fl cf)
  have k2 := (M2.out.below hb2).other (p := ⟨w.heap.size, 6, none⟩) (by dsimp only; omega) (.slice (some ⟨gf, 0, none⟩) fl cf)
  dsimp only [List.set_cons_zero, List.set_cons_succ] at k1
  have hkk := kept_set (S := fun b => b = w.heap.size) w2 w.heap.size 6 (.slice (some ⟨gf, 0, none⟩) fl cf) rfl
  have hfk := own_kept hfo hkk (fun b e e' => by have e := Option.some.inj e; dsimp only at e; omega)
  have hM : OwMem w xa pl ps gf fl [.int .i64 rd, .slice xa pl xc, .int .i64 ed, .int .i64 sz, .int .i64 cp, .int .i64 en, .slice (some ⟨gf, 0, none⟩) fl cf] [.int .i64 0, .slice none 0 0, .int .i64 0, .int .i64 0, .int .i64 0, .int .i64 0, .slice none 0 0] n 0 (fun _ => none) (fun _ => 0) (w2.setCell ⟨w.heap.size, 6, none⟩ (.slice (some ⟨gf, 0, none⟩) fl cf)) :=
    ⟨⟨by omega, by simpa using hg2⟩, (MB.out.trans (hb2.mono MB.out.size)).setCell (Nat.le_refl _) _, k1, k2, ((MP.out.below hb2).kept hkk (fun b e e' => by omega)).mono (fun b e => by omega),
      fun i hi => ⟨(hfk.cellAt (i * 2) (by omega)).trans (HXS.out.2 i hi).choose_spec.choose_spec.1, hfk.frozenAt _, hfk.frozenAt _⟩, fun i hi => by omega,
      fun i _ hi => by
        obtain ⟨x, cx, e0, e1, l1, _⟩ := HXS.out.2 i hi
        exact ⟨x, cx, (hfk.cellAt (i * 2 + 1) (by omega)).trans e1, l1⟩, fun i j hi => by omega⟩
  have HM := Lib.hid hM
  have c6' := ((M1.out.below hb2).seven).2.2.2.2.2.2
  have z6' := ((M1.out.below hb2).frz7).2.2.2.2.2.2
  clear c0 c1 c2 c3 c4 c5 c6 z0 z1 z2 z3 z4 z5 z6 k1 k2 hkk hfk hM hfo hb2 M1 M2 MP MB H2 HXS
  have d6 := (HM.out.one.seven).2.2.2.2.2.2
  go_wp2_with fail
  generalize w2.setCell ⟨w.heap.size, 6, none⟩ (.slice (some ⟨gf, 0, none⟩) fl cf) = Y at *
  clear d6 c6' z6' hg1 hg2 hs2
  go_loopw [15] (fun i wr => ∃ (k : Nat) (A : Nat → Option Addr) (C : Nat → Nat), i = .int .i64 (k : Int) ∧ k ≤ fl ∧ OwMem w xa pl ps gf fl [.int .i64 rd, .slice xa pl xc, .int .i64 ed, .int .i64 sz, .int .i64 cp, .int .i64 en, .slice (some ⟨gf, 0, none⟩) fl cf] [.int .i64 0, .slice none 0 0, .int .i64 0, .int .i64 0, .int .i64 0, .int .i64 0, .slice none 0 0] n k A C wr) (fun i _ => fl - (intOf i).toNat)
  case atStart => exact ⟨0, _, _, rfl, Nat.zero_le _, HM.out⟩
  case round =>
    clear HM
    obtain ⟨k, A, C, rfl, hk, hmm⟩ := hrel
    by_cases hkl : k < fl
    · obtain ⟨x, cx, t1, tl⟩ := hmm.todo k (Nat.le_refl _) hkl
      obtain ⟨t0, y0, y1⟩ := hmm.cell k hkl
      have q6 := (hmm.one.seven).2.2.2.2.2.2
      have hlow := hmm.low
      have HMM := Lib.hid hmm
      have HTL := Lib.hid (fun (V : World) (hb : Below w.heap.size w V) => tl.below hb)
      have hx1 : (0 : Int) ≤ (k : Int) := by omega
      have h1 : (k : Int) < (fl : Int) := by omega
      clear hmm tl
      go_wp2_with fail
      refine wp_region_held_drew (S := (fun V => V.cell? ⟨w.heap.size, 6, none⟩ = some (.slice (some ⟨gf, 0, none⟩) fl cf))) (by kernel_rfl) (q6) (fun hHeld => ?_)
      refine wpAnyH_take (i := 0) (oi := _) (v := ?v1x0) rfl (by kernel_rfl) (by kernel_rfl) (by kernel_rfl) (fun _ _ _ h => h) (Or.inl ⟨by kernel_rfl, ?hy1x0⟩) (by with_reducible assumption) ?rest1x0
      case hy1x0 => (intro w hSw; (try dsimp only at hSw); go_simp; (try with_reducible rfl))
      (try simp only [Act.put, List.getElem_toArray, List.getElem_cons_zero, List.setIfInBounds_toArray, List.set_cons_succ, List.set_cons_zero])
      refine wpAnyH_take (i := 1) (oi := _) (v := ?v1x1) rfl (by kernel_rfl) (by kernel_rfl) (by kernel_rfl) (fun _ _ _ h => h) (Or.inl ⟨by kernel_rfl, ?hy1x1⟩) (by with_reducible assumption) ?rest1x1
      case hy1x1 => (intro w hSw; (try dsimp only at hSw); go_simp; (try with_reducible rfl))
      (try simp only [Act.put, List.getElem_toArray, List.getElem_cons_succ, List.getElem_cons_zero, List.setIfInBounds_toArray, List.set_cons_succ, List.set_cons_zero])
      refine wpAnyH_take (i := 2) (oi := _) (v := ?v1x2) rfl (by kernel_rfl) (by kernel_rfl) (by kernel_rfl) (fun _ _ _ h => h) (Or.inl ⟨by kernel_rfl, ?hy1x2⟩) (by with_reducible assumption) ?rest1x2
      case hy1x2 => (intro w hSw; (try dsimp only at hSw); go_simp; (try with_reducible rfl))
      (try simp only [Act.put, List.getElem_toArray, List.getElem_cons_succ, List.getElem_cons_zero, List.setIfInBounds_toArray, List.set_cons_succ, List.set_cons_zero])
      refine wpAnyH_take (i := 3) (oi := _) (v := ?v1x3) rfl (by kernel_rfl) (by kernel_rfl) (by kernel_rfl) (fun _ _ _ h => h) (Or.inl ⟨by kernel_rfl, ?hy1x3⟩) (by with_reducible assumption) ?rest1x3
      case hy1x3 => (intro w hSw; (try dsimp only at hSw); go_simp; (try with_reducible rfl))
      (try simp only [Act.put, List.getElem_toArray, List.getElem_cons_succ, List.getElem_cons_zero, List.setIfInBounds_toArray, List.set_cons_succ, List.set_cons_zero])
      refine wpAnyH_take (i := 4) (oi := _) (v := ?v1x4) rfl (by kernel_rfl) (by kernel_rfl) (by kernel_rfl) (fun _ _ _ h => h) (Or.inl ⟨by kernel_rfl, ?hy1x4⟩) (by with_reducible assumption) ?rest1x4
      case hy1x4 => (intro w hSw; (try dsimp only at hSw); go_simp; (try with_reducible rfl))
      (try simp only [Act.put, List.getElem_toArray, List.getElem_cons_succ, List.getElem_cons_zero, List.setIfInBounds_toArray, List.set_cons_succ, List.set_cons_zero])
      refine wpAnyH_take (i := 5) (oi := _) (v := ?v1x5) rfl (by kernel_rfl) (by kernel_rfl) (by kernel_rfl) (fun _ _ _ h => h) (Or.inl ⟨by kernel_rfl, ?hy1x5⟩) (by with_reducible assumption) ?rest1x5
      case hy1x5 => (intro w hSw; (try dsimp only at hSw); go_simp; (try with_reducible rfl))
      (try simp only [Act.put, List.getElem_toArray, List.getElem_cons_succ, List.getElem_cons_zero, List.setIfInBounds_toArray, List.set_cons_succ, List.set_cons_zero])
      refine wpAnyH_take (i := 6) (oi := _) (v := ?v1x6) rfl (by kernel_rfl) (by kernel_rfl) (by kernel_rfl) (fun _ _ _ h => h) (Or.inl ⟨by kernel_rfl, ?hy1x6⟩) (by with_reducible assumption) ?rest1x6
      case hy1x6 => (intro w hSw; (try dsimp only at hSw); go_simp; (try with_reducible rfl))
      (try simp only [Act.put, List.getElem_toArray, List.getElem_cons_succ, List.getElem_cons_zero, List.setIfInBounds_toArray, List.set_cons_succ, List.set_cons_zero])
      refine wpAnyH_take (i := 7) (oi := _) (v := ?v1x7) rfl (by kernel_rfl) (by kernel_rfl) (by kernel_rfl) (fun _ _ _ h => h) (Or.inl ⟨by kernel_rfl, ?hy1x7⟩) (by with_reducible assumption) ?rest1x7
      case hy1x7 => (intro w hSw; (try dsimp only at hSw); go_simp; (try with_reducible rfl))
      (try simp only [Act.put, List.getElem_toArray, List.getElem_cons_succ, List.getElem_cons_zero, List.setIfInBounds_toArray, List.set_cons_succ, List.set_cons_zero])
      refine wpAnyH_ready (rs := [8]) (by kernel_rfl) (by simp) (AllReadyH.cons (o := _) rfl (fun K hK => ?c1x8) AllReadyH.nil)
      go_simp
      refine hK.out _ _ hHeld (fun hHeld2 => ?_)
      clear hHeld
      have hHeld := hHeld2
      clear hK K hHeld2
      (try simp only [Act.put, List.getElem_toArray, List.getElem_cons_succ, List.getElem_cons_zero, List.setIfInBounds_toArray, List.set_cons_succ, List.set_cons_zero])
      refine wpAnyH_ready (rs := [9]) (by kernel_rfl) (by simp) (AllReadyH.cons (o := _) rfl (fun K hK => ?c1x9) AllReadyH.nil)
      go_simp
      have hmd := HMM.out.next ((Below.refl wr.heap.size wr).drew)
      (with_reducible refine (clone_calls (cap := cx) (HTL.out _ hmd.below)).mono ?_); rintro e w9 ⟨x2, c2, rfl, i2, f2, b2, hc2, hb9⟩
      have hput := hmd.put hb9 hkl i2 f2 b2 hc2
      clear hmd
      have y1 := (hb9.frozen (p := ⟨gf, k * 2 + 1, none⟩) hlow.2).trans y1
      have t1 := (hb9.cell (p := ⟨gf, k * 2 + 1, none⟩) hlow.2).trans t1
      have hh9 := (hb9.cell (World.block_lt_of_cell? _ _ q6)).trans q6
      have HPUT := Lib.hid hput
      clear i2 f2 b2 hc2 hb9 hput HMM
      go_simp
      refine hK.out _ _ (hh9) (fun hHeld2 => ?_)
      clear hHeld
      have hHeld := hHeld2
      clear hK K hHeld2
      (try simp only [Act.put, List.getElem_toArray, List.getElem_cons_succ, List.getElem_cons_zero, List.setIfInBounds_toArray, List.set_cons_succ, List.set_cons_zero])
      refine wpAnyH_take (i := 10) (oi := _) (v := ?v1x10) rfl (by kernel_rfl) (by kernel_rfl) (by kernel_rfl) (fun _ _ _ h => h) (Or.inl ⟨by kernel_rfl, ?hy1x10⟩) (by with_reducible assumption) ?rest1x10
      case hy1x10 => (intro w hSw; (try dsimp only at hSw); go_simp; (try with_reducible rfl))
      (try simp only [Act.put, List.getElem_toArray, List.getElem_cons_succ, List.getElem_cons_zero, List.setIfInBounds_toArray, List.set_cons_succ, List.set_cons_zero])
      refine wpAnyH_take (i := 11) (oi := _) (v := ?v1x11) rfl (by kernel_rfl) (by kernel_rfl) (by kernel_rfl) (fun _ _ _ h => h) (Or.inl ⟨by kernel_rfl, ?hy1x11⟩) (by with_reducible assumption) ?rest1x11
      case hy1x11 => (intro w hSw; (try dsimp only at hSw); go_simp; (try with_reducible rfl))
      (try simp only [Act.put, List.getElem_toArray, List.getElem_cons_succ, List.getElem_cons_zero, List.setIfInBounds_toArray, List.set_cons_succ, List.set_cons_zero])
      refine wpAnyH_ready (rs := [12]) (by kernel_rfl) (by simp) (AllReadyH.cons (o := _) rfl (fun K hK => ?c1x12) AllReadyH.nil)
      go_simp
      refine hK.out _ _ ((World.cell?_setCell_other _ _ _ _ (fun e => by injection e; omega)).trans hHeld) (fun _ => ?_)
      clear hK K hHeld
      (try simp only [Act.put, List.getElem_toArray, List.getElem_cons_succ, List.getElem_cons_zero, List.setIfInBounds_toArray, List.set_cons_succ, List.set_cons_zero])
      refine wpAnyH_done (by kernel_rfl) ?_ _
      go_wp2_with fail
      go_roundw
      case rel => exact ⟨k + 1, _, _, by go_num, by omega, HPUT.out⟩
      case measure => simp [intOf]; omega
    · have hkl' : k = fl := by omega
      subst hkl'
      have HMM := Lib.hid hmm
      obtain ⟨d0, d1, d2, d3, d4, d5, d6⟩ := hmm.one.seven
      obtain ⟨y0, y1, y2, y3, y4, y5, y6⟩ := hmm.two.seven
      obtain ⟨z0, z1, z2, z3, z4, z5, z6⟩ := hmm.two.frz7
      have hlow := hmm.low
      have hfo := hmm.whole hfl hm HFIT.out
      have HFO := Lib.hid hfo
      clear hmm hfo HFIT
      go_wp2_with fail
      refine bodyPost_ret (v := rcvV rd xa pl xc ed sz cp en (some ⟨gf, 0, none⟩) k cf) (by simp [rcvV, results, Tryz.results127, go_sem, *]) rfl ?_
      have hK := keptw7 wr (w.heap.size + 1) (.int .i64 rd) (.slice xa pl xc) (.int .i64 ed) (.int .i64 sz) (.int .i64 cp) (.int .i64 en) (.slice (some ⟨gf, 0, none⟩) k cf)
      refine ⟨xa, xc, gf, cf, A, C, by rw [HFL.out], (HMM.out.pcs.kept hK (fun b e e' => by omega)).mono (fun b e => by omega), ?_, by omega, HMM.out.below.trans (hK.toBelow HMM.out.below.size (fun b hb e => by omega))⟩
      rw [HFL.out]
      exact (HFO.out.kept hK (fun b e e' => by omega)).mono (fun b e => ⟨e.1, Nat.lt_of_lt_of_le e.2 hK.size⟩)
end Go.Proofs.YtdcahilfmhkmiaaGreatDoor
