/- Rows of pieces of a call's own: that they may be written, what an answer's row is, and their marks. -/
import Derived.Test.YtnfnghcajhmnpaaPieceOut
import Derived.Test.YtnfnghcajhmnpaaPutI
namespace Go.Proofs.Ytnfnghcajhmnpaa
open Go.RowKit

theorem open_own {w : World} {B g len cap : Nat} {e : TypeId} {xs : List Value} (h : w.ownsRow B e 2 (.slice (some ⟨g, 0, none⟩) len cap) len xs) : Open w g 0 len := by
  have hl : xs.length = len * 2 := h.1
  refine ⟨fun i hi => ?_, fun i hi => ?_⟩
  · rw [Nat.zero_add]
    exact ⟨_, (h.cellAt i hi).trans (List.getElem?_eq_getElem (by omega))⟩
  · rw [Nat.zero_add]; exact h.frozenAt i
theorem own_lt {w : World} {B g n cap : Nat} {e : TypeId} {size : Nat} {xs : List Value} (h : w.ownsRow B e size (.slice (some ⟨g, 0, none⟩) n cap) n xs) : B ≤ g ∧ g < w.heap.size := by
  rcases h.2 with ⟨h, _⟩ | ⟨g', c', cur, he, hb, hh, _⟩
  · cases h
  · injection he with he1 he2 he3
    injection he1 with he1
    injection he1 with he1
    subst he1
    exact ⟨hb, (Array.getElem?_eq_some_iff.1 hh).1⟩

set_option maxHeartbeats 1000000 in
set_option maxRecDepth 100000 in
theorem toPieceS_own {a : Option Addr} {len cap : Nat} {l : List Pc} {w : World} (h : InPcs w a len l) :
    Calls Try.prog 12 #[.slice a len cap] w fun e w' => ∃ g, e = .returned (.slice (some ⟨g, 0, none⟩) len len) ∧ w.heap.size ≤ g ∧ InPcs w' (some ⟨g, 0, none⟩) len l ∧ Below w.heap.size w w' ∧ Open w' g 0 len ∧ g < w'.heap.size := by
  have hm := h.most
  have hlen := h.long
  have hzz : (Try.prog.info? 51).map (fun i => (i.zero, i.size, i.bytes)) = some (some (.agg #[.int .i64 0, gs []]), 2, 24) := by kernel_rfl
  cases hi : Try.prog.info? 51 with
  | none => rw [hi] at hzz; cases hzz
  | some i =>
    rw [hi] at hzz
    simp at hzz
    have hmk := run_make_pieces (P := Try.prog) Try.underlying25 hi hzz.1 hzz.2.1 hzz.2.2 len (len : Int) rfl (by omega) w
    clear hzz hi
    have ho := World.ownsRow_lit (size := 2) (base := w.heap.size) (e := 51) w (madeCells #[.int .i64 0, gs []] (len * 2)) len (Nat.le_refl _) (by simp [maxLen]; omega) (size_madeCells _ _)
    generalize hg : w.heap.size = g at ho hmk
    have hbw : Below w.heap.size w (w.alloc (.cells (madeCells #[.int .i64 0, gs []] (len * 2)) 51)) := (Below.refl _ _).alloc (Nat.le_refl _) _
    have hlt : g < (w.alloc (.cells (madeCells #[.int .i64 0, gs []] (len * 2)) 51)).heap.size := by simp; omega
    generalize w.alloc (.cells (madeCells #[.int .i64 0, gs []] (len * 2)) 51) = w1 at *
    generalize (madeCells #[.int .i64 0, gs []] (len * 2)).toList = xs at *
    go_enter Try.func12, Try.ntmps12
    go_wp2_with fail
    go_loopw [4] (fun i wr => ∃ (k : Nat) (xs : List Value), i = .int .i64 (k : Int) ∧ k ≤ len ∧ wr.ownsRow g 51 2 (.slice (some ⟨g, 0, none⟩) len len) len xs ∧ PcTo xs l k ∧ Below g w wr) (fun i _ => len - (intOf i).toNat)
    case atStart => exact ⟨0, xs, rfl, Nat.zero_le _, ho, pcTo_zero _ _, hg ▸ hbw⟩
    case round =>
      obtain ⟨k, xs, rfl, hk, ho, hto, hbl⟩ := hrel
      subst hg
      by_cases hkl : k < len
      · have hh := h.below hbl
        obtain ⟨b, o, rfl⟩ := hh.there (by omega)
        obtain ⟨c0, c1⟩ := hh.cell b o rfl k hkl
        have hx : xs.length = len * 2 := ho.1
        have hs := pcTo_succ hto (by omega : k * 2 + 1 < xs.length)
        have hcall := toPiece_calls (pcAt l k)
        generalize pcAt l k = p at *
        obtain ⟨at0, t⟩ := p
        dsimp only at c0 c1 hs
        have HC := Lib.hid hcall
        have HO := Lib.hid ho
        have HT := Lib.hid hs
        have HBL := Lib.hid hbl
        have HX := Lib.hid hx
        clear hh h hcall ho hto hs hbl hbw hx hmk hlt
        go_wp2_with (go_at_call 36; refine (HC.out _).mono ?_; rintro e w2 ⟨rfl, hb2⟩
                     have ho2 := ownsRow_below HO.out hb2
                     obtain ⟨v0, hv0⟩ : ∃ v, xs[k * 2]? = some v := ⟨_, List.getElem?_eq_getElem (by have := HX.out; omega)⟩
                     obtain ⟨v1, hv1⟩ : ∃ v, xs[k * 2 + 1]? = some v := ⟨_, List.getElem?_eq_getElem (by have := HX.out; omega)⟩
                     have e0 := (ho2.cellAt (k * 2) (by omega)).trans hv0
                     have z0 := ho2.frozenAt (k * 2)
                     have ho3 := (ho2.stored (k * 2) (.int .i64 at0)).1
                     have e1 := (ho3.cellAt (k * 2 + 1) (by omega)).trans ((List.getElem?_set_ne (by omega)).trans hv1)
                     have z1 := ho3.frozenAt (k * 2 + 1)
                     have HO3 := Lib.hid ho3
                     have HB2 := Lib.hid hb2
                     clear hv0 hv1 ho2 ho3 hb2)
        exact ⟨⟨k + 1, _, by go_num, by omega, (HO3.out.stored (k * 2 + 1) (gs t)).1, HT.out, ((HBL.out.trans (HB2.out.mono HBL.out.size)).setCell (by simp) _).setCell (by simp) _⟩, by simp [intOf]; omega⟩
      · have hkl' : k = len := by omega
        subst hkl'
        have hin := inPcs_own ho hto hlen hm h.fit
        have hop := open_own ho
        have hgl := (own_lt ho).2
        clear hmk ho hto h
        go_wp2_with fail
        go_ret
        exact ⟨_, rfl, Nat.le_refl _, hin, hbl, hop, hgl⟩

theorem InPcs.grown {w w' : World} {a : Option Addr} {len : Nat} {l : List Pc} (h : InPcs w a len l) {g : Nat} (hg : w.grownBy w' (some g)) (hne : ∀ b o, a = some ⟨b, o, none⟩ → b ≠ g) : InPcs w' a len l := by
  refine ⟨h.long, h.most, h.there, fun b o hb i hi => ?_, h.fit⟩
  obtain ⟨c0, c1⟩ := h.cell b o hb i hi
  have hb' := hg.block b (World.block_lt_of_cell? w _ c0) (fun e => hne b o hb (Option.some.inj e))
  exact ⟨(World.cell?_of_block (a := ⟨b, o + i * 2, none⟩) hb').trans c0, (World.cell?_of_block (a := ⟨b, o + i * 2 + 1, none⟩) hb').trans c1⟩
theorem mGo_len : ∀ (f k : Nat) (l : List UInt8), (mGo f k l).length ≤ f + l.length
  | 0, _, l => by simp [mGo]
  | f + 1, k, l => by
    unfold mGo
    split
    · omega
    · have := mGo_len f (k / 10) (UInt8.ofNat (48 + k % 10) :: l); rw [List.length_cons] at this; omega
theorem mText_len (k : Nat) : (mText k).length ≤ 21 := by
  unfold mText
  split
  · simp
  · have := mGo_len 20 k []; simp at this ⊢; omega
theorem marked_in {w : World} {g o k len : Nat} (h : Marked w g o k len) (hm : len ≤ 2000000) (hk : k ≤ 100000000) : InPcs w (some ⟨g, o, none⟩) len (marks k len) := by
  refine ⟨by simp [marks], hm, fun _ => ⟨g, o, rfl⟩, fun b o' hb i hi => ?_, fun i hi => ?_⟩
  · cases hb; rw [marks_at hi]; exact h i hi
  · rw [marks_at hi]
    have := mText_len (k + 2 * i + 1)
    refine ⟨?_, ?_, ?_⟩ <;> dsimp only <;> omega
/-- An answer's row: nil, or in a block of its own. -/
structure Row (w : World) (B : Nat) (a : Option Addr) (len : Nat) (l : List Pc) : Prop where
  in' : InPcs w a len l
  open' : ∀ b o, a = some ⟨b, o, none⟩ → Open w b o len
  own : ∀ b o, a = some ⟨b, o, none⟩ → B ≤ b ∧ b < w.heap.size
  shape : a = none ∨ ∃ b o, a = some ⟨b, o, none⟩
theorem Row.below {w w' : World} {B : Nat} {a : Option Addr} {len : Nat} {l : List Pc} (h : Row w B a len l) (hb : Below w.heap.size w w') : Row w' B a len l :=
  ⟨h.in'.below hb, fun b o e => (h.open' b o e).below hb, fun b o e => ⟨(h.own b o e).1, Nat.lt_of_lt_of_le (h.own b o e).2 hb.size⟩, h.shape⟩
theorem open_grown {w w' : World} {g o len x : Nat} (h : Open w g o len) (hg : w.grownBy w' (some x)) (hne : g ≠ x) : Open w' g o len := by
  refine ⟨fun i hi => ?_, fun i hi => ?_⟩
  · obtain ⟨v, hv⟩ := h.there i hi
    have hb := hg.block g (World.block_lt_of_cell? w _ hv) (fun e => hne (Option.some.inj e))
    exact ⟨v, (World.cell?_of_block (a := ⟨g, o + i, none⟩) hb).trans hv⟩
  · obtain ⟨v, hv⟩ := h.there i hi
    have hb := hg.block g (World.block_lt_of_cell? w _ hv) (fun e => hne (Option.some.inj e))
    exact (World.frozen?_of_block (a := ⟨g, o + i, none⟩) hb).trans (h.free i hi)
theorem Row.grown {w w' : World} {B g : Nat} {a : Option Addr} {len : Nat} {l : List Pc} (h : Row w B a len l) (hg : w.grownBy w' (some g)) (hne : ∀ b o, a = some ⟨b, o, none⟩ → b ≠ g) : Row w' B a len l :=
  ⟨h.in'.grown hg hne, fun b o e => open_grown (h.open' b o e) hg (hne b o e), fun b o e => ⟨(h.own b o e).1, Nat.lt_of_lt_of_le (h.own b o e).2 hg.size⟩, h.shape⟩
theorem row_own {w : World} {B : Nat} {v : Value} {L : List Pc} (ho : w.ownsRow B 51 2 v L.length (pv L)) (hm : L.length ≤ 2000000) (hf : ∀ p ∈ L, -9223372036854775808 ≤ p.1 ∧ p.1 ≤ 9223372036854775807 ∧ p.2.length ≤ 2000000) :
    ∃ a c, v = .slice a L.length c ∧ Row w B a L.length L := by
  obtain ⟨a, c, rfl, hin⟩ := inPcs_row ho hm hf
  refine ⟨a, c, rfl, hin, fun b o e => ?_, fun b o e => ?_, ?_⟩
  · subst e
    rcases ho.2 with ⟨h, _⟩ | ⟨g', c', cur, he, hb, hh, _⟩
    · cases h
    · injection he with he1 he2 he3
      injection he1 with he1
      injection he1 with h1 h2
      subst h1 h2
      exact open_own ho
  · subst e
    rcases ho.2 with ⟨h, _⟩ | ⟨g', c', cur, he, hb, hh, _⟩
    · cases h
    · injection he with he1 he2 he3
      injection he1 with he1
      injection he1 with h1 h2
      subst h1 h2
      exact ⟨hb, (Array.getElem?_eq_some_iff.1 hh).1⟩
  · rcases ho.2 with ⟨h, _⟩ | ⟨g', c', cur, he, _⟩
    · injection h with h1; exact .inl h1
    · injection he with he1; exact .inr ⟨_, _, he1⟩
/-- What an answer is. -/
theorem outRow_row {w w' : World} {r : List Pc × Int} {e : Ending} (h : OutRow w r e w') (hm : r.1.length ≤ 2000000) (hf : ∀ p ∈ r.1, -9223372036854775808 ≤ p.1 ∧ p.1 ≤ 9223372036854775807 ∧ p.2.length ≤ 2000000) :
    ∃ a c, e = .returned (outv a r.1.length c r.2) ∧ Row w' w.heap.size a r.1.length r.1 ∧ Below w.heap.size w w' := by
  obtain ⟨v, rfl, ho, hb⟩ := h
  obtain ⟨a, c, rfl, hr⟩ := row_own ho hm hf
  exact ⟨a, c, rfl, hr, hb⟩
theorem markNil_calls {k cap : Nat} {w : World} :
    Calls Try.prog 18 #[.slice none 0 cap, .int .i64 (k : Int)] w fun e w' => e = .returned (.int .i64 (k : Int)) ∧ Below w.heap.size w w' := by
  go_enter Try.func18, Try.ntmps18
  go_wp2_with fail
  go_loopw [1, 5] (fun v i wr => i = .int .i64 ((0 : Nat) : Int) ∧ v = .int .i64 (k : Int) ∧ Below w.heap.size w wr) (fun _ _ _ => 0)
  case atStart => exact ⟨rfl, rfl, Below.refl _ _⟩
  case round =>
    obtain ⟨rfl, rfl, hb⟩ := hrel
    go_wp2_with fail
    go_ret
    exact ⟨rfl, hb⟩
theorem InPcs.nil {w : World} {a : Option Addr} : InPcs w a 0 [] := ⟨rfl, by omega, (fun h => by omega), (fun _ _ _ i hi => by omega), (fun i hi => by omega)⟩
theorem cutN_mem : ∀ (l : List Pc) (n : Int) (q : Pc), q ∈ cutN l n → q ∈ l ∨ (q.1 = n ∧ ∃ p ∈ l, q.2.length ≤ p.2.length)
  | [], _, _, h => by cases h
  | p :: l, n, q, h => by
    rw [cutN_cons] at h
    have ih := cutN_mem l n q
    have lift : (q ∈ l ∨ (q.1 = n ∧ ∃ p ∈ l, q.2.length ≤ p.2.length)) → q ∈ p :: l ∨ (q.1 = n ∧ ∃ p' ∈ p :: l, q.2.length ≤ p'.2.length) := fun h => by
      rcases h with h | ⟨h, p', hp', hl⟩
      · exact .inl (List.mem_cons_of_mem _ h)
      · exact .inr ⟨h, p', List.mem_cons_of_mem _ hp', hl⟩
    split at h
    · rcases List.mem_cons.1 h with rfl | h
      · exact .inl (by simp)
      · exact lift (ih h)
    · split at h
      · rcases List.mem_cons.1 h with rfl | h
        · exact .inr ⟨rfl, p, by simp, by simp⟩
        · exact lift (ih h)
      · exact lift (ih h)
theorem cutN_len : ∀ (l : List Pc) (n : Int), (cutN l n).length ≤ l.length
  | [], _ => Nat.le_refl _
  | p :: l, n => by
    have := cutN_len l n
    rw [cutN_cons]
    split
    · simp; omega
    · split <;> simp <;> omega
theorem cutR_len {l : List Pc} {len : Nat} (h : l.length = len) (hm : len ≤ 2000000) (n : Int) : (cutR l n).1.length ≤ 2000000 := by
  unfold cutR
  split
  · simp
  · split
    · have := cutN_len l n; dsimp only; omega
    · simp
theorem cutR_fits {l : List Pc} (hf : ∀ p ∈ l, -9223372036854775808 ≤ p.1 ∧ p.1 ≤ 9223372036854775807 ∧ p.2.length ≤ 2000000) (n : Int) (n1 : -9223372036854775808 ≤ n) (n2 : n ≤ 9223372036854775807) :
    ∀ p ∈ (cutR l n).1, -9223372036854775808 ≤ p.1 ∧ p.1 ≤ 9223372036854775807 ∧ p.2.length ≤ 2000000 := by
  unfold cutR
  split
  · intro p hp; cases hp
  · split
    · intro p hp
      rcases cutN_mem l n p hp with h | ⟨h, q, hq, hl⟩
      · exact hf p h
      · have := hf q hq; rw [h]; exact ⟨n1, n2, by omega⟩
    · intro p hp; cases hp
theorem szGo_sum : ∀ (l : List Pc) (n : Int), 0 ≤ n → 0 ≤ szGo l n → (bytesN l : Int) ≤ n
  | [], n, h, _ => by simpa [bytesN] using h
  | p :: l, n, h0, h => by
    unfold szGo at h
    split at h
    · omega
    · rename_i hp
      have ih := szGo_sum l (szOne p n) (by omega) h
      simp only [bytesN]
      unfold szOne at ih hp
      split at hp <;> split at ih <;> omega
theorem szAll_sum {l : List Pc} (h : 0 ≤ szAll l 1048576) : bytesN l ≤ 1900000 := by
  unfold szAll at h
  split at h
  · omega
  · have := szGo_sum l _ (by omega) h
    omega
theorem putR_len {l : List Pc} (n : Int) (t : List UInt8) (hs : bytesN l ≤ 1900000) : (putR l n t).1.length ≤ 2000000 ∧ ∀ p ∈ (putR l n t).1, -9223372036854775808 ≤ p.1 ∧ p.1 ≤ 9223372036854775807 ∧ p.2.length ≤ 2000000 := by
  unfold putR
  split
  · exact ⟨by simp, fun p hp => by cases hp⟩
  · split
    · exact ⟨by simp, fun p hp => by cases hp⟩
    · rename_i h
      have hr : right l := Classical.byContradiction fun hn => h (.inl hn)
      have ht : 0 ≤ n ∧ n ≤ 1000000 := Classical.byContradiction fun hn => h (.inr (.inl hn))
      have hl : t.length ≤ 200 := by
        rcases Nat.lt_or_ge 200 t.length with h' | h'
        · exact absurd (.inr (.inr h')) h
        · exact h'
      obtain ⟨a, b⟩ := putN_fits hr ht.1 ht.2 hl hs
      unfold fullR
      split
      · exact ⟨by show (putN l n t).length ≤ _; omega, b⟩
      · exact ⟨by simp, fun p hp => by cases hp⟩
theorem markNilOut_calls {k cap : Nat} {w : World} (c : Int) :
    Calls Try.prog 19 #[outv none 0 cap c, .int .i64 (k : Int)] w fun e w' => e = .returned (.int .i64 (k : Int)) ∧ Below w.heap.size w w' := by
  have hC : ∀ x, Calls Try.prog 18 #[.slice none 0 cap, .int .i64 (k : Int)] (w.alloc x) fun e w' => e = .returned (.int .i64 (k : Int)) ∧ Below w.heap.size w w' := fun x =>
    markNil_calls |>.mono (fun e w' ⟨h1, h2⟩ => ⟨h1, ((Below.refl _ _).alloc (Nat.le_refl _) x).trans (h2.mono (by simp))⟩)
  have HC := Lib.hid hC
  clear hC
  go_enter Try.func19, Try.ntmps19
  go_wp2_with (go_at_call 18; refine (HC.out _).mono ?_; rintro e w2 ⟨rfl, h1⟩)
  go_ret
  exact ⟨rfl, h1⟩
/-- An answer's pieces are marked. -/
theorem markRow_calls {w : World} {B : Nat} {a : Option Addr} {len cap k : Nat} {l : List Pc} (c : Int) (h : Row w B a len l) (hk : k ≤ 100000000) (gd : Nat) :
    Calls Try.prog 19 #[outv a len cap c, .int .i64 (k : Int)] w fun e w' => e = .returned (.int .i64 ((k + 2 * len : Nat) : Int)) ∧ InPcs w' a len (marks k len) ∧ ∃ g, w.grownBy w' (some g) ∧ (g = gd ∨ ∃ o, a = some ⟨g, o, none⟩) := by
  rcases h.shape with rfl | ⟨b, o, rfl⟩
  · have hl : len = 0 := by
      rcases Nat.eq_zero_or_pos len with h0 | h0
      · exact h0
      · obtain ⟨b, o, e⟩ := h.in'.there h0; cases e
    subst hl
    refine (markNilOut_calls c).mono ?_
    rintro e w' ⟨rfl, hb⟩
    exact ⟨by simp, InPcs.nil, gd, grown_below hb _, .inl rfl⟩
  · refine (markOut_calls c (h.open' b o rfl) h.in'.most hk).mono ?_
    rintro e w' ⟨rfl, _, hm, hg⟩
    exact ⟨rfl, marked_in hm h.in'.most hk, b, hg, .inr ⟨o, rfl⟩⟩
/-- Two answers in boxes. -/
structure Boxes (w : World) (b6 b8 : Nat) (v6 v8 : Value) (c : Int) : Prop where
  c0 : w.cell? ⟨b6, 0, none⟩ = some v6
  c1 : w.cell? ⟨b6, 1, none⟩ = some (.int .i64 c)
  d0 : w.cell? ⟨b8, 0, none⟩ = some v8
  d1 : w.cell? ⟨b8, 1, none⟩ = some (.int .i64 c)
theorem Boxes.below {w w' : World} {b6 b8 : Nat} {v6 v8 : Value} {c : Int} (h : Boxes w b6 b8 v6 v8 c) (hb : Below w.heap.size w w') : Boxes w' b6 b8 v6 v8 c :=
  have k {p : Addr} {x : Value} (h : w.cell? p = some x) : w'.cell? p = some x := (hb.cell (World.block_lt_of_cell? w _ h)).trans h
  ⟨k h.c0, k h.c1, k h.d0, k h.d1⟩
theorem Boxes.grown {w w' : World} {b6 b8 g : Nat} {v6 v8 : Value} {c : Int} (h : Boxes w b6 b8 v6 v8 c) (hg : w.grownBy w' (some g)) (h6 : b6 ≠ g) (h8 : b8 ≠ g) : Boxes w' b6 b8 v6 v8 c :=
  have k {p : Addr} {x : Value} (h : w.cell? p = some x) (hp : p.block ≠ g) : w'.cell? p = some x := (World.cell?_of_block (hg.block p.block (World.block_lt_of_cell? w _ h) (fun e => hp (Option.some.inj e)))).trans h
  ⟨k h.c0 h6, k h.c1 h6, k h.d0 h8, k h.d1 h8⟩
end Go.Proofs.Ytnfnghcajhmnpaa
