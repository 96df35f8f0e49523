/- A row of texts appended to one that the call owns. -/
import Derived.Test.YthimndilobadeaaDoorTxTo
import Derived.Test.YthimndilobadeaaDoorTxMark
import Derived.Deep.AppendLies
import Derived.Deep.AppendSrc
namespace Go.Proofs.YthimndilobadeaaDoor
open Go.RowKit

theorem gs_one (l : Tx) : ∀ u ∈ l.map (fun t => gs t), u.oneCell' = true := by
  intro u hu
  obtain ⟨t, _, rfl⟩ := List.mem_map.1 hu
  rfl
/-- The law: the source is a row of texts, wherever it lies. -/
theorem run_append_tx {P : Program} (w : World) (t ty : TypeId) (base : Nat) (e : TypeId) (i : TypeInfo) (ht : P.underlying t = some (.slice e)) (hi : P.info? e = some i) (hz : i.zero = some (gs [])) (hs : i.size = 1) (hb : i.bytes = 16)
    {g n cap : Nat} {xs : List Value} (hown : w.ownsRow base e 1 (.slice (some ⟨g, 0, none⟩) n cap) n xs) {a : Option Addr} {len : Nat} (c : Nat) {l : Tx} (hin : InTx w a len l) (hn : n ≤ 2000000) (hbase : base ≤ w.heap.size) :
    ∃ g' cap' w', (Builtin.append_ #[t, t] ty #[.slice (some ⟨g, 0, none⟩) n cap, .slice a len c]).run P w = .ok (.slice (some ⟨g', 0, none⟩) (n + len) cap') w' ∧
      w'.ownsRow base e 1 (.slice (some ⟨g', 0, none⟩) (n + len) cap') (n + len) (xs ++ l.map (fun t => gs t)) ∧ w.grownBy w' (some g) ∧ (g' = g ∨ g' = w.heap.size) := by
  have hm := hin.most
  have hl := hin.long
  cases a with
  | none =>
    have h0 : len = 0 := by
      rcases Nat.eq_zero_or_pos len with h | h
      · exact h
      · obtain ⟨b, o, h⟩ := hin.there h; cases h
    subst h0
    have hl0 : l = [] := List.eq_nil_of_length_eq_zero hl
    subst hl0
    have hc : n ≤ cap := by
      rcases hown.2 with ⟨h, _⟩ | ⟨g', cap', cur, he, _, _, hnc, _⟩
      · cases h
      · injection he with _ _ he; omega
    have hr := run_append_room_src (P := P) w t t ty e i ht hi g 0 n cap (.slice none 0 c) 0 [] (Src.ofNil w ht c) (by omega) (fun j hj => by simp at hj) (fun j hj => by simp at hj)
    refine ⟨g, cap, w, hr, ?_, ⟨rfl, rfl, rfl, Nat.le_refl _, fun _ _ _ => rfl⟩, .inl rfl⟩
    simpa using hown
  | some ad =>
    have hnews : ∀ j u, (l.map (fun t => gs t))[j]? = some u → w.cell? (ad.add j) = some u := fun j u hj => by
      have hjl : j < l.length := by
        have := (List.getElem?_eq_some_iff.1 hj).1
        simpa using this
      obtain ⟨b, o, ha⟩ := hin.there (by omega)
      injection ha with ha
      subst ha
      have hcell := hin.cell b o rfl j (by omega)
      rw [Addr.add_lit, hcell, txAt_get hjl]
      rw [List.getElem?_map, List.getElem?_eq_getElem hjl] at hj
      exact hj
    obtain ⟨v', w', hr, h2, h3, h4, h5⟩ := run_append_own_at (P := P) w base t ty e i (gs []) 1 16 ht hi hz hs hb rfl (by omega) _ n xs hown ad len c (l.map (fun t => gs t)) (by simp [hl]) hnews (gs_one l) (by simp [maxLen]; omega) (by omega) hbase
    rcases h2.2 with ⟨hv, _⟩ | ⟨g', cap', cur, hv, _⟩
    · have := (h4.1 hv).1; cases this
    · subst hv
      refine ⟨g', cap', w', hr, h2, h3, ?_⟩
      rcases h5 with h5 | h5
      · left; have := h5; simp [Value.ownBlock] at this; exact this
      · right; have := h5; simp [Value.ownBlock] at this; exact this
/-- At a step of a region that draws its order. -/
theorem step_append_tx {P : Program} (w : World) {ops : Array Oper} {o : Oper} {a : Act} {K : Act → World → Prop} {Q : Exit → Act → World → Prop} {E : Prop} (hgd : o.guard = none) (s x : Operand) (t : TypeId)
    (ho : o.op = .call { callee := .builtin .append, args := #[s, x], argTypes := #[t, t] })
    (base : Nat) (e : TypeId) (i : TypeInfo) (ht : P.underlying t = some (.slice e)) (hi : P.info? e = some i) (hz : i.zero = some (gs [])) (hs1 : i.size = 1) (hb : i.bytes = 16)
    {g n cap : Nat} {xs : List Value} (hs : a.eval s = .slice (some ⟨g, 0, none⟩) n cap) (hown : w.ownsRow base e 1 (.slice (some ⟨g, 0, none⟩) n cap) n xs) {ad : Option Addr} {len : Nat} (c : Nat) {l : Tx} (hx : a.eval x = .slice ad len c) (hin : InTx w ad len l) (hn : n ≤ 2000000) (hbase : base ≤ w.heap.size)
    (h : ∀ g' cap' w', w'.ownsRow base e 1 (.slice (some ⟨g', 0, none⟩) (n + len) cap') (n + len) (xs ++ l.map (fun t => gs t)) → w.grownBy w' (some g) → (g' = g ∨ g' = w.heap.size) → K (a.put o.dst (.slice (some ⟨g', 0, none⟩) (n + len) cap')) w') :
    if Region.wanted o (yielded ops a.tmps) = true then Oper.wp P o a w K Q else E := by
  have hw : Region.wanted o (yielded ops a.tmps) = true := by simp [Region.wanted, hgd]
  rw [if_pos hw]
  obtain ⟨g', cap', w', hr, h2, h3, h4⟩ := run_append_tx (P := P) w t o.type base e i ht hi hz hs1 hb hown c hin hn hbase
  unfold Oper.wp execOp
  simp only [ho, resolve, invoke, builtin, Sem.run_bind, Sem.run_pure, Result.andThen_ok, List.map_toArray, List.map_cons, List.map_nil, hs, hx, hr]
  exact h g' cap' w' h2 h3 h4
/-- The same onto an empty row. -/
theorem step_copy_tx {P : Program} (w : World) {ops : Array Oper} {o : Oper} {a : Act} {K : Act → World → Prop} {Q : Exit → Act → World → Prop} {E : Prop} (hgd : o.guard = none) (s x : Operand) (t : TypeId)
    (ho : o.op = .call { callee := .builtin .append, args := #[s, x], argTypes := #[t, t] })
    (base : Nat) (e : TypeId) (i : TypeInfo) (ht : P.underlying t = some (.slice e)) (hi : P.info? e = some i) (hz : i.zero = some (gs [])) (hs1 : i.size = 1) (hb : i.bytes = 16)
    {g cap : Nat} (hs : a.eval s = .slice (some ⟨g, 0, none⟩) 0 cap) (hown : w.ownsRow base e 1 (.slice (some ⟨g, 0, none⟩) 0 cap) 0 []) {ad : Option Addr} {len : Nat} (c : Nat) {l : Tx} (hx : a.eval x = .slice ad len c) (hin : InTx w ad len l) (hbase : base ≤ w.heap.size)
    (h : ∀ g' cap' w', w'.ownsRow base e 1 (.slice (some ⟨g', 0, none⟩) len cap') len (l.map (fun t => gs t)) → w.grownBy w' (some g) → (g' = g ∨ g' = w.heap.size) → K (a.put o.dst (.slice (some ⟨g', 0, none⟩) len cap')) w') :
    if Region.wanted o (yielded ops a.tmps) = true then Oper.wp P o a w K Q else E :=
  step_append_tx w hgd s x t ho base e i ht hi hz hs1 hb hs hown c hx hin (Nat.zero_le _) hbase (fun g' cap' w' h1 h2 h3 => by
    rw [Nat.zero_add, List.nil_append] at h1
    rw [Nat.zero_add]
    exact h g' cap' w' h1 h2 h3)
/-- At the list of a plain region's operations. -/
theorem wpList_append_tx {P : Program} (w : World) {ops : Array Oper} {rest : List Oper} {o : Oper} {a : Act} {Q : Exit → Act → World → Prop} (hgd : o.guard = none) (s x : Operand) (t : TypeId)
    (ho : o.op = .call { callee := .builtin .append, args := #[s, x], argTypes := #[t, t] })
    (base : Nat) (e : TypeId) (i : TypeInfo) (ht : P.underlying t = some (.slice e)) (hi : P.info? e = some i) (hz : i.zero = some (gs [])) (hs1 : i.size = 1) (hb : i.bytes = 16)
    {g n cap : Nat} {xs : List Value} (hs : a.eval s = .slice (some ⟨g, 0, none⟩) n cap) (hown : w.ownsRow base e 1 (.slice (some ⟨g, 0, none⟩) n cap) n xs) {ad : Option Addr} {len : Nat} (c : Nat) {l : Tx} (hx : a.eval x = .slice ad len c) (hin : InTx w ad len l) (hn : n ≤ 2000000) (hbase : base ≤ w.heap.size)
    (h : ∀ g' cap' w', w'.ownsRow base e 1 (.slice (some ⟨g', 0, none⟩) (n + len) cap') (n + len) (xs ++ l.map (fun t => gs t)) → w.grownBy w' (some g) → (g' = g ∨ g' = w.heap.size) → wpList P ops Q rest (a.put o.dst (.slice (some ⟨g', 0, none⟩) (n + len) cap')) w') :
    wpList P ops Q (o :: rest) a w := by
  refine wpList_plain hgd fun K hK => ?_
  obtain ⟨g', cap', w', hr, h2, h3, h4⟩ := run_append_tx (P := P) w t o.type base e i ht hi hz hs1 hb hown c hin hn hbase
  unfold Oper.wp execOp
  simp only [ho, resolve, invoke, builtin, Sem.run_bind, Sem.run_pure, Result.andThen_ok, List.map_toArray, List.map_cons, List.map_nil, hs, hx, hr]
  exact hK _ _ (h g' cap' w' h2 h3 h4)
theorem wpList_copy_tx {P : Program} (w : World) {ops : Array Oper} {rest : List Oper} {o : Oper} {a : Act} {Q : Exit → Act → World → Prop} (hgd : o.guard = none) (s x : Operand) (t : TypeId)
    (ho : o.op = .call { callee := .builtin .append, args := #[s, x], argTypes := #[t, t] })
    (base : Nat) (e : TypeId) (i : TypeInfo) (ht : P.underlying t = some (.slice e)) (hi : P.info? e = some i) (hz : i.zero = some (gs [])) (hs1 : i.size = 1) (hb : i.bytes = 16)
    {g cap : Nat} (hs : a.eval s = .slice (some ⟨g, 0, none⟩) 0 cap) (hown : w.ownsRow base e 1 (.slice (some ⟨g, 0, none⟩) 0 cap) 0 []) {ad : Option Addr} {len : Nat} (c : Nat) {l : Tx} (hx : a.eval x = .slice ad len c) (hin : InTx w ad len l) (hbase : base ≤ w.heap.size)
    (h : ∀ g' cap' w', w'.ownsRow base e 1 (.slice (some ⟨g', 0, none⟩) len cap') len (l.map (fun t => gs t)) → w.grownBy w' (some g) → (g' = g ∨ g' = w.heap.size) → wpList P ops Q rest (a.put o.dst (.slice (some ⟨g', 0, none⟩) len cap')) w') :
    wpList P ops Q (o :: rest) a w :=
  wpList_append_tx w hgd s x t ho base e i ht hi hz hs1 hb hs hown c hx hin (Nat.zero_le _) hbase (fun g' cap' w' h1 h2 h3 => by
    rw [Nat.zero_add, List.nil_append] at h1
    rw [Nat.zero_add]
    exact h g' cap' w' h1 h2 h3)
/-- A row that the call owns, as a row of texts. -/
theorem ownTx {w : World} {base g n cap : Nat} {e : TypeId} {l : Tx} (h : w.ownsRow base e 1 (.slice (some ⟨g, 0, none⟩) n cap) n (l.map (fun t => gs t))) (hm : n ≤ 2000000) (hf : ∀ t ∈ l, t.length ≤ 2000000) : InTx w (some ⟨g, 0, none⟩) n l ∧ OpenTx w g n ∧ base ≤ g ∧ g < w.heap.size := by
  have hl : l.length = n := by have := h.1; simp at this; omega
  refine inTx_own h (fun j hj => ?_) hl hm (fun i hi => hf _ (txAt_mem (by omega)))
  rw [List.getElem?_map, List.getElem?_eq_getElem (by omega), txAt_get (by omega)]
  rfl
end Go.Proofs.YthimndilobadeaaDoor
