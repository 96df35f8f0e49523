/- SndNew: the model's, the program's. -/
import Derived.Test.YtfjmcmdkmecgiaaSndO
import Derived.Maps.AppendAt
namespace Go.Proofs.Ytfjmcmdkmecgiaa
open Go.RowKit

/-- A new line's cells. -/
def lineC : List Value := [.int .i64 0, .int .i64 0, .int .i64 8, .int .i64 2, .int .i64 0, .slice none 0 0]
/-- The cells of some new lines. -/
def repC (k : Nat) : List Value := (List.replicate k lineC).flatten
theorem repC_len (k : Nat) : (repC k).length = k * 6 := by simp [repC, lineC]
theorem repC_succ (k : Nat) : repC (k + 1) = repC k ++ lineC := by simp [repC, List.replicate_succ', List.flatten_append]
theorem repC_at : ∀ (k i u : Nat) (x : Value), i < k → lineC[u]? = some x → (repC k)[i * 6 + u]? = some x
  | 0, i, u, x, h, _ => by omega
  | k + 1, i, u, x, h, hu => by
    have hul : u < 6 := by
      obtain ⟨h1, _⟩ := List.getElem?_eq_some_iff.1 hu
      simpa [lineC] using h1
    rw [repC_succ]
    by_cases e : i = k
    · subst e
      rw [List.getElem?_append_right (by rw [repC_len]; omega), repC_len, Nat.add_sub_cancel_left]
      exact hu
    · rw [List.getElem?_append_left (by rw [repC_len]; omega)]
      exact repC_at k i u x (by omega) hu
/-- A row that the call owns, of new lines. -/
theorem nl_own {w : World} {B g k cap : Nat} {e : TypeId} (h : w.ownsRow B e 6 (.slice (some ⟨g, 0, none⟩) k cap) k (repC k)) : NL w g k (List.replicate k newLn) := by
  have c : ∀ i u x, i < k → lineC[u]? = some x → w.cell? ⟨g, i * 6 + u, none⟩ = some x := fun i u x hi hu => by
    have hul : u < 6 := by
      obtain ⟨h1, _⟩ := List.getElem?_eq_some_iff.1 hu
      simpa [lineC] using h1
    exact (h.cellAt (i * 6 + u) (by omega)).trans (repC_at k i u x hi hu)
  refine ⟨fun i hi => ?_, ⟨fun q hq => ?_, fun q _ => h.frozenAt q⟩, (h.lt g rfl).2⟩
  · rw [rep_at hi]
    exact ⟨⟨c i 0 _ hi rfl, c i 1 _ hi rfl, c i 2 _ hi rfl, c i 3 _ hi rfl, c i 4 _ hi rfl⟩, c i 5 _ hi rfl⟩
  · have hl : q < (repC k).length := by rw [repC_len]; exact hq
    exact ⟨_, (h.cellAt q hq).trans (List.getElem?_eq_getElem hl)⟩
/-- An append of cells that lie somewhere, onto a row that the call owns or none, at a step of a region that draws its order. -/
theorem step_append_own {P : Program} (w : World) {ops : Array Oper} {o : Oper} {a : Act} {K : Act → World → Prop} {Q : Exit → Act → World → Prop} {E : Prop} (hgd : o.guard = none) (sl x : Operand) (t : TypeId)
    (ho : o.op = .call { callee := .builtin .append, args := #[sl, x], argTypes := #[t, t] })
    (base : Nat) (e : TypeId) (i : TypeInfo) (z : Value) (s bs : Nat) (ht : P.underlying t = some (.slice e)) (hi : P.info? e = some i) (hz : i.zero = some z) (hs1 : i.size = s) (hb : i.bytes = bs) (hzc : z.cells.size = s) (hs0 : 0 < s) (hbs : bs ≤ 1000)
    {v : Value} {n : Nat} {xs : List Value} (hs : a.eval sl = v) (hown : w.ownsRow base e s v n xs) {ad : Addr} {m : Nat} (c : Nat) {us : List Value} (hx : a.eval x = .slice (some ad) m c) (hl : us.length = m * s) (hnews : ∀ j u, us[j]? = some u → w.cell? (ad.add j) = some u) (h1 : ∀ u ∈ us, u.oneCell' = true) (hn : n + m ≤ 2000000) (hbase : base ≤ w.heap.size)
    (h : ∀ v' w', w'.ownsRow base e s v' (n + m) (xs ++ us) → w.grownBy w' v.ownBlock → K (a.put o.dst v') w') :
    if Region.wanted o (yielded ops a.tmps) = true then Oper.wp P o a w K Q else E := by
  have hw : Region.wanted o (yielded ops a.tmps) = true := by simp [Region.wanted, hgd]
  rw [if_pos hw]
  obtain ⟨v', w', hr, h2, h3, -, -⟩ := run_append_own_at (P := P) (w := w) base t o.type e i z s bs ht hi hz hs1 hb hzc hs0 v n xs hown ad m c us hl hnews h1 (by simp [maxLen]; omega) (by
    have : (n + m) * bs ≤ 2000000 * 1000 := Nat.mul_le_mul hn hbs
    omega) hbase
  unfold Oper.wp execOp
  simp only [ho, resolve, invoke, builtin, Sem.run_bind, Sem.run_pure, Result.andThen_ok, List.map_toArray, List.map_cons, List.map_nil, hs, hx, hr]
  exact h v' w' h2 h3
theorem ownsRow_slice {w : World} {B : Nat} {e : TypeId} {size : Nat} {v : Value} {n : Nat} {xs : List Value} (h : w.ownsRow B e size v n xs) : ∃ a c, v = .slice a n c := by
  rcases h.2 with ⟨rfl, rfl⟩ | ⟨g, cap, cur, rfl, _⟩
  · exact ⟨_, _, rfl⟩
  · exact ⟨_, _, rfl⟩
theorem own_keep {w w' : World} {B : Nat} {e : TypeId} {s : Nat} {v : Value} {n : Nat} {xs : List Value} (h : w.ownsRow B e s v n xs) (hk : ∀ b, v.ownBlock = some b → w'.heap[b]? = w.heap[b]?) : w'.ownsRow B e s v n xs := by
  refine ⟨h.1, ?_⟩
  rcases h.2 with hn | ⟨g, cap, cur, rfl, hbg, hgg, rest⟩
  · exact .inl hn
  · exact .inr ⟨g, cap, cur, rfl, hbg, (hk g rfl).trans hgg, rest⟩
theorem grown_below {w w' : World} {B : Nat} {v : Value} (h : w.grownBy w' v.ownBlock) (hB : B ≤ w.heap.size) (hv : ∀ b, v.ownBlock = some b → B ≤ b) : Below B w w' :=
  ⟨h.os, h.tape, h.output, h.size, fun b hb => h.block b (by omega) (fun e => by have := hv b e.symm; omega)⟩
/-- What SndNew answers. -/
structure SdR where
  ed : Int
  op : Bool
  ms : Int
  n : Sns
  code : Int
def sndNewN (p ms ed : Int) : SdR := if (1 ≤ p ∧ p ≤ 4) ∧ (0 ≤ ed ∧ ed ≤ 1000000) ∧ (1 ≤ ms ∧ ms ≤ 16) then ⟨ed, true, ms, List.replicate p.toNat newLn, 0⟩ else ⟨0, false, 0, [], 1⟩
def SdGot (w : World) (r : SdR) (e : Ending) (w' : World) : Prop :=
  ∃ a c, e = .returned (sndOutV r.ed r.op r.ms a r.n.length c r.code) ∧ NLa w' a r.n.length r.n ∧ (∀ b, LgB a r.n.length b → w.heap.size ≤ b ∧ b < w'.heap.size) ∧ Below w.heap.size w w'
theorem sdBad_got {w w' : World} (hb : Below w.heap.size w w') : SdGot w ⟨0, false, 0, [], 1⟩ (.returned (sndOutV 0 false 0 none 0 0 1)) w' := ⟨none, 0, rfl, nla_nil, fun b h => absurd h.1 (by simp), hb⟩
theorem kept9 (W : World) (g : Nat) (v0 v1 v2 v3 v4 v5 v6 v7 v8 : Value) : Kept (fun b => b = g) W (((((((((W.setCell ⟨g, 0, none⟩ v0).setCell ⟨g, 1, none⟩ v1).setCell ⟨g, 2, none⟩ v2).setCell ⟨g, 3, none⟩ v3).setCell ⟨g, 4, none⟩ v4).setCell ⟨g, 5, none⟩ v5).setCell ⟨g, 6, none⟩ v6).setCell ⟨g, 7, none⟩ v7).setCell ⟨g, 8, none⟩ v8) :=
  ((((((((kept_set (S := fun b => b = g) _ g 0 v0 rfl).trans (kept_set (S := fun b => b = g) _ g 1 v1 rfl)).trans (kept_set (S := fun b => b = g) _ g 2 v2 rfl)).trans (kept_set (S := fun b => b = g) _ g 3 v3 rfl)).trans (kept_set (S := fun b => b = g) _ g 4 v4 rfl)).trans (kept_set (S := fun b => b = g) _ g 5 v5 rfl)).trans (kept_set (S := fun b => b = g) _ g 6 v6 rfl)).trans (kept_set (S := fun b => b = g) _ g 7 v7 rfl)).trans (kept_set (S := fun b => b = g) _ g 8 v8 rfl)
theorem illS_calls (w : World) : Calls Try.prog 29 #[.int .i64 1] w fun e w' => e = .returned (sndOutV 0 false 0 none 0 0 1) ∧ Below w.heap.size w w' := by
  go_enter Try.func29, Try.ntmps29
  go_wp2
  refine bodyPost_ret (v := sndOutV 0 false 0 none 0 0 1) (by simp [sndOutV, results, Try.results29, go_sem]) rfl ⟨rfl, ?_⟩
  go_grown
end Go.Proofs.Ytfjmcmdkmecgiaa
