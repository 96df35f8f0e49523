/- What a law on nets holds in memory: the model's answer, the argument's copy, the program's answer. -/
import Derived.Test.YthimndilobadeaaDoorNetS
import Derived.Test.YthimndilobadeaaDoorNetP
namespace Go.Proofs.YthimndilobadeaaDoor
open Go.RowKit

theorem NetRow.in' {w : World} {lo hi len : Nat} {a : Option Addr} {n : Nt} (h : NetRow w lo hi a len n) : InNet (fun b => lo ≤ b ∧ b < hi) w a len n := by
  rcases h with ⟨rfl, rfl, rfl⟩ | ⟨g, P, Q, rfl, h⟩
  · exact inNet_nil
  · exact h.in'
theorem NetRow.kept {T : Nat → Prop} {w w' : World} {lo hi len : Nat} {a : Option Addr} {n : Nt} (h : NetRow w lo hi a len n) (hk : Kept T w w') (hd : ∀ b, lo ≤ b → b < hi → ¬ T b) : NetRow w' lo hi a len n := by
  rcases h with h | ⟨g, P, Q, rfl, h⟩
  · exact .inl h
  · exact .inr ⟨g, P, Q, rfl, h.kept hk hd⟩
theorem NetRow.below {w w' : World} {lo hi len : Nat} {a : Option Addr} {n : Nt} (h : NetRow w lo hi a len n) (hb : Below w.heap.size w w') : NetRow w' lo hi a len n := by
  rcases h with h | ⟨g, P, Q, rfl, h⟩
  · exact .inl h
  · exact .inr ⟨g, P, Q, rfl, h.below hb⟩
theorem markRow_net {w : World} {lo hi len cap k : Nat} {a : Option Addr} {n : Nt} (bs : List UInt8) (c : Int) (h : NetRow w lo hi a len n) (hk : k + netSum n ≤ 100000000) :
    Calls Tryd.prog 12 #[netV a len cap bs c, .int .i64 (k : Int)] w fun e w' => e = .returned (.int .i64 ((k + netSum n : Nat) : Int)) ∧ NetRow w' lo hi a len (nmarks k n) ∧ Kept (fun b => lo ≤ b ∧ b < hi) w w' := by
  rcases h with ⟨rfl, rfl, rfl⟩ | ⟨g, P, Q, rfl, h⟩
  · refine (markNetNil_calls k bs c).mono ?_
    rintro e w' ⟨rfl, hb⟩
    exact ⟨rfl, .inl ⟨rfl, rfl, rfl⟩, kept_below hb⟩
  · refine (markNetOut_calls bs c h hk).mono ?_
    rintro e w' ⟨rfl, ho, hk⟩
    exact ⟨rfl, .inr ⟨g, P, Q, rfl, ho⟩, hk⟩

/-- A law's memory: box A (the model's answer), the argument's copy, box G (the program's answer), each behind the one ahead of it. -/
structure NS (W : World) (A G xlo xhi glo ghi l3 c3 l6 c6 gx len : Nat) (a3 a6 : Option Addr) (bs : List UInt8) (c : Int) (N nx ng : Nt) (P Q : Nat → Nat) (w : World) : Prop where
  below : Below W.heap.size W w
  ord : W.heap.size ≤ A ∧ A < xlo ∧ xlo ≤ xhi ∧ xhi ≤ glo ∧ glo ≤ ghi ∧ ghi ≤ G
  x : NetOwn w xlo xhi gx len nx P Q
  r : NetRow w glo ghi a6 l6 ng
  s : InNet (fun b => b < A) w a3 l3 N
  a0 : w.cell? ⟨A, 0, none⟩ = some (.slice a3 l3 c3)
  a1 : w.cell? ⟨A, 1, none⟩ = some (gs bs)
  a2 : w.cell? ⟨A, 2, none⟩ = some (.int .i64 c)
  g0 : w.cell? ⟨G, 0, none⟩ = some (.slice a6 l6 c6)
  g1 : w.cell? ⟨G, 1, none⟩ = some (gs bs)
  g2 : w.cell? ⟨G, 2, none⟩ = some (.int .i64 c)
variable {W : World} {A G xlo xhi glo ghi l3 c3 l6 c6 gx len : Nat} {a3 a6 : Option Addr} {bs : List UInt8} {c : Int} {N nx ng : Nt} {P Q : Nat → Nat}
theorem NS.next {w w' : World} (h : NS W A G xlo xhi glo ghi l3 c3 l6 c6 gx len a3 a6 bs c N nx ng P Q w) (hb : Below w.heap.size w w') : NS W A G xlo xhi glo ghi l3 c3 l6 c6 gx len a3 a6 bs c N nx ng P Q w' :=
  have k : ∀ {p : Addr} {x : Value}, w.cell? p = some x → w'.cell? p = some x := fun h => (hb.cell (World.block_lt_of_cell? w _ h)).trans h
  ⟨h.below.trans (hb.mono h.below.size), h.ord, h.x.below hb, h.r.below hb, h.s.below hb, k h.a0, k h.a1, k h.a2, k h.g0, k h.g1, k h.g2⟩
theorem NS.markX {w w' : World} {ny : Nt} (h : NS W A G xlo xhi glo ghi l3 c3 l6 c6 gx len a3 a6 bs c N nx ng P Q w) (ho : NetOwn w' xlo xhi gx len ny P Q) (hk : Kept (fun b => xlo ≤ b ∧ b < xhi) w w') : NS W A G xlo xhi glo ghi l3 c3 l6 c6 gx len a3 a6 bs c N ny ng P Q w' := by
  have hor := h.ord
  have hA := World.block_lt_of_cell? w _ h.a0
  have hG := World.block_lt_of_cell? w _ h.g0
  have k : ∀ {g o : Nat} {x : Value}, g < w.heap.size → ¬ (xlo ≤ g ∧ g < xhi) → w.cell? ⟨g, o, none⟩ = some x → w'.cell? ⟨g, o, none⟩ = some x := fun hl hn h => (World.cell?_of_block (hk.block _ hl hn)).trans h
  exact ⟨h.below.trans (hk.toBelow h.below.size (fun b hb hx => by omega)), hor, ho, h.r.kept hk (fun b h1 h2 => by omega), h.s.kept hk (fun b hb => by omega),
    k hA (by omega) h.a0, k hA (by omega) h.a1, k hA (by omega) h.a2, k hG (by omega) h.g0, k hG (by omega) h.g1, k hG (by omega) h.g2⟩
theorem NS.markG {w w' : World} {ny : Nt} (h : NS W A G xlo xhi glo ghi l3 c3 l6 c6 gx len a3 a6 bs c N nx ng P Q w) (ho : NetRow w' glo ghi a6 l6 ny) (hk : Kept (fun b => glo ≤ b ∧ b < ghi) w w') : NS W A G xlo xhi glo ghi l3 c3 l6 c6 gx len a3 a6 bs c N nx ny P Q w' := by
  have hor := h.ord
  have hA := World.block_lt_of_cell? w _ h.a0
  have hG := World.block_lt_of_cell? w _ h.g0
  have k : ∀ {g o : Nat} {x : Value}, g < w.heap.size → ¬ (glo ≤ g ∧ g < ghi) → w.cell? ⟨g, o, none⟩ = some x → w'.cell? ⟨g, o, none⟩ = some x := fun hl hn h => (World.cell?_of_block (hk.block _ hl hn)).trans h
  exact ⟨h.below.trans (hk.toBelow h.below.size (fun b hb hx => by omega)), hor, h.x.kept hk (fun b h1 h2 => by omega), ho, h.s.kept hk (fun b hb => by omega),
    k hA (by omega) h.a0, k hA (by omega) h.a1, k hA (by omega) h.a2, k hG (by omega) h.g0, k hG (by omega) h.g1, k hG (by omega) h.g2⟩
/-- A box of an answer, as it is made. -/
theorem box_at (w : World) (v : Value) (bs : List UInt8) (c : Int) (T : TypeId) : (w.alloc (.cells #[v, gs bs, .int .i64 c] T)).cell? ⟨w.heap.size, 0, none⟩ = some v ∧ (w.alloc (.cells #[v, gs bs, .int .i64 c] T)).cell? ⟨w.heap.size, 1, none⟩ = some (gs bs) ∧ (w.alloc (.cells #[v, gs bs, .int .i64 c] T)).cell? ⟨w.heap.size, 2, none⟩ = some (.int .i64 c) := by
  refine ⟨?_, ?_, ?_⟩ <;> (rw [World.cell?_alloc_at _ _ _ _ (by simp)]; rfl)
theorem netSum_le8 : ∀ l : Nt, (∀ p ∈ l, p.1.length ≤ 8 ∧ p.2.length ≤ 8) → netSum l ≤ 16 * l.length
  | [], _ => by simp [netSum]
  | p :: l, h => by
    have ih := netSum_le8 l (fun q hq => h q (List.mem_cons_of_mem _ hq))
    have hp := h p (by simp)
    simp only [netSum, List.length_cons]
    omega
theorem withN_sum {n : Nt} {k : Nat} {back : Bool} {l : Tx} (hr : netRight n) (hk : k < n.length) (hl : l.length ≤ 8) : netSum (withN n k back l) ≤ 64 := by
  have h8 : ∀ p ∈ withN n k back l, p.1.length ≤ 8 ∧ p.2.length ≤ 8 := fun p hp => by
    unfold withN at hp
    rcases List.mem_or_eq_of_mem_set hp with h1 | h1
    · have := netRight_each hr p h1; exact ⟨this.1.1, this.2.1⟩
    · have := netRight_each hr _ (wyAt_mem hk)
      subst h1
      cases back
      · exact ⟨hl, this.2.1⟩
      · exact ⟨this.1.1, hl⟩
  have h1 := netSum_le8 _ h8
  rw [withN_len] at h1
  have := hr.1.2
  omega
theorem takeR_sum (n : Nt) (path : Int) (back : Bool) (x : Int) : netSum (takeR n path back x).1 ≤ 64 := by
  unfold takeR
  split
  · simp [netSum]
  · rename_i h
    have h0 : openAtC n path back x = 0 := Classical.byContradiction h
    obtain ⟨h1, h2, h3⟩ := openAtC_ok h0
    obtain ⟨-, hr, h4, h5⟩ := openC_ok h1
    exact withN_sum hr (by omega) (by have := lst_most' hr (k := path.toNat) (by omega) back; rw [List.length_eraseIdx]; split <;> omega)
theorem twiceR_sum (n : Nt) (path : Int) (back : Bool) (x : Int) : netSum (twiceR n path back x).1 ≤ 64 := by
  unfold twiceR
  split
  · simp [netSum]
  · rename_i h
    have h0 : openAtC n path back x = 0 := Classical.byContradiction h
    obtain ⟨h1, h2, h3⟩ := openAtC_ok h0
    obtain ⟨-, hr, h4, h5⟩ := openC_ok h1
    have h8 := lst_most' hr (k := path.toNat) (by omega) back
    exact withN_sum hr (by omega) (by split <;> (try simp) <;> omega)
end Go.Proofs.YthimndilobadeaaDoor
