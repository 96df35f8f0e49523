/- A link in memory: its place, its bytes, the room behind them; and what 'linkOf' and 'cut' make. -/
import Derived.Test.YtjcdcaannajnpaaPieceMath
import Derived.Test.YtjcdcaannajnpaaLinkA
namespace Go.Proofs.Ytjcdcaannajnpaa
open Go.RowKit

/-- A link: its block, its place in the stream, where its bytes lie, how much room there is for them, its bytes. -/
structure Lk where
  g : Nat
  n : Int
  b : Nat
  o : Nat
  cap : Nat
  t : List UInt8
abbrev Lk.pc (x : Lk) : Pc := (x.n, x.t)
/-- A block that holds a link; one that holds bytes. -/
def IsLink (w : World) (g : Nat) : Prop := ∃ c, w.heap[g]? = some (.cells c 65 (0, 0))
def IsBytes (w : World) (b : Nat) : Prop := ∃ c fz, w.heap[b]? = some (.cells c 5 fz)
structure Has (w : World) (x : Lk) : Prop where
  link : IsLink w x.g
  kind : IsBytes w x.b
  at0 : w.cell? ⟨x.g, 0, none⟩ = some (.int .i64 x.n)
  at1 : w.cell? ⟨x.g, 1, none⟩ = some (.slice (some ⟨x.b, x.o, none⟩) x.t.length x.cap)
  byte : ∀ j (h : j < x.t.length), w.cell? ⟨x.b, x.o + j, none⟩ = some (.int .u8 (x.t[j].toNat : Int))
  spare : ∀ j, x.t.length ≤ j → j < x.cap → (w.cell? ⟨x.b, x.o + j, none⟩).isSome = true ∧ w.frozen? ⟨x.b, x.o + j, none⟩ = false
  ble : x.t.length ≤ x.cap

theorem IsLink.free {w : World} {g : Nat} (h : IsLink w g) (i : Nat) : w.frozen? ⟨g, i, none⟩ = false := by
  obtain ⟨c, h⟩ := h
  simp [World.frozen?, h]
theorem IsLink.lt {w : World} {g : Nat} (h : IsLink w g) : g < w.heap.size := by
  obtain ⟨c, h⟩ := h; exact (Array.getElem?_eq_some_iff.1 h).1
theorem IsBytes.lt {w : World} {g : Nat} (h : IsBytes w g) : g < w.heap.size := by
  obtain ⟨c, f, h⟩ := h; exact (Array.getElem?_eq_some_iff.1 h).1
theorem link_bytes_ne {w : World} {g b : Nat} (h : IsLink w g) (h' : IsBytes w b) : g ≠ b := by
  rintro rfl
  obtain ⟨c, h⟩ := h
  obtain ⟨c', f, h'⟩ := h'
  rw [h] at h'
  cases h'
theorem IsLink.of {w w' : World} {g : Nat} (h : IsLink w g) (e : w'.heap[g]? = w.heap[g]?) : IsLink w' g := by
  obtain ⟨c, h⟩ := h; exact ⟨c, e.trans h⟩
theorem IsBytes.of {w w' : World} {g : Nat} (h : IsBytes w g) (e : w'.heap[g]? = w.heap[g]?) : IsBytes w' g := by
  obtain ⟨c, f, h⟩ := h; exact ⟨c, f, e.trans h⟩
theorem Has.of {w w' : World} {x : Lk} (h : Has w x) (e : w'.heap[x.g]? = w.heap[x.g]?) (e' : w'.heap[x.b]? = w.heap[x.b]?) : Has w' x := by
  have c (i : Nat) : w'.cell? ⟨x.g, i, none⟩ = w.cell? ⟨x.g, i, none⟩ := World.cell?_of_block (a := ⟨x.g, i, none⟩) e
  have d (i : Nat) : w'.cell? ⟨x.b, i, none⟩ = w.cell? ⟨x.b, i, none⟩ := World.cell?_of_block (a := ⟨x.b, i, none⟩) e'
  have f (i : Nat) : w'.frozen? ⟨x.b, i, none⟩ = w.frozen? ⟨x.b, i, none⟩ := World.frozen?_of_block (a := ⟨x.b, i, none⟩) e'
  exact ⟨h.link.of e, h.kind.of e', (c 0).trans h.at0, (c 1).trans h.at1, fun j hj => (d _).trans (h.byte j hj), fun j h1 h2 => by rw [d, f]; exact h.spare j h1 h2, h.ble⟩
theorem Has.below {w w' : World} {x : Lk} (h : Has w x) (hb : Below w.heap.size w w') : Has w' x := h.of (hb.block _ h.link.lt) (hb.block _ h.kind.lt)

theorem bytes_new {P : Program} {src dst e : TypeId} (hs : P.underlying src = some .string) (hd : P.underlying dst = some (.slice e)) (he : P.underlying e = some (.int .u8)) (w : World) (s : List UInt8) :
    ∃ cap c fz, (convert src dst (gs s)).run P w = .ok (.slice (some ⟨w.heap.size, 0, none⟩) s.length cap) (w.drew.alloc (.cells c e fz)) ∧ s.length ≤ cap ∧
      (∀ j (h : j < s.length), c[j]? = some (.int .u8 (s[j].toNat : Int))) ∧ (∀ j, j < cap → (c[j]?).isSome = true) ∧ c.size ≤ fz.1 := by
  have h := run_bytes_of_string (P := P) w src dst e ⟨s.toArray⟩ hs hd he
  have hz : (⟨s.toArray⟩ : ByteArray).size = s.length := by simp [ByteArray.size]
  rw [hz] at h
  refine ⟨_, _, _, h, ?_, ?_, ?_, ?_⟩
  · exact grownCap_ge w s.length 0 e
  · intro j hj
    have := bytesRow_at ⟨s.toArray⟩ (grownCap w s.length 0 e) j (by simpa using hj)
    rw [this]; rfl
  · intro j hj
    have : j < (bytesRow ⟨s.toArray⟩ (grownCap w s.length 0 e)).size := by simp [bytesRow]; omega
    simp [this]
  · exact Nat.le_refl _

theorem heap_new (w : World) (o : Obj) : (w.alloc o).heap[w.heap.size]? = some o := by
  show (w.heap.push o)[w.heap.size]? = _
  simp
theorem heap_old (w : World) (o : Obj) (k : Nat) (h : k < w.heap.size) : (w.alloc o).heap[k]? = w.heap[k]? := Below.heap_alloc w o k h
theorem has_new (w : World) (c : Array Value) (fz : Nat × Nat) (n : Int) (t : List UInt8) (cap : Nat) (p q : Value) (hcap : t.length ≤ cap) (hc : ∀ j (h : j < t.length), c[j]? = some (.int .u8 (t[j].toNat : Int)))
    (hc2 : ∀ j, j < cap → (c[j]?).isSome = true) (hfz : c.size ≤ fz.1) :
    Has ((w.alloc (.cells c 5 fz)).alloc (.cells #[.int .i64 n, .slice (some ⟨w.heap.size, 0, none⟩) t.length cap, p, q] 65)) ⟨w.heap.size + 1, n, w.heap.size, 0, cap, t⟩ := by
  have hg : ((w.alloc (.cells c 5 fz)).alloc (.cells #[.int .i64 n, .slice (some ⟨w.heap.size, 0, none⟩) t.length cap, p, q] 65)).heap[w.heap.size + 1]? = some (.cells #[.int .i64 n, .slice (some ⟨w.heap.size, 0, none⟩) t.length cap, p, q] 65) := by
    have := heap_new (w.alloc (.cells c 5 fz)) (.cells #[.int .i64 n, .slice (some ⟨w.heap.size, 0, none⟩) t.length cap, p, q] 65)
    simpa using this
  have hb : ((w.alloc (.cells c 5 fz)).alloc (.cells #[.int .i64 n, .slice (some ⟨w.heap.size, 0, none⟩) t.length cap, p, q] 65)).heap[w.heap.size]? = some (.cells c 5 fz) :=
    (heap_old _ _ _ (by simp)).trans (heap_new _ _)
  generalize (w.alloc (.cells c 5 fz)).alloc (.cells #[.int .i64 n, .slice (some ⟨w.heap.size, 0, none⟩) t.length cap, p, q] 65) = w' at *
  refine ⟨⟨_, hg⟩, ⟨_, _, hb⟩, by simp [World.cell?, hg], by simp [World.cell?, hg], fun j hj => by simp [World.cell?, hb]; exact hc j hj, fun j h1 h2 => ⟨by simp only [World.cell?, hb]; simpa using hc2 j h2, ?_⟩, hcap⟩
  have h3 := hc2 j h2
  have h4 : j < c.size := by
    rcases Nat.lt_or_ge j c.size with h | h
    · exact h
    · simp [Array.getElem?_eq_none h] at h3
  simp [World.frozen?, hb]; omega
theorem Has.drew {w : World} {x : Lk} (h : Has w x) (m : Nat) : Has (w.drewN m) x := h.of rfl rfl
theorem linkOf_calls (p : Pc) (w : World) (hl : p.2.length ≤ 2000000) :
    Calls Try.prog 51 #[pcv p] w fun e w' => ∃ x : Lk, e = .returned (ptr x.g) ∧ x.pc = p ∧ w.heap.size ≤ x.g ∧ w.heap.size ≤ x.b ∧ Has w' x ∧ w'.cell? ⟨x.g, 2, none⟩ = some (.pointer none) ∧ w'.cell? ⟨x.g, 3, none⟩ = some (.pointer none) ∧ Below w.heap.size w w' := by
  obtain ⟨n, t⟩ := p
  dsimp only at hl
  have hb := bytes_new (P := Try.prog) Try.underlying9 Try.underlying22 Try.underlying5
  obtain ⟨cap, c, fz, hrun, hcap, hc, hc2, hfz⟩ := hb (w.alloc (.cells #[.int .i64 n, gs t] 69)) t
  have HC := Lib.hid hc
  have HC2 := Lib.hid hc2
  have HF := Lib.hid hfz
  clear hb hc hc2 hfz
  go_enter Try.func51, Try.ntmps51
  go_wp2_with fail
  go_ret
  have hn := has_new (w.alloc (.cells #[.int .i64 n, gs t] 69)) c fz n t cap (.pointer none) (.pointer none) hcap HC.out HC2.out HF.out
  rw [World.size_alloc] at hn
  refine ⟨_, rfl, rfl, ?_, ?_, hn.drew 1, ?_, ?_, ?_⟩
  · show w.heap.size ≤ w.heap.size + 1 + 1; omega
  · show w.heap.size ≤ w.heap.size + 1; omega
  · obtain ⟨⟨c', h⟩, _⟩ := hn; simp [go_sem]
  · simp [go_sem]
  · exact ((((Below.refl _ _).alloc (Nat.le_refl _) _).alloc (by simp) _).alloc (by simp; omega) _).drew
end Go.Proofs.Ytjcdcaannajnpaa
