/- '[]byte(s)' of a text, and back. -/
import Derived.Test.YtjcdcaannajnpaaGreatDoorBytes
import Derived.Deep.RegionWith
namespace Go.Proofs.YtjcdcaannajnpaaGreatDoor
open Go.RowKit

/-- Block g holds these bytes from its head on, not frozen. -/
structure HasBytes (w : World) (g : Nat) (l : List UInt8) : Prop where
  cell : ∀ j (h : j < l.length), w.cell? ⟨g, j, none⟩ = some (.int .u8 (l[j].toNat : Int))
  free : ∀ j, j < l.length → w.frozen? ⟨g, j, none⟩ = false

theorem to_bytes {P : Program} {src dst e : TypeId} (hs : P.underlying src = some .string) (hd : P.underlying dst = some (.slice e)) (he : P.underlying e = some (.int .u8)) (w : World) (s : List UInt8) :
    ∃ cap o, (convert src dst (gs s)).run P w = .ok (.slice (some ⟨w.heap.size, 0, none⟩) s.length cap) (w.drew.alloc o) ∧ HasBytes (w.alloc o) w.heap.size s := by
  have h := run_bytes_of_string (P := P) w src dst e ⟨s.toArray⟩ hs hd he
  have hz : (⟨s.toArray⟩ : ByteArray).size = s.length := by simp [ByteArray.size]
  rw [hz] at h
  refine ⟨_, _, h, ?_, ?_⟩
  · intro j hj
    rw [World.cell?_alloc_mark]
    have := bytesRow_at ⟨s.toArray⟩ (grownCap w s.length 0 e) j (by simpa using hj)
    rw [this]; rfl
  · intro j hj
    rw [World.frozen?_alloc_mark]
    have hsz : s.length ≤ (bytesRow ⟨s.toArray⟩ (grownCap w s.length 0 e)).size := by simp [bytesRow]
    simp; omega

theorem of_bytes {P : Program} {src dst e : TypeId} (hs : P.underlying src = some (.slice e)) (he : P.underlying e = some (.int .u8)) (hd : P.underlying dst = some .string) {w : World} {g : Nat} {l : List UInt8} (h : HasBytes w g l) (n cap : Nat) (hn : n = l.length) :
    (convert src dst (.slice (some ⟨g, 0, none⟩) n cap)).run P w = .ok (gs l) w := by
  subst hn
  refine run_convert_bytes_back w src dst e ⟨g, 0, none⟩ cap l hs he hd fun j hj => ?_
  have hadd : (⟨g, 0, none⟩ : Addr).add j = ⟨g, j, none⟩ := by unfold Addr.add; split <;> simp_all
  rw [hadd]; exact h.cell j hj

theorem HasBytes.below {w w' : World} {g : Nat} {l : List UInt8} (h : HasBytes w g l) (hg : g < w.heap.size) (hb : Below w.heap.size w w') : HasBytes w' g l :=
  ⟨fun j hj => (hb.cell (p := ⟨g, j, none⟩) hg).trans (h.cell j hj), fun j hj => (hb.frozen (p := ⟨g, j, none⟩) hg).trans (h.free j hj)⟩

theorem HasBytes.set {w : World} {g : Nat} {l : List UInt8} (h : HasBytes w g l) {k : Nat} (hk : k < l.length) (y : UInt8) (v : Value) (hv : v = .int .u8 (y.toNat : Int)) : HasBytes (w.setCell ⟨g, k, none⟩ v) g (l.set k y) := by
  subst hv
  refine ⟨fun j hj => ?_, fun j hj => ?_⟩
  · have hj' : j < l.length := by simpa using hj
    by_cases e : j = k
    · subst e
      rw [World.cell?_setCell_same (h := h.cell j hj'), List.getElem_set_self]
    · rw [World.cell?_setCell_other (h := by intro e2; exact e (by injection e2 with _ e3; exact e3.symm)), h.cell j hj', List.getElem_set_ne (by omega)]
  · have hj' : j < l.length := by simpa using hj
    rw [World.frozen?_setCell]
    exact h.free j hj'

/-- The exclusive or of two bytes, as the walk spells it. -/
theorem xor_byte (c : UInt8) (q : Nat) (hq : q < 256) : bits .xor .u8 (c.toNat : Int) (q : Int) = ((c ^^^ UInt8.ofNat q).toNat : Int) := by
  rw [u8_xor_nat _ _ c.toNat_lt hq, UInt8.toNat_xor, UInt8.toNat_ofNat', Nat.mod_eq_of_lt (by omega)]
end Go.Proofs.YtjcdcaannajnpaaGreatDoor
