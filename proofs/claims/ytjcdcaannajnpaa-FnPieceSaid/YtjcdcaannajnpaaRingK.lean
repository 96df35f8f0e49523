/- 'joinNeighbours': what stands side by side becomes one link. -/
import Derived.Test.YtjcdcaannajnpaaRingJ
import Derived.Deep.RegionLawGrows
import Derived.Deep.Upon
namespace Go.Proofs.Ytjcdcaannajnpaa
open Go.RowKit

/-- What an append of the bytes s to a link's bytes leaves. -/
structure AppW (w W1 : World) (y : Lk) (s : List UInt8) (b' o' cap' : Nat) : Prop where
  os : W1.os = w.os
  tape : W1.tape = w.tape
  output : W1.output = w.output
  size : w.heap.size ≤ W1.heap.size
  keep : ∀ i, i < w.heap.size → (i ≠ y.b ∨ ¬ y.t.length < y.cap) → W1.heap[i]? = w.heap[i]?
  place : (b' = y.b ∧ y.t.length < y.cap) ∨ w.heap.size ≤ b'
  kind : IsBytes W1 b'
  byte : ∀ j (h : j < (y.t ++ s).length), W1.cell? ⟨b', o' + j, none⟩ = some (.int .u8 ((y.t ++ s)[j].toNat : Int))
  spare : ∀ j, (y.t ++ s).length ≤ j → j < cap' → (W1.cell? ⟨b', o' + j, none⟩).isSome = true ∧ W1.frozen? ⟨b', o' + j, none⟩ = false
  ble : (y.t ++ s).length ≤ cap'

theorem isBytes_set {w : World} {b : Nat} (h : IsBytes w b) (p i : Nat) (v : Value) : IsBytes (w.setCell ⟨p, i, none⟩ v) b := by
  by_cases e : b = p
  · subst e
    obtain ⟨c, fz, h⟩ := h
    refine ⟨c.setIfInBounds i v, fz, ?_⟩
    simp [World.setCell, Array.getElem?_modify, h]
  · exact h.of (Below.heap_setCell _ _ _ _ (by simpa using e))
theorem isBytes_sets (p : Nat) : ∀ (vs : List Value) (o : Nat) (w : World) (b : Nat), IsBytes w b → IsBytes (w.setCells p o vs) b
  | [], _, _, _, h => h
  | v :: vs, o, _, b, h => isBytes_sets p vs (o + 1) _ b (isBytes_set h p o v)
theorem sets_size (p : Nat) : ∀ (vs : List Value) (o : Nat) (w : World), (w.setCells p o vs).heap.size = w.heap.size ∧ (w.setCells p o vs).tape = w.tape
  | [], _, _ => ⟨rfl, rfl⟩
  | v :: vs, o, w => by
    obtain ⟨h1, h2⟩ := sets_size p vs (o + 1) (w.setCell ⟨p, o, none⟩ v)
    exact ⟨h1.trans (by simp), h2.trans rfl⟩
theorem u8s_at (l : List UInt8) (j : Nat) (h : j < l.length) : (u8s l)[j]? = some (.int .u8 (l[j].toNat : Int)) := by simp [u8s, h]
theorem u8s_cell {l : List UInt8} {j : Nat} {u : Value} (h : (u8s l)[j]? = some u) : ∃ hj : j < l.length, u = .int .u8 (l[j].toNat : Int) := by
  have hj : j < l.length := by have := (List.getElem?_eq_some_iff.1 h).1; simpa [u8s] using this
  exact ⟨hj, by rw [u8s_at l j hj] at h; exact (Option.some.inj h).symm⟩
theorem appW_room {w : World} {y : Lk} {s : List UInt8} (hy : Has w y) (hs : s ≠ []) (hr : y.t.length + s.length ≤ y.cap) : AppW w (w.setCells y.b (y.o + y.t.length * 1) (u8s s)) y s y.b y.o y.cap := by
  have hl : 0 < s.length := List.length_pos_iff.2 hs
  have hu : (u8s s).length = s.length := u8s_length s
  refine ⟨World.os_setCells _ _ _ _, (sets_size _ _ _ _).2, World.output_setCells _ _ _ _, Nat.le_of_eq (sets_size _ _ _ _).1.symm, fun i hi h => ?_, .inl ⟨rfl, by omega⟩, isBytes_sets _ _ _ _ _ hy.kind, fun j hj => ?_, fun j h1 h2 => ?_, by simpa using hr⟩
  · rcases h with h | h
    · exact World.heap_setCells_other _ _ _ _ hi h
    · omega
  · by_cases h : j < y.t.length
    · rw [World.cell?_setCells_out _ _ _ _ _ (fun _ _ => .inl (by show y.o + j < _; omega)), List.getElem_append_left h]
      exact hy.byte j h
    · have hj' : j < y.t.length + s.length := by simpa using hj
      have := World.cell?_setCells_in y.b (u8s s) (y.o + y.t.length * 1) w (fun i hi => by
        have := (hy.spare (y.t.length + i) (by omega) (by omega)).1
        rwa [show y.o + y.t.length * 1 + i = y.o + (y.t.length + i) by omega]) (j - y.t.length) (by omega)
      rw [show y.o + y.t.length * 1 + (j - y.t.length) = y.o + j by omega] at this
      rw [this, List.getElem_append_right (by omega)]
      simp [u8s]
  · have h1' : y.t.length + s.length ≤ j := by simpa using h1
    obtain ⟨a, b⟩ := hy.spare j (by omega) h2
    rw [World.cell?_setCells_out _ _ _ _ _ (fun _ _ => .inr (by show _ ≤ y.o + j; omega)), World.frozen?_setCells]
    exact ⟨a, b⟩
theorem appW_grown {w W1 : World} {y : Lk} {s : List UInt8} {v : Value} (ho : W1.ownsRow w.heap.size 5 1 v (y.t.length + s.length) (u8s y.t ++ u8s s)) (hg : w.grownBy W1 none) (hs : s ≠ []) :
    ∃ b' cap', v = .slice (some ⟨b', 0, none⟩) (y.t.length + s.length) cap' ∧ AppW w W1 y s b' 0 cap' := by
  have hl : 0 < s.length := List.length_pos_iff.2 hs
  rcases ho.2 with ⟨_, h0⟩ | ⟨b', cap, cur, rfl, hb, hh, hn, hm, hc, ht⟩
  · omega
  · have hcl : ∀ j, W1.cell? ⟨b', 0 + j, none⟩ = cur[j]? := fun j => by simp [World.cell?, hh]
    refine ⟨b', cap, rfl, hg.os, hg.tape, hg.output, hg.size, fun i hi _ => hg.block i hi (by simp), .inr hb, ⟨_, _, hh⟩, fun j hj => ?_, fun j h1 h2 => ⟨?_, ?_⟩, by simpa using hn⟩
    · have hj' : j < y.t.length + s.length := by simpa using hj
      rw [hcl]
      have h1 : (u8s y.t ++ u8s s)[j]? = some (.int .u8 ((y.t ++ s)[j].toNat : Int)) := by rw [← u8s_append]; exact u8s_at _ j hj
      rw [← ht, List.getElem?_take, if_pos (by omega)] at h1
      simpa using h1
    · rw [hcl]
      have : j < cur.size := by omega
      simp [this]
    · simp [World.frozen?, hh]
theorem step_append_any {P : Program} {ops : Array Oper} {o : Oper} {a : Act} {w : World} {K : Act → World → Prop} {Q : Exit → Act → World → Prop} {E : Prop}
    (hg : o.guard = none) (p x : Operand) (t : TypeId) (hop : o.op = Op.call { callee := Callee.builtin Builtin.append, args := #[p, x], argTypes := #[t, t] })
    (i : TypeInfo) (h1 : P.underlying t = some (.slice 5)) (h2 : P.info? 5 = some i) (h3 : i.zero = some (.int .u8 0)) (h4 : i.size = 1) (h5 : i.bytes = 1)
    (y z : Lk) (hy : Has w y) (hz : Has w z) (hzn : z.t ≠ []) (hs : a.eval p = .slice (some ⟨y.b, y.o, none⟩) y.t.length y.cap) (hx : a.eval x = .slice (some ⟨z.b, z.o, none⟩) z.t.length z.cap) (hb : y.t.length + z.t.length ≤ 1000000000)
    (hK : ∀ b' o' cap' W1, AppW w W1 y z.t b' o' cap' → K (a.put o.dst (.slice (some ⟨b', o', none⟩) (y.t.length + z.t.length) cap')) W1) :
    if Region.wanted o (yielded ops a.tmps) = true then Oper.wp P o a w K Q else E := by
  have hnews : ∀ j u, (u8s z.t)[j]? = some u → w.cell? ((⟨z.b, z.o, none⟩ : Addr).add j) = some u := fun j u hj => by
    obtain ⟨h, rfl⟩ := u8s_cell hj
    rw [Addr.add_lit]; exact hz.byte j h
  have h1c : ∀ u ∈ u8s z.t, u.oneCell' = true := fun u hu => by simp [u8s] at hu; obtain ⟨b, _, rfl⟩ := hu; rfl
  by_cases hr : y.t.length + z.t.length ≤ y.cap
  · refine step_append_room hg p x t hop 5 i 1 h1 h2 h4 y.b y.o y.t.length y.cap hs ⟨z.b, z.o, none⟩ z.t.length z.cap (u8s z.t) hx (by rw [u8s_length]; omega) hnews h1c hr (fun j hj => ?_) (hK _ _ _ _ (appW_room hy hzn hr))
    rw [u8s_length] at hj
    have := hy.spare (y.t.length + j) (by omega) (by omega)
    rwa [show y.o + y.t.length * 1 + j = y.o + (y.t.length + j) by omega]
  · refine step_append_grows hg p x t hop 5 i (.int .u8 0) 1 1 h1 h2 h3 h4 h5 rfl (by decide) (some ⟨y.b, y.o, none⟩) y.t.length y.cap (u8s y.t) hs (fun h => by cases h) (by rw [u8s_length]; omega) (fun b hb j u hj => ?_)
      ⟨z.b, z.o, none⟩ z.t.length z.cap (u8s z.t) hx (by rw [u8s_length]; omega) hnews h1c (by omega) (by unfold maxLen; omega) (by omega) (fun v' w' ho hgr => ?_)
    · cases hb
      obtain ⟨h, rfl⟩ := u8s_cell hj
      rw [Addr.add_lit]; exact hy.byte j h
    · obtain ⟨b', cap', rfl, ha⟩ := appW_grown ho hgr hzn
      exact hK _ _ _ _ ha
end Go.Proofs.Ytjcdcaannajnpaa
