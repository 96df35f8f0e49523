/- The program's ringOf: a new ring out of a row of texts. -/
import Derived.Test.YthimndilobadeaaDoorRoadT
namespace Go.Proofs.YthimndilobadeaaDoor
open Go.RowKit

theorem Ten.toBelow {x w w' : World} {b o B : Nat} (h : Ten w w' b o) (hb : Below B x w) (hB : B ≤ w.heap.size) (h0 : B ≤ b) : Below B x w' := hb.grown h.grown hB (fun k e => by cases e; exact h0)
/-- A ring as a value. -/
def ringV (s : Nat → List UInt8) (f c : Int) : Value := .agg #[gs (s 0), gs (s 1), gs (s 2), gs (s 3), gs (s 4), gs (s 5), gs (s 6), gs (s 7), .int .i64 f, .int .i64 c]
theorem eight {p : Nat → Prop} (h0 : p 0) (h1 : p 1) (h2 : p 2) (h3 : p 3) (h4 : p 4) (h5 : p 5) (h6 : p 6) (h7 : p 7) : ∀ j, j < 8 → p j := fun j hj => by
  have : j = 0 ∨ j = 1 ∨ j = 2 ∨ j = 3 ∨ j = 4 ∨ j = 5 ∨ j = 6 ∨ j = 7 := by omega
  rcases this with rfl | rfl | rfl | rfl | rfl | rfl | rfl | rfl <;> assumption
theorem gs_same {t u : List UInt8} (h : gs t = gs u) : t = u := by
  injection h with h
  have h3 := congrArg ByteArray.data h
  simpa using congrArg Array.toList h3
/-- A ring without things, as it is made. -/
def noRing : Array Value := #[.string ⟨#[]⟩, .string ⟨#[]⟩, .string ⟨#[]⟩, .string ⟨#[]⟩, .string ⟨#[]⟩, .string ⟨#[]⟩, .string ⟨#[]⟩, .string ⟨#[]⟩, .int .i64 0, .int .i64 0]
theorem noRing_at (w : World) (T : TypeId) : RingAt (w.alloc (.cells noRing T)) w.heap.size 0 0 [] := by
  have hc : ∀ j, (w.alloc (.cells noRing T)).cell? ⟨w.heap.size, j, none⟩ = noRing[j]? := fun j => by rw [World.cell?_alloc_at _ _ _ _ (by simp)]
  refine ⟨by omega, by simp, ?_, by rw [hc]; rfl, by rw [hc]; rfl, fun j hj => by simp at hj, fun j hj => by simp⟩
  refine eight ⟨[], ?_⟩ ⟨[], ?_⟩ ⟨[], ?_⟩ ⟨[], ?_⟩ ⟨[], ?_⟩ ⟨[], ?_⟩ ⟨[], ?_⟩ ⟨[], ?_⟩ <;> (rw [hc]; rfl)
theorem noRing_open (w : World) (T : TypeId) : OpenTx (w.alloc (.cells noRing T)) w.heap.size 10 := by
  have hc : ∀ j, (w.alloc (.cells noRing T)).cell? ⟨w.heap.size, j, none⟩ = noRing[j]? := fun j => by rw [World.cell?_alloc_at _ _ _ _ (by simp)]
  refine ⟨fun i hi => ?_, fun i hi => by simp⟩
  rw [hc]
  exact ⟨_, Array.getElem?_eq_getElem (by simp [noRing]; omega)⟩
/-- The slots of a ring, as a function. -/
theorem RingAt.slots {w : World} {b o f : Nat} {l : Tx} (h : RingAt w b o f l) : ∃ s : Nat → List UInt8, (∀ j, j < 8 → w.cell? ⟨b, o + j, none⟩ = some (gs (s j))) ∧ ∀ j, j < l.length → s ((f + j) % 8) = txAt l j := by
  have each : ∀ j, ∃ t : List UInt8, j < 8 → w.cell? ⟨b, o + j, none⟩ = some (gs t) := fun j => by
    by_cases hj : j < 8
    · obtain ⟨t, ht⟩ := h.slot j hj; exact ⟨t, fun _ => ht⟩
    · exact ⟨[], fun h => absurd h hj⟩
  refine ⟨fun j => (each j).choose, fun j hj => (each j).choose_spec hj, fun j hj => ?_⟩
  have h1 := (each ((f + j) % 8)).choose_spec (by omega)
  have h2 := h.item j hj
  exact gs_same (Option.some.inj (h1.symm.trans h2))

set_option maxHeartbeats 2000000 in
set_option maxRecDepth 100000 in
theorem ringOf_calls {a : Option Addr} {len cap : Nat} {l : Tx} {w : World} (h : InTx w a len l) (h8 : l.length ≤ 8) :
    Calls Tryd.prog 53 #[.slice a len cap] w fun e w' => ∃ s : Nat → List UInt8, e = .returned (ringV s 0 (l.length : Int)) ∧ (∀ j, j < l.length → s j = txAt l j) ∧ Below w.heap.size w w' := by
  have hm := h.most
  have hlen := h.long
  subst hlen
  have hb1 : Below w.heap.size w (w.alloc (.cells noRing 66)) := (Below.refl _ _).alloc (Nat.le_refl _) _
  have hb2 : Below (w.alloc (.cells noRing 66)).heap.size (w.alloc (.cells noRing 66)) ((w.alloc (.cells noRing 66)).alloc (.cells noRing 66)) := (Below.refl _ _).alloc (Nat.le_refl _) _
  have hop := (noRing_open w 66).below (by simp) hb2
  have hrg := noRing_at (w.alloc (.cells noRing 66)) 66
  have hs1 : (w.alloc (.cells noRing 66)).heap.size = w.heap.size + 1 := by simp
  have hB := hb1.trans (hb2.mono (by simp))
  have hs2 : ((w.alloc (.cells noRing 66)).alloc (.cells noRing 66)).heap.size = w.heap.size + 2 := by simp
  rw [hs1] at hrg
  clear hb1 hb2 hs1
  unfold noRing at hop hrg hB hs2
  go_enter Tryd.func53, Tryd.ntmps53
  go_wp2_with fail
  generalize ((w.alloc (.cells _ 66)).alloc (.cells _ 66)) = W at *
  go_loopw [8] (fun i wr => ∃ k : Nat, i = .int .i64 (k : Int) ∧ k ≤ l.length ∧ RingAt wr (w.heap.size + 1) 0 0 (l.take k) ∧ Ten W wr (w.heap.size + 1) 0) (fun i _ => l.length - (intOf i).toNat)
  case atStart => exact ⟨0, rfl, Nat.zero_le _, by rw [List.take_zero]; exact hrg, Ten.refl _ _ _⟩
  case round =>
    clear hrg
    obtain ⟨k, rfl, hk, hr, ht⟩ := hrel
    by_cases hkl : k < l.length
    · have hbl := ht.toBelow hB (by omega) (by omega)
      have hh := h.below hbl
      obtain ⟨b, o, rfl⟩ := hh.there (by omega)
      have c0 := hh.cell b o rfl k hkl
      have hcall := ringPush_calls hr (txAt l k)
      rw [if_pos (by simp; omega), ← take_succ' (by omega)] at hcall
      generalize txAt l k = t at *
      have HC := Lib.hid hcall
      have HT := Lib.hid ht
      clear hh h hbl hr ht hcall hop hB
      go_wp2_with fail
      refine HC.out.mono ?_
      rintro e w1 ⟨rfl, r1, t1⟩
      have R1 := Lib.hid r1
      have T1 := Lib.hid (HT.out.trans t1)
      clear HC HT r1 t1
      go_wp2_with fail
      exact ⟨⟨k + 1, by go_num, by omega, R1.out, T1.out⟩, by simp [intOf]; omega⟩
    · have hkl' : k = l.length := by omega
      have hx : l.take k = l := by rw [hkl']; exact List.take_length
      rw [hx] at hr
      have hop2 : OpenTx wr w.heap.size 10 := hop.kept (ht.grown.block _ (by omega) (fun e => by have := Option.some.inj e; omega))
      have hbl := ht.toBelow hB (by omega) (by omega)
      obtain ⟨s, hs, hs2⟩ := hr.slots
      have c0 := hs 0 (by omega)
      have c1 := hs 1 (by omega)
      have c2 := hs 2 (by omega)
      have c3 := hs 3 (by omega)
      have c4 := hs 4 (by omega)
      have c5 := hs 5 (by omega)
      have c6 := hs 6 (by omega)
      have c7 := hs 7 (by omega)
      have c8 := hr.at8
      have c9 := hr.at9
      simp only [Nat.zero_add] at c0 c1 c2 c3 c4 c5 c6 c7 c8 c9
      obtain ⟨v0, d0⟩ := hop2.there 0 (by omega)
      obtain ⟨v1, d1⟩ := hop2.there 1 (by omega)
      obtain ⟨v2, d2⟩ := hop2.there 2 (by omega)
      obtain ⟨v3, d3⟩ := hop2.there 3 (by omega)
      obtain ⟨v4, d4⟩ := hop2.there 4 (by omega)
      obtain ⟨v5, d5⟩ := hop2.there 5 (by omega)
      obtain ⟨v6, d6⟩ := hop2.there 6 (by omega)
      obtain ⟨v7, d7⟩ := hop2.there 7 (by omega)
      obtain ⟨v8, d8⟩ := hop2.there 8 (by omega)
      obtain ⟨v9, d9⟩ := hop2.there 9 (by omega)
      have f0 := hop2.free 0 (by omega)
      have f1 := hop2.free 1 (by omega)
      have f2 := hop2.free 2 (by omega)
      have f3 := hop2.free 3 (by omega)
      have f4 := hop2.free 4 (by omega)
      have f5 := hop2.free 5 (by omega)
      have f6 := hop2.free 6 (by omega)
      have f7 := hop2.free 7 (by omega)
      have f8 := hop2.free 8 (by omega)
      have f9 := hop2.free 9 (by omega)
      have HS := Lib.hid hs2
      have HBL := Lib.hid hbl
      clear h hop hB hr ht hop2 hs hs2 hbl hx
      go_wp2_with fail
      refine bodyPost_ret (v := ringV s 0 (l.length : Int)) (by simp [ringV, results, Tryd.results53, go_sem, d0, d1, d2, d3, d4, d5, d6, d7, d8, d9]) rfl ?_
      refine ⟨s, rfl, fun j hj => ?_, ?_⟩
      · have := HS.out j hj
        rwa [show (0 + j) % 8 = j by omega] at this
      · exact (((((((((HBL.out.setCell (Nat.le_refl _) _).setCell (Nat.le_refl _) _).setCell (Nat.le_refl _) _).setCell (Nat.le_refl _) _).setCell (Nat.le_refl _) _).setCell (Nat.le_refl _) _).setCell (Nat.le_refl _) _).setCell (Nat.le_refl _) _).setCell (Nat.le_refl _) _).setCell (Nat.le_refl _) _
end Go.Proofs.YthimndilobadeaaDoor
