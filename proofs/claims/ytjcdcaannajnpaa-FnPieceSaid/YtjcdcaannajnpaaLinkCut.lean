/- What 'cut' makes: a link of its own, over the same bytes. -/
import Derived.Test.YtjcdcaannajnpaaLink
import Derived.Deep.RegionWith
namespace Go.Proofs.Ytjcdcaannajnpaa
open Go.RowKit

theorem max_if (a b : Int) : (if a < b then b else a) = max a b := by split <;> omega
theorem min_if (a b : Int) : (if b < a then b else a) = min a b := by split <;> omega
set_option maxHeartbeats 1000000 in
set_option maxRecDepth 100000 in
theorem cut_none {w : World} {x : Lk} (hx : Has w x) (h0 : 0 ≤ x.n) (h1 : x.n ≤ 2000000) (ht : x.t.length ≤ 2000000) (f to : Int) (hc : min to (pcEnd x.pc) ≤ max f x.n) :
    Calls Try.prog 52 #[ptr x.g, .int .i64 f, .int .i64 to] w fun e w' => ∃ g, e = .returned (ptr g) ∧ w'.cell? ⟨g, 1, none⟩ = some (.slice none 0 0) ∧ Below w.heap.size w w' := by
  have c0 := hx.at0
  have c1 := hx.at1
  have he := fun m => end_calls (w := w.drewN m) c0 c1 h0 h1 (by omega)
  have HE := Lib.hid he
  clear he
  obtain ⟨g, n, b, o, cap, t⟩ := x
  unfold pcEnd at hc
  dsimp only at *
  clear hx
  generalize hE : n + (t.length : Int) = E at *
  clear hE
  have HC := Lib.hid hc
  clear hc
  go_enter Try.func52, Try.ntmps52
  go_wp2_with fail
  go_quiet ((go_at_call 72; exact Calls.quiet_of (HE.out _)))
  rw [max_if, min_if]
  have hc := HC.out
  generalize max f n = M at *
  generalize min to E = m at *
  have hd : decide (m ≤ M) = true := by simp; omega
  clear hc HC
  go_wp2_with fail
  go_ret
  exact ⟨_, rfl, World.cell?_alloc_new _ _ _ _, (below_drewN (Below.refl _ _) _).alloc (Nat.le_refl _) _⟩
theorem run_cut3 {P : Program} {T e : TypeId} (hT : P.underlying T = some (.slice e)) (he : P.elem T = e) (hi : (P.info? e).map (fun i => i.size) = some 1) (W : World) (b o n cap f l : Nat) (F L : Int) (hF : F = (f : Int)) (hL : L = (l : Int)) (hfl : f < l) (hl : l ≤ n) (hn : n ≤ cap) :
    (Instr.slice T (.slice (some ⟨b, o, none⟩) n cap) (some (.int .i64 F)) (some (.int .i64 L)) (some (.int .i64 L))).run P W = .ok (.slice (some ⟨b, o + f, none⟩) (l - f) (l - f)) W := by
  subst hF hL
  obtain ⟨i, hi1, hi2⟩ : ∃ i, P.info? e = some i ∧ i.size = 1 := by
    cases h : P.info? e with
    | none => rw [h] at hi; cases hi
    | some i => rw [h] at hi; exact ⟨i, rfl, by simpa using hi⟩
  rw [run_slice_lhm (w := W) T (some ⟨b, o, none⟩) n cap (by rw [he]; exact hT) .i64 .i64 .i64 f l l (by omega) (by omega) (by omega) (by omega)]
  rw [he]
  have hne : ¬ l = f := by omega
  simp [sizeOf, hi1, hi2, go_sem, sliced, run_typeInfo, hne, Result.andThen]
theorem has_cut {w : World} {x : Lk} (hx : Has w x) (q : Nat) (M : Int) (k l : Nat) (hkl : k + l ≤ x.t.length) :
    Has ((w.drewN q).alloc (.cells #[.int .i64 M, .slice (some ⟨x.b, x.o + k, none⟩) l l, .pointer none, .pointer none] 65)) ⟨w.heap.size, M, x.b, x.o + k, l, (x.t.drop k).take l⟩ := by
  have hg := heap_new (w.drewN q) (.cells #[.int .i64 M, .slice (some ⟨x.b, x.o + k, none⟩) l l, .pointer none, .pointer none] 65)
  have ho := hx.below ((below_drewN (Below.refl _ _) q).alloc (Nat.le_refl _) (.cells #[.int .i64 M, .slice (some ⟨x.b, x.o + k, none⟩) l l, .pointer none, .pointer none] 65))
  have hsz : (w.drewN q).heap.size = w.heap.size := rfl
  rw [hsz] at hg
  generalize (w.drewN q).alloc (.cells #[.int .i64 M, .slice (some ⟨x.b, x.o + k, none⟩) l l, .pointer none, .pointer none] 65) = w' at *
  have hlen : ((x.t.drop k).take l).length = l := by rw [List.length_take, List.length_drop]; omega
  refine ⟨⟨_, hg⟩, ho.kind, by simp [World.cell?, hg], by simp only [World.cell?, hg]; rw [hlen]; rfl, fun j hj => ?_, fun j h1 h2 => ?_, Nat.le_of_eq hlen⟩
  · have hj' : j < l := by rw [← hlen]; exact hj
    have := ho.byte (k + j) (by omega)
    show w'.cell? ⟨x.b, x.o + k + j, none⟩ = _
    rw [Nat.add_assoc, this]
    simp
  · exfalso
    have h1' : l ≤ j := by rw [← hlen]; exact h1
    have h2' : j < l := h2
    omega
set_option maxHeartbeats 1000000 in
set_option maxRecDepth 100000 in
theorem cut_some {w : World} {x : Lk} (hx : Has w x) (h0 : 0 ≤ x.n) (h1 : x.n ≤ 2000000) (ht : x.t.length ≤ 2000000) (f to : Int) (hc : max f x.n < min to (pcEnd x.pc)) :
    Calls Try.prog 52 #[ptr x.g, .int .i64 f, .int .i64 to] w fun e w' => ∃ y : Lk, e = .returned (ptr y.g) ∧ y.pc = cutP x.pc f to ∧ w.heap.size ≤ y.g ∧ y.b = x.b ∧ y.cap = y.t.length ∧ Has w' y ∧
      w'.cell? ⟨y.g, 2, none⟩ = some (.pointer none) ∧ w'.cell? ⟨y.g, 3, none⟩ = some (.pointer none) ∧ Below w.heap.size w w' := by
  have HX := Lib.hid hx
  have c0 := hx.at0
  have c1 := hx.at1
  have ble := hx.ble
  have he := fun m => end_calls (w := w.drewN m) c0 c1 h0 h1 (by omega)
  have HE := Lib.hid he
  clear he
  have hE : pcEnd x.pc = x.n + (x.t.length : Int) := rfl
  have hcp : cutP x.pc f to = (max f x.n, (x.t.drop (max f x.n - x.n).toNat).take (min to (pcEnd x.pc) - max f x.n).toNat) := by unfold cutP; rw [if_neg (Int.not_le.2 hc)]
  have hM0 : x.n ≤ max f x.n := by omega
  have hm0 : min to (pcEnd x.pc) ≤ x.n + (x.t.length : Int) := by rw [hE]; omega
  have HCP := Lib.hid hcp
  have HEE := Lib.hid hE
  clear hx hcp
  rw [hE] at hc hm0
  clear hE
  obtain ⟨g, n, b, o, cap, t⟩ := x
  dsimp only at *
  generalize hE : n + (t.length : Int) = E at *
  have HC := Lib.hid hc
  have HM0 := Lib.hid hM0
  have HN0 := Lib.hid hm0
  have HEQ := Lib.hid hE
  clear hc hM0 hm0 hE
  go_enter Try.func52, Try.ntmps52
  go_wp2_with fail
  go_quiet ((go_at_call 72; exact Calls.quiet_of (HE.out _)))
  rw [max_if, min_if]
  have hc := HC.out
  have hM0 := HM0.out
  have hm0 := HN0.out
  have hcp := HCP.out
  have hEE := HEE.out
  have hEq := HEQ.out
  rw [hEE] at hcp
  have HCP2 := Lib.hid hcp
  clear HC HM0 HN0 HCP HEE HEQ hcp hEE
  generalize max f n = M at *
  generalize min to E = m at *
  have hd : decide (m ≤ M) = false := by simp; omega
  have hw1 : IntKind.i64.wrap (M - n) = M - n := IntWalk.i64_in _ (by omega)
  have hw2 : IntKind.i64.wrap (m - n) = m - n := IntWalk.i64_in _ (by omega)
  have hsl := fun W => run_cut3 (P := Try.prog) Try.underlying22 (by kernel_rfl) (by kernel_rfl) W b o t.length cap (M - n).toNat (m - n).toNat (M - n) (m - n) (by omega) (by omega) (by omega) (by omega) ble
  have HSL := Lib.hid hsl
  have HEQ := Lib.hid hEq
  clear hc hsl hEq
  go_wp2_with fail
  go_quiet (fail)
  have hsl := HSL.out
  clear HE hw1 hw2
  go_wp2_with fail
  go_ret
  have hlen : ((t.drop (M - n).toNat).take (m - M).toNat).length = (m - n).toNat - (M - n).toNat := by
    have := HEQ.out
    have hlt : M < m := by simpa using hd
    rw [List.length_take, List.length_drop]; omega
  have hEq := HEQ.out
  have hlt : M < m := by simpa using hd
  have hh := fun q => has_cut HX.out q M (M - n).toNat ((m - n).toNat - (M - n).toNat) (by show _ ≤ t.length; omega)
  have e : (m - M).toNat = (m - n).toNat - (M - n).toNat := by omega
  have hcp := HCP2.out
  rw [e] at hcp hlen
  refine ⟨_, rfl, ?_, Nat.le_refl _, rfl, ?_, hh _, ?_, ?_, (below_drewN (Below.refl _ _) _).alloc (Nat.le_refl _) _⟩
  · exact hcp.symm
  · exact hlen.symm
  · exact World.cell?_alloc_new _ _ _ _
  · exact World.cell?_alloc_new _ _ _ _
end Go.Proofs.Ytjcdcaannajnpaa
