/- 'pieces': the pieces of a ring, in a row of the call's own. -/
import Derived.Test.YtjcdcaannajnpaaRingA
import Derived.Test.YtjcdcaannajnpaaPieceTo
import Derived.Deep.AppendLies
import Derived.Deep.RegionLaw
import Derived.LaidEqlPtr
namespace Go.Proofs.Ytjcdcaannajnpaa
open Go.RowKit

/-- What the link at hand gives a walk along the ring. -/
theorem Ring.at {w : World} {B r : Nat} {ks xs ys : List Lk} {y : Lk} (h : Ring w B r ks) (e : ks = xs ++ y :: ys) :
    Has w y ∧ w.cell? ⟨y.g, 3, none⟩ = some (ptr (headG r ys)) ∧ w.cell? ⟨y.g, 2, none⟩ = some (ptr (lastG r (gsOf xs))) ∧ y.g ≠ r ∧ y.t ≠ [] := by
  subst e
  have h1 := h.around (xs := xs) (ys := y :: ys)
  have h2 := Ring.around (xs := xs ++ [y]) (ys := ys) (by simpa using h)
  have hl : lastG r (gsOf (xs ++ [y])) = y.g := by
    have : ∀ (l : List Nat) (a b : Nat), lastG a (l ++ [b]) = b := by
      intro l
      induction l with
      | nil => intro a b; rfl
      | cons c l ih => intro a b; exact ih c b
    rw [show gsOf (xs ++ [y]) = gsOf xs ++ [y.g] by simp, this]
  rw [hl] at h2
  refine ⟨h.has y (by simp), h2.1, h1.2.1, ?_, h.full y (by simp)⟩
  intro e
  have := (List.nodup_cons.1 h.dis).1
  apply this
  rw [← e]; simp
theorem has_string {w : World} {x : Lk} (h : Has w x) : (convert 22 9 (.slice (some ⟨x.b, x.o, none⟩) x.t.length x.cap)).run Try.prog w = .ok (gs x.t) w :=
  run_convert_bytes_back w _ _ 5 ⟨x.b, x.o, none⟩ x.cap x.t Try.underlying22 Try.underlying5 Try.underlying9 (fun j hj => by
    have hadd : (⟨x.b, x.o, none⟩ : Addr).add j = ⟨x.b, x.o + j, none⟩ := by rw [Addr.add_lit]
    rw [hadd]; exact h.byte j hj)

theorem ptr_same (w : World) (g : Nat) : (binOp .neq 61 (ptr g) (ptr g)).run Try.prog w = .ok (.bool false) w := by
  obtain ⟨j, hj⟩ : ∃ j, Try.prog.info? 65 = some j := by
    have h : (Try.prog.info? 65).isSome = true := by kernel_rfl
    exact Option.isSome_iff_exists.1 h
  have h : ∀ d : Nat, (Op.equalIn (d + 1) 61 (ptr g) (ptr g)).run Try.prog w = .ok true w := fun d => by
    simp [Op.equalIn, run_underlying Try.underlying61, sizeOf, typeInfo, hj, run_sameAddr_same]
  simp only [binOp]
  simp [Op.equal, Op.maxDepth, h 9999]
theorem ptr_other {w : World} {g k : Nat} (hg : IsLink w g) (hk : IsLink w k) (hne : g ≠ k) : (binOp .neq 61 (ptr g) (ptr k)).run Try.prog w = .ok (.bool true) w := by
  obtain ⟨j, hj, hs⟩ : ∃ j, Try.prog.info? 65 = some j ∧ j.size ≠ 0 := by
    have h : (Try.prog.info? 65).map (fun i => i.size) = some 4 := by kernel_rfl
    cases hi : Try.prog.info? 65 with
    | none => rw [hi] at h; cases h
    | some j => rw [hi] at h; simp at h; exact ⟨j, rfl, by omega⟩
  obtain ⟨c, hc⟩ := hg
  obtain ⟨d, hd⟩ := hk
  have ha : (⟨g, 0, none⟩ : Addr) ≠ ⟨k, 0, none⟩ := fun e => hne (Addr.mk.inj e).1
  have h : ∀ d : Nat, (Op.equalIn (d + 1) 61 (ptr g) (ptr k)).run Try.prog w = .ok false w := fun d => by
    simp [Op.equalIn, run_underlying Try.underlying61, sizeOf, typeInfo, hj, hs, run_sameAddr_other w ha hc hd]
  simp only [binOp]
  simp [Op.equal, Op.maxDepth, h 9999]

set_option maxHeartbeats 2000000 in
set_option maxRecDepth 100000 in
theorem pieces_calls {w : World} {B r : Nat} {ks : List Lk} (h : Ring w B r ks) (hn : ks.length ≤ 1000) :
    Calls Try.prog 46 #[ptr r] w fun e w' => ∃ v, e = .returned v ∧ w'.ownsRow w.heap.size 69 2 v ks.length (pv (ks.map Lk.pc)) ∧ Below w.heap.size w w' := by
  have hzz : (Try.prog.info? 69).map (fun i => (i.zero, i.size, i.bytes)) = some (some (.agg #[.int .i64 0, gs []]), 2, 24) := by kernel_rfl
  obtain ⟨i0, hi, hz0, hz1, hz2⟩ := info_parts hzz
  clear hzz
  have h3 : w.cell? ⟨r, 3, none⟩ = some (ptr (headG r ks)) := (h.around (xs := []) (ys := ks)).1
  have H := Lib.hid h
  clear h
  go_enter Try.func46, Try.ntmps46
  go_wp2_with fail
  go_loopg [3, 4] ks.length (fun m v p wr => ∃ xs ys, ks = xs ++ ys ∧ ys.length = m ∧ p = ptr (headG r ys) ∧ wr.ownsRow w.heap.size 69 2 v xs.length (pv (xs.map Lk.pc)) ∧ Below w.heap.size w wr)
  case atStart => exact ⟨[], ks, rfl, rfl, rfl, World.ownsRow_nil w _ _ _, Below.refl _ _⟩
  case round =>
    clear h3
    obtain ⟨xs, ys, hsp, hm, rfl, hown, hbl⟩ := hrel
    cases ys with
    | nil =>
      have hhd : headG r [] = r := rfl
      rw [hhd]
      have hx : ks = xs := by rw [hsp]; simp
      have hpq := ptr_same wr r
      have HO := Lib.hid hown
      have HX := Lib.hid hx
      clear hsp hx hhd hown hm
      go_wp2_with fail
      go_ret
      exact ⟨_, rfl, by rw [HX.out]; exact HO.out, hbl⟩
    | cons y ys =>
      have hhd : headG r (y :: ys) = y.g := rfl
      rw [hhd]
      obtain ⟨hy, y3, _, yr, _⟩ := H.out.at hsp
      have hy1 := hy.below hbl
      have c0 := hy1.at0
      have c1 := hy1.at1
      have c3 := (hbl.cell (p := ⟨y.g, 3, none⟩) hy.link.lt).trans y3
      have hcv := has_string (w := wr.drew) (hy1.drew 1)
      have hpq := ptr_other hy1.link (H.out.root.of (hbl.block r H.out.root.lt)) yr
      have hxl : xs.length < 1000 := by have := congrArg List.length hsp; simp at this; omega
      have hws := hbl.size
      have HO := Lib.hid hown
      have HB := Lib.hid hbl
      have HS := Lib.hid hsp
      have HM := Lib.hid hm
      have HCV := Lib.hid hcv
      have HY := Lib.hid hy
      have Y3 := Lib.hid y3
      clear hown hbl hsp hm hcv hy hy1 hhd y3
      go_wp2_with fail
      have hcv := HCV.out
      go_region_law (refine step_append_lies _ rfl (.tmp 16) (.tmp 27) 23 rfl w.heap.size 69 i0 (.agg #[.int .i64 0, gs []]) 2 24 Try.underlying23 hi hz0 hz1 hz2 rfl (by decide) _ xs.length (pv (xs.map Lk.pc)) (by simp [Act.eval]) ((HO.out.alloc _).drew) ⟨wr.heap.size, 0, none⟩ 1 1 [.int .i64 y.n, gs y.t] (by simp [Act.eval]) rfl (fun j u hj => two_new wr _ _ _ j u hj) (two_cell _ _ _) (by decide) (by unfold maxLen; omega) (by omega) (by simp; omega) _ rfl ?_; intro g1 cap1 w1 hown1 hgrow1 _ _)
      all_goals
        have hg' : (wr.alloc (.cells #[.int .i64 y.n, gs y.t] 69)).grownBy w1 _ := ⟨hgrow1.os, hgrow1.tape, hgrow1.output, hgrow1.size, hgrow1.block⟩
        have R := piece_step (p := y.pc) HB.out hws (by rw [List.length_map]; exact HO.out) (by rw [List.length_map]; exact hown1) hg'
        have c3' := (R.2.cell (p := ⟨y.g, 3, none⟩) HY.out.link.lt).trans Y3.out
        have hR1 : w1.ownsRow w.heap.size 69 2 (.slice (some ⟨g1, 0, none⟩) (xs.length + 1) cap1) (xs ++ [y]).length (pv ((xs ++ [y]).map Lk.pc)) := by
          have := R.1
          rw [show (xs ++ [y]).map Lk.pc = xs.map Lk.pc ++ [y.pc] by simp]
          simpa using this
        have HR1 := Lib.hid hR1
        have HR2 := Lib.hid R.2
        clear hg' R hR1 hown1 hgrow1 hcv c0 c1 c3
        go_wp2_with fail
        go_roundg ys.length
        case measure => have := HM.out; simp at this; omega
        case rel => exact ⟨xs ++ [y], ys, by rw [HS.out]; simp, rfl, rfl, HR1.out, HR2.out⟩
end Go.Proofs.Ytjcdcaannajnpaa
