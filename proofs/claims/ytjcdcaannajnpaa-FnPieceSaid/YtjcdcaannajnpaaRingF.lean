/- 'fill': what of a piece is missing is put between the links of a ring. -/
import Derived.Test.YtjcdcaannajnpaaRingP
namespace Go.Proofs.Ytjcdcaannajnpaa
open Go.RowKit

structure Filling (w : World) (B r : Nat) (p : Lk) (w' : World) (xs ys : List Lk) : Prop where
  ring : Ring w' B r (xs ++ ys)
  has : Has w' p
  new : p.g ∉ r :: gsOf (xs ++ ys)
  far : ∀ x ∈ xs ++ ys, x.b ≠ p.b ∨ x.cap = x.t.length
  base : B ≤ p.b
  below : Below B w w'
theorem Filling.size {w w' : World} {B r : Nat} {p : Lk} {xs ys : List Lk} (h : Filling w B r p w' xs ys) : B ≤ w'.heap.size := by
  have := h.ring.base.1
  have := h.ring.root.lt
  omega
theorem Filling.quiet {w w' w2 : World} {B r : Nat} {p : Lk} {xs ys : List Lk} (h : Filling w B r p w' xs ys) (hb : Below w'.heap.size w' w2) : Filling w B r p w2 xs ys :=
  ⟨h.ring.below hb, h.has.below hb, h.new, h.far, h.base, h.below.trans (hb.mono h.size)⟩
theorem Filling.next {w w' : World} {B r : Nat} {p y : Lk} {xs ys : List Lk} (h : Filling w B r p w' xs (y :: ys)) : Filling w B r p w' (xs ++ [y]) ys := by
  have e : xs ++ y :: ys = xs ++ [y] ++ ys := by simp
  exact ⟨e ▸ h.ring, h.has, e ▸ h.new, e ▸ h.far, h.base, h.below⟩
theorem Filling.insert {w w2 w3 : World} {B r : Nat} {p c : Lk} {xs ys : List Lk} (h : Filling w B r p w2 xs ys) (hn : c.g ∉ r :: gsOf (xs ++ ys)) (hg : c.g ≠ p.g) (hc : Has w2 c) (hB : B ≤ c.g) (hcap : c.cap = c.t.length)
    (hr : Ring w3 B r (xs ++ c :: ys)) (ho : Only (fun i => i = c.g ∨ i ∈ r :: gsOf (xs ++ ys)) w2 w3) : Filling w B r p w3 (xs ++ [c]) ys := by
  have e : xs ++ c :: ys = xs ++ [c] ++ ys := by simp
  have hm : ∀ i, i ∈ r :: gsOf (xs ++ ys) → IsLink w2 i ∧ B ≤ i := fun i hi => by
    rcases List.mem_cons.1 hi with rfl | hi
    · exact ⟨h.ring.root, h.ring.base.1⟩
    · rw [List.mem_map] at hi; obtain ⟨x, hx, rfl⟩ := hi; exact ⟨(h.ring.has x hx).link, (h.ring.base.2 x hx).1⟩
  refine ⟨e ▸ hr, h.has.of (ho.block _ h.has.link.lt ?_) (ho.block _ h.has.kind.lt ?_), ?_, ?_, h.base, Only.below h.below h.size ho ?_⟩
  · rintro (e | e)
    · exact hg e.symm
    · exact h.new e
  · rintro (e | e)
    · exact link_bytes_ne hc.link h.has.kind e.symm
    · exact link_bytes_ne (hm _ e).1 h.has.kind rfl
  · intro hx
    rw [show gsOf (xs ++ [c] ++ ys) = gsOf xs ++ (c.g :: gsOf ys) by simp] at hx
    have : p.g = c.g ∨ p.g ∈ r :: gsOf (xs ++ ys) := by
      rw [show gsOf (xs ++ ys) = gsOf xs ++ gsOf ys by simp]
      rcases List.mem_cons.1 hx with h | h
      · exact .inr (by rw [h]; exact List.mem_cons_self)
      · rcases List.mem_append.1 h with h | h
        · exact .inr (List.mem_cons_of_mem _ (List.mem_append_left _ h))
        · rcases List.mem_cons.1 h with h | h
          · exact .inl h
          · exact .inr (List.mem_cons_of_mem _ (List.mem_append_right _ h))
    rcases this with h' | h'
    · exact hg h'.symm
    · exact h.new h'
  · intro x hx
    have : x = c ∨ x ∈ xs ++ ys := by simp at hx ⊢; rcases hx with h | h | h <;> simp [h]
    rcases this with rfl | hx
    · exact .inr hcap
    · exact h.far x hx
  · rintro i (rfl | hi)
    · exact hB
    · exact (hm i hi).2
/-- The cut piece stands apart from all. -/
theorem Filling.apart {w w' : World} {B r : Nat} {p c : Lk} {xs ys : List Lk} (h : Filling w B r p w' xs ys) (hb : c.b = p.b) (hcap : c.cap = c.t.length) : ∀ x ∈ xs ++ ys, Apart c x := fun x hx hs e => by
  rcases h.far x hx with h1 | h1
  · exact h1 (by rw [← e, hb])
  · omega
theorem Filling.below_size {w w' : World} {B r : Nat} {p : Lk} {xs ys : List Lk} (h : Filling w B r p w' xs ys) {g : Nat} (hg : w'.heap.size ≤ g) : g ∉ r :: gsOf (xs ++ ys) ∧ g ≠ p.g ∧ B ≤ g :=
  ⟨ring_fresh h.ring hg, fun e => by have := h.has.link.lt; omega, by have := h.size; omega⟩

theorem put_filling {w w2 wr : World} {B r : Nat} {p c : Lk} {xs ys : List Lk} (h : Filling w B r p wr xs ys) (hb : Below wr.heap.size wr w2) (hg : wr.heap.size ≤ c.g) (hcb : c.b = p.b) (hcap : c.cap = c.t.length) (hc : Has w2 c)
    (h2 : w2.cell? ⟨c.g, 2, none⟩ = some (.pointer none)) (h3 : w2.cell? ⟨c.g, 3, none⟩ = some (.pointer none)) (hl : c.t.length ≤ 2000000) (hne : c.t ≠ []) :
    Calls Try.prog 50 #[ptr (headG r ys), ptr c.g] w2 fun e w3 => e = .returned (.tuple #[]) ∧ Filling w B r p w3 (xs ++ [c]) ys := by
  obtain ⟨n1, n2, n3⟩ := h.below_size hg
  have hq := h.quiet hb
  refine (putAhead_ring hq.ring hc hl ⟨n3, by rw [hcb]; exact h.base⟩ h2 h3 n1 (h.apart hcb hcap) hne).mono ?_
  rintro e w3 ⟨rfl, hr, ho⟩
  exact ⟨rfl, hq.insert n1 n2 hc n3 hcap hr ho⟩
theorem cut_len (p : Pc) (f t : Int) : (cutP p f t).2.length ≤ p.2.length := by
  unfold cutP; split
  · simp
  · simp only [List.length_take, List.length_drop]; omega

/-- Bounds of what is in a ring. -/
def Small (ks : List Lk) : Prop := ∀ x ∈ ks, 0 ≤ x.n ∧ x.n ≤ 1000000 ∧ x.t.length ≤ 2000000
def FillRel (w : World) (B r : Nat) (p : Lk) (G : List Pc) (F : Int) (w' : World) (xs ys : List Lk) : Prop :=
  Filling w B r p w' xs ys ∧ Small ys ∧ 0 ≤ F ∧ F ≤ 3000000 ∧ G = xs.map Lk.pc ++ fillN (ys.map Lk.pc) F p.pc
theorem fill_cons (y : Lk) (ys : List Lk) (F : Int) (p : Pc) : fillN ((y :: ys).map Lk.pc) F p = nz (cutP p F y.n) ++ y.pc :: fillN (ys.map Lk.pc) (pcEnd y.pc) p := rfl

set_option maxHeartbeats 2000000 in
set_option maxRecDepth 100000 in
theorem fill_calls {w : World} {B r : Nat} {ks : List Lk} {p : Lk} (h : Filling w B r p w [] ks) (hs : Small ks) (hp0 : 0 ≤ p.n) (hp1 : p.n ≤ 1000000) (hpl : p.t.length ≤ 2000000) :
    Calls Try.prog 44 #[ptr r, ptr p.g] w fun e w' => ∃ ks', e = .returned (.tuple #[]) ∧ Ring w' B r ks' ∧ ks'.map Lk.pc = fillN (ks.map Lk.pc) p.n p.pc ∧ Below B w w' := by
  have h3 : w.cell? ⟨r, 3, none⟩ = some (ptr (headG r ks)) := (h.ring.around (xs := []) (ys := ks)).1
  have p0 := h.has.at0
  have hrel0 : FillRel w B r p (fillN (ks.map Lk.pc) p.n p.pc) p.n w [] ks := ⟨h, hs, hp0, by omega, rfl⟩
  generalize fillN (ks.map Lk.pc) p.n p.pc = G at *
  have HR := Lib.hid hrel0
  clear h hs hrel0
  go_enter Try.func44, Try.ntmps44
  go_wp2_with fail
  go_loopg [4, 5] ks.length (fun m f q wr => ∃ xs ys F, ys.length = m ∧ f = .int .i64 F ∧ q = ptr (headG r ys) ∧ FillRel w B r p G F wr xs ys)
  case atStart => exact ⟨[], ks, p.n, rfl, rfl, rfl, HR.out⟩
  case round =>
    clear h3 p0 HR
    obtain ⟨xs, ys, F, hm, rfl, rfl, hF, hsm, hF0, hF1, hG⟩ := hrel
    cases ys with
    | nil =>
      have hhd : headG r [] = r := rfl
      rw [hhd]
      have hpq := ptr_same wr r
      have p0 := hF.has.at0
      have p1 := hF.has.at1
      have HF := Lib.hid hF
      have HG := Lib.hid hG
      clear hF hG hhd hm hsm
      go_wp2_with fail
      refine (end_calls p0 p1 hp0 (by omega) (by omega)).mono ?_
      rintro e w2 ⟨rfl, m2, rfl⟩
      have hE : pcEnd p.pc = p.n + (p.t.length : Int) := rfl
      have hF2 := HF.out.quiet (below_drewN (Below.refl _ _) m2)
      have HF2 := Lib.hid hF2
      clear HF
      by_cases hc : max F p.n < min (pcEnd p.pc) (pcEnd p.pc)
      · have hcall := cut_some hF2.has hp0 (by omega) hpl F (pcEnd p.pc) hc
        have hnz := cutP_nz p.pc F (pcEnd p.pc) hc
        have hln := cut_len p.pc F (pcEnd p.pc)
        rw [hE] at hcall
        have HC := Lib.hid hcall
        have HZ := Lib.hid hnz
        have HE := Lib.hid hE
        have HL := Lib.hid hln
        clear hc hcall hnz hF2 hE hln p0 p1
        go_wp2_with fail
        refine HC.out.mono ?_
        rintro e w3 ⟨c, rfl, hpc, hg, hcb, hcap, hHas, h2, h3, hb3⟩
        rw [← HE.out] at hpc
        have hp2 : c.t = (cutP p.pc F (pcEnd p.pc)).2 := congrArg Prod.snd hpc
        have hput := put_filling HF2.out hb3 hg hcb hcap hHas h2 h3 (by rw [hp2]; exact Nat.le_trans HL.out hpl) (by rw [hp2]; exact HZ.out)
        have HP := Lib.hid hput
        have HPC := Lib.hid hpc
        clear hput hpc hg hcb hcap hHas h2 h3 hb3 hp2 HC
        go_wp2_with fail
        refine HP.out.mono ?_
        rintro e w4 ⟨rfl, hF4⟩
        have HF4 := Lib.hid hF4
        clear hF4
        go_wp2_with fail
        go_end0
        refine ⟨xs ++ [c], rfl, by have := HF4.out.ring; simpa using this, ?_, HF4.out.below⟩
        rw [HG.out, List.map_append]
        show _ ++ [c.pc] = _ ++ nz (cutP p.pc F (pcEnd p.pc))
        rw [nz_some HZ.out, HPC.out]
      · have hcall := cut_none hF2.has hp0 (by omega) hpl F (pcEnd p.pc) (Int.not_lt.1 hc)
        have hnz := cutP_none p.pc F (pcEnd p.pc) hc
        rw [hE] at hcall
        have HC := Lib.hid hcall
        have HZ := Lib.hid hnz
        clear hc hcall hnz hF2 hE p0 p1
        go_wp2_with fail
        refine HC.out.mono ?_
        rintro e w3 ⟨g, rfl, hg1, hb3⟩
        have hF3 := HF2.out.quiet hb3
        have HF3 := Lib.hid hF3
        clear hF3 hb3 HC
        go_wp2_with fail
        refine (putAhead_none hg1).mono ?_
        rintro e w4 ⟨rfl, rfl⟩
        clear hg1
        go_wp2_with fail
        go_end0
        refine ⟨xs, rfl, by have := HF3.out.ring; simpa using this, ?_, HF3.out.below⟩
        rw [HG.out]
        show _ = _ ++ nz (cutP p.pc F (pcEnd p.pc))
        rw [HZ.out]; simp [nz]
    | cons y ys =>
      have hhd : headG r (y :: ys) = y.g := rfl
      rw [hhd]
      obtain ⟨hy, y3, _, yr, _⟩ := hF.ring.at rfl
      have c0 := hy.at0
      have hpq := ptr_other hy.link hF.ring.root yr
      obtain ⟨s0, s1, s2⟩ := hsm y (by simp)
      have hsm' : Small ys := fun x hx => hsm x (by simp [hx])
      rw [fill_cons] at hG
      have HF := Lib.hid hF
      have HS := Lib.hid hsm'
      have HG := Lib.hid hG
      have HM := Lib.hid hm
      clear hF hsm hsm' hG hm hhd hy y3
      by_cases hc : max F p.n < min y.n (pcEnd p.pc)
      · have hcall := cut_some HF.out.has hp0 (by omega) hpl F y.n hc
        have hnz := cutP_nz p.pc F y.n hc
        have hln := cut_len p.pc F y.n
        have HC := Lib.hid hcall
        have HZ := Lib.hid hnz
        have HL := Lib.hid hln
        clear hc hcall hnz hln
        go_wp2_with fail
        refine HC.out.mono ?_
        rintro e w3 ⟨c, rfl, hpc, hg, hcb, hcap, hHas, h2, h3, hb3⟩
        have hp2 : c.t = (cutP p.pc F y.n).2 := congrArg Prod.snd hpc
        have hput := put_filling (ys := y :: ys) HF.out hb3 hg hcb hcap hHas h2 h3 (by rw [hp2]; exact Nat.le_trans HL.out hpl) (by rw [hp2]; exact HZ.out)
        rw [show headG r (y :: ys) = y.g from rfl] at hput
        have HP := Lib.hid hput
        have HPC := Lib.hid hpc
        clear hput hpc hg hcb hcap hHas h2 h3 hb3 hp2 HC c0 hpq
        go_wp2_with fail
        refine HP.out.mono ?_
        rintro e w4 ⟨rfl, hF4⟩
        obtain ⟨hy, y3, _, _, _⟩ := hF4.ring.at rfl
        have HF4 := Lib.hid hF4
        have HY := Lib.hid hy
        have HY3 := Lib.hid y3
        clear hF4 hy y3 HP
        go_wp2_with fail
        refine (end_calls HY.out.at0 HY.out.at1 s0 (by omega) (by omega)).mono ?_
        rintro e w5 ⟨rfl, m5, rfl⟩
        have y3 := HY3.out
        have HF5 := Lib.hid (HF4.out.quiet (below_drewN (Below.refl _ _) m5)).next
        clear HF4 HY HY3
        go_wp2_with fail
        go_roundg ys.length
        case measure => have := HM.out; simp at this; omega
        case rel =>
          refine ⟨xs ++ [c] ++ [y], ys, _, rfl, rfl, rfl, HF5.out, HS.out, by omega, by omega, ?_⟩
          rw [HG.out, nz_some HZ.out, ← HPC.out]
          simp [pcEnd]
      · have hcall := cut_none HF.out.has hp0 (by omega) hpl F y.n (Int.not_lt.1 hc)
        have hnz := cutP_none p.pc F y.n hc
        have HC := Lib.hid hcall
        have HZ := Lib.hid hnz
        clear hc hcall hnz
        go_wp2_with fail
        refine HC.out.mono ?_
        rintro e w3 ⟨g, rfl, hg1, hb3⟩
        have hF3 := HF.out.quiet hb3
        obtain ⟨hy, y3, _, _, _⟩ := hF3.ring.at rfl
        have HF3 := Lib.hid hF3
        have HY := Lib.hid hy
        have HY3 := Lib.hid y3
        clear hF3 hb3 HC c0 hpq hy y3
        go_wp2_with fail
        refine (putAhead_none hg1).mono ?_
        rintro e w4 ⟨rfl, rfl⟩
        clear hg1
        go_wp2_with fail
        refine (end_calls HY.out.at0 HY.out.at1 s0 (by omega) (by omega)).mono ?_
        rintro e w5 ⟨rfl, m5, rfl⟩
        have y3 := HY3.out
        have HF5 := Lib.hid (HF3.out.quiet (below_drewN (Below.refl _ _) m5)).next
        clear HF3 HY HY3
        go_wp2_with fail
        go_roundg ys.length
        case measure => have := HM.out; simp at this; omega
        case rel =>
          refine ⟨xs ++ [y], ys, _, rfl, rfl, rfl, HF5.out, HS.out, by omega, by omega, ?_⟩
          rw [HG.out, HZ.out]
          simp [pcEnd, nz]
end Go.Proofs.Ytjcdcaannajnpaa
