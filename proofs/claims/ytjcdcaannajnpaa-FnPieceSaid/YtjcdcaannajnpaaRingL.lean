/- 'joinNeighbours': the walk. -/
import Derived.Test.YtjcdcaannajnpaaRingK
import Derived.Test.YtjcdcaannajnpaaPieceFrom
namespace Go.Proofs.Ytjcdcaannajnpaa
open Go.RowKit

structure JoinRel (w : World) (B r : Nat) (G : List Pc) (wr : World) (xs ys : List Lk) : Prop where
  ring : Ring wr B r (xs ++ ys)
  void : ys = [] → xs = []
  out : G = xs.map Lk.pc ++ joinN (ys.map Lk.pc)
  time : ∀ x ∈ ys, 0 ≤ x.n ∧ x.n ≤ 2000000
  sum : bytesN (ys.map Lk.pc) ≤ 100000000
  below : Below B w wr
theorem JoinRel.size {w wr : World} {B r : Nat} {G : List Pc} {xs ys : List Lk} (h : JoinRel w B r G wr xs ys) : B ≤ wr.heap.size := by
  have := h.ring.base.1
  have := h.ring.root.lt
  omega
theorem joinN_cons2 (p q : Pc) (l : List Pc) : joinN (p :: q :: l) = if pcEnd p < q.1 then p :: joinN (q :: l) else joinN ((p.1, p.2 ++ q.2) :: l) := by
  show joinG p (q :: l) = _
  rw [joinG]; rfl
/-- One link further on. -/
theorem JoinRel.step {w wr : World} {B r : Nat} {G : List Pc} {xs ys : List Lk} {y z : Lk} (h : JoinRel w B r G wr xs (y :: z :: ys)) (hlt : pcEnd y.pc < z.n) (m : Nat) : JoinRel w B r G (wr.drewN m) (xs ++ [y]) (z :: ys) := by
  have e : xs ++ y :: z :: ys = xs ++ [y] ++ z :: ys := by simp
  refine ⟨(e ▸ h.ring).below (below_drewN (Below.refl _ _) m), (fun h => by cases h), ?_, fun x hx => h.time x (List.mem_cons_of_mem _ hx), ?_, below_drewN h.below m⟩
  · rw [h.out]
    show _ ++ joinN (y.pc :: z.pc :: ys.map Lk.pc) = _
    rw [joinN_cons2, if_pos hlt]
    simp
  · have := h.sum
    simp only [List.map_cons, bytesN] at this ⊢
    omega
/-- Two links become one: the world. -/
theorem JoinRel.merge {w wr W1 : World} {B r : Nat} {G : List Pc} {xs ys : List Lk} {y z : Lk} {b' o' cap' : Nat} (h : JoinRel w B r G wr xs (y :: z :: ys)) (ha : AppW wr W1 y z.t b' o' cap') :
    Ring (W1.setCell ⟨y.g, 1, none⟩ (.slice (some ⟨b', o', none⟩) (y.t.length + z.t.length) cap')) B r (xs ++ ⟨y.g, y.n, b', o', cap', y.t ++ z.t⟩ :: z :: ys) := by
  have := ring_grown (y' := ⟨y.g, y.n, b', o', cap', y.t ++ z.t⟩) h.ring ha.keep rfl rfl ha.place ha.kind (by have := h.ring.full y (by simp); simp [this]) ha.byte ha.spare ha.ble
  simpa using this
theorem JoinRel.below1 {w wr W1 : World} {B r : Nat} {G : List Pc} {xs ys : List Lk} {y z : Lk} {b' o' cap' : Nat} (h : JoinRel w B r G wr xs (y :: z :: ys)) (ha : AppW wr W1 y z.t b' o' cap') (v : Value) : Below B w (W1.setCell ⟨y.g, 1, none⟩ v) := by
  have hb := h.ring.base.2 y (by simp)
  have hs := h.size
  exact (h.below.trans ⟨ha.os, ha.tape, ha.output, ha.size, fun k hk => ha.keep k (by omega) (.inl (by omega))⟩).setCell hb.1 _
theorem JoinRel.merged {w wr w2 : World} {B r : Nat} {G : List Pc} {xs ys : List Lk} {y z : Lk} {b' o' cap' : Nat} (h : JoinRel w B r G wr xs (y :: z :: ys)) (hnl : ¬ pcEnd y.pc < z.n)
    (hr : Ring w2 B r (xs ++ ⟨y.g, y.n, b', o', cap', y.t ++ z.t⟩ :: ys)) (hb : Below B w w2) : JoinRel w B r G w2 xs (⟨y.g, y.n, b', o', cap', y.t ++ z.t⟩ :: ys) := by
  refine ⟨hr, (fun h => by cases h), ?_, fun x hx => ?_, ?_, hb⟩
  · rw [h.out]
    show _ ++ joinN (y.pc :: z.pc :: ys.map Lk.pc) = _
    rw [joinN_cons2, if_neg hnl]
    rfl
  · rcases List.mem_cons.1 hx with rfl | hx
    · exact h.time y (by simp)
    · exact h.time x (by simp [hx])
  · have := h.sum
    simp only [List.map_cons, bytesN, List.length_append] at this ⊢
    omega

theorem JoinRel.drew {w wr : World} {B r : Nat} {G : List Pc} {xs ys : List Lk} (h : JoinRel w B r G wr xs ys) (m : Nat) : JoinRel w B r G (wr.drewN m) xs ys :=
  ⟨h.ring.below (below_drewN (Below.refl _ _) m), h.void, h.out, h.time, h.sum, below_drewN h.below m⟩
theorem last_app : ∀ (l : List Nat) (a b : Nat), lastG a (l ++ [b]) = b
  | [], _, _ => rfl
  | _ :: l, _, b => last_app l _ b
theorem takeOut_ring {w : World} {B r : Nat} {xs ys : List Lk} {y z : Lk} (h : Ring w B r (xs ++ y :: z :: ys)) :
    Calls Try.prog 73 #[ptr z.g] w fun e w' => e = .returned (.tuple #[]) ∧ Ring w' B r (xs ++ y :: ys) ∧ ∀ a, Below B a w → Below B a w' := by
  have h' : Ring w B r (xs ++ [y] ++ z :: ys) := by simpa using h
  obtain ⟨_, z3, z2, _, _⟩ := Ring.at (xs := xs ++ [y]) (y := z) (ys := ys) h' rfl
  have hl : lastG r (gsOf (xs ++ [y])) = y.g := by rw [show gsOf (xs ++ [y]) = gsOf xs ++ [y.g] by simp]; exact last_app _ _ _
  rw [hl] at z2
  have a1 := h'.around
  have a2 := Ring.around (xs := xs ++ [y] ++ [z]) (ys := ys) (by simpa using h)
  rw [hl] at a1
  obtain ⟨o1, _⟩ := Ring.others h
  have hB : B ≤ headG r ys := by
    cases ys with
    | nil => exact h.base.1
    | cons x ys => exact (h.base.2 x (by simp)).1
  refine (takeOut_cells z2 z3 a1.1 a2.2.1 (a1.2.2.1.free 3) (a2.2.2.2.free 2)).mono ?_
  rintro e w' ⟨rfl, m, rfl⟩
  have hr := ring_remove h'
  rw [hl] at hr
  exact ⟨rfl, by have := hr.below (below_drewN (Below.refl _ _) m); simpa using this, fun a ha => below_drewN ((ha.setCell (h.base.2 y (by simp)).1 _).setCell hB _) m⟩

set_option maxHeartbeats 2000000 in
set_option maxRecDepth 100000 in
theorem join_calls {w : World} {B r : Nat} {ks : List Lk} (h : Ring w B r ks) (ht : ∀ x ∈ ks, 0 ≤ x.n ∧ x.n ≤ 2000000) (hs : bytesN (ks.map Lk.pc) ≤ 100000000) :
    Calls Try.prog 45 #[ptr r] w fun e w' => ∃ ks', e = .returned (.tuple #[]) ∧ Ring w' B r ks' ∧ ks'.map Lk.pc = joinN (ks.map Lk.pc) ∧ Below B w w' := by
  have hzz : (Try.prog.info? 5).map (fun i => (i.zero, i.size, i.bytes)) = some (some (.int .u8 0), 1, 1) := by kernel_rfl
  obtain ⟨i0, hi, hz0, hz1, hz2⟩ := info_parts hzz
  clear hzz
  have h3 : w.cell? ⟨r, 3, none⟩ = some (ptr (headG r ks)) := (h.around (xs := []) (ys := ks)).1
  have hrel0 : JoinRel w B r (joinN (ks.map Lk.pc)) w [] ks := ⟨h, fun _ => rfl, rfl, ht, hs, Below.refl _ _⟩
  generalize joinN (ks.map Lk.pc) = G at *
  have HR := Lib.hid hrel0
  clear h ht hs hrel0
  go_enter Try.func45, Try.ntmps45
  go_wp2_with fail
  go_loopg [2] ks.length (fun m q wr => ∃ xs ys, ys.length = m ∧ q = ptr (headG r ys) ∧ JoinRel w B r G wr xs ys)
  case atStart => exact ⟨[], ks, rfl, rfl, HR.out⟩
  case round =>
    clear h3 HR
    obtain ⟨xs, ys, hm, rfl, hJ⟩ := hrel
    cases ys with
    | nil =>
      have hx := hJ.void rfl
      subst hx
      have h3 : wr.cell? ⟨r, 3, none⟩ = some (ptr r) := (hJ.ring.around (xs := []) (ys := [])).1
      have hhd : headG r [] = r := rfl
      rw [hhd]
      have hpq := ptr_same wr r
      have HJ := Lib.hid hJ
      clear hJ hhd hm
      go_wp2_with fail
      go_end0
      exact ⟨[], rfl, HJ.out.ring, HJ.out.out.symm, HJ.out.below⟩
    | cons y ys =>
      have hhd : headG r (y :: ys) = y.g := rfl
      rw [hhd]
      obtain ⟨hy, y3, _, yr, _⟩ := hJ.ring.at rfl
      cases ys with
      | nil =>
        rw [show headG r [] = r from rfl] at y3
        have hpq := ptr_same wr r
        have HJ := Lib.hid hJ
        clear hJ hhd hm hy
        go_wp2_with fail
        go_end0
        exact ⟨xs ++ [y], rfl, HJ.out.ring, by rw [HJ.out.out]; simp [joinN, joinG], HJ.out.below⟩
      | cons z ys =>
        rw [show headG r (z :: ys) = z.g from rfl] at y3
        obtain ⟨hz, z3, z2, zr, zn⟩ := Ring.at (xs := xs ++ [y]) (y := z) (ys := ys) hJ.ring (by simp)
        have hpq := ptr_other hz.link hJ.ring.root zr
        have y0 := hy.at0
        have y1 := hy.at1
        have z0 := hz.at0
        have z1 := hz.at1
        obtain ⟨t0, t1⟩ := hJ.time y (by simp)
        have hsum := hJ.sum
        simp only [List.map_cons, bytesN] at hsum
        have hyl : y.t.length ≤ 100000000 := by omega
        have hyz : y.t.length + z.t.length ≤ 1000000000 := by omega
        have he := fun m => end_calls (w := wr.drewN m) y0 y1 t0 (by omega) hyl
        have HE := Lib.hid he
        have HY := Lib.hid hy
        have HZ := Lib.hid hz
        have HJ := Lib.hid hJ
        have HM := Lib.hid hm
        have HZ3 := Lib.hid z3
        have HZN := Lib.hid zn
        clear hJ hhd hm hy hz he hsum z2 zr z3 yr zn t0 t1
        by_cases hlt : pcEnd y.pc < z.n
        · have hd : decide (y.n + (y.t.length : Int) < z.n) = true := by simpa [pcEnd] using hlt
          have HL := Lib.hid hlt
          clear hlt
          go_wp2_with fail
          go_quiet ((go_at_call 72; exact Calls.quiet_of (HE.out _)))
          go_wp2_with fail
          go_roundg (z :: ys).length
          case measure => have := HM.out; simp at this ⊢; omega
          case rel => exact ⟨xs ++ [y], z :: ys, rfl, rfl, HJ.out.step HL.out _⟩
        · have hd : decide (y.n + (y.t.length : Int) < z.n) = false := by simpa [pcEnd] using hlt
          have HL := Lib.hid hlt
          clear hlt
          go_wp2_with fail
          go_quiet ((go_at_call 72; exact Calls.quiet_of (HE.out _)))
          clear HE
          go_wp2_with fail
          have HJ2 := Lib.hid ((HJ.out.drew _).drew 1 : JoinRel w B r G ((wr.drewN nq).drew) xs (y :: z :: ys))
          have HY2 := Lib.hid ((HY.out.drew _).drew 1 : Has ((wr.drewN nq).drew) y)
          have HZ2 := Lib.hid ((HZ.out.drew _).drew 1 : Has ((wr.drewN nq).drew) z)
          have hyl := HY.out.link
          clear HJ
          go_region_law (refine step_append_any rfl (.tmp 31) (.tmp 38) 22 rfl i0 Try.underlying22 hi hz0 hz1 hz2 y z HY2.out HZ2.out HZN.out (by simp [Act.eval]) (by simp [Act.eval]) hyz ?_; intro b1 o1 cap1 W1 ha; have c1 : W1.cell? ⟨y.g, 1, none⟩ = some (.slice (some ⟨y.b, y.o, none⟩) y.t.length y.cap) := (World.cell?_of_block (a := ⟨y.g, 1, none⟩) (ha.keep y.g HY2.out.link.lt (.inl (link_bytes_ne HY2.out.link HY2.out.kind)))).trans HY2.out.at1; have f1 : W1.frozen? ⟨y.g, 1, none⟩ = false := (World.frozen?_of_block (a := ⟨y.g, 1, none⟩) (ha.keep y.g HY2.out.link.lt (.inl (link_bytes_ne HY2.out.link HY2.out.kind)))).trans (HY2.out.link.free 1); have HA := Lib.hid ha; clear ha)
          all_goals
            have hr := HJ2.out.merge HA.out
            have hb := HJ2.out.below1 HA.out (.slice (some ⟨b1, o1, none⟩) (y.t.length + z.t.length) cap1)
            obtain ⟨_, y3', _, _, _⟩ := Ring.at (y := ⟨y.g, y.n, b1, o1, cap1, y.t ++ z.t⟩) hr rfl
            rw [show headG r (z :: ys) = z.g from rfl] at y3'
            dsimp only at y3'
            generalize W1.setCell ⟨y.g, 1, none⟩ (.slice (some ⟨b1, o1, none⟩) (y.t.length + z.t.length) cap1) = W2 at *
            have HT := Lib.hid (takeOut_ring hr)
            have HB := Lib.hid hb
            clear hr hb c1 f1 HA y0 y1 z0 z1
            go_wp2_with fail
            refine HT.out.mono ?_
            rintro e w3 ⟨rfl, hr3, hb3⟩
            have HF := Lib.hid (HJ2.out.merged (Int.not_lt.2 HL.out) hr3 (hb3 _ HB.out))
            clear hr3 hb3 y3'
            go_wp2_with fail
            go_roundg (z :: ys).length
            case measure => have := HM.out; simp at this ⊢; omega
            case rel => exact ⟨xs, ⟨y.g, y.n, b1, o1, cap1, y.t ++ z.t⟩ :: ys, by simp, rfl, HF.out⟩
end Go.Proofs.Ytjcdcaannajnpaa
