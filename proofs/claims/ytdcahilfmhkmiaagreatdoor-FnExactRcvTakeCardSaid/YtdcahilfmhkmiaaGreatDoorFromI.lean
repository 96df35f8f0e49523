/- PieceFrom, the program's and the model's. -/
import Derived.Test.YtdcahilfmhkmiaaGreatDoorPackC
namespace Go.Proofs.YtdcahilfmhkmiaaGreatDoor
open Go.RowKit

/-- What PieceFrom answers. -/
def fromR (l : List Pc) (n : Int) : List UInt8 := if right l then fromN l n else []

theorem find_some : ∀ (l : List Pc) (n : Int) (p : Pc), findN l n = some p → p ∈ l ∧ p.1 ≤ n ∧ n < pcEnd p ∧ fromN l n = p.2.drop (n - p.1).toNat
  | [], _, _, h => by cases h
  | q :: l, n, p, h => by
    rw [findN_cons] at h
    rw [fromN_cons]
    by_cases hq : q.1 ≤ n ∧ n < pcEnd q
    · rw [if_pos hq] at h ⊢
      cases h
      exact ⟨by simp, hq.1, hq.2, rfl⟩
    · rw [if_neg hq] at h ⊢
      obtain ⟨h1, h2⟩ := find_some l n p h
      exact ⟨List.mem_cons_of_mem _ h1, h2⟩
theorem find_none : ∀ (l : List Pc) (n : Int), findN l n = none → fromN l n = []
  | [], _, _ => rfl
  | q :: l, n, h => by
    rw [findN_cons] at h
    rw [fromN_cons]
    by_cases hq : q.1 ≤ n ∧ n < pcEnd q
    · rw [if_pos hq] at h; cases h
    · rw [if_neg hq] at h ⊢; exact find_none l n h
theorem cut_tail {p : Pc} {n : Int} (h1 : p.1 ≤ n) (h2 : n < pcEnd p) : cutP p n (pcEnd p) = (n, p.2.drop (n - p.1).toNat) ∧ max n p.1 < min (pcEnd p) (pcEnd p) := by
  have e : max n p.1 = n := by omega
  have e2 : min (pcEnd p) (pcEnd p) = pcEnd p := by omega
  refine ⟨?_, by omega⟩
  unfold cutP
  rw [e, e2, if_neg (by omega), List.take_of_length_le]
  rw [List.length_drop]
  unfold pcEnd at *
  omega

set_option maxHeartbeats 2000000 in
set_option maxRecDepth 100000 in
theorem fromI_calls {a : Option Addr} {len cap : Nat} {l : List Pc} {w : World} (h : InPcs w a len l) (n : Int) :
    Calls Tryz.prog 204 #[.slice a len cap, .int .i64 n] w fun e w' => e = .returned (gs (fromR l n)) ∧ Below w.heap.size w w' := by
  have hc := pieceAt_calls (cap := cap) h n
  have hlen := h.long
  cases hX : (if right l then findN l n else none) with
  | none =>
    have hv : fromR l n = [] := by
      unfold fromR
      by_cases hr : right l
      · rw [if_pos hr] at hX ⊢; exact find_none _ _ hX
      · rw [if_neg hr]
    rw [hX] at hc
    rw [hv]
    have HC := Lib.hid hc
    clear hc hv h hX hlen
    go_enter Tryz.func204, Tryz.ntmps204
    go_wp2_with fail
    refine HC.out.mono ?_
    rintro e w1 ⟨rfl, hb1⟩
    rw [show atv none = .tuple #[pcv (0, []), .bool false] from rfl]
    have HB := Lib.hid hb1
    have hs := hb1.size
    clear hb1 HC
    go_wp2_with fail
    go_ret
    exact ⟨rfl, HB.out.alloc hs _⟩
  | some p =>
    have hr : right l := by
      by_cases hr : right l
      · exact hr
      · rw [if_neg hr] at hX; cases hX
    rw [if_pos hr] at hX
    obtain ⟨hm, h1, h2, hv⟩ := find_some l n p hX
    obtain ⟨k, hk, hpk⟩ := mem_pcAt hm
    have ht0 : 0 ≤ p.1 ∧ p.1 ≤ 1000000 := by have := hr.2 k hk; unfold okP at this; rw [hpk] at this; exact ⟨this.2.1, this.2.2.1⟩
    have hf2 : p.2.length ≤ 2000000 := by have := h.fit k (by omega); rw [hpk] at this; exact this.2.2
    have hvv : fromR l n = p.2.drop (n - p.1).toNat := by unfold fromR; rw [if_pos hr, hv]
    rw [if_pos hr, hX] at hc
    rw [hvv]
    obtain ⟨hct, hcm⟩ := cut_tail h1 h2
    have hlk := fun w => linkOf_calls p w hf2
    have hend := endOf_calls p
    have hwr : wrap64 (pcEnd p) = pcEnd p := IntWalk.wrap64_in _ (by unfold pcEnd; omega)
    rw [hwr] at hend
    have hcut := fun (w : World) (x : Lk) (hx : Has w x) (e : x.pc = p) => cut_some hx (by have := congrArg Prod.fst e; simp at this; omega) (by have := congrArg Prod.fst e; simp at this; omega) (by have := congrArg Prod.snd e; simp at this; rw [this]; exact hf2) n (pcEnd p) (by rw [e]; have := congrArg Prod.fst e; simp at this; rw [this]; exact hcm)
    generalize hE : pcEnd p = E at *
    generalize hD : p.2.drop (n - p.1).toNat = D at *
    have HC := Lib.hid hc
    have HL := Lib.hid hlk
    have HE := Lib.hid hend
    have HK := Lib.hid hcut
    have HCT := Lib.hid hct
    obtain ⟨n0, t⟩ := p
    clear hc hlk hend hcut hct hwr hvv hv hm hX hr hk hpk hE hD hcm h hlen h1 h2 ht0 hf2
    go_enter Tryz.func204, Tryz.ntmps204
    go_wp2_with fail
    refine HC.out.mono ?_
    rintro e w1 ⟨rfl, hb1⟩
    rw [show atv (some (n0, t)) = .tuple #[pcv (n0, t), .bool true] from rfl]
    have hs := hb1.size
    have HB := Lib.hid hb1
    clear hb1 HC
    go_wp2_with fail
    have x0 : (w1.alloc (.cells #[.int .i64 n0, gs t] 121)).cell? ⟨w1.heap.size, 0, none⟩ = some (.int .i64 n0) := by simp
    have x1 : (w1.alloc (.cells #[.int .i64 n0, gs t] 121)).cell? ⟨w1.heap.size, 1, none⟩ = some (gs t) := by simp
    have HBA := Lib.hid (HB.out.alloc hs (.cells #[.int .i64 n0, gs t] 121))
    generalize hbx : w1.heap.size = bx at *
    generalize w1.alloc (.cells #[.int .i64 n0, gs t] 121) = wa at *
    clear hbx HB
    go_region_with (first | (go_at_call 207; refine (HL.out _).mono ?_; rintro e w2 ⟨x, rfl, hpc, -, -, hx, -, -, hb2⟩; have HPC := Lib.hid hpc; clear hpc; have x0' := (hb2.cell (World.block_lt_of_cell? _ _ x0)).trans x0; have x1' := (hb2.cell (World.block_lt_of_cell? _ _ x1)).trans x1) | (go_at_call 209; refine (HE.out _).mono ?_; rintro e w3 ⟨rfl, hb3⟩) | (go_at_call 208; refine (HK.out _ _ (hx.below hb3) HPC.out).mono ?_; rintro e w4 ⟨y, rfl, hyc, -, -, -, hy, -, -, hb4⟩; have HYC := Lib.hid hyc; clear hyc; have y1 := hy.at1; have hcv := has_string hy; have HHY := Lib.hid hy; clear hy))
    all_goals
      have hB2 : Below wa.heap.size wa w2 := (Below.refl _ _).drew.trans hb2
      have hB3 := hB2.trans (hb3.mono hB2.size)
      have hB4 := hB3.trans (hb4.mono hB3.size)
      have HB4 := Lib.hid (HBA.out.trans (hB4.mono HBA.out.size))
      have hyc := HYC.out
      rw [HPC.out, HCT.out] at hyc
      have hD : y.t = D := congrArg Prod.snd hyc
      have HDD := Lib.hid hD
      clear hD hcv y1 hb2 hb3 hb4 hB2 hB3 hB4 hyc x0' x1' x0 x1
      go_wp2_with fail
      go_ret
      exact ⟨by rw [← HDD.out]; rfl, HB4.out⟩
end Go.Proofs.YtdcahilfmhkmiaaGreatDoor
