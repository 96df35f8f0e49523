/- 'newChain', 'putAhead', 'chainOf' as what they do to a ring. -/
import Derived.Test.YtjcdcaannajnpaaRing
import Derived.Test.YtjcdcaannajnpaaPieceApp
namespace Go.Proofs.Ytjcdcaannajnpaa
open Go.RowKit

theorem putAhead_ring {w : World} {B r : Nat} {xs ys : List Lk} {p : Lk} (h : Ring w B r (xs ++ ys)) (hp : Has w p) (hl : p.t.length ≤ 2000000) (hB : B ≤ p.g ∧ B ≤ p.b) {u2 u3 : Value} (hp2 : w.cell? ⟨p.g, 2, none⟩ = some u2) (hp3 : w.cell? ⟨p.g, 3, none⟩ = some u3)
    (hnew : p.g ∉ r :: gsOf (xs ++ ys)) (hap : ∀ x ∈ xs ++ ys, Apart p x) (hf : p.t ≠ []) :
    Calls Try.prog 50 #[ptr (headG r ys), ptr p.g] w fun e w' => e = .returned (.tuple #[]) ∧ Ring w' B r (xs ++ p :: ys) ∧ Only (fun i => i = p.g ∨ i ∈ r :: gsOf (xs ++ ys)) w w' := by
  obtain ⟨a3, a2, lq, lk⟩ := h.around
  have hq := lastG_mem (gsOf xs) r
  have hk := headG_mem r ys
  have hqi : lastG r (gsOf xs) ∈ r :: gsOf (xs ++ ys) := by
    rw [show gsOf (xs ++ ys) = gsOf xs ++ gsOf ys by simp]
    rcases List.mem_cons.1 hq with e | e
    · simp [e]
    · exact List.mem_cons_of_mem _ (List.mem_append_left _ e)
  have hki : headG r ys ∈ r :: gsOf (xs ++ ys) := by
    rw [show gsOf (xs ++ ys) = gsOf xs ++ gsOf ys by simp]
    rcases hk with e | e
    · rw [e]; exact List.mem_cons_self
    · exact List.mem_cons_of_mem _ (List.mem_append_right _ e)
  have hlen : 0 < p.t.length := List.length_pos_iff.2 hf
  refine (putAhead_cells hp.at1 hlen (by omega) a2 hp2 hp3 a3 (lk.free 2) (hp.link.free 2) (hp.link.free 3) (lq.free 3) (fun e => hnew (e ▸ hki)) (fun e => hnew (e ▸ hqi))).mono ?_
  rintro e w' ⟨rfl, rfl⟩
  exact ⟨rfl, ring_insert h hp hB hp2 hp3 hnew hap hf, ((((Only.refl _ _).set (.inl rfl) _ _).set (.inl rfl) _ _).set (.inr hqi) _ _).set (.inr hki) _ _⟩
theorem newChain_ring (w : World) : Calls Try.prog 49 #[] w fun e w' => ∃ r, e = .returned (ptr r) ∧ w.heap.size ≤ r ∧ Ring w' w.heap.size r [] ∧ Below w.heap.size w w' := by
  refine (newChain_cells w).mono ?_
  rintro e w' ⟨rfl, rfl⟩
  have hg := heap_new w (.cells #[.int .i64 0, .slice none 0 0, ptr w.heap.size, ptr w.heap.size] 65)
  refine ⟨_, rfl, Nat.le_refl _, ⟨⟨_, hg⟩, ⟨Nat.le_refl _, (fun x hx => absurd hx (by simp))⟩, (fun x hx => absurd hx (by simp)), ?_, (by simp), List.Pairwise.nil, (fun x hx => absurd hx (by simp))⟩, (Below.refl _ _).alloc (Nat.le_refl _) _⟩
  exact ⟨World.cell?_alloc_new _ _ _ _, World.cell?_alloc_new _ _ _ _, trivial⟩
/-- A link that a call has just made is none of the ring's. -/
theorem ring_fresh {w : World} {B r : Nat} {ks : List Lk} (h : Ring w B r ks) {g : Nat} (hg : w.heap.size ≤ g) : g ∉ r :: gsOf ks := by
  intro e
  have : g < w.heap.size := by
    rcases List.mem_cons.1 e with e | e
    · exact h.lt g (.inl e)
    · simp at e; obtain ⟨x, hx, e⟩ := e; exact h.lt g (.inr ⟨x, hx, .inl e.symm⟩)
  omega
theorem ring_apart {w : World} {B r : Nat} {ks : List Lk} (h : Ring w B r ks) {p : Lk} (hg : w.heap.size ≤ p.b) : ∀ x ∈ ks, Apart p x := fun x hx _ e => by
  have := h.lt x.b (.inr ⟨x, hx, .inr rfl⟩)
  omega
theorem right_full {l : List Pc} (hr : right l) : full l := fun p hp => by
  obtain ⟨k, hk, rfl⟩ := List.getElem_of_mem hp
  have := (hr.2 k hk).1
  simpa [pcAt, List.getD, hk] using this

set_option maxHeartbeats 1000000 in
set_option maxRecDepth 100000 in
theorem chainOf_calls {a : Option Addr} {len cap : Nat} {l : List Pc} {w : World} (h : InPcs w a len l) (hr : right l) :
    Calls Try.prog 43 #[.slice a len cap] w fun e w' => ∃ r ks, e = .returned (ptr r) ∧ Ring w' w.heap.size r ks ∧ ks.map Lk.pc = l ∧ Below w.heap.size w w' := by
  have hm := h.most
  have hlen := h.long
  have hfull : ∀ i, i < len → (pcAt l i).2 ≠ [] := fun i hi => (hr.2 i (by omega)).1
  have HF := Lib.hid hfull
  clear hfull hr
  go_enter Try.func43, Try.ntmps43
  go_wp2_with fail
  refine (newChain_ring w).mono ?_
  rintro e w1 ⟨r, rfl, hrs, hring, hb1⟩
  have HR := Lib.hid hring
  have HB := Lib.hid hb1
  have HS := Lib.hid hrs
  clear hring hb1 hrs
  go_wp2_with fail
  go_loopw [9] (fun i wr => ∃ (k : Nat) (ks : List Lk), i = .int .i64 (k : Int) ∧ k ≤ len ∧ ks.map Lk.pc = l.take k ∧ Ring wr w.heap.size r ks ∧ Below w.heap.size w wr) (fun i _ => len - (intOf i).toNat)
  case atStart => exact ⟨0, [], rfl, Nat.zero_le _, rfl, HR.out, HB.out⟩
  case round =>
    clear HR HB
    obtain ⟨k, ks, rfl, hk, hks, hring, hbl⟩ := hrel
    by_cases hkl : k < len
    · have hh := h.below hbl
      obtain ⟨b, o, rfl⟩ := hh.there (by omega)
      obtain ⟨c0, c1⟩ := hh.cell b o rfl k hkl
      obtain ⟨_, _, f2⟩ := hh.fit k hkl
      have hne := HF.out k hkl
      have htk : l.take (k + 1) = l.take k ++ [pcAt l k] := by
        rw [List.take_succ_eq_append_getElem (by omega)]; simp [pcAt, List.getD, (by omega : k < l.length)]
      have hcall := fun w => linkOf_calls (pcAt l k) w f2
      generalize pcAt l k = p at *
      obtain ⟨n, t⟩ := p
      dsimp only at c0 c1 f2 hne
      have HC := Lib.hid hcall
      have HR := Lib.hid hring
      have HK := Lib.hid hks
      have HT := Lib.hid htk
      have HB := Lib.hid hbl
      have HN := Lib.hid hne
      clear hh hcall hring hks htk hbl hne h
      go_wp2_with fail
      refine (HC.out _).mono ?_
      rintro e w2 ⟨x, rfl, hpc, hg, hb, hx, h2, h3, hb2⟩
      have hA : Below wr.heap.size wr w2 := ((Below.refl _ _).alloc (Nat.le_refl _) _).trans (hb2.mono (by simp))
      have hg' : wr.heap.size ≤ x.g := Nat.le_trans (by simp) hg
      have hb' : wr.heap.size ≤ x.b := Nat.le_trans (by simp) hb
      have hw := HB.out.size
      obtain ⟨hp1, hp2⟩ := Prod.mk.inj hpc
      have hput := putAhead_ring (xs := ks) (ys := []) (by rw [List.append_nil]; exact HR.out.below hA) hx (by rw [hp2]; exact f2) ⟨by omega, by omega⟩ h2 h3 (by rw [List.append_nil]; exact ring_fresh HR.out hg') (by rw [List.append_nil]; exact ring_apart HR.out hb') (by rw [hp2]; exact HN.out)
      have hks2 : (ks ++ [x]).map Lk.pc = l.take (k + 1) := by rw [HT.out, ← HK.out, List.map_append]; simp [hp1, hp2]
      have hBB : Below w.heap.size w w2 := HB.out.trans (hA.mono hw)
      have hsize : w.heap.size ≤ w2.heap.size := hBB.size
      have HP := Lib.hid hput
      have HKS := Lib.hid hks2
      have HBB := Lib.hid hBB
      have HGX := Lib.hid hg'
      have HRB := Lib.hid (HR.out.base)
      clear hput hks2 hBB hA hg' hb' hpc hp1 hp2 hx h2 h3 hb2 hg hb HC HR HK HT HB HN
      go_wp2_with fail
      refine HP.out.mono ?_
      rintro e w3 ⟨rfl, hring, honly⟩
      have hB3 : Below w.heap.size w w3 := Only.below HBB.out hsize honly (fun i hi => by
        rcases hi with hi | hi
        · have := HGX.out; omega
        · rw [List.append_nil] at hi
          rcases List.mem_cons.1 hi with e | e
          · have := HRB.out.1; omega
          · simp at e; obtain ⟨y, hy, e⟩ := e; have := (HRB.out.2 y hy).1; omega)
      have HR3 := Lib.hid hring
      have HB3 := Lib.hid hB3
      clear hring honly hB3
      go_wp2_with fail
      go_roundw
      case rel => exact ⟨k + 1, ks ++ [x], by go_num, by omega, HKS.out, HR3.out, HB3.out⟩
      case measure => simp [intOf]; omega
    · have hd : l.take k = l := List.take_of_length_le (by omega)
      rw [hd] at hks
      have HK := Lib.hid hks
      have HR := Lib.hid hring
      clear h hd hks hring
      go_wp2_with fail
      go_ret
      exact ⟨r, ks, rfl, HR.out, HK.out, hbl⟩
end Go.Proofs.Ytjcdcaannajnpaa
