/- 'joinNeighbours', the worlds: what an append to a link's bytes leaves of a ring, and what taking a link out does. -/
import Derived.Test.YtjcdcaannajnpaaRingF
import Derived.Laws.IdiomCopy
namespace Go.Proofs.Ytjcdcaannajnpaa
open Go.RowKit

theorem ring_replace {w w' : World} {B r : Nat} {xs ys : List Lk} {y y' : Lk} (h : Ring w B r (xs ++ y :: ys)) (hy : Has w' y') (hg : y'.g = y.g) (hB : B ≤ y'.b) (hoth : ∀ x ∈ xs ++ ys, Has w' x) (hroot : IsLink w' r)
    (h23 : ∀ g ∈ r :: gsOf (xs ++ y :: ys), w'.cell? ⟨g, 2, none⟩ = w.cell? ⟨g, 2, none⟩ ∧ w'.cell? ⟨g, 3, none⟩ = w.cell? ⟨g, 3, none⟩) (hap : ∀ x ∈ xs ++ ys, Apart y' x) (hf : y'.t ≠ []) : Ring w' B r (xs ++ y' :: ys) := by
  have hgs : gsOf (xs ++ y' :: ys) = gsOf (xs ++ y :: ys) := by simp [hg]
  have hsub : ∀ x ∈ xs ++ y' :: ys, x = y' ∨ x ∈ xs ++ ys := fun x hx => by simp at hx ⊢; rcases hx with h | h | h <;> simp [h]
  have hsup : ∀ x ∈ xs ++ ys, x ∈ xs ++ y :: ys := fun x hx => by simp at hx ⊢; rcases hx with h | h <;> simp [h]
  refine ⟨hroot, ⟨h.base.1, fun x hx => ?_⟩, fun x hx => ?_, ?_, by rw [hgs]; exact h.dis, ?_, fun x hx => ?_⟩
  · rcases hsub x hx with rfl | hx
    · exact ⟨by rw [hg]; exact (h.base.2 y (by simp)).1, hB⟩
    · exact h.base.2 x (hsup x hx)
  · rcases hsub x hx with rfl | hx
    · exact hy
    · exact hoth x hx
  · rw [hgs]
    refine links_of _ _ h.links (fun x hx => (h23 x ?_).2) (fun x hx => (h23 x ?_).1)
    · rw [show r :: (gsOf (xs ++ y :: ys) ++ [r]) = (r :: gsOf (xs ++ y :: ys)) ++ [r] from rfl, List.dropLast_concat] at hx; exact hx
    · rcases List.mem_append.1 hx with hx | hx
      · exact List.mem_cons_of_mem _ hx
      · simp at hx; rw [hx]; exact List.mem_cons_self
  · have hpw := h.apart
    rw [List.pairwise_append] at hpw ⊢
    obtain ⟨p1, p2, p3⟩ := hpw
    refine ⟨p1, List.pairwise_cons.2 ⟨fun x hx => hap x (by simp [hx]), (List.pairwise_cons.1 p2).2⟩, fun a ha b hb => ?_⟩
    rcases List.mem_cons.1 hb with rfl | hb
    · exact (hap a (by simp [ha])).symm
    · exact p3 a ha b (by simp [hb])
  · rcases hsub x hx with rfl | hx
    · exact hf
    · exact h.full x (hsup x hx)

/-- What stands beside the link at hand. -/
theorem Ring.others {w : World} {B r : Nat} {xs ys : List Lk} {y : Lk} (h : Ring w B r (xs ++ y :: ys)) : (∀ x ∈ xs ++ ys, Has w x ∧ x.g ≠ y.g ∧ Apart y x) ∧ y.g ≠ r := by
  have hd := h.dis
  obtain ⟨hr1, hr2⟩ := List.nodup_cons.1 hd
  have hpm : (y.g :: gsOf (xs ++ ys)).Nodup := by
    refine (List.Perm.nodup_iff ?_).1 hr2
    rw [show gsOf (xs ++ y :: ys) = gsOf xs ++ y.g :: gsOf ys by simp, show gsOf (xs ++ ys) = gsOf xs ++ gsOf ys by simp]
    exact List.perm_middle
  refine ⟨fun x hx => ⟨h.has x (by simp at hx ⊢; rcases hx with h | h <;> simp [h]), fun e => ?_, ?_⟩, fun e => hr1 (by rw [← e]; simp)⟩
  · exact (List.nodup_cons.1 hpm).1 (by rw [← e]; exact List.mem_map_of_mem hx)
  · have hpw := h.apart
    rw [List.pairwise_append] at hpw
    obtain ⟨p1, p2, p3⟩ := hpw
    rcases List.mem_append.1 hx with hx | hx
    · exact (p3 x hx y (by simp)).symm
    · exact (List.pairwise_cons.1 p2).1 x hx

/-- An append to a link's bytes, and the store of what comes of it. -/
theorem ring_grown {w W1 : World} {B r : Nat} {xs ys : List Lk} {y y' : Lk} (h : Ring w B r (xs ++ y :: ys)) (hW : ∀ i, i < w.heap.size → (i ≠ y.b ∨ ¬ y.t.length < y.cap) → W1.heap[i]? = w.heap[i]?)
    (hg : y'.g = y.g) (hn : y'.n = y.n) (hb : (y'.b = y.b ∧ y.t.length < y.cap) ∨ w.heap.size ≤ y'.b) (hk : IsBytes W1 y'.b) (hf : y'.t ≠ [])
    (hby : ∀ j (h : j < y'.t.length), W1.cell? ⟨y'.b, y'.o + j, none⟩ = some (.int .u8 (y'.t[j].toNat : Int)))
    (hsp : ∀ j, y'.t.length ≤ j → j < y'.cap → (W1.cell? ⟨y'.b, y'.o + j, none⟩).isSome = true ∧ W1.frozen? ⟨y'.b, y'.o + j, none⟩ = false) (hle : y'.t.length ≤ y'.cap) :
    Ring (W1.setCell ⟨y.g, 1, none⟩ (.slice (some ⟨y'.b, y'.o, none⟩) y'.t.length y'.cap)) B r (xs ++ y' :: ys) := by
  obtain ⟨ho, hyr⟩ := h.others
  have hy := h.has y (by simp)
  have hBr := h.base.1
  have hrl := h.root.lt
  have link : ∀ g, IsLink w g → W1.heap[g]? = w.heap[g]? := fun g hgl => hW g hgl.lt (.inl (link_bytes_ne hgl hy.kind))
  have lk1 : IsLink W1 y.g := hy.link.of (link _ hy.link)
  have hbg : y'.b ≠ y.g := fun e => link_bytes_ne lk1 (e ▸ hk) rfl
  have c1 : W1.cell? ⟨y.g, 1, none⟩ = some (.slice (some ⟨y.b, y.o, none⟩) y.t.length y.cap) := (World.cell?_of_block (a := ⟨y.g, 1, none⟩) (link _ hy.link)).trans hy.at1
  have c0 : W1.cell? ⟨y.g, 0, none⟩ = some (.int .i64 y.n) := (World.cell?_of_block (a := ⟨y.g, 0, none⟩) (link _ hy.link)).trans hy.at0
  have other : ∀ x ∈ xs ++ ys, Has (W1.setCell ⟨y.g, 1, none⟩ (.slice (some ⟨y'.b, y'.o, none⟩) y'.t.length y'.cap)) x := fun x hx => by
    obtain ⟨hx1, hx2, hx3⟩ := ho x hx
    refine hx1.of ((Below.heap_setCell _ _ _ _ hx2).trans (link _ hx1.link)) ((Below.heap_setCell _ _ _ _ (fun e => link_bytes_ne hy.link hx1.kind e.symm)).trans (hW _ hx1.kind.lt ?_))
    by_cases hs : y.t.length < y.cap
    · exact .inl (fun e => hx3 (.inl hs) e.symm)
    · exact .inr hs
  refine ring_replace h ⟨?_, ?_, ?_, ?_, fun j hj => ?_, fun j h1 h2 => ?_, hle⟩ hg ?_ other ((h.root.of (link _ h.root)).set _ _ _) (fun g hgm => ?_) (fun x hx => ?_) hf
  · rw [hg]; exact lk1.set _ _ _
  · exact hk.of (Below.heap_setCell _ _ _ _ hbg)
  · rw [hg, hn, cell_ne (.inr (by omega))]; exact c0
  · rw [hg]; exact cell_eq c1
  · rw [cell_ne (.inl (Ne.symm hbg))]; exact hby j hj
  · rw [cell_ne (.inl (Ne.symm hbg)), World.frozen?_setCell]; exact hsp j h1 h2
  · rcases hb with ⟨hb, _⟩ | hb
    · rw [hb]; exact (h.base.2 y (by simp)).2
    · omega
  · have hgl : IsLink w g := by
      rcases List.mem_cons.1 hgm with rfl | hgm
      · exact h.root
      · rw [List.mem_map] at hgm; obtain ⟨x, hx, rfl⟩ := hgm; exact (h.has x hx).link
    rw [cell_ne (.inr (by omega)), cell_ne (.inr (by omega))]
    exact ⟨World.cell?_of_block (a := ⟨g, 2, none⟩) (link _ hgl), World.cell?_of_block (a := ⟨g, 3, none⟩) (link _ hgl)⟩
  · intro _ e
    obtain ⟨hx1, _, hx3⟩ := ho x hx
    rcases hb with ⟨hb, hs⟩ | hb
    · exact hx3 (.inl hs) (by rw [← hb]; exact e)
    · have := hx1.kind.lt; omega

/-- A link is taken out. -/
theorem ring_remove {w : World} {B r : Nat} {xs ys : List Lk} {z : Lk} (h : Ring w B r (xs ++ z :: ys)) :
    Ring ((w.setCell ⟨lastG r (gsOf xs), 3, none⟩ (ptr (headG r ys))).setCell ⟨headG r ys, 2, none⟩ (ptr (lastG r (gsOf xs)))) B r (xs ++ ys) := by
  obtain ⟨_, _, lq, _⟩ := h.around
  have h2 := Ring.around (xs := xs ++ [z]) (ys := ys) (by simpa using h)
  obtain ⟨_, k2, _, lk⟩ := h2
  obtain ⟨D, hD, hD1, hD2, hD3⟩ := head_tail r ys
  have hl := h.links
  have hdis := h.dis
  rw [show gsOf (xs ++ z :: ys) = gsOf xs ++ z.g :: gsOf ys by simp] at hdis
  rw [show gsOf (xs ++ z :: ys) = gsOf xs ++ z.g :: gsOf ys by simp, List.append_assoc, List.cons_append, hD, links_app] at hl
  obtain ⟨l1, q3, _, _, _, l2⟩ := hl
  have hqm := lastG_mem (gsOf xs) r
  have hkm := headG_mem r ys
  have hdis2 : (r :: (gsOf xs ++ gsOf ys)).Nodup := by
    have hpm : (z.g :: (r :: (gsOf xs ++ gsOf ys))).Nodup := (List.Perm.nodup_iff (List.perm_middle (l₁ := r :: gsOf xs))).1 hdis
    exact (List.nodup_cons.1 hpm).2
  obtain ⟨hr1, hr2⟩ := List.nodup_cons.1 hdis2
  generalize hq : lastG r (gsOf xs) = q at *
  generalize hk : headG r ys = k at *
  have hH : ∀ x, Has w x → Has ((w.setCell ⟨q, 3, none⟩ (ptr k)).setCell ⟨k, 2, none⟩ (ptr q)) x := fun x hx => (hx.set (by omega) lq _).set (by omega) (lk.set _ _ _) _
  have hL : ∀ g, IsLink w g → IsLink ((w.setCell ⟨q, 3, none⟩ (ptr k)).setCell ⟨k, 2, none⟩ (ptr q)) g := fun g hg => (hg.set _ _ _).set _ _ _
  have n3 : ∀ x, x ≠ q → ((w.setCell ⟨q, 3, none⟩ (ptr k)).setCell ⟨k, 2, none⟩ (ptr q)).cell? ⟨x, 3, none⟩ = w.cell? ⟨x, 3, none⟩ := fun x h1 => by rw [cell_ne (.inr (by omega)), cell_ne (.inl (Ne.symm h1))]
  have n2 : ∀ x, x ≠ k → ((w.setCell ⟨q, 3, none⟩ (ptr k)).setCell ⟨k, 2, none⟩ (ptr q)).cell? ⟨x, 2, none⟩ = w.cell? ⟨x, 2, none⟩ := fun x h1 => by rw [cell_ne (.inl (Ne.symm h1)), cell_ne (.inr (by omega))]
  have e1 : ((w.setCell ⟨q, 3, none⟩ (ptr k)).setCell ⟨k, 2, none⟩ (ptr q)).cell? ⟨q, 3, none⟩ = some (ptr k) := by rw [cell_ne (.inr (by omega))]; exact cell_eq q3
  have e2 : ((w.setCell ⟨q, 3, none⟩ (ptr k)).setCell ⟨k, 2, none⟩ (ptr q)).cell? ⟨k, 2, none⟩ = some (ptr q) := cell_eq (by rw [cell_ne (.inr (by omega))]; exact k2)
  generalize (w.setCell ⟨q, 3, none⟩ (ptr k)).setCell ⟨k, 2, none⟩ (ptr q) = w' at *
  have hsup : ∀ x ∈ xs ++ ys, x ∈ xs ++ z :: ys := fun x hx => by simp at hx ⊢; rcases hx with h | h <;> simp [h]
  refine ⟨hL _ h.root, ⟨h.base.1, fun x hx => h.base.2 x (hsup x hx)⟩, fun x hx => hH _ (h.has x (hsup x hx)), ?_, ?_, ?_, fun x hx => h.full x (hsup x hx)⟩
  · rw [show gsOf (xs ++ ys) = gsOf xs ++ gsOf ys by simp, List.append_assoc, hD, links_app, hq]
    have hnd : (r :: gsOf xs).Nodup := List.nodup_cons.2 ⟨fun e => hr1 (List.mem_append_left _ e), (List.nodup_append.1 hr2).1⟩
    refine ⟨links_of _ _ l1 (fun x hx => n3 x ?_) (fun x hx => n2 x ?_), e1, e2, links_of _ _ l2 (fun x hx => n3 x ?_) (fun x hx => n2 x ?_)⟩
    · rw [← hq]; exact last_drop _ _ hnd x hx
    · rcases hkm with e | e
      · rw [e]; intro e2; exact hr1 (List.mem_append_left _ (e2 ▸ hx))
      · intro e2; exact (List.nodup_append.1 hr2).2.2 x hx k e e2
    · rw [hD1] at hx
      rcases List.mem_cons.1 hqm with e | e
      · rw [e]; intro e2; exact hr1 (List.mem_append_right _ (e2 ▸ hx))
      · intro e2; exact (List.nodup_append.1 hr2).2.2 q e x hx e2.symm
    · refine hD3 ?_ x hx
      rw [List.nodup_append]
      exact ⟨(List.nodup_append.1 hr2).2.1, by simp, fun a ha b hb e => by simp at hb; subst hb; subst e; exact hr1 (List.mem_append_right _ ha)⟩
  · rw [show gsOf (xs ++ ys) = gsOf xs ++ gsOf ys by simp]; exact hdis2
  · have hpw := h.apart
    rw [List.pairwise_append] at hpw ⊢
    exact ⟨hpw.1, (List.pairwise_cons.1 hpw.2.1).2, fun a ha b hb => hpw.2.2 a ha b (by simp [hb])⟩
end Go.Proofs.Ytjcdcaannajnpaa
