/- A ring of links in memory; what 'newChain', 'putAhead' and 'takeOut' do to it. -/
import Derived.Test.YtjcdcaannajnpaaLinkCut
namespace Go.Proofs.Ytjcdcaannajnpaa
open Go.RowKit

/-- From block a on the blocks of l follow one another, each knows both its neighbours. -/
def Links (w : World) : Nat → List Nat → Prop
  | _, [] => True
  | a, b :: l => w.cell? ⟨a, 3, none⟩ = some (ptr b) ∧ w.cell? ⟨b, 2, none⟩ = some (ptr a) ∧ Links w b l
def lastG (a : Nat) : List Nat → Nat
  | [] => a
  | b :: l => lastG b l
theorem links_app {w : World} : ∀ (l : List Nat) (a k : Nat) (m : List Nat), Links w a (l ++ k :: m) ↔ Links w a l ∧ w.cell? ⟨lastG a l, 3, none⟩ = some (ptr k) ∧ w.cell? ⟨k, 2, none⟩ = some (ptr (lastG a l)) ∧ Links w k m
  | [], a, k, m => by simp [Links, lastG]
  | b :: l, a, k, m => by
    have ih := links_app (w := w) l b k m
    simp only [List.cons_append, Links, lastG, ih]
    constructor
    · rintro ⟨h1, h2, h3, h4⟩; exact ⟨⟨h1, h2, h3⟩, h4⟩
    · rintro ⟨⟨h1, h2, h3⟩, h4⟩; exact ⟨h1, h2, h3, h4⟩
theorem links_of {w w' : World} : ∀ (l : List Nat) (a : Nat), Links w a l → (∀ x ∈ (a :: l).dropLast, w'.cell? ⟨x, 3, none⟩ = w.cell? ⟨x, 3, none⟩) → (∀ x ∈ l, w'.cell? ⟨x, 2, none⟩ = w.cell? ⟨x, 2, none⟩) → Links w' a l
  | [], _, _, _, _ => trivial
  | b :: l, a, h, h3, h2 => by
    refine ⟨(h3 a ?_).trans h.1, (h2 b (by simp)).trans h.2.1, links_of l b h.2.2 (fun x hx => h3 x ?_) (fun x hx => h2 x (by simp [hx]))⟩
    · simp [List.dropLast]
    · rw [List.dropLast_cons_of_ne_nil (by simp)]; exact List.mem_cons_of_mem _ hx
theorem lastG_mem : ∀ (l : List Nat) (a : Nat), lastG a l ∈ a :: l
  | [], a => by simp [lastG]
  | b :: l, a => by
    have := lastG_mem l b
    unfold lastG
    exact List.mem_cons_of_mem _ this

abbrev gsOf (ks : List Lk) : List Nat := ks.map (·.g)
/-- Two links of which one has room behind its bytes have their bytes in blocks of their own. -/
def Apart (x y : Lk) : Prop := (x.t.length < x.cap ∨ y.t.length < y.cap) → x.b ≠ y.b
theorem Apart.symm {x y : Lk} (h : Apart x y) : Apart y x := fun e => (h e.symm).symm
structure Ring (w : World) (B r : Nat) (ks : List Lk) : Prop where
  root : IsLink w r
  base : B ≤ r ∧ ∀ x ∈ ks, B ≤ x.g ∧ B ≤ x.b
  has : ∀ x ∈ ks, Has w x
  links : Links w r (gsOf ks ++ [r])
  dis : (r :: gsOf ks).Nodup
  apart : ks.Pairwise Apart
  full : ∀ x ∈ ks, x.t ≠ []
/-- The block behind which xs stands; ahead of which ys stands. -/
def headG (r : Nat) : List Lk → Nat
  | [] => r
  | y :: _ => y.g
/-- What a step on a ring leaves: all but these blocks. -/
structure Only (S : Nat → Prop) (w w' : World) : Prop where
  os : w'.os = w.os
  tape : w'.tape = w.tape
  output : w'.output = w.output
  size : w.heap.size ≤ w'.heap.size
  block : ∀ k, k < w.heap.size → ¬ S k → w'.heap[k]? = w.heap[k]?
theorem Only.refl (S : Nat → Prop) (w : World) : Only S w w := ⟨rfl, rfl, rfl, Nat.le_refl _, fun _ _ _ => rfl⟩
theorem Only.trans {S : Nat → Prop} {a b c : World} (h : Only S a b) (k : Only S b c) : Only S a c :=
  ⟨k.os.trans h.os, k.tape.trans h.tape, k.output.trans h.output, Nat.le_trans h.size k.size, fun i hi hs => (k.block i (Nat.lt_of_lt_of_le hi h.size) hs).trans (h.block i hi hs)⟩
theorem Only.mono {S T : Nat → Prop} {a b : World} (h : Only S a b) (k : ∀ i, i < a.heap.size → S i → T i) : Only T a b :=
  ⟨h.os, h.tape, h.output, h.size, fun i hi hs => h.block i hi (fun e => hs (k i hi e))⟩
theorem Only.set {S : Nat → Prop} {a w : World} (h : Only S a w) {g : Nat} (hg : S g) (i : Nat) (v : Value) : Only S a (w.setCell ⟨g, i, none⟩ v) :=
  h.trans ⟨rfl, rfl, rfl, by simp, fun k _ hk => Below.heap_setCell _ _ _ _ (fun e => hk (by rw [e]; exact hg))⟩
theorem Only.of {S : Nat → Prop} {a w : World} (h : Below a.heap.size a w) : Only S a w := ⟨h.os, h.tape, h.output, h.size, fun k hk _ => h.block k hk⟩
theorem Only.below {S : Nat → Prop} {a w w' : World} {B : Nat} (h : Below B a w) (hs : B ≤ w.heap.size) (k : Only S w w') (hS : ∀ i, S i → B ≤ i) : Below B a w' :=
  h.trans ⟨k.os, k.tape, k.output, k.size, fun i hi => k.block i (by omega) (fun e => by have := hS i e; omega)⟩

theorem cell_ne {w : World} {g i h j : Nat} {v : Value} (e : g ≠ h ∨ i ≠ j) : (w.setCell ⟨g, i, none⟩ v).cell? ⟨h, j, none⟩ = w.cell? ⟨h, j, none⟩ :=
  World.cell?_setCell_other _ _ _ _ (fun x => by have := Addr.mk.inj x; rcases e with e | e <;> simp_all)
theorem cell_eq {w : World} {g i : Nat} {v u : Value} (h : w.cell? ⟨g, i, none⟩ = some u) : (w.setCell ⟨g, i, none⟩ v).cell? ⟨g, i, none⟩ = some v := World.cell?_setCell_same _ _ _ h
theorem IsLink.set {w : World} {g : Nat} (h : IsLink w g) (p i : Nat) (v : Value) : IsLink (w.setCell ⟨p, i, none⟩ v) g := by
  by_cases e : g = p
  · subst e
    obtain ⟨c, h⟩ := h
    refine ⟨c.setIfInBounds i v, ?_⟩
    simp [World.setCell, Array.getElem?_modify, h]
  · exact h.of (Below.heap_setCell _ _ _ _ (by simpa using e))
/-- A store into a link's neighbours' cells leaves what links hold. -/
theorem Has.set {w : World} {x : Lk} (h : Has w x) {p i : Nat} (hi : 2 ≤ i) (hp : IsLink w p) (v : Value) : Has (w.setCell ⟨p, i, none⟩ v) x := by
  have hb : x.b ≠ p := (link_bytes_ne hp h.kind).symm
  have e := Below.heap_setCell w ⟨p, i, none⟩ v x.b (by simpa using hb)
  have d (j : Nat) : (w.setCell ⟨p, i, none⟩ v).cell? ⟨x.b, j, none⟩ = w.cell? ⟨x.b, j, none⟩ := World.cell?_of_block (a := ⟨x.b, j, none⟩) e
  have f (j : Nat) : (w.setCell ⟨p, i, none⟩ v).frozen? ⟨x.b, j, none⟩ = w.frozen? ⟨x.b, j, none⟩ := World.frozen?_of_block (a := ⟨x.b, j, none⟩) e
  exact ⟨h.link.set _ _ _, h.kind.of e, (cell_ne (.inr (by omega))).trans h.at0, (cell_ne (.inr (by omega))).trans h.at1, fun j hj => (d _).trans (h.byte j hj), fun j h1 h2 => by rw [d, f]; exact h.spare j h1 h2, h.ble⟩

theorem Ring.of {w w' : World} {B r : Nat} {ks : List Lk} (h : Ring w B r ks) (e : ∀ i, (i = r ∨ (∃ x ∈ ks, i = x.g ∨ i = x.b)) → w'.heap[i]? = w.heap[i]?) : Ring w' B r ks := by
  have hc (i j : Nat) (hi : i = r ∨ (∃ x ∈ ks, i = x.g ∨ i = x.b)) : w'.cell? ⟨i, j, none⟩ = w.cell? ⟨i, j, none⟩ := World.cell?_of_block (a := ⟨i, j, none⟩) (e i hi)
  have hm (i : Nat) (hi : i ∈ r :: (gsOf ks ++ [r])) : i = r ∨ (∃ x ∈ ks, i = x.g ∨ i = x.b) := by
    simp at hi
    rcases hi with hi | ⟨x, hx, rfl⟩ | hi
    · exact .inl hi
    · exact .inr ⟨x, hx, .inl rfl⟩
    · exact .inl hi
  refine ⟨h.root.of (e r (.inl rfl)), h.base, fun x hx => (h.has x hx).of (e _ (.inr ⟨x, hx, .inl rfl⟩)) (e _ (.inr ⟨x, hx, .inr rfl⟩)), ?_, h.dis, h.apart, h.full⟩
  exact links_of _ _ h.links (fun x hx => hc x 3 (hm x ((List.dropLast_sublist _).subset hx))) (fun x hx => hc x 2 (hm x (List.mem_cons_of_mem _ hx)))
theorem Ring.lt {w : World} {B r : Nat} {ks : List Lk} (h : Ring w B r ks) : ∀ i, (i = r ∨ (∃ x ∈ ks, i = x.g ∨ i = x.b)) → i < w.heap.size := by
  rintro i (rfl | ⟨x, hx, rfl | rfl⟩)
  · exact h.root.lt
  · exact (h.has x hx).link.lt
  · exact (h.has x hx).kind.lt
theorem Ring.below {w w' : World} {B r : Nat} {ks : List Lk} (h : Ring w B r ks) (hb : Below w.heap.size w w') : Ring w' B r ks := h.of fun i hi => hb.block i (h.lt i hi)

theorem last_drop : ∀ (l : List Nat) (a : Nat), (a :: l).Nodup → ∀ x ∈ (a :: l).dropLast, x ≠ lastG a l
  | [], a, _, x, hx => by simp at hx
  | b :: l, a, h, x, hx => by
    rw [List.dropLast_cons_of_ne_nil (by simp)] at hx
    obtain ⟨h1, h2⟩ := List.nodup_cons.1 h
    rcases List.mem_cons.1 hx with rfl | hx
    · intro e; exact h1 (by rw [e]; exact lastG_mem l b)
    · exact last_drop l b h2 x hx
theorem head_tail (r : Nat) (ys : List Lk) : ∃ D, gsOf ys ++ [r] = headG r ys :: D ∧ (headG r ys :: D).dropLast = gsOf ys ∧ (∀ x ∈ D, x = r ∨ x ∈ gsOf ys) ∧ ((gsOf ys ++ [r]).Nodup → ∀ x ∈ D, x ≠ headG r ys) := by
  cases ys with
  | nil => exact ⟨[], rfl, rfl, (fun x hx => absurd hx (by simp)), (fun _ x hx => absurd hx (by simp))⟩
  | cons y ys =>
    refine ⟨gsOf ys ++ [r], rfl, ?_, ?_, ?_⟩
    · exact List.dropLast_concat (l₁ := gsOf (y :: ys)) (b := r)
    · intro x hx; simp at hx ⊢; rcases hx with h | h
      · exact .inr (.inr h)
      · exact .inl h
    · intro hn x hx e
      have := (List.nodup_cons.1 (show (y.g :: (gsOf ys ++ [r])).Nodup from hn)).1
      have e' : x = y.g := e
      exact this (by rw [← e']; exact hx)
theorem headG_mem (r : Nat) (ys : List Lk) : headG r ys = r ∨ headG r ys ∈ gsOf ys := by
  cases ys with
  | nil => exact .inl rfl
  | cons y ys => exact .inr (by show y.g ∈ _; simp)

/-- What stands on both sides of a place in the ring. -/
theorem Ring.around {w : World} {B r : Nat} {xs ys : List Lk} (h : Ring w B r (xs ++ ys)) :
    w.cell? ⟨lastG r (gsOf xs), 3, none⟩ = some (ptr (headG r ys)) ∧ w.cell? ⟨headG r ys, 2, none⟩ = some (ptr (lastG r (gsOf xs))) ∧ IsLink w (lastG r (gsOf xs)) ∧ IsLink w (headG r ys) := by
  have hl := h.links
  obtain ⟨D, hD, _⟩ := head_tail r ys
  rw [show gsOf (xs ++ ys) = gsOf xs ++ gsOf ys by simp, List.append_assoc, hD, links_app] at hl
  refine ⟨hl.2.1, hl.2.2.1, ?_, ?_⟩
  · rcases List.mem_cons.1 (lastG_mem (gsOf xs) r) with e | e
    · rw [e]; exact h.root
    · simp at e; obtain ⟨x, hx, e⟩ := e
      rw [← e]; exact (h.has x (by simp [hx])).link
  · rcases headG_mem r ys with e | e
    · rw [e]; exact h.root
    · simp at e; obtain ⟨x, hx, e⟩ := e
      have : headG r ys = x.g := e.symm
      rw [this]; exact (h.has x (by simp [hx])).link
theorem ring_insert {w : World} {B r : Nat} {xs ys : List Lk} {p : Lk} {u2 u3 : Value} (h : Ring w B r (xs ++ ys)) (hp : Has w p) (hB : B ≤ p.g ∧ B ≤ p.b) (hp2 : w.cell? ⟨p.g, 2, none⟩ = some u2) (hp3 : w.cell? ⟨p.g, 3, none⟩ = some u3)
    (hnew : p.g ∉ r :: gsOf (xs ++ ys)) (hap : ∀ x ∈ xs ++ ys, Apart p x) (hf : p.t ≠ []) :
    Ring ((((w.setCell ⟨p.g, 2, none⟩ (ptr (lastG r (gsOf xs)))).setCell ⟨p.g, 3, none⟩ (ptr (headG r ys))).setCell ⟨lastG r (gsOf xs), 3, none⟩ (ptr p.g)).setCell ⟨headG r ys, 2, none⟩ (ptr p.g)) B r (xs ++ p :: ys) := by
  obtain ⟨a3, a2, lq, lk⟩ := h.around
  obtain ⟨D, hD, hD1, hD2, hD3⟩ := head_tail r ys
  have hl := h.links
  have hdis := h.dis
  rw [show gsOf (xs ++ ys) = gsOf xs ++ gsOf ys by simp] at hdis hnew
  rw [show gsOf (xs ++ ys) = gsOf xs ++ gsOf ys by simp, List.append_assoc, hD, links_app] at hl
  obtain ⟨l1, _, _, l2⟩ := hl
  have hqm := lastG_mem (gsOf xs) r
  have hkm := headG_mem r ys
  generalize hq : lastG r (gsOf xs) = q at *
  generalize hk : headG r ys = k at *
  have hnq : p.g ≠ q := by
    intro e; apply hnew; rw [e]
    rcases List.mem_cons.1 hqm with e | e
    · simp [e]
    · exact List.mem_cons_of_mem _ (List.mem_append_left _ e)
  have hnk : p.g ≠ k := by
    intro e; apply hnew; rw [e]
    rcases hkm with e | e
    · simp [e]
    · exact List.mem_cons_of_mem _ (List.mem_append_right _ e)
  have hL : ∀ g, IsLink w g → IsLink ((((w.setCell ⟨p.g, 2, none⟩ (ptr q)).setCell ⟨p.g, 3, none⟩ (ptr k)).setCell ⟨q, 3, none⟩ (ptr p.g)).setCell ⟨k, 2, none⟩ (ptr p.g)) g := fun g hg => (((hg.set _ _ _).set _ _ _).set _ _ _).set _ _ _
  have hH : ∀ x, Has w x → Has ((((w.setCell ⟨p.g, 2, none⟩ (ptr q)).setCell ⟨p.g, 3, none⟩ (ptr k)).setCell ⟨q, 3, none⟩ (ptr p.g)).setCell ⟨k, 2, none⟩ (ptr p.g)) x := fun x hx =>
    (((hx.set (by omega) hp.link _).set (by omega) (hp.link.set _ _ _) _).set (by omega) ((lq.set _ _ _).set _ _ _) _).set (by omega) (((lk.set _ _ _).set _ _ _).set _ _ _) _
  have n3 : ∀ x, x ≠ q → x ≠ p.g → ((((w.setCell ⟨p.g, 2, none⟩ (ptr q)).setCell ⟨p.g, 3, none⟩ (ptr k)).setCell ⟨q, 3, none⟩ (ptr p.g)).setCell ⟨k, 2, none⟩ (ptr p.g)).cell? ⟨x, 3, none⟩ = w.cell? ⟨x, 3, none⟩ := fun x h1 h2 => by
    rw [cell_ne (.inr (by omega)), cell_ne (.inl (Ne.symm h1)), cell_ne (.inl (Ne.symm h2)), cell_ne (.inr (by omega))]
  have n2 : ∀ x, x ≠ k → x ≠ p.g → ((((w.setCell ⟨p.g, 2, none⟩ (ptr q)).setCell ⟨p.g, 3, none⟩ (ptr k)).setCell ⟨q, 3, none⟩ (ptr p.g)).setCell ⟨k, 2, none⟩ (ptr p.g)).cell? ⟨x, 2, none⟩ = w.cell? ⟨x, 2, none⟩ := fun x h1 h2 => by
    rw [cell_ne (.inl (Ne.symm h1)), cell_ne (.inr (by omega)), cell_ne (.inr (by omega)), cell_ne (.inl (Ne.symm h2))]
  have e1 : ((((w.setCell ⟨p.g, 2, none⟩ (ptr q)).setCell ⟨p.g, 3, none⟩ (ptr k)).setCell ⟨q, 3, none⟩ (ptr p.g)).setCell ⟨k, 2, none⟩ (ptr p.g)).cell? ⟨q, 3, none⟩ = some (ptr p.g) := by
    rw [cell_ne (.inr (by omega))]; exact cell_eq (by rw [cell_ne (.inl hnq), cell_ne (.inr (by omega))]; exact a3)
  have e2 : ((((w.setCell ⟨p.g, 2, none⟩ (ptr q)).setCell ⟨p.g, 3, none⟩ (ptr k)).setCell ⟨q, 3, none⟩ (ptr p.g)).setCell ⟨k, 2, none⟩ (ptr p.g)).cell? ⟨p.g, 2, none⟩ = some (ptr q) := by
    rw [cell_ne (.inl (Ne.symm hnk)), cell_ne (.inr (by omega)), cell_ne (.inr (by omega))]; exact cell_eq hp2
  have e3 : ((((w.setCell ⟨p.g, 2, none⟩ (ptr q)).setCell ⟨p.g, 3, none⟩ (ptr k)).setCell ⟨q, 3, none⟩ (ptr p.g)).setCell ⟨k, 2, none⟩ (ptr p.g)).cell? ⟨p.g, 3, none⟩ = some (ptr k) := by
    rw [cell_ne (.inr (by omega)), cell_ne (.inl (Ne.symm hnq))]; exact cell_eq (by rw [cell_ne (.inr (by omega))]; exact hp3)
  have e4 : ((((w.setCell ⟨p.g, 2, none⟩ (ptr q)).setCell ⟨p.g, 3, none⟩ (ptr k)).setCell ⟨q, 3, none⟩ (ptr p.g)).setCell ⟨k, 2, none⟩ (ptr p.g)).cell? ⟨k, 2, none⟩ = some (ptr p.g) := by
    exact cell_eq (by rw [cell_ne (.inr (by omega)), cell_ne (.inr (by omega)), cell_ne (.inl hnk)]; exact a2)
  generalize (((w.setCell ⟨p.g, 2, none⟩ (ptr q)).setCell ⟨p.g, 3, none⟩ (ptr k)).setCell ⟨q, 3, none⟩ (ptr p.g)).setCell ⟨k, 2, none⟩ (ptr p.g) = w' at *
  have hsub : ∀ x ∈ xs ++ p :: ys, x = p ∨ x ∈ xs ++ ys := fun x hx => by simp at hx ⊢; rcases hx with h | h | h <;> simp [h]
  have hpn : ∀ x ∈ r :: (gsOf xs ++ gsOf ys), x ≠ p.g := fun x hx e => hnew (e ▸ hx)
  obtain ⟨hr1, hr2⟩ := List.nodup_cons.1 hdis
  refine ⟨hL _ h.root, ⟨h.base.1, fun x hx => ?_⟩, fun x hx => ?_, ?_, ?_, ?_, fun x hx => ?_⟩
  · rcases hsub x hx with rfl | hx
    · exact hB
    · exact h.base.2 x hx
  · rcases hsub x hx with rfl | hx
    · exact hH _ hp
    · exact hH _ (h.has x hx)
  · rw [show gsOf (xs ++ p :: ys) = gsOf xs ++ p.g :: gsOf ys by simp, List.append_assoc, List.cons_append, hD, links_app, hq]
    have hnd : (r :: gsOf xs).Nodup := List.nodup_cons.2 ⟨fun e => hr1 (List.mem_append_left _ e), (List.nodup_append.1 hr2).1⟩
    refine ⟨links_of _ _ l1 (fun x hx => n3 x ?_ (hpn x ?_)) (fun x hx => n2 x ?_ (hpn x ?_)), e1, e2, e3, e4, links_of _ _ l2 (fun x hx => n3 x ?_ (hpn x ?_)) (fun x hx => n2 x ?_ (hpn x ?_))⟩
    · rw [← hq]; exact last_drop _ _ hnd x hx
    · have := (List.dropLast_sublist _).subset hx
      rcases List.mem_cons.1 this with e | e
      · simp [e]
      · exact List.mem_cons_of_mem _ (List.mem_append_left _ e)
    · rcases hkm with e | e
      · rw [e]; intro e2; exact hr1 (List.mem_append_left _ (e2 ▸ hx))
      · intro e2; exact (List.nodup_append.1 hr2).2.2 x hx k e e2
    · exact List.mem_cons_of_mem _ (List.mem_append_left _ hx)
    · rw [hD1] at hx
      rcases List.mem_cons.1 hqm with e | e
      · rw [e]; intro e2; exact hr1 (List.mem_append_right _ (e2 ▸ hx))
      · intro e2; exact (List.nodup_append.1 hr2).2.2 q e x hx e2.symm
    · rw [hD1] at hx; exact List.mem_cons_of_mem _ (List.mem_append_right _ hx)
    · refine hD3 ?_ x hx
      rw [List.nodup_append]
      exact ⟨(List.nodup_append.1 hr2).2.1, by simp, fun a ha b hb e => by simp at hb; subst hb; subst e; exact hr1 (List.mem_append_right _ ha)⟩
    · rcases hD2 x hx with e | e
      · simp [e]
      · exact List.mem_cons_of_mem _ (List.mem_append_right _ e)
  · rw [show gsOf (xs ++ p :: ys) = gsOf xs ++ p.g :: gsOf ys by simp]
    have hp' : (p.g :: (r :: (gsOf xs ++ gsOf ys))).Nodup := List.nodup_cons.2 ⟨hnew, hdis⟩
    refine (List.Perm.nodup_iff ?_).1 hp'
    exact (List.perm_middle (l₁ := r :: gsOf xs)).symm
  · have hpw := h.apart
    rw [List.pairwise_append] at hpw ⊢
    refine ⟨hpw.1, List.pairwise_cons.2 ⟨fun y hy => hap y (by simp [hy]), hpw.2.1⟩, fun a ha b hb => ?_⟩
    rcases List.mem_cons.1 hb with rfl | hb
    · exact (hap a (by simp [ha])).symm
    · exact hpw.2.2 a ha b hb
  · rcases hsub x hx with rfl | hx
    · exact hf
    · exact h.full x hx
end Go.Proofs.Ytjcdcaannajnpaa
