/- What is put together of pieces: which byte is at which place; the program's way and the model's come to the same. Plain lists: no walk. -/
import Derived.Test.YtjcdcaannajnpaaPieces
namespace Go.Proofs.Ytjcdcaannajnpaa
/-- The byte at a place, if there is one. -/
def byteAt : List Pc → Int → Option UInt8
  | [], _ => none
  | p :: l, i => if p.1 ≤ i ∧ i < pcEnd p then p.2[(i - p.1).toNat]? else byteAt l i
/-- Rising from f on; and with a place between. -/
def riseG : Int → List Pc → Prop
  | _, [] => True
  | f, p :: l => f ≤ p.1 ∧ riseG (pcEnd p) l
def canonG : Int → List Pc → Prop
  | _, [] => True
  | f, p :: l => f < p.1 ∧ p.2 ≠ [] ∧ canonG (pcEnd p) l
def full (l : List Pc) : Prop := ∀ p ∈ l, p.2 ≠ []

theorem canon_rise : ∀ (l : List Pc) (f : Int), canonG f l → riseG f l
  | [], _, _ => trivial
  | p :: l, f, h => ⟨by have := h.1; omega, canon_rise l _ h.2.2⟩
theorem canon_full : ∀ (l : List Pc) (f : Int), canonG f l → full l
  | [], _, _ => fun p hp => by cases hp
  | p :: l, f, h => fun q hq => by
    rcases List.mem_cons.1 hq with rfl | hq
    · exact h.2.1
    · exact canon_full l _ h.2.2 q hq
theorem pcEnd_ge (p : Pc) : p.1 ≤ pcEnd p := by unfold pcEnd; omega
theorem rise_mono : ∀ (l : List Pc) (f g : Int), g ≤ f → riseG f l → riseG g l
  | [], _, _, _, _ => trivial
  | p :: l, f, g, hg, h => ⟨by have := h.1; omega, h.2⟩
theorem canon_mono : ∀ (l : List Pc) (f g : Int), g ≤ f → canonG f l → canonG g l
  | [], _, _, _, _ => trivial
  | p :: l, f, g, hg, h => ⟨by have := h.1; omega, h.2⟩
theorem byte_low : ∀ (l : List Pc) (f i : Int), riseG f l → i < f → byteAt l i = none
  | [], _, _, _, _ => rfl
  | p :: l, f, i, h, hi => by
    have h1 := h.1
    have := pcEnd_ge p
    unfold byteAt
    rw [if_neg (by omega)]
    exact byte_low l _ i h.2 (by omega)
theorem byte_low' : ∀ (l : List Pc) (f i : Int), canonG f l → i ≤ f → byteAt l i = none
  | [], _, _, _, _ => rfl
  | p :: l, f, i, h, hi => by
    have h1 := h.1
    unfold byteAt
    rw [if_neg (by omega)]
    have := pcEnd_ge p
    exact byte_low l (pcEnd p) i (canon_rise l _ h.2.2) (by omega)
theorem byte_in {p : Pc} (l : List Pc) {i : Int} (h1 : p.1 ≤ i) (h2 : i < pcEnd p) : byteAt (p :: l) i = p.2[(i - p.1).toNat]? := by
  unfold byteAt; rw [if_pos ⟨h1, h2⟩]
theorem byte_out {p : Pc} (l : List Pc) {i : Int} (h : ¬ (p.1 ≤ i ∧ i < pcEnd p)) : byteAt (p :: l) i = byteAt l i := by
  rw [byteAt.eq_2, if_neg h]
theorem byte_some {p : Pc} {i : Int} (h1 : p.1 ≤ i) (h2 : i < pcEnd p) : ∃ b, p.2[(i - p.1).toNat]? = some b := by
  unfold pcEnd at h2
  exact ⟨_, List.getElem?_eq_getElem (by omega)⟩
theorem byte_append (a b : List Pc) (i : Int) : byteAt (a ++ b) i = (byteAt a i).or (byteAt b i) := by
  induction a with
  | nil => rfl
  | cons p a ih =>
    by_cases h : p.1 ≤ i ∧ i < pcEnd p
    · rw [List.cons_append, byte_in _ h.1 h.2, byte_in _ h.1 h.2]
      obtain ⟨c, hc⟩ := byte_some h.1 h.2
      rw [hc]; rfl
    · rw [List.cons_append, byte_out _ h, byte_out _ h, ih]
theorem canon_ext : ∀ (l m : List Pc) (f : Int), canonG f l → canonG f m → (∀ i, byteAt l i = byteAt m i) → l = m
  | [], [], _, _, _, _ => rfl
  | [], q :: m, f, _, hm, h => by
    exfalso
    have hl := h q.1
    have hq : 0 < q.2.length := List.length_pos_iff.2 hm.2.1
    rw [byte_in _ (Int.le_refl _) (by unfold pcEnd; omega)] at hl
    obtain ⟨c, hc⟩ := byte_some (p := q) (i := q.1) (Int.le_refl _) (by unfold pcEnd; omega)
    rw [hc] at hl; cases hl
  | p :: l, [], f, hm, _, h => by
    exfalso
    have hl := h p.1
    have hq : 0 < p.2.length := List.length_pos_iff.2 hm.2.1
    rw [byte_in _ (Int.le_refl _) (by unfold pcEnd; omega)] at hl
    obtain ⟨c, hc⟩ := byte_some (p := p) (i := p.1) (Int.le_refl _) (by unfold pcEnd; omega)
    rw [hc] at hl; cases hl
  | p :: l, q :: m, f, hl, hm, h => by
    have hp : 0 < p.2.length := List.length_pos_iff.2 hl.2.1
    have hq : 0 < q.2.length := List.length_pos_iff.2 hm.2.1
    have one : ∀ (p q : Pc) (l m : List Pc), 0 < p.2.length → canonG (pcEnd q) m → byteAt (p :: l) p.1 = byteAt (q :: m) p.1 → ¬ p.1 < q.1 := by
      intro p q l m hp hm h hlt
      rw [byte_in _ (Int.le_refl _) (by unfold pcEnd; omega)] at h
      obtain ⟨c, hc⟩ := byte_some (p := p) (i := p.1) (Int.le_refl _) (by unfold pcEnd; omega)
      have := pcEnd_ge q
      rw [hc, byte_out _ (by omega), byte_low' m _ _ hm (by omega)] at h
      cases h
    have e1 : p.1 = q.1 := by
      have a := one p q l m hp hm.2.2 (h _)
      have b := one q p m l hq hl.2.2 (h _).symm
      omega
    have two : ∀ (p q : Pc) (l m : List Pc), p.1 = q.1 → canonG (pcEnd p) l → byteAt (p :: l) (pcEnd p) = byteAt (q :: m) (pcEnd p) → ¬ pcEnd p < pcEnd q := by
      intro p q l m e hl h hlt
      have := pcEnd_ge p
      obtain ⟨c, hc⟩ := byte_some (p := q) (i := pcEnd p) (by omega) hlt
      rw [byte_out _ (by omega), byte_low' l _ _ hl (Int.le_refl _), byte_in _ (by omega) hlt, hc] at h
      cases h
    have e2 : pcEnd p = pcEnd q := by
      have a := two p q l m e1 hl.2.2 (h _)
      have b := two q p m l e1.symm hm.2.2 (h _).symm
      omega
    have e3 : p.2 = q.2 := by
      have hlen : p.2.length = q.2.length := by unfold pcEnd at e2; omega
      apply List.ext_getElem? 
      intro j
      by_cases hj : j < p.2.length
      · have hh := h (p.1 + j)
        rw [byte_in _ (by omega) (by unfold pcEnd; omega), byte_in _ (by omega) (by unfold pcEnd; omega), ← e1] at hh
        have ej : (p.1 + (j : Int) - p.1).toNat = j := by omega
        rw [ej] at hh; exact hh
      · rw [List.getElem?_eq_none (by omega), List.getElem?_eq_none (by omega)]
    have e4 : p = q := Prod.ext e1 e3
    subst e4
    rw [canon_ext l m (pcEnd p) hl.2.2 hm.2.2 (fun i => ?_)]
    by_cases hi : p.1 ≤ i ∧ i < pcEnd p
    · rw [byte_low' l _ _ hl.2.2 (by omega), byte_low' m _ _ hm.2.2 (by omega)]
    · have := h i
      rwa [byte_out _ hi, byte_out _ hi] at this

/-- The bytes of a piece from one place on ahead of another one. -/
def cutP (p : Pc) (f t : Int) : Pc :=
  if min t (pcEnd p) ≤ max f p.1 then (0, []) else (max f p.1, (p.2.drop (max f p.1 - p.1).toNat).take (min t (pcEnd p) - max f p.1).toNat)
def nz (p : Pc) : List Pc := if p.2 = [] then [] else [p]
theorem cutP_end (p : Pc) (f t : Int) (h : max f p.1 < min t (pcEnd p)) : (cutP p f t).1 = max f p.1 ∧ pcEnd (cutP p f t) = min t (pcEnd p) := by
  unfold cutP
  rw [if_neg (by omega)]
  refine ⟨rfl, ?_⟩
  unfold pcEnd at *
  simp only [List.length_take, List.length_drop]
  omega
theorem cutP_none (p : Pc) (f t : Int) (h : ¬ max f p.1 < min t (pcEnd p)) : cutP p f t = (0, []) := by
  unfold cutP; rw [if_pos (by omega)]
theorem cutP_nz (p : Pc) (f t : Int) (h : max f p.1 < min t (pcEnd p)) : (cutP p f t).2 ≠ [] := by
  have := cutP_end p f t h
  intro e
  have h2 := this.2
  have h1 := this.1
  unfold pcEnd at h2
  rw [e] at h2
  simp at h2
  unfold pcEnd at h
  omega
theorem nz_none : nz (0, []) = [] := rfl
theorem nz_some {p : Pc} (h : p.2 ≠ []) : nz p = [p] := by unfold nz; rw [if_neg h]
theorem byte_nz (p : Pc) (i : Int) : byteAt (nz p) i = byteAt [p] i := by
  unfold nz
  split
  · rename_i h
    rw [byte_out]
    unfold pcEnd; rw [h]; simp
  · rfl
theorem byte_cut (p : Pc) (f t i : Int) : byteAt (nz (cutP p f t)) i = if f ≤ i ∧ i < t then byteAt [p] i else none := by
  rw [byte_nz]
  by_cases h : max f p.1 < min t (pcEnd p)
  · obtain ⟨h1, h2⟩ := cutP_end p f t h
    by_cases hi : max f p.1 ≤ i ∧ i < min t (pcEnd p)
    · rw [byte_in _ (by omega) (by omega), if_pos (by omega), byte_in _ (by omega) (by omega), h1]
      unfold cutP
      rw [if_neg (by omega)]
      simp only
      rw [List.getElem?_take, if_pos (by omega), List.getElem?_drop]
      congr 1
      omega
    · rw [byte_out _ (by omega)]
      split
      · rw [byte_out _ (by omega)]
      · rfl
  · rw [cutP_none p f t h, byte_out _ (by simp [pcEnd])]
    split
    · rw [byte_out _ (by omega)]
    · rfl
/-- What 'fill' leaves. -/
def fillN : List Pc → Int → Pc → List Pc
  | [], f, p => nz (cutP p f (pcEnd p))
  | k :: l, f, p => nz (cutP p f k.1) ++ k :: fillN l (pcEnd k) p
theorem fill_byte : ∀ (l : List Pc) (f : Int) (p : Pc), riseG f l → ∀ i, byteAt (fillN l f p) i = (byteAt l i).or (if f ≤ i then byteAt [p] i else none)
  | [], f, p, _, i => by
    unfold fillN
    rw [byte_cut]
    show _ = if f ≤ i then byteAt [p] i else none
    by_cases h : f ≤ i
    · rw [if_pos h]
      by_cases h2 : i < pcEnd p
      · rw [if_pos ⟨h, h2⟩]
      · rw [if_neg (by omega), byte_out _ (by omega)]; rfl
    · rw [if_neg h, if_neg (by omega)]
  | k :: l, f, p, h, i => by
    have ih := fill_byte l (pcEnd k) p h.2 i
    have h1 := h.1
    unfold fillN
    rw [byte_append, byte_cut]
    have hk := pcEnd_ge k
    by_cases hi : k.1 ≤ i ∧ i < pcEnd k
    · rw [byte_in _ hi.1 hi.2, byte_in _ hi.1 hi.2, if_neg (by omega)]
      obtain ⟨c, hc⟩ := byte_some hi.1 hi.2
      rw [hc]; rfl
    · rw [byte_out _ hi, byte_out _ hi, ih]
      by_cases h3 : i < k.1
      · rw [byte_low l _ i h.2 (by omega), if_neg (by omega : ¬ pcEnd k ≤ i)]
        by_cases h4 : f ≤ i
        · rw [if_pos ⟨h4, h3⟩, if_pos h4]; cases byteAt [p] i <;> rfl
        · rw [if_neg (by omega), if_neg h4]; rfl
      · rw [if_neg (by omega), if_pos (by omega), if_pos (by omega)]; rfl
theorem fill_rise : ∀ (l : List Pc) (f : Int) (p : Pc), riseG f l → riseG f (fillN l f p)
  | [], f, p, _ => by
    unfold fillN
    by_cases h : max f p.1 < min (pcEnd p) (pcEnd p)
    · rw [nz_some (cutP_nz _ _ _ h)]
      exact ⟨by have := (cutP_end _ _ _ h).1; omega, trivial⟩
    · rw [cutP_none _ _ _ h]; exact trivial
  | k :: l, f, p, hr => by
    have ih := fill_rise l (pcEnd k) p hr.2
    have h1 := hr.1
    unfold fillN
    by_cases h : max f p.1 < min k.1 (pcEnd p)
    · rw [nz_some (cutP_nz _ _ _ h)]
      obtain ⟨e1, e2⟩ := cutP_end _ _ _ h
      exact ⟨by omega, ⟨by omega, ih⟩⟩
    · rw [cutP_none _ _ _ h]; exact ⟨h1, ih⟩
theorem fill_full : ∀ (l : List Pc) (f : Int) (p : Pc), full l → full (fillN l f p)
  | [], f, p, _ => by
    unfold fillN
    by_cases h : max f p.1 < min (pcEnd p) (pcEnd p)
    · have := cutP_nz _ _ _ h
      rw [nz_some this]
      intro q hq; simp at hq; subst hq; exact this
    · rw [cutP_none _ _ _ h]; intro q hq; cases hq
  | k :: l, f, p, hr => by
    have ih := fill_full l (pcEnd k) p (fun q hq => hr q (List.mem_cons_of_mem _ hq))
    unfold fillN
    intro q hq
    rcases List.mem_append.1 hq with hq | hq
    · unfold nz at hq
      split at hq
      · cases hq
      · rename_i hh; simp at hq; subst hq; exact hh
    · rcases List.mem_cons.1 hq with rfl | hq
      · exact hr _ (by simp)
      · exact ih q hq
theorem fill_len : ∀ (l : List Pc) (f : Int) (p : Pc), (fillN l f p).length ≤ 2 * l.length + 1
  | [], f, p => by unfold fillN nz; split <;> simp
  | k :: l, f, p => by
    have ih := fill_len l (pcEnd k) p
    unfold fillN nz; split <;> simp <;> omega

/-- What 'joinNeighbours' leaves. -/
def joinG : Pc → List Pc → List Pc
  | p, [] => [p]
  | p, q :: l => if pcEnd p < q.1 then p :: joinG q l else joinG (p.1, p.2 ++ q.2) l
def joinN : List Pc → List Pc
  | [] => []
  | p :: l => joinG p l
theorem end_app (p q : Pc) : pcEnd (p.1, p.2 ++ q.2) = pcEnd p + q.2.length := by unfold pcEnd; simp; omega
theorem join_canon : ∀ (l : List Pc) (p : Pc) (f : Int), f < p.1 → p.2 ≠ [] → riseG (pcEnd p) l → full l → canonG f (joinG p l)
  | [], p, f, hf, hp, _, _ => ⟨hf, hp, trivial⟩
  | q :: l, p, f, hf, hp, hr, hl => by
    have hq := hl q (by simp)
    have hl' : full l := fun x hx => hl x (List.mem_cons_of_mem _ hx)
    unfold joinG
    split
    · rename_i h
      exact ⟨hf, hp, join_canon l q _ h hq hr.2 hl'⟩
    · rename_i h
      have e : pcEnd (p.1, p.2 ++ q.2) = pcEnd q := by
        have := hr.1; rw [end_app]; unfold pcEnd at *; omega
      exact join_canon l _ f hf (by simp [hp]) (by rw [e]; exact hr.2) hl'
theorem join_byte : ∀ (l : List Pc) (p : Pc), riseG (pcEnd p) l → ∀ i, byteAt (joinG p l) i = byteAt (p :: l) i
  | [], p, _, i => rfl
  | q :: l, p, hr, i => by
    unfold joinG
    split
    · have ih := join_byte l q hr.2 i
      by_cases hi : p.1 ≤ i ∧ i < pcEnd p
      · rw [byte_in _ hi.1 hi.2, byte_in _ hi.1 hi.2]
      · rw [byte_out _ hi, byte_out _ hi, ih]
    · rename_i h
      have e : pcEnd p = q.1 := by have := hr.1; omega
      have e2 : pcEnd (p.1, p.2 ++ q.2) = pcEnd q := by rw [end_app]; unfold pcEnd at *; omega
      rw [join_byte l _ (by rw [e2]; exact hr.2) i]
      by_cases hi : p.1 ≤ i ∧ i < pcEnd p
      · have := pcEnd_ge q
        rw [byte_in (p := (p.1, p.2 ++ q.2)) _ hi.1 (by rw [e2]; omega), byte_in _ hi.1 hi.2]
        simp only
        unfold pcEnd at hi
        rw [List.getElem?_append_left (by omega)]
      · by_cases hj : q.1 ≤ i ∧ i < pcEnd q
        · rw [byte_in (p := (p.1, p.2 ++ q.2)) _ (by show p.1 ≤ i; have := pcEnd_ge p; omega) (by rw [e2]; exact hj.2), byte_out _ hi, byte_in _ hj.1 hj.2]
          simp only
          unfold pcEnd at e
          rw [List.getElem?_append_right (by omega)]
          congr 1
          omega
        · rw [byte_out _ (by rw [e2]; show ¬ (p.1 ≤ i ∧ _); omega), byte_out _ hi, byte_out _ hj]
theorem joinN_canon (l : List Pc) (f g : Int) (hg : g < f) (hr : riseG f l) (hl : full l) : canonG g (joinN l) := by
  cases l with
  | nil => trivial
  | cons p l => exact join_canon l p g (by have := hr.1; omega) (hl p (by simp)) hr.2 (fun x hx => hl x (List.mem_cons_of_mem _ hx))
theorem joinN_byte (l : List Pc) (f : Int) (hr : riseG f l) (i : Int) : byteAt (joinN l) i = byteAt l i := by
  cases l with
  | nil => rfl
  | cons p l => exact join_byte l p hr.2 i
theorem join_len : ∀ (l : List Pc) (p : Pc), (joinG p l).length ≤ l.length + 1
  | [], p => by simp [joinG]
  | q :: l, p => by
    unfold joinG
    split
    · have := join_len l q; simp; omega
    · have := join_len l (p.1, p.2 ++ q.2); simp; omega
theorem joinN_len (l : List Pc) : (joinN l).length ≤ l.length := by
  cases l with
  | nil => simp [joinN]
  | cons p l => have := join_len l p; simpa [joinN] using this

/-- What PiecePut puts together. -/
def putN (l : List Pc) (n : Int) (t : List UInt8) : List Pc := joinN (fillN l n (n, t))
def wasOr (l : List Pc) (n : Int) (t : List UInt8) (i : Int) : Option UInt8 := (byteAt l i).or (byteAt [(n, t)] i)

theorem cut_start (p : Pc) (f t : Int) (h : f ≤ p.1) : cutP p f t = cutP p p.1 t := by
  unfold cutP
  rw [show max f p.1 = max p.1 p.1 by omega]
theorem fill_start (l : List Pc) (f : Int) (p : Pc) (h : f ≤ p.1) : fillN l f p = fillN l p.1 p := by
  cases l with
  | nil => unfold fillN; rw [cut_start p f _ h]
  | cons k l => unfold fillN; rw [cut_start p f _ h]
theorem put_canon {l : List Pc} {n : Int} {t : List UInt8} (hl : canonG (-1) l) (hn : 0 ≤ n) : canonG (-1) (putN l n t) := by
  unfold putN
  rw [← fill_start l 0 (n, t) hn]
  have hr : riseG 0 l := by
    cases l with
    | nil => trivial
    | cons p l => exact ⟨by have := hl.1; omega, canon_rise _ _ hl.2.2⟩
  exact joinN_canon _ 0 (-1) (by omega) (fill_rise l 0 _ hr) (fill_full l 0 _ (canon_full _ _ hl))
theorem put_byte {l : List Pc} {n : Int} {t : List UInt8} (hl : canonG (-1) l) (hn : 0 ≤ n) (i : Int) : byteAt (putN l n t) i = wasOr l n t i := by
  unfold putN wasOr
  rw [← fill_start l 0 (n, t) hn]
  have hr : riseG 0 l := by
    cases l with
    | nil => trivial
    | cons p l => exact ⟨by have := hl.1; omega, canon_rise _ _ hl.2.2⟩
  rw [joinN_byte _ 0 (fill_rise l 0 _ hr), fill_byte l 0 _ hr]
  split
  · rfl
  · rw [byte_out _ (by show ¬ (n ≤ i ∧ _); omega)]; rfl

/-- The model's loop. -/
def putGo : List Pc → Int → List UInt8 → List Pc
  | [], n, t => [(n, t)]
  | p :: l, n, t =>
    if n < p.1 ∧ 0 < min (n + t.length) p.1 - n then
      (n, t.take (min (n + t.length) p.1 - n).toNat) :: p ::
        (if 0 < min (n + t.length) (pcEnd p) - min (n + t.length) p.1 ∧ p.1 ≤ min (n + t.length) p.1 then
          putGo l (min (n + t.length) (pcEnd p)) (t.drop (min (n + t.length) (pcEnd p) - n).toNat)
        else putGo l (min (n + t.length) p.1) (t.drop (min (n + t.length) p.1 - n).toNat))
    else p ::
        (if 0 < min (n + t.length) (pcEnd p) - n ∧ p.1 ≤ n then
          putGo l (min (n + t.length) (pcEnd p)) (t.drop (min (n + t.length) (pcEnd p) - n).toNat)
        else putGo l n t)
def ne (l : List Pc) : List Pc := l.filter fun p => !p.2.isEmpty
theorem ne_cons_full (p : Pc) (l : List Pc) (h : p.2 ≠ []) : ne (p :: l) = p :: ne l := by
  unfold ne; rw [List.filter_cons_of_pos (by simpa using h)]
theorem ne_cons_empty (p : Pc) (l : List Pc) (h : p.2 = []) : ne (p :: l) = ne l := by
  unfold ne; rw [List.filter_cons_of_neg (by simp [h])]
theorem ne_full (l : List Pc) : full (ne l) := fun p hp => by
  unfold ne at hp; rw [List.mem_filter] at hp; simpa using hp.2
theorem ne_of_full (l : List Pc) (h : full l) : ne l = l := by
  unfold ne; rw [List.filter_eq_self]; intro p hp; simpa using h p hp
theorem byte_empty (p : Pc) (l : List Pc) (i : Int) (h : p.2 = []) : byteAt (p :: l) i = byteAt l i := by
  rw [byte_out]; unfold pcEnd; rw [h]; simp
theorem byte_ne (l : List Pc) (i : Int) : byteAt (ne l) i = byteAt l i := by
  induction l with
  | nil => rfl
  | cons p l ih =>
    by_cases h : p.2 = []
    · rw [ne_cons_empty _ _ h, ih, byte_empty _ _ _ h]
    · rw [ne_cons_full _ _ h]
      by_cases hi : p.1 ≤ i ∧ i < pcEnd p
      · rw [byte_in _ hi.1 hi.2, byte_in _ hi.1 hi.2]
      · rw [byte_out _ hi, byte_out _ hi, ih]
/-- A piece in two: its first bytes and the rest. -/
theorem byte_split (n : Int) (t : List UInt8) (k : Nat) (h : k ≤ t.length) (i : Int) : byteAt [(n, t)] i = (byteAt [(n, t.take k)] i).or (byteAt [(n + k, t.drop k)] i) := by
  have e1 : pcEnd (n, t.take k) = n + k := by unfold pcEnd; simp; omega
  have e2 : pcEnd (n + k, t.drop k) = n + t.length := by unfold pcEnd; simp; omega
  have e3 : pcEnd (n, t) = n + t.length := rfl
  by_cases h1 : n ≤ i ∧ i < n + k
  · rw [byte_in _ h1.1 (by rw [e3]; omega), byte_in (p := (n, t.take k)) _ h1.1 (by rw [e1]; omega)]
    simp only
    rw [List.getElem?_take, if_pos (by omega), List.getElem?_eq_getElem (by omega)]; rfl
  · rw [byte_out (p := (n, t.take k)) _ (by rw [e1]; exact h1)]
    by_cases h2 : n + k ≤ i ∧ i < n + t.length
    · rw [byte_in _ (by show n ≤ i; omega) (by rw [e3]; omega), byte_in (p := (n + k, t.drop k)) _ h2.1 (by rw [e2]; omega)]
      simp only
      rw [List.getElem?_drop]
      show _ = _
      simp only [byteAt, Option.none_or]
      congr 1; omega
    · rw [byte_out (p := (n + k, t.drop k)) _ (by rw [e2]; exact h2), byte_out _ (by rw [e3]; show ¬ (n ≤ i ∧ _); omega)]; rfl

theorem byte_one_out (n : Int) (t : List UInt8) (i : Int) (h : ¬ (n ≤ i ∧ i < n + t.length)) : byteAt [(n, t)] i = none := by
  rw [byte_out _ (by show ¬ (n ≤ i ∧ i < pcEnd (n, t)); exact h)]; rfl
theorem two_app (x y : Pc) (z : List Pc) : x :: y :: z = [x] ++ (y :: z) := rfl
theorem putGo_both : ∀ (l : List Pc) (f n : Int) (t : List UInt8), riseG f l → full l → (f ≤ n ∨ t = []) →
    (∀ i, byteAt (putGo l n t) i = (byteAt l i).or (byteAt [(n, t)] i)) ∧ riseG f (ne (putGo l n t))
  | [], f, n, t, _, _, hf => by
    refine ⟨fun i => rfl, ?_⟩
    unfold putGo
    by_cases ht : t = []
    · rw [ne_cons_empty _ _ ht]; exact trivial
    · rw [ne_cons_full _ _ ht]
      rcases hf with hf | hf
      · exact ⟨hf, trivial⟩
      · exact absurd hf ht
  | p :: l, f, n, t, hr, hl, hf => by
    have hl' : full l := fun x hx => hl x (List.mem_cons_of_mem _ hx)
    have hp := hl p (by simp)
    have hlen : 0 < p.2.length := List.length_pos_iff.2 hp
    have hE : pcEnd p = p.1 + p.2.length := rfl
    have h1 := hr.1
    have ht0 : n + (t.length : Int) ≤ n → t = [] := fun h => List.eq_nil_of_length_eq_zero (by omega)
    unfold putGo
    split
    · rename_i hA
      have hfn : f ≤ n := by
        rcases hf with hf | hf
        · exact hf
        · subst hf; simp at hA; omega
      have hk : (min (n + (t.length : Int)) p.1 - n).toNat ≤ t.length := by omega
      have htk : t.take (min (n + (t.length : Int)) p.1 - n).toNat ≠ [] := by
        intro e; have := congrArg List.length e; rw [List.length_take, List.length_nil] at this; omega
      have hlk : ((t.take (min (n + (t.length : Int)) p.1 - n).toNat).length : Int) = min (n + (t.length : Int)) p.1 - n := by rw [List.length_take]; omega
      split
      · rename_i hB
        obtain ⟨ib, ir⟩ := putGo_both l (pcEnd p) (min (n + (t.length : Int)) (pcEnd p)) (t.drop (min (n + (t.length : Int)) (pcEnd p) - n).toNat) hr.2 hl' (by
          by_cases h : pcEnd p ≤ n + (t.length : Int)
          · exact .inl (by omega)
          · right; rw [List.drop_eq_nil_iff]; omega)
        refine ⟨fun i => ?_, ?_⟩
        · have hdl : ((t.drop (min (n + (t.length : Int)) (pcEnd p) - n).toNat).length : Int) = n + t.length - min (n + (t.length : Int)) (pcEnd p) := by rw [List.length_drop]; omega
          by_cases c1 : i < p.1
          · have hs := byte_split n t (min (n + (t.length : Int)) p.1 - n).toNat hk i
            rw [byte_one_out (n + _) (t.drop _) i (by omega)] at hs
            have a : byteAt l i = none := byte_low l (pcEnd p) i hr.2 (by omega)
            rw [byte_out (p := p) l (by omega), a, hs]
            rw [two_app, byte_append, byte_out (p := p) _ (by omega), ib, a, byte_one_out (min _ _) _ i (by omega)]
            cases byteAt [(n, t.take (min (n + (t.length : Int)) p.1 - n).toNat)] i <;> rfl
          · rw [two_app, byte_append, byte_one_out _ _ i (by rw [hlk]; omega), Option.none_or]
            by_cases c2 : i < pcEnd p
            · rw [byte_in _ (by omega) c2, byte_in _ (by omega) c2]
              obtain ⟨c, hc⟩ := byte_some (p := p) (i := i) (by omega) c2
              rw [hc]; rfl
            · rw [byte_out _ (by omega), byte_out _ (by omega), ib]
              have hs := byte_split n t (min (n + (t.length : Int)) (pcEnd p) - n).toNat (by omega) i
              rw [byte_one_out n (t.take _) i (by rw [List.length_take]; omega), Option.none_or] at hs
              rw [hs, show n + ((min (n + (t.length : Int)) (pcEnd p) - n).toNat : Int) = min (n + (t.length : Int)) (pcEnd p) by omega]
        · rw [ne_cons_full _ _ htk, ne_cons_full _ _ hp]
          have e : pcEnd (n, t.take (min (n + (t.length : Int)) p.1 - n).toNat) = n + ((t.take (min (n + (t.length : Int)) p.1 - n).toNat).length : Int) := rfl
          exact ⟨hfn, by rw [e, hlk]; omega, ir⟩
      · rename_i hB
        have hd : t.drop (min (n + (t.length : Int)) p.1 - n).toNat = [] := by rw [List.drop_eq_nil_iff]; omega
        rw [hd]
        have htt : t.take (min (n + (t.length : Int)) p.1 - n).toNat = t := List.take_of_length_le (by omega)
        obtain ⟨ib, ir⟩ := putGo_both l (pcEnd p) (min (n + (t.length : Int)) p.1) [] hr.2 hl' (.inr rfl)
        refine ⟨fun i => ?_, ?_⟩
        · rw [htt] at *
          rw [two_app, byte_append]
          by_cases c2 : p.1 ≤ i ∧ i < pcEnd p
          · rw [byte_in _ c2.1 c2.2, byte_in _ c2.1 c2.2, byte_one_out n t i (by omega)]
            obtain ⟨c, hc⟩ := byte_some c2.1 c2.2
            rw [hc]; rfl
          · rw [byte_out _ c2, byte_out _ c2, ib, byte_one_out _ [] i (by simp)]
            by_cases c3 : n ≤ i ∧ i < n + (t.length : Int)
            · rw [byte_low l (pcEnd p) i hr.2 (by omega)]
              cases byteAt [(n, t)] i <;> rfl
            · rw [byte_one_out n t i c3]; cases byteAt l i <;> rfl
        · rw [ne_cons_full _ _ htk, ne_cons_full _ _ hp]
          have e : pcEnd (n, t.take (min (n + (t.length : Int)) p.1 - n).toNat) = n + ((t.take (min (n + (t.length : Int)) p.1 - n).toNat).length : Int) := rfl
          exact ⟨hfn, by rw [e, hlk]; omega, ir⟩
    · rename_i hA
      split
      · rename_i hB
        obtain ⟨ib, ir⟩ := putGo_both l (pcEnd p) (min (n + (t.length : Int)) (pcEnd p)) (t.drop (min (n + (t.length : Int)) (pcEnd p) - n).toNat) hr.2 hl' (by
          by_cases h : pcEnd p ≤ n + (t.length : Int)
          · exact .inl (by omega)
          · right; rw [List.drop_eq_nil_iff]; omega)
        refine ⟨fun i => ?_, ?_⟩
        · by_cases c2 : p.1 ≤ i ∧ i < pcEnd p
          · rw [byte_in _ c2.1 c2.2, byte_in _ c2.1 c2.2]
            obtain ⟨c, hc⟩ := byte_some c2.1 c2.2
            rw [hc]; rfl
          · rw [byte_out _ c2, byte_out _ c2, ib]
            have hs := byte_split n t (min (n + (t.length : Int)) (pcEnd p) - n).toNat (by omega) i
            rw [byte_one_out n (t.take _) i (by rw [List.length_take]; omega), Option.none_or] at hs
            rw [hs, show n + ((min (n + (t.length : Int)) (pcEnd p) - n).toNat : Int) = min (n + (t.length : Int)) (pcEnd p) by omega]
        · rw [ne_cons_full _ _ hp]
          exact ⟨h1, ir⟩
      · rename_i hB
        obtain ⟨ib, ir⟩ := putGo_both l (pcEnd p) n t hr.2 hl' (by
          by_cases h : pcEnd p ≤ n
          · exact .inl h
          · right; exact ht0 (by omega))
        refine ⟨fun i => ?_, ?_⟩
        · by_cases c2 : p.1 ≤ i ∧ i < pcEnd p
          · rw [byte_in _ c2.1 c2.2, byte_in _ c2.1 c2.2]
            obtain ⟨c, hc⟩ := byte_some c2.1 c2.2
            rw [hc]; rfl
          · rw [byte_out _ c2, byte_out _ c2, ib]
        · rw [ne_cons_full _ _ hp]
          exact ⟨h1, ir⟩

/-- The model's join. -/
def joinS : List Pc → List Pc → List Pc
  | acc, [] => acc
  | acc, q :: l => if q.2 = [] then joinS acc l else
    match acc.getLast? with
    | some p => if pcEnd p = q.1 then joinS (acc.dropLast ++ [(p.1, p.2 ++ q.2)]) l else joinS (acc ++ [q]) l
    | none => joinS (acc ++ [q]) l
theorem joinS_go : ∀ (l acc : List Pc) (p : Pc), riseG (pcEnd p) (ne l) → joinS (acc ++ [p]) l = acc ++ joinG p (ne l)
  | [], acc, p, _ => rfl
  | q :: l, acc, p, h => by
    unfold joinS
    by_cases hq : q.2 = []
    · rw [ne_cons_empty _ _ hq] at h ⊢
      rw [if_pos hq]
      exact joinS_go l acc p h
    · rw [ne_cons_full _ _ hq] at h ⊢
      rw [if_neg hq]
      have h1 := h.1
      have hla : (acc ++ [p]).getLast? = some p := by simp
      rw [hla]
      simp only [List.dropLast_concat]
      by_cases he : pcEnd p = q.1
      · rw [if_pos he, joinS_go l acc _ (by rw [end_app]; have := h.2; unfold pcEnd at this he ⊢; rw [he]; exact this)]
        rw [joinG, if_neg (by omega)]
      · rw [if_neg he, joinS_go l (acc ++ [p]) q h.2]
        rw [joinG, if_pos (by omega)]; simp
theorem joinS_nil : ∀ (l : List Pc) (f : Int), riseG f (ne l) → joinS [] l = joinN (ne l)
  | [], _, _ => rfl
  | q :: l, f, h => by
    unfold joinS
    by_cases hq : q.2 = []
    · rw [ne_cons_empty _ _ hq] at h ⊢
      rw [if_pos hq]
      exact joinS_nil l f h
    · rw [ne_cons_full _ _ hq] at h ⊢
      rw [if_neg hq]
      exact joinS_go l [] q h.2
/-- What the model puts together. -/
def putS (l : List Pc) (n : Int) (t : List UInt8) : List Pc := joinS [] (putGo l n t)
theorem put_same {l : List Pc} {n : Int} {t : List UInt8} (hl : canonG (-1) l) (hn : 0 ≤ n) : putS l n t = putN l n t := by
  have hr : riseG 0 l := by
    cases l with
    | nil => trivial
    | cons p l => exact ⟨by have := hl.1; omega, canon_rise _ _ hl.2.2⟩
  obtain ⟨hb, hr'⟩ := putGo_both l 0 n t hr (canon_full _ _ hl) (.inl hn)
  unfold putS
  rw [joinS_nil _ 0 hr']
  refine canon_ext _ _ (-1) (joinN_canon _ 0 (-1) (by omega) hr' (ne_full _)) (put_canon hl hn) (fun i => ?_)
  rw [joinN_byte _ 0 hr', byte_ne, hb, put_byte hl hn]; rfl
end Go.Proofs.Ytjcdcaannajnpaa
