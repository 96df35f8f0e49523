/- Reading item by item in plain words: what each step says, and what all of them say together. No program here. -/
import Derived.Test.YtjcdcaannajnpaaGreatDoorSegPlain
namespace Go.Proofs.YtjcdcaannajnpaaGreatDoor
open Go.RowKit

/-- One number is read at a place, with the fault that stands by then; or one text. -/
def Step (t : List UInt8) (a : Int) (c : Nat) (n a' : Int) (c' : Nat) : Prop :=
  (c' = 0 ∧ c = 0 ∧ getN t a = (n, a', 0)) ∨ (c' ≠ 0 ∧ ((c ≠ 0 ∧ c' = c) ∨ (c = 0 ∧ c' = 3 ∧ (getN t a).2.2 ≠ 0)))
def StepT (t : List UInt8) (a : Int) (c : Nat) (x : List UInt8) (a' : Int) (c' : Nat) : Prop :=
  (c' = 0 ∧ c = 0 ∧ getT t a = (x, a', 0)) ∨ (c' ≠ 0 ∧ ((c ≠ 0 ∧ c' = c) ∨ (c = 0 ∧ c' = 3 ∧ (getT t a).2.2 ≠ 0)))
theorem Step.go {t : List UInt8} {a n a' : Int} {c c' : Nat} (h : Step t a c n a' c') {m b : Int} (hc : c = 0) (hg : getN t a = (m, b, 0)) : c' = 0 ∧ n = m ∧ a' = b := by
  rcases h with ⟨h1, _, h2⟩ | ⟨h1, ⟨h2, _⟩ | ⟨_, _, h2⟩⟩
  · rw [hg] at h2; simp at h2; exact ⟨h1, h2.1.symm, h2.2.symm⟩
  · exact absurd hc h2
  · rw [hg] at h2; exact absurd rfl h2
theorem StepT.go {t x : List UInt8} {a a' : Int} {c c' : Nat} (h : StepT t a c x a' c') {y : List UInt8} {b : Int} (hc : c = 0) (hg : getT t a = (y, b, 0)) : c' = 0 ∧ x = y ∧ a' = b := by
  rcases h with ⟨h1, _, h2⟩ | ⟨h1, ⟨h2, _⟩ | ⟨_, _, h2⟩⟩
  · rw [hg] at h2; simp at h2; exact ⟨h1, h2.1.symm, h2.2.symm⟩
  · exact absurd hc h2
  · rw [hg] at h2; exact absurd rfl h2
theorem Step.back {t : List UInt8} {a n a' : Int} {c c' : Nat} (h : Step t a c n a' c') (hc : c' = 0) : c = 0 ∧ getN t a = (n, a', 0) := by
  rcases h with ⟨_, h1, h2⟩ | ⟨h1, _⟩
  · exact ⟨h1, h2⟩
  · exact absurd hc h1
theorem StepT.back {t x : List UInt8} {a a' : Int} {c c' : Nat} (h : StepT t a c x a' c') (hc : c' = 0) : c = 0 ∧ getT t a = (x, a', 0) := by
  rcases h with ⟨_, h1, h2⟩ | ⟨h1, _⟩
  · exact ⟨h1, h2⟩
  · exact absurd hc h1
/-- The fault behind a step: that ahead of it, or 3. -/
theorem Step.code {t : List UInt8} {a n a' : Int} {c c' : Nat} (h : Step t a c n a' c') : (c ≠ 0 → c' = c) ∧ (c = 0 → c' = 0 ∨ c' = 3) := by
  rcases h with ⟨h1, h2, _⟩ | ⟨_, ⟨h1, h2⟩ | ⟨h1, h2, _⟩⟩ <;> omega
theorem StepT.code {t x : List UInt8} {a a' : Int} {c c' : Nat} (h : StepT t a c x a' c') : (c ≠ 0 → c' = c) ∧ (c = 0 → c' = 0 ∨ c' = 3) := by
  rcases h with ⟨h1, h2, _⟩ | ⟨_, ⟨h1, h2⟩ | ⟨h1, h2, _⟩⟩ <;> omega

/-- What is opened behind a letter: the text, and the fault. -/
def openC (t : List UInt8) (l : UInt8) : List UInt8 × Nat :=
  if (unsN t).2.2 = 0 then (if (unsN t).1.head? = some l then ((unsN t).1, 0) else ((unsN t).1, 3)) else ([], (unsN t).2.2)
theorem unsN_at (t : List UInt8) : (unsN t).2.1 = 0 := by
  rcases unsN_cases t with ⟨c, _, h⟩ | ⟨l, h⟩ <;> rw [h]
theorem openC_zero {t b : List UInt8} {l : UInt8} (h : openC t l = (b, 0)) : unsN t = (b, 0, 0) ∧ b.head? = some l := by
  unfold openC at h
  split at h
  · rename_i h0
    split at h
    · rename_i h1
      simp at h
      subst h
      exact ⟨Prod.ext rfl (Prod.ext (unsN_at t) h0), h1⟩
    · simp at h
  · rename_i h0; simp at h; exact absurd h.2 h0
theorem openC_code {t b : List UInt8} {l : UInt8} {c : Nat} (h : openC t l = (b, c)) (hc : c ≠ 0) : (∀ b', unsN t = (b', 0, 0) → b'.head? ≠ some l) ∧ (if (unsN t).2.2 = 0 then c = 3 else c = (unsN t).2.2) := by
  unfold openC at h
  split at h
  · rename_i h0
    rw [if_pos h0]
    split at h
    · simp at h; exact absurd h.2.symm hc
    · rename_i h1
      simp at h
      refine ⟨fun b' hb => ?_, h.2.symm⟩
      rw [hb] at h1; exact h1
  · rename_i h0
    rw [if_neg h0]
    simp at h
    exact ⟨fun b' hb => by rw [hb] at h0; exact absurd rfl h0, h.2.symm⟩

abbrev segOut (p s d : Int) (t : List UInt8) (e : Int) (c : Nat) : Value := .agg #[.int .i64 p, .int .i64 s, .int .i64 d, gs t, .int .i64 e, .int .i64 (c : Int)]
abbrev ackOut (p s d e : Int) (c : Nat) : Value := .agg #[.int .i64 p, .int .i64 s, .int .i64 d, .int .i64 e, .int .i64 (c : Int)]

/-- What SegRead, AckRead answer. -/
def SegGot (t : List UInt8) (v : Value) : Prop :=
  (∃ b p s d x e, unsN t = (b, 0, 0) ∧ SegIs b p s d x e ∧ v = segOut p s d x e 0) ∨
  (∃ c : Nat, c ≠ 0 ∧ v = segOut 0 0 0 [] 0 c ∧ (∀ b p s d x e, unsN t = (b, 0, 0) → ¬ SegIs b p s d x e) ∧ (if (unsN t).2.2 = 0 then c = 3 else c = (unsN t).2.2))
def AckGot (t : List UInt8) (v : Value) : Prop :=
  (∃ b p s d e, unsN t = (b, 0, 0) ∧ AckIs b p s d e ∧ v = ackOut p s d e 0) ∨
  (∃ c : Nat, c ≠ 0 ∧ v = ackOut 0 0 0 0 c ∧ (∀ b p s d e, unsN t = (b, 0, 0) → ¬ AckIs b p s d e) ∧ (if (unsN t).2.2 = 0 then c = 3 else c = (unsN t).2.2))
theorem code_same {u c c' : Nat} (h : if u = 0 then c = 3 else c = u) (h' : if u = 0 then c' = 3 else c' = u) : c = c' := by
  split at h
  · rename_i h0; rw [if_pos h0] at h'; omega
  · rename_i h0; rw [if_neg h0] at h'; omega
theorem SegGot.uniq {t : List UInt8} {v v' : Value} (h : SegGot t v) (h' : SegGot t v') : v = v' := by
  rcases h with ⟨b, p, s, d, x, e, h1, h2, rfl⟩ | ⟨c, h1, rfl, h2, h3⟩
  · rcases h' with ⟨b', p', s', d', x', e', g1, g2, rfl⟩ | ⟨c, g1, rfl, g2, g3⟩
    · rw [h1] at g1
      obtain rfl : b = b' := by simpa using g1
      obtain ⟨rfl, rfl, rfl, rfl, rfl⟩ := h2.uniq g2
      rfl
    · exact absurd h2 (g2 _ _ _ _ _ _ h1)
  · rcases h' with ⟨b', p', s', d', x', e', g1, g2, rfl⟩ | ⟨c', g1, rfl, g2, g3⟩
    · exact absurd g2 (h2 _ _ _ _ _ _ g1)
    · rw [code_same h3 g3]
theorem AckGot.uniq {t : List UInt8} {v v' : Value} (h : AckGot t v) (h' : AckGot t v') : v = v' := by
  rcases h with ⟨b, p, s, d, e, h1, h2, rfl⟩ | ⟨c, h1, rfl, h2, h3⟩
  · rcases h' with ⟨b', p', s', d', e', g1, g2, rfl⟩ | ⟨c, g1, rfl, g2, g3⟩
    · rw [h1] at g1
      obtain rfl : b = b' := by simpa using g1
      obtain ⟨rfl, rfl, rfl, rfl⟩ := h2.uniq g2
      rfl
    · exact absurd h2 (g2 _ _ _ _ _ h1)
  · rcases h' with ⟨b', p', s', d', e', g1, g2, rfl⟩ | ⟨c', g1, rfl, g2, g3⟩
    · exact absurd g2 (h2 _ _ _ _ _ g1)
    · rw [code_same h3 g3]
theorem SegGot.shape {t : List UInt8} {v : Value} (h : SegGot t v) : ∃ (p s d : Int) (x : List UInt8) (e : Int) (c : Nat), v = segOut p s d x e c := by
  rcases h with ⟨b, p, s, d, x, e, _, _, rfl⟩ | ⟨c, _, rfl, _⟩
  · exact ⟨_, _, _, _, _, _, rfl⟩
  · exact ⟨_, _, _, _, _, _, rfl⟩
theorem AckGot.shape {t : List UInt8} {v : Value} (h : AckGot t v) : ∃ (p s d e : Int) (c : Nat), v = ackOut p s d e c := by
  rcases h with ⟨b, p, s, d, e, _, _, rfl⟩ | ⟨c, _, rfl, _⟩
  · exact ⟨_, _, _, _, _, rfl⟩
  · exact ⟨_, _, _, _, _, rfl⟩

/-- The fault behind all items. -/
def endC (c : Nat) (a : Int) (n : Nat) (ok : Bool) : Nat := if c ≠ 0 then c else if a < (n : Int) ∨ ok = false then 3 else 0
theorem seg_end {t b : List UInt8} {c0 c1 c2 c3 c4 c5 : Nat} {p s d e a1 a2 a3 a4 a5 : Int} {x : List UInt8} (ho : openC t 83 = (b, c0)) (s1 : Step b 1 c0 p a1 c1) (s2 : Step b a1 c1 s a2 c2) (s3 : Step b a2 c2 d a3 c3) (s4 : StepT b a3 c3 x a4 c4) (s5 : Step b a4 c4 e a5 c5) :
    (endC c5 a5 b.length (decide (segOk p s d x e)) = 0 → SegGot t (segOut p s d x e 0)) ∧ (endC c5 a5 b.length (decide (segOk p s d x e)) ≠ 0 → SegGot t (segOut 0 0 0 [] 0 (endC c5 a5 b.length (decide (segOk p s d x e))))) := by
  refine ⟨fun h => ?_, fun h => ?_⟩
  · unfold endC at h
    by_cases h5 : c5 = 0
    · rw [if_neg (by omega)] at h
      split at h
      · cases h
      · rename_i hn
        obtain ⟨h4, g5⟩ := s5.back h5
        obtain ⟨h3, g4⟩ := s4.back h4
        obtain ⟨h2, g3⟩ := s3.back h3
        obtain ⟨h1, g2⟩ := s2.back h2
        obtain ⟨h0, g1⟩ := s1.back h1
        subst h0
        obtain ⟨hu, hh⟩ := openC_zero ho
        have hb := getN_fit g5
        have ha : a5 = (b.length : Int) := by omega
        have hk : segOk p s d x e := by
          have := fun hk => hn (.inr hk)
          simpa using this
        rw [ha] at g5
        exact .inl ⟨b, p, s, d, x, e, hu, ⟨hh, ⟨a1, a2, a3, a4, g1, g2, g3, g4, g5⟩, hk⟩, rfl⟩
    · rw [if_pos h5] at h; exact absurd h h5
  · have hno : ∀ b' p' s' d' x' e', unsN t = (b', 0, 0) → ¬ SegIs b' p' s' d' x' e' := by
      intro b' p' s' d' x' e' hu ⟨hh, ⟨m1, m2, m3, m4, k1, k2, k3, k4, k5⟩, hk⟩
      by_cases h0 : c0 = 0
      · subst h0
        obtain ⟨hu', _⟩ := openC_zero ho
        rw [hu] at hu'
        obtain rfl : b' = b := by simpa using hu'
        obtain ⟨z1, rfl, rfl⟩ := s1.go rfl k1
        obtain ⟨z2, rfl, rfl⟩ := s2.go z1 k2
        obtain ⟨z3, rfl, rfl⟩ := s3.go z2 k3
        obtain ⟨z4, rfl, rfl⟩ := s4.go z3 k4
        obtain ⟨z5, rfl, rfl⟩ := s5.go z4 k5
        apply h
        unfold endC
        rw [if_neg (by omega), if_neg]
        rintro (g | g)
        · omega
        · rw [decide_eq_true hk] at g; cases g
      · exact (openC_code ho h0).1 b' hu hh
    refine .inr ⟨_, h, rfl, hno, ?_⟩
    by_cases h0 : c0 = 0
    · subst h0
      obtain ⟨hu, _⟩ := openC_zero ho
      rw [hu, if_pos rfl]
      have e1 := s1.code.2 rfl
      have e2 := s2.code
      have e3 := s3.code
      have e4 := s4.code
      have e5 := s5.code
      unfold endC at h ⊢
      split
      · omega
      · split
        · rfl
        · rename_i g1 g2; rw [if_neg g1, if_neg g2] at h; exact absurd rfl h
    · have hc := (openC_code ho h0).2
      have e1 := s1.code.1 h0
      have e2 := s2.code.1 (by omega)
      have e3 := s3.code.1 (by omega)
      have e4 := s4.code.1 (by omega)
      have e5 := s5.code.1 (by omega)
      have ee : endC c5 a5 b.length (decide (segOk p s d x e)) = c0 := by unfold endC; rw [if_pos (by omega)]; omega
      rw [ee]; exact hc
theorem ack_end {t b : List UInt8} {c0 c1 c2 c3 c5 : Nat} {p s d e a1 a2 a3 a5 : Int} (ho : openC t 65 = (b, c0)) (s1 : Step b 1 c0 p a1 c1) (s2 : Step b a1 c1 s a2 c2) (s3 : Step b a2 c2 d a3 c3) (s5 : Step b a3 c3 e a5 c5) :
    (endC c5 a5 b.length (decide (ackOk p s d e)) = 0 → AckGot t (ackOut p s d e 0)) ∧ (endC c5 a5 b.length (decide (ackOk p s d e)) ≠ 0 → AckGot t (ackOut 0 0 0 0 (endC c5 a5 b.length (decide (ackOk p s d e))))) := by
  refine ⟨fun h => ?_, fun h => ?_⟩
  · unfold endC at h
    by_cases h5 : c5 = 0
    · rw [if_neg (by omega)] at h
      split at h
      · cases h
      · rename_i hn
        obtain ⟨h3, g5⟩ := s5.back h5
        obtain ⟨h2, g3⟩ := s3.back h3
        obtain ⟨h1, g2⟩ := s2.back h2
        obtain ⟨h0, g1⟩ := s1.back h1
        subst h0
        obtain ⟨hu, hh⟩ := openC_zero ho
        have hb := getN_fit g5
        have ha : a5 = (b.length : Int) := by omega
        have hk : ackOk p s d e := by
          have := fun hk => hn (.inr hk)
          simpa using this
        rw [ha] at g5
        exact .inl ⟨b, p, s, d, e, hu, ⟨hh, ⟨a1, a2, a3, g1, g2, g3, g5⟩, hk⟩, rfl⟩
    · rw [if_pos h5] at h; exact absurd h h5
  · have hno : ∀ b' p' s' d' e', unsN t = (b', 0, 0) → ¬ AckIs b' p' s' d' e' := by
      intro b' p' s' d' e' hu ⟨hh, ⟨m1, m2, m3, k1, k2, k3, k5⟩, hk⟩
      by_cases h0 : c0 = 0
      · subst h0
        obtain ⟨hu', _⟩ := openC_zero ho
        rw [hu] at hu'
        obtain rfl : b' = b := by simpa using hu'
        obtain ⟨z1, rfl, rfl⟩ := s1.go rfl k1
        obtain ⟨z2, rfl, rfl⟩ := s2.go z1 k2
        obtain ⟨z3, rfl, rfl⟩ := s3.go z2 k3
        obtain ⟨z5, rfl, rfl⟩ := s5.go z3 k5
        apply h
        unfold endC
        rw [if_neg (by omega), if_neg]
        rintro (g | g)
        · omega
        · rw [decide_eq_true hk] at g; cases g
      · exact (openC_code ho h0).1 b' hu hh
    refine .inr ⟨_, h, rfl, hno, ?_⟩
    by_cases h0 : c0 = 0
    · subst h0
      obtain ⟨hu, _⟩ := openC_zero ho
      rw [hu, if_pos rfl]
      have e1 := s1.code.2 rfl
      have e2 := s2.code
      have e3 := s3.code
      have e5 := s5.code
      unfold endC at h ⊢
      split
      · omega
      · split
        · rfl
        · rename_i g1 g2; rw [if_neg g1, if_neg g2] at h; exact absurd rfl h
    · have hc := (openC_code ho h0).2
      have e1 := s1.code.1 h0
      have e2 := s2.code.1 (by omega)
      have e3 := s3.code.1 (by omega)
      have e5 := s5.code.1 (by omega)
      have ee : endC c5 a5 b.length (decide (ackOk p s d e)) = c0 := by unfold endC; rw [if_pos (by omega)]; omega
      rw [ee]; exact hc
end Go.Proofs.YtjcdcaannajnpaaGreatDoor
