/- Chapter 4 in plain words: the bytes of a piece and of an answer, and that only those are read back. No program here. -/
import Derived.Test.YtjcdcaannajnpaaGreatDoorNumsPlain
import Derived.Test.YtjcdcaannajnpaaGreatDoorSealBack
import Derived.Test.YtjcdcaannajnpaaGreatDoorSegDef
namespace Go.Proofs.YtjcdcaannajnpaaGreatDoor
open Go.RowKit

theorem unsN_canon {t b : List UInt8} {n : Int} (h : unsN t = (b, n, 0)) : t = sealN b ∧ ¬ 7996 < b.length := by
  unfold unsN at h
  split at h
  · simp at h
  · split at h
    · simp at h
    · split at h
      · rename_i h1 h2 h3
        simp at h
        have hb := h.1
        have hl : b.length = t.length - 4 := by rw [← hb]; simp
        refine ⟨?_, by omega⟩
        rw [sealN_small (by omega), ← hb, h3, List.take_append_drop]
      · simp at h

theorem getU_canon : ∀ (f i acc : Nat) (l : List UInt8) {x y : Nat}, getU f i acc l = (0, x, y) →
    ∃ (u : Nat) (rest : List UInt8), l = numBytes f u ++ rest ∧ x = acc + u * 128 ^ i ∧ y = i + (numBytes f u).length ∧ (0 < i → 0 < u)
  | 0, _, _, _, _, _, h => by simp [getU] at h
  | _ + 1, _, _, [], _, _, h => by simp [getU] at h
  | f + 1, i, acc, c :: l, x, y, h => by
    have hc := c.toNat_lt
    rw [getU] at h
    split at h
    · simp at h
    · split at h
      · split at h
        · simp at h
        · rename_i h1 h2 h3
          simp at h
          refine ⟨c.toNat, l, ?_, ?_, ?_, fun h0 => ?_⟩
          · rw [numBytes, if_neg (by omega), UInt8.ofNat_toNat]; rfl
          · rw [← h.1, Nat.mod_eq_of_lt h2]
          · rw [numBytes, if_neg (by omega)]; simp; omega
          · rcases Nat.eq_zero_or_pos c.toNat with e | e
            · exact absurd ⟨e, h0⟩ h3
            · exact e
      · rename_i h1 h2
        obtain ⟨u, rest, hl, hx, hy, hu⟩ := getU_canon f (i + 1) _ l h
        have hu0 := hu (by omega)
        have e1 : (c.toNat - 128 + 128 * u) % 128 = c.toNat - 128 := by omega
        have e2 : (c.toNat - 128 + 128 * u) / 128 = u := by omega
        have hs := step_sum (c.toNat - 128 + 128 * u) i acc
        rw [e1, e2] at hs
        have e3 : (c.toNat - 128 + 128) % 128 = c.toNat % 128 := by omega
        rw [e3] at hs
        refine ⟨c.toNat - 128 + 128 * u, rest, ?_, ?_, ?_, fun _ => by omega⟩
        · rw [numBytes, if_pos (by omega), e1, e2, hl]
          have e4 : c.toNat - 128 + 128 = c.toNat := by omega
          rw [e4, UInt8.ofNat_toNat]; rfl
        · rw [hx, hs]
        · rw [numBytes, if_pos (by omega), e2, hy]; simp; omega
theorem fold_unfold (x : Nat) : foldN (unfoldN x) = x := by unfold foldN unfoldN; split <;> split <;> omega
theorem getN_canon {t : List UInt8} {a n b : Int} (h : getN t a = (n, b, 0)) : 0 ≤ a ∧ b = a + ((putN n).length : Int) ∧ t.drop a.toNat = putN n ++ t.drop b.toNat ∧ t.length ≤ 8000 := by
  unfold getN at h
  split at h
  · simp at h
  · split at h
    · simp at h
    · split at h
      · rename_i h1 h2 h3
        simp at h
        obtain ⟨hn, hb⟩ := h
        obtain ⟨u, rest, hl, hx, hy, -⟩ := getU_canon 10 0 0 (t.drop a.toNat) (x := (getU 10 0 0 (t.drop a.toNat)).2.1) (y := (getU 10 0 0 (t.drop a.toNat)).2.2) (Prod.ext h3 rfl)
        have hu : putN n = numBytes 10 u := by
          unfold putN
          rw [← hn, hx]; simp [fold_unfold]
        have hbl : b = a + ((putN n).length : Int) := by rw [hu]; omega
        refine ⟨by omega, hbl, ?_, by omega⟩
        have e : b.toNat = a.toNat + (putN n).length := by omega
        rw [e, ← List.drop_drop, hl, hu, List.drop_left]
      · rename_i h1 h2 h3
        simp at h
        exact absurd h.2.2 h3
theorem getT_canon {t x : List UInt8} {a b : Int} (h : getT t a = (x, b, 0)) : 0 ≤ a ∧ b = a + ((putT x).length : Int) ∧ t.drop a.toNat = putT x ++ t.drop b.toNat ∧ t.length ≤ 8000 := by
  rcases hn : getN t a with ⟨n, m, c⟩
  by_cases hc : c = 0
  · subst hc
    obtain ⟨h0, hm, hd, hl⟩ := getN_canon hn
    unfold getT at h
    rw [hn] at h
    dsimp only at h
    rw [if_neg (by simp)] at h
    split at h
    · simp at h
    · split at h
      · simp at h
      · rename_i h1 h2
        simp only [Prod.mk.injEq, and_true] at h
        obtain ⟨hx, hb⟩ := h
        have hxl : (x.length : Int) = n := by rw [← hx]; simp; omega
        have hp : putT x = putN n ++ x := by rw [putT_small (by omega), hxl]
        refine ⟨h0, by rw [hp]; simp; omega, ?_, hl⟩
        rw [hd, hp, List.append_assoc]
        congr 1
        have e : b.toNat = m.toNat + n.toNat := by omega
        rw [e, ← List.drop_drop, ← hx, List.take_append_drop]
  · exfalso
    unfold getT at h
    rw [hn] at h
    dsimp only at h
    rw [if_pos hc] at h
    simp at h
    exact hc h.2.2

/-- What a text says as a piece; as an answer. -/
def SegIs (t : List UInt8) (p s d : Int) (x : List UInt8) (e : Int) : Prop :=
  t.head? = some 83 ∧ (∃ a1 a2 a3 a4, getN t 1 = (p, a1, 0) ∧ getN t a1 = (s, a2, 0) ∧ getN t a2 = (d, a3, 0) ∧ getT t a3 = (x, a4, 0) ∧ getN t a4 = (e, (t.length : Int), 0)) ∧ segOk p s d x e
def AckIs (t : List UInt8) (p s d e : Int) : Prop :=
  t.head? = some 65 ∧ (∃ a1 a2 a3, getN t 1 = (p, a1, 0) ∧ getN t a1 = (s, a2, 0) ∧ getN t a2 = (d, a3, 0) ∧ getN t a3 = (e, (t.length : Int), 0)) ∧ ackOk p s d e
theorem SegIs.uniq {t : List UInt8} {p s d e p' s' d' e' : Int} {x x' : List UInt8} (h : SegIs t p s d x e) (h' : SegIs t p' s' d' x' e') : p = p' ∧ s = s' ∧ d = d' ∧ x = x' ∧ e = e' := by
  obtain ⟨-, ⟨a1, a2, a3, a4, h1, h2, h3, h4, h5⟩, -⟩ := h
  obtain ⟨-, ⟨b1, b2, b3, b4, g1, g2, g3, g4, g5⟩, -⟩ := h'
  rw [h1] at g1; obtain ⟨rfl, rfl, -⟩ := by simpa using g1
  rw [h2] at g2; obtain ⟨rfl, rfl, -⟩ := by simpa using g2
  rw [h3] at g3; obtain ⟨rfl, rfl, -⟩ := by simpa using g3
  rw [h4] at g4; obtain ⟨rfl, rfl, -⟩ := by simpa using g4
  rw [h5] at g5; obtain ⟨rfl, -⟩ := by simpa using g5
  exact ⟨rfl, rfl, rfl, rfl, rfl⟩
theorem AckIs.uniq {t : List UInt8} {p s d e p' s' d' e' : Int} (h : AckIs t p s d e) (h' : AckIs t p' s' d' e') : p = p' ∧ s = s' ∧ d = d' ∧ e = e' := by
  obtain ⟨-, ⟨a1, a2, a3, h1, h2, h3, h5⟩, -⟩ := h
  obtain ⟨-, ⟨b1, b2, b3, g1, g2, g3, g5⟩, -⟩ := h'
  rw [h1] at g1; obtain ⟨rfl, rfl, -⟩ := by simpa using g1
  rw [h2] at g2; obtain ⟨rfl, rfl, -⟩ := by simpa using g2
  rw [h3] at g3; obtain ⟨rfl, rfl, -⟩ := by simpa using g3
  rw [h5] at g5; obtain ⟨rfl, -⟩ := by simpa using g5
  exact ⟨rfl, rfl, rfl, rfl⟩

theorem drop_one {c : UInt8} {t : List UInt8} (h : t.head? = some c) : t = c :: t.drop 1 := by
  cases t with
  | nil => simp at h
  | cons a l => simp at h; simp [h]
theorem SegIs.canon {t : List UInt8} {p s d e : Int} {x : List UInt8} (h : SegIs t p s d x e) : t = segBody p s d x e ∧ segOk p s d x e := by
  obtain ⟨h0, ⟨a1, a2, a3, a4, h1, h2, h3, h4, h5⟩, hok⟩ := h
  obtain ⟨-, -, d1, -⟩ := getN_canon h1
  obtain ⟨-, -, d2, -⟩ := getN_canon h2
  obtain ⟨-, -, d3, -⟩ := getN_canon h3
  obtain ⟨-, -, d4, -⟩ := getT_canon h4
  obtain ⟨-, -, d5, -⟩ := getN_canon h5
  have e1 : ((t.length : Int)).toNat = t.length := by omega
  rw [e1, List.drop_length, List.append_nil] at d5
  refine ⟨?_, hok⟩
  rw [drop_one h0]
  unfold segBody
  rw [← d5, ← d4, ← d3, ← d2, ← d1]
  rfl
theorem AckIs.canon {t : List UInt8} {p s d e : Int} (h : AckIs t p s d e) : t = ackBody p s d e ∧ ackOk p s d e := by
  obtain ⟨h0, ⟨a1, a2, a3, h1, h2, h3, h5⟩, hok⟩ := h
  obtain ⟨-, -, d1, -⟩ := getN_canon h1
  obtain ⟨-, -, d2, -⟩ := getN_canon h2
  obtain ⟨-, -, d3, -⟩ := getN_canon h3
  obtain ⟨-, -, d5, -⟩ := getN_canon h5
  have e1 : ((t.length : Int)).toNat = t.length := by omega
  rw [e1, List.drop_length, List.append_nil] at d5
  refine ⟨?_, hok⟩
  rw [drop_one h0]
  unfold ackBody
  rw [← d5, ← d3, ← d2, ← d1]
  rfl

/-- A number that stands behind a head is read there. -/
theorem get_there {t pre post : List UInt8} {n : Int} {a : Int} (ht : t = pre ++ (putN n ++ post)) (ha : a = (pre.length : Int)) (hl : t.length ≤ 8000) (h1 : -9223372036854775808 ≤ n) (h2 : n ≤ 9223372036854775807) :
    getN t a = (n, a + ((putN n).length : Int), 0) := by
  subst ht ha
  exact getN_back h1 h2 pre post (by simp at hl; omega)
theorem getT_there {t pre post x : List UInt8} {a : Int} (ht : t = pre ++ (putT x ++ post)) (ha : a = (pre.length : Int)) (hl : t.length ≤ 8000) (hx : x.length ≤ 16) :
    getT t a = (x, a + ((putT x).length : Int), 0) := by
  have hp : putT x = putN x.length ++ x := putT_small (by omega)
  have hn := get_there (t := t) (pre := pre) (post := x ++ post) (n := x.length) (a := a) (by rw [ht, hp, List.append_assoc]) ha hl (by omega) (by omega)
  have htl : t.length = pre.length + (putN x.length).length + x.length + post.length := by rw [ht, hp]; simp; omega
  rw [getT_ok hn (by omega) (by omega) (by omega), hp]
  have e : (a + ((putN x.length).length : Int)).toNat = (pre ++ putN x.length).length := by simp; omega
  have e2 : t = (pre ++ putN x.length) ++ (x ++ post) := by rw [ht, hp]; simp
  rw [e]
  conv => lhs; rw [e2]
  rw [List.drop_left]
  simp; omega
theorem segIs_back {p s d e : Int} {x : List UInt8} (h : segOk p s d x e) : SegIs (segBody p s d x e) p s d x e := by
  have hl := segBody_len (p := p) (s := s) (d := d) (e := e) h.2.1
  have h' := h
  obtain ⟨⟨⟨p1, p2⟩, ⟨s1, s2⟩, ⟨d1, d2⟩⟩, x1, e1, e2⟩ := h'
  refine ⟨rfl, ?_, h⟩
  have g1 := get_there (t := segBody p s d x e) (pre := [83]) (post := putN s ++ (putN d ++ (putT x ++ putN e))) (n := p) (a := 1) rfl rfl (by omega) (by omega) (by omega)
  have g2 := get_there (t := segBody p s d x e) (pre := 83 :: putN p) (post := putN d ++ (putT x ++ putN e)) (n := s) (a := 1 + ((putN p).length : Int)) (by simp [segBody]) (by simp; omega) (by omega) (by omega) (by omega)
  have g3 := get_there (t := segBody p s d x e) (pre := 83 :: (putN p ++ putN s)) (post := putT x ++ putN e) (n := d) (a := 1 + ((putN p).length : Int) + ((putN s).length : Int)) (by simp [segBody]) (by simp; omega) (by omega) (by omega) (by omega)
  have g4 := getT_there (t := segBody p s d x e) (pre := 83 :: (putN p ++ (putN s ++ putN d))) (post := putN e) (x := x) (a := 1 + ((putN p).length : Int) + ((putN s).length : Int) + ((putN d).length : Int)) (by simp [segBody]) (by simp; omega) (by omega) x1
  have g5 := get_there (t := segBody p s d x e) (pre := 83 :: (putN p ++ (putN s ++ (putN d ++ putT x)))) (post := []) (n := e) (a := 1 + ((putN p).length : Int) + ((putN s).length : Int) + ((putN d).length : Int) + ((putT x).length : Int)) (by simp [segBody]) (by simp; omega) (by omega) (by omega) (by omega)
  refine ⟨_, _, _, _, g1, g2, g3, g4, ?_⟩
  rw [g5]
  congr 2
  simp [segBody]; omega
theorem ackIs_back {p s d e : Int} (h : ackOk p s d e) : AckIs (ackBody p s d e) p s d e := by
  have hl := ackBody_len p s d e
  have h' := h
  obtain ⟨⟨⟨p1, p2⟩, ⟨s1, s2⟩, ⟨d1, d2⟩⟩, e1, e2⟩ := h'
  refine ⟨rfl, ?_, h⟩
  have g1 := get_there (t := ackBody p s d e) (pre := [65]) (post := putN s ++ (putN d ++ putN e)) (n := p) (a := 1) rfl rfl (by omega) (by omega) (by omega)
  have g2 := get_there (t := ackBody p s d e) (pre := 65 :: putN p) (post := putN d ++ putN e) (n := s) (a := 1 + ((putN p).length : Int)) (by simp [ackBody]) (by simp; omega) (by omega) (by omega) (by omega)
  have g3 := get_there (t := ackBody p s d e) (pre := 65 :: (putN p ++ putN s)) (post := putN e) (n := d) (a := 1 + ((putN p).length : Int) + ((putN s).length : Int)) (by simp [ackBody]) (by simp; omega) (by omega) (by omega) (by omega)
  have g5 := get_there (t := ackBody p s d e) (pre := 65 :: (putN p ++ (putN s ++ putN d))) (post := []) (n := e) (a := 1 + ((putN p).length : Int) + ((putN s).length : Int) + ((putN d).length : Int)) (by simp [ackBody]) (by simp; omega) (by omega) (by omega) (by omega)
  refine ⟨_, _, _, g1, g2, g3, ?_⟩
  rw [g5]
  congr 2
  simp [ackBody]; omega
end Go.Proofs.YtjcdcaannajnpaaGreatDoor
