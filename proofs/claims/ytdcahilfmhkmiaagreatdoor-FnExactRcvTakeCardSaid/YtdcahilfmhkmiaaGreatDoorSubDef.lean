/- A number of a path is taken: plainly, and what of a row of Froms turns then. -/
import Derived.Test.YtdcahilfmhkmiaaGreatDoorPackA
import Derived.Test.YtdcahilfmhkmiaaGreatDoorRcvDef
namespace Go.Proofs.YtdcahilfmhkmiaaGreatDoor
open Go.RowKit

/-- Want runs on over those that came early. -/
def runN : Int → Lg → Fr
  | k, [] => (k, [])
  | k, x :: l => if x = k then runN (k + 1) l else (k, x :: l)
/-- How many stand ahead of a number. -/
def posN (s : Int) : Lg → Nat
  | [] => 0
  | x :: l => if x < s then posN s l + 1 else 0
theorem posN_le (s : Int) : ∀ l : Lg, posN s l ≤ l.length
  | [] => Nat.le_refl _
  | x :: l => by
    have := posN_le s l
    unfold posN
    split <;> simp <;> omega
theorem posN_lt (s : Int) : ∀ (l : Lg) (i : Nat), i < posN s l → lgAt l i < s
  | [], i, h => by simp [posN] at h
  | x :: l, i, h => by
    unfold posN at h
    split at h
    · rename_i hx
      cases i with
      | zero => simpa [lgAt, List.getD] using hx
      | succ i => simpa [lgAt, List.getD] using posN_lt s l i (by omega)
    · omega
theorem posN_at (s : Int) : ∀ (l : Lg), posN s l < l.length → s ≤ lgAt l (posN s l)
  | [], h => by simp at h
  | x :: l, h => by
    unfold posN at h ⊢
    split
    · rename_i hx
      rw [if_pos hx] at h
      have := posN_at s l (by simpa using h)
      simpa [lgAt, List.getD] using this
    · rename_i hx
      simp [lgAt, List.getD]; omega
/-- What comes of a number of a path. -/
def subN (f : Fr) (s : Int) : Fr :=
  if s = f.1 then runN (f.1 + 1) f.2
  else if s < f.1 ∨ (posN s f.2 < f.2.length ∧ lgAt f.2 (posN s f.2) = s) ∨ 8 ≤ f.2.length then f
  else (f.1, f.2.take (posN s f.2) ++ s :: f.2.drop (posN s f.2))
def lenAt (w : World) (a : Addr) : Nat := match w.cell? a with | some (.slice _ n _) => n | _ => 0
theorem inLg_nil {w : World} {a : Option Addr} : InLg w a 0 [] := ⟨⟨rfl, by omega, (fun h => by omega), (fun _ _ _ i hi => by omega), (fun i hi => by omega)⟩, by omega⟩
theorem lgFree_nil {w : World} {a : Option Addr} : LgFree w a 0 := fun b o e i hi => by omega
theorem inLg_tail {w : World} {b o : Nat} {y : Int} {l : Lg} (h : InLg w (some ⟨b, o, none⟩) (l.length + 1) (y :: l)) : InLg w (some ⟨b, o + 1, none⟩) l.length l := by
  have hs := h.small
  refine ⟨⟨rfl, by omega, fun _ => ⟨b, o + 1, rfl⟩, fun b' o' e i hi => ?_, fun i hi => ?_⟩, by omega⟩
  · cases e
    have := h.cell b o rfl (i + 1) (by omega)
    rw [show o + (i + 1) = o + 1 + i by omega] at this
    simpa [lgAt, List.getD] using this
  · have := h.fit (i + 1) (by omega)
    simpa [lgAt, List.getD] using this
/-- A row is put in the place of the i-th one's. -/
theorem FrsOwn.late_put {S T : Nat → Prop} {w : World} {b o len i : Nat} {n : Frs} {A : Nat → Option Addr} {C : Nat → Nat} (h : FrsOwn S w (some ⟨b, o, none⟩) len n A C) (hil : i < len) {x' : Option Addr} {c' : Nat} {t : Lg}
    (i1 : InLg w x' t.length t) (o1 : LgFree w x' t.length) (hx : ∀ b', LgB x' t.length b' → T b' ∧ b' ≠ b ∧ ∀ j, j < len → j ≠ i → ¬ LgB (A j) (frAt n j).2.length b') (hST : ∀ b, S b → T b) (hroom : t.length ≤ c') :
    FrsOwn T (w.setCell ⟨b, o + i * 2 + 1, none⟩ (.slice x' t.length c')) (some ⟨b, o, none⟩) len (n.set i ((frAt n i).1, t)) (fun j => if j = i then x' else A j) (fun j => if j = i then c' else C j) := by
  have hlen := h.long
  have hat : ∀ j, frAt (n.set i ((frAt n i).1, t)) j = if j = i then ((frAt n i).1, t) else frAt n j := fun j => frAt_set (by omega)
  have hne : ∀ b', b' ≠ b → (w.setCell ⟨b, o + i * 2 + 1, none⟩ (.slice x' t.length c')).heap[b']? = w.heap[b']? := fun b' e => Below.heap_setCell _ _ _ _ e
  have hbl : LgB (some ⟨b, o, none⟩) len b := ⟨by omega, o, rfl⟩
  have hnb : ∀ b', b' ≠ b → ¬ LgB (some ⟨b, o, none⟩) len b' := fun b' hb' hl => by obtain ⟨_, o', e⟩ := hl; injection e with e; injection e with e; exact hb' e.symm
  refine ⟨by simpa using h.long, h.most, h.there, fun b' o' e j hj => ?_, h.free.set _ _, fun b' hb' => hST _ (h.blk b' hb'), fun j hj => ?_, fun j hj b' hb' => ?_, fun j k hj hk hjk b' hb' => ?_, fun j hj => ?_, fun j hj => ?_⟩
  · cases e
    obtain ⟨c0, c1⟩ := h.cell b o rfl j hj
    rw [hat]
    by_cases e : j = i
    · subst e
      simp only [↓reduceIte]
      exact ⟨(World.cell?_setCell_other _ _ _ _ (fun e => by injection e; omega)).trans c0, World.cell?_setCell_same _ _ _ c1⟩
    · simp only [if_neg e]
      exact ⟨(World.cell?_setCell_other _ _ _ _ (fun e => by injection e; omega)).trans c0, (World.cell?_setCell_other _ _ _ _ (fun e => by injection e; omega)).trans c1⟩
  · rw [hat]
    by_cases e : j = i
    · subst e
      simp only [↓reduceIte]
      exact ⟨i1.blk (fun b' hb' => hne b' (hx b' hb').2.1), o1.set _ _⟩
    · simp only [if_neg e]
      have hb : ∀ b', LgB (A j) (frAt n j).2.length b' → (w.setCell ⟨b, o + i * 2 + 1, none⟩ (.slice x' t.length c')).heap[b']? = w.heap[b']? := fun b' hb' => hne b' (fun e' => (h.lblk j hj b' hb').2 (e' ▸ hbl))
      exact ⟨(h.late j hj).1.blk hb, (h.late j hj).2.set _ _⟩
  · rw [hat] at hb'
    by_cases e : j = i
    · subst e
      simp only [↓reduceIte] at hb'
      exact ⟨(hx b' hb').1, hnb b' (hx b' hb').2.1⟩
    · simp only [if_neg e] at hb'
      exact ⟨hST _ (h.lblk j hj b' hb').1, (h.lblk j hj b' hb').2⟩
  · rw [hat] at hb'
    rw [hat]
    by_cases e : j = i
    · subst e
      simp only [↓reduceIte] at hb'
      simp only [if_neg (Ne.symm hjk)]
      exact (hx b' hb').2.2 k hk (Ne.symm hjk)
    · simp only [if_neg e] at hb'
      by_cases e2 : k = i
      · subst e2
        simp only [↓reduceIte]
        exact fun hl => (hx b' hl).2.2 j hj e hb'
      · simp only [if_neg e2]
        exact h.apart j k hj hk hjk b' hb'
  · rw [hat]
    split
    · exact h.fit i hil
    · exact h.fit j hj
  · rw [hat]
    by_cases e : j = i
    · subst e; simp only [↓reduceIte]; exact hroom
    · simp only [if_neg e]; exact h.room j hj
/-- The same with the rows' rooms. -/
theorem FrsSp.late_put {S T : Nat → Prop} {w : World} {b o len i : Nat} {n : Frs} {A : Nat → Option Addr} {C : Nat → Nat} (h : FrsSp S w (some ⟨b, o, none⟩) len n A C) (hil : i < len) {x' : Option Addr} {c' : Nat} {t : Lg}
    (i1 : InLg w x' t.length t) (o1 : LgFree w x' t.length) (hsp : Spare w x' c') (hx : ∀ b', LgB x' c' b' → T b' ∧ b' ≠ b ∧ ∀ j, j < len → j ≠ i → ¬ LgB (A j) (C j) b') (hST : ∀ b, S b → T b) (hroom : t.length ≤ c') :
    FrsSp T (w.setCell ⟨b, o + i * 2 + 1, none⟩ (.slice x' t.length c')) (some ⟨b, o, none⟩) len (n.set i ((frAt n i).1, t)) (fun j => if j = i then x' else A j) (fun j => if j = i then c' else C j) := by
  have hne : ∀ b', b' ≠ b → (w.setCell ⟨b, o + i * 2 + 1, none⟩ (.slice x' t.length c')).heap[b']? = w.heap[b']? := fun b' e => Below.heap_setCell _ _ _ _ e
  have hnb : ∀ b', b' ≠ b → ¬ LgB (some ⟨b, o, none⟩) len b' := fun b' hb' hl => by obtain ⟨_, o', e⟩ := hl; injection e with e; injection e with e; exact hb' e.symm
  have hbl : LgB (some ⟨b, o, none⟩) len b := ⟨by omega, o, rfl⟩
  refine ⟨h.toFrsOwn.late_put hil i1 o1 (fun b' hb' => ?_) hST hroom, fun j hj => ?_, fun j hj b' hb' => ?_, fun j k hj hk hjk b' hb' => ?_⟩
  · obtain ⟨h1, h2, h3⟩ := hx b' (hb'.mono hroom)
    exact ⟨h1, h2, fun j hj hji hl => h3 j hj hji (hl.mono (h.room j hj))⟩
  · by_cases e : j = i
    · simp only [if_pos e]
      exact hsp.blk fun b' hb' => hne b' (hx b' hb').2.1
    · simp only [if_neg e]
      exact (h.sp j hj).blk fun b' hb' => hne b' (fun e' => (h.sblk j hj b' hb').2 (e' ▸ hbl))
  · by_cases e : j = i
    · simp only [if_pos e] at hb'
      exact ⟨(hx b' hb').1, hnb b' (hx b' hb').2.1⟩
    · simp only [if_neg e] at hb'
      exact ⟨hST _ (h.sblk j hj b' hb').1, (h.sblk j hj b' hb').2⟩
  · by_cases e : j = i
    · subst e
      simp only [↓reduceIte] at hb'
      simp only [if_neg (Ne.symm hjk)]
      exact (hx b' hb').2.2 k hk (Ne.symm hjk)
    · simp only [if_neg e] at hb'
      by_cases e2 : k = i
      · subst e2
        simp only [↓reduceIte]
        exact fun hl => (hx b' hl).2.2 j hj e hb'
      · simp only [if_neg e2]
        exact h.spart j k hj hk hjk b' hb'
theorem FrsSp.want_set {S : Nat → Prop} {w : World} {b o len i : Nat} {n : Frs} {A : Nat → Option Addr} {C : Nat → Nat} (h : FrsSp S w (some ⟨b, o, none⟩) len n A C) (hil : i < len) {x : Int} (hx : I64 x) :
    FrsSp S (w.setCell ⟨b, o + i * 2, none⟩ (.int .i64 x)) (some ⟨b, o, none⟩) len (n.set i (x, (frAt n i).2)) A C :=
  ⟨h.toFrsOwn.want_set hil hx, fun j hj => (h.sp j hj).blk fun b' hb' => Below.heap_setCell _ _ _ _ (fun e => (h.sblk j hj b' hb').2 (e ▸ ⟨by omega, o, rfl⟩)), h.sblk, h.spart⟩
end Go.Proofs.YtdcahilfmhkmiaaGreatDoor
