/- The model's l03Open: what is opened behind a letter. -/
import Derived.Test.YtjcdcaannajnpaaGreatDoorRd
import Derived.Test.YtjcdcaannajnpaaGreatDoorSegI
namespace Go.Proofs.YtjcdcaannajnpaaGreatDoor
open Go.RowKit

/-- A reader was made, and a code told. -/
def OpenGotS (t : List UInt8) (l : UInt8) (w : World) (e : Ending) (w' : World) : Prop :=
  ∃ (p : Nat) (b : List UInt8) (c : Nat), e = .returned (.tuple #[.pointer (some ⟨p, 0, none⟩), .int .i64 (c : Int)]) ∧ openC t l = (b, c) ∧ b.length ≤ t.length ∧ w.heap.size ≤ p ∧ (c = 0 → Rd p b 1 0 w') ∧ Below w.heap.size w w'
theorem idx_gs {P : Program} {T : TypeId} (hT : P.underlying T = some .string) (c : UInt8) (b : List UInt8) (W : World) :
    (Instr.index T (gs (c :: b)) (.int .i64 0)).run P W = .ok (.int .u8 (c.toNat : Int)) W := by
  show (Instr.index T (.string ⟨(c :: b).toArray⟩) (.int .i64 ((0 : Nat) : Int))).run P W = _
  have hz : (⟨(c :: b).toArray⟩ : ByteArray).size = b.length + 1 := by simp [ByteArray.size]
  rw [run_index_string (P := P) (w := W) T ⟨(c :: b).toArray⟩ .i64 ((0 : Nat) : Int) hT, dif_pos ⟨by omega, by omega⟩]
  rfl
theorem unsN_code {t : List UInt8} (h : ¬ 8000 < t.length) : unsN t = ([], 0, 4) ∨ unsN t = ([], 0, 5) ∨ ∃ b, unsN t = (b, 0, 0) := by
  unfold unsN
  rw [if_neg h]
  split
  · exact .inl rfl
  · split
    · exact .inr (.inr ⟨_, rfl⟩)
    · exact .inr (.inl rfl)

set_option maxHeartbeats 2000000 in
set_option maxRecDepth 100000 in
theorem openS_bad {t : List UInt8} (l : UInt8) (m : Int) (w : World) (hl : t.length ≤ 9223372036854775807) (h8 : ¬ 8000 < t.length) {c : Nat} (hn : unsN t = ([], 0, c)) (hc : c ≠ 0) :
    Calls Tryz.prog 49 #[gs t, .int .u8 m] w (OpenGotS t l w) := by
  have hu := fun W => unsS_calls t W hl
  have HO := Lib.hid (open_bad (l := l) hn hc)
  rw [hn] at hu
  have HU := Lib.hid hu
  have hd : ((c : Int) != 0) = true := by simp; omega
  have HC := Lib.hid hc
  clear hu hn hc
  go_enter Tryz.func49, Tryz.ntmps49
  go_wp2_with fail
  (with_reducible refine (HU.out _).mono ?_)
  rintro e w1 ⟨rfl, hb1⟩
  have HB := Lib.hid (((Below.refl _ _).alloc (Nat.le_refl _) _).trans (hb1.mono (by simp)) : Below w.heap.size w w1)
  clear hb1
  go_wp2_with fail
  go_quiet (fail)
  go_wp2_with fail
  go_ret2
  exact ⟨_, [], c, rfl, HO.out, by simp, Nat.le_refl _, (fun h => absurd h HC.out), kept_drewN (HB.out.alloc HB.out.size _) _⟩

set_option maxHeartbeats 2000000 in
set_option maxRecDepth 100000 in
theorem openS_calls (t : List UInt8) (l : UInt8) (m : Int) (hm : m = (l.toNat : Int)) (w : World) (hl : t.length ≤ 9223372036854775807) :
    Calls Tryz.prog 49 #[gs t, .int .u8 m] w (OpenGotS t l w) := by
  by_cases h8 : 8000 < t.length
  · have HO := Lib.hid (open_bad (l := l) (unsN_big h8) (by decide))
    go_enter Tryz.func49, Tryz.ntmps49
    go_wp2_with fail
    go_ret2
    exact ⟨_, [], 2, rfl, HO.out, by simp, Nat.le_refl _, (fun h => by cases h), by go_grown⟩
  · rcases unsN_code h8 with hn | hn | ⟨b, hn⟩
    · exact openS_bad l m w hl h8 hn (by decide)
    · exact openS_bad l m w hl h8 hn (by decide)
    · have hu := fun W => unsS_calls t W hl
      have hbt := unsN_short2 hn
      rw [hn] at hu
      have HU := Lib.hid hu
      by_cases hh : b.head? = some l
      · have HO := Lib.hid (open_yes hn hh)
        obtain ⟨c, b', rfl⟩ : ∃ c b', b = c :: b' := by
          cases b with
          | nil => cases hh
          | cons c b' => exact ⟨c, b', rfl⟩
        have hcl : c = l := by simpa using hh
        have hix := fun W => idx_gs (P := Tryz.prog) (T := 9) Tryz.underlying9 c b' W
        have hd : ((c.toNat : Int) != m) = false := by rw [hm, hcl]; simp
        clear hu hn hh hcl hm
        go_enter Tryz.func49, Tryz.ntmps49
        go_wp2_with fail
        (with_reducible refine (HU.out _).mono ?_)
        rintro e w1 ⟨rfl, hb1⟩
        have HB := Lib.hid (((Below.refl _ _).alloc (Nat.le_refl _) _).trans (hb1.mono (by simp)) : Below w.heap.size w w1)
        have h1 := kept_block (alloc_there _ _) hb1
        have H1 := Lib.hid h1
        have k0 := cell_of_row w1 w.heap.size 0 _ _ _ h1
        have f0 := frozen_of_row w1 w.heap.size 0 _ _ h1
        have hws : w.heap.size < w1.heap.size := (Array.getElem?_eq_some_iff.1 h1).1
        clear hb1 h1
        go_wp2_with fail
        go_ret2
        refine ⟨_, c :: b', 0, rfl, HO.out, hbt, Nat.le_refl _, fun _ => ?_, (HB.out.setCell (Nat.le_refl _) _).alloc (by have := HB.out.size; simp [World.setCell]; omega) _⟩
        exact kept_block (blk_set H1.out _) ((Below.refl _ _).alloc (Nat.le_refl _) _)
      · have HO := Lib.hid (open_no hn hh)
        cases b with
        | nil =>
          clear hu hn hh hm
          go_enter Tryz.func49, Tryz.ntmps49
          go_wp2_with fail
          (with_reducible refine (HU.out _).mono ?_)
          rintro e w1 ⟨rfl, hb1⟩
          have HB := Lib.hid (((Below.refl _ _).alloc (Nat.le_refl _) _).trans (hb1.mono (by simp)) : Below w.heap.size w w1)
          have h1 := kept_block (alloc_there _ _) hb1
          have H1 := Lib.hid h1
          have k0 := cell_of_row w1 w.heap.size 0 _ _ _ h1
          have f0 := frozen_of_row w1 w.heap.size 0 _ _ h1
          have hws : w.heap.size < w1.heap.size := (Array.getElem?_eq_some_iff.1 h1).1
          clear hb1 h1
          go_wp2_with fail
          go_ret2
          exact ⟨_, [], 3, rfl, HO.out, hbt, Nat.le_refl _, (fun h => by cases h), (HB.out.setCell (Nat.le_refl _) _).alloc (by have := HB.out.size; simp [World.setCell]; omega) _⟩
        | cons c b' =>
          have hcl : ¬ c = l := by simpa using hh
          have hix := fun W => idx_gs (P := Tryz.prog) (T := 9) Tryz.underlying9 c b' W
          have hd : ((c.toNat : Int) != m) = true := by
            rw [hm, bne_iff_ne]
            intro h
            exact hcl (UInt8.toNat_inj.1 (by omega))
          clear hu hn hh hcl hm
          go_enter Tryz.func49, Tryz.ntmps49
          go_wp2_with fail
          (with_reducible refine (HU.out _).mono ?_)
          rintro e w1 ⟨rfl, hb1⟩
          have HB := Lib.hid (((Below.refl _ _).alloc (Nat.le_refl _) _).trans (hb1.mono (by simp)) : Below w.heap.size w w1)
          have h1 := kept_block (alloc_there _ _) hb1
          have H1 := Lib.hid h1
          have k0 := cell_of_row w1 w.heap.size 0 _ _ _ h1
          have f0 := frozen_of_row w1 w.heap.size 0 _ _ h1
          have hws : w.heap.size < w1.heap.size := (Array.getElem?_eq_some_iff.1 h1).1
          clear hb1 h1
          go_wp2_with fail
          go_ret2
          exact ⟨_, c :: b', 3, rfl, HO.out, hbt, Nat.le_refl _, (fun h => by cases h), (HB.out.setCell (Nat.le_refl _) _).alloc (by have := HB.out.size; simp [World.setCell]; omega) _⟩
end Go.Proofs.YtjcdcaannajnpaaGreatDoor
