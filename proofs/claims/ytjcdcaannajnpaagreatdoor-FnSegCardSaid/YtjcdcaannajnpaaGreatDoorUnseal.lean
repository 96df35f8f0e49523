/- Unseal, the program's and the model's: both give 'unsN'. -/
import Derived.Test.YtjcdcaannajnpaaGreatDoorGetTI
import Derived.Test.YtjcdcaannajnpaaGreatDoorSeal
import Derived.Test.YtjcdcaannajnpaaGreatDoorSlice
import Derived.Deep.RegionWith
namespace Go.Proofs.YtjcdcaannajnpaaGreatDoor
open Go.RowKit

def unsN (t : List UInt8) : List UInt8 × Int × Nat :=
  if 8000 < t.length then ([], 0, 2) else if t.length < 4 then ([], 0, 4)
  else if sumB (crcOn 0 (t.take (t.length - 4))) = t.drop (t.length - 4) then (t.take (t.length - 4), 0, 0) else ([], 0, 5)
theorem unsN_big {t : List UInt8} (h : 8000 < t.length) : unsN t = ([], 0, 2) := by unfold unsN; rw [if_pos h]
theorem unsN_short {t : List UInt8} (h : ¬ 8000 < t.length) (h4 : t.length < 4) : unsN t = ([], 0, 4) := by unfold unsN; rw [if_neg h, if_pos h4]
theorem unsN_ok {t : List UInt8} (h : ¬ 8000 < t.length) (h4 : ¬ t.length < 4) (he : sumB (crcOn 0 (t.take (t.length - 4))) = t.drop (t.length - 4)) : unsN t = (t.take (t.length - 4), 0, 0) := by unfold unsN; rw [if_neg h, if_neg h4, if_pos he]
theorem unsN_bad {t : List UInt8} (h : ¬ 8000 < t.length) (h4 : ¬ t.length < 4) (he : ¬ sumB (crcOn 0 (t.take (t.length - 4))) = t.drop (t.length - 4)) : unsN t = ([], 0, 5) := by unfold unsN; rw [if_neg h, if_neg h4, if_neg he]

set_option maxHeartbeats 1000000 in
set_option maxRecDepth 100000 in
theorem unsS_calls (t : List UInt8) (w : World) (hl : t.length ≤ 9223372036854775807) :
    Calls Tryz.prog 71 #[gs t] w fun e w' => e = .returned (textOutOf (unsN t)) ∧ Below w.heap.size w w' := by
  by_cases hb : 8000 < t.length
  · have HN := Lib.hid (unsN_big hb)
    go_enter Tryz.func71, Tryz.ntmps71
    go_wp2_with fail
    go_returns
    exact ⟨by rw [HN.out]; rfl, by go_grown⟩
  · by_cases h4 : t.length < 4
    · have HN := Lib.hid (unsN_short hb h4)
      go_enter Tryz.func71, Tryz.ntmps71
      go_wp2_with fail
      go_returns
      exact ⟨by rw [HN.out]; rfl, by go_grown⟩
    · have hh := slice_head (P := Tryz.prog) (T := 9) Tryz.underlying9 t (t.length - 4) ((t.length : Int) - 4) (by omega) (by omega)
      have ht := slice_tail (P := Tryz.prog) (T := 9) Tryz.underlying9 t (t.length - 4) ((t.length : Int) - 4) (by omega) (by omega)
      have hwr : IntKind.i64.wrap ((t.length : Int) - 4) = (t.length : Int) - 4 := IntWalk.i64_in _ (by omega)
      have hlt := crcOn_lt 0 (t.take (t.length - 4))
      have hl' : (t.take (t.length - 4)).length ≤ 9223372036854775807 := by simp; omega
      by_cases he : sumB (crcOn 0 (t.take (t.length - 4))) = t.drop (t.length - 4)
      · have HN := Lib.hid (unsN_ok hb h4 he)
        generalize t.take (t.length - 4) = b at *
        generalize t.drop (t.length - 4) = d at *
        subst he
        go_enter Tryz.func71, Tryz.ntmps71
        go_wp2_with fail
        go_region_with (first | (go_at_call 62; refine (crcS_calls 0 _ _ hl' (by omega)).mono ?_; rintro e w1 ⟨rfl, rfl⟩) | (go_at_call 61; refine (four_calls _ _ hlt).mono ?_; rintro e w1 ⟨rfl, hb1⟩))
        have hbw : Below w.heap.size w w1 := (((Below.refl _ _).alloc (Nat.le_refl _) _).drew).trans (hb1.mono (by simp))
        have hs := hb1.size
        obtain ⟨hc1, hf1⟩ := bcell hb1
        simp at hs hc1 hf1
        go_wp2_with fail
        refine bodyPost_ret (v := textOut b 0 0) ?_ rfl ?_
        · simp [results, Tryz.results71, go_sem, hc1]
        · exact ⟨by first | (rw [HN.out]; done) | (rw [HN.out]; rfl), by go_grown⟩
      · have HN := Lib.hid (unsN_bad hb h4 he)
        generalize t.take (t.length - 4) = b at *
        generalize t.drop (t.length - 4) = d at *
        have hbe : (sumB (crcOn 0 b) == d) = false := by simpa using he
        go_enter Tryz.func71, Tryz.ntmps71
        go_wp2_with fail
        go_region_with (first | (go_at_call 62; refine (crcS_calls 0 _ _ hl' (by omega)).mono ?_; rintro e w1 ⟨rfl, rfl⟩) | (go_at_call 61; refine (four_calls _ _ hlt).mono ?_; rintro e w1 ⟨rfl, hb1⟩))
        have hbw : Below w.heap.size w w1 := (((Below.refl _ _).alloc (Nat.le_refl _) _).drew).trans (hb1.mono (by simp))
        have hs := hb1.size
        obtain ⟨hc1, hf1⟩ := bcell hb1
        simp at hs hc1 hf1
        go_wp2_with fail
        refine bodyPost_ret (v := .agg #[.string ⟨#[]⟩, .int .i64 0, .int .i64 5]) ?_ rfl ?_
        · simp [results, Tryz.results71, go_sem, hc1]
        · exact ⟨by first | (rw [HN.out]; done) | (rw [HN.out]; rfl), by go_grown⟩

theorem seal_same {t : List UInt8} (h : ¬ 8000 < t.length) (h4 : ¬ t.length < 4) : sealN (t.take (t.length - 4)) = t ↔ sumB (crcOn 0 (t.take (t.length - 4))) = t.drop (t.length - 4) := by
  rw [sealN_small (by simp; omega)]
  have e : t = t.take (t.length - 4) ++ t.drop (t.length - 4) := (List.take_append_drop _ _).symm
  constructor
  · intro hs
    have h2 : t.take (t.length - 4) ++ sumB (crcOn 0 (t.take (t.length - 4))) = t.take (t.length - 4) ++ t.drop (t.length - 4) := hs.trans e
    exact List.append_cancel_left h2
  · intro hs
    rw [hs]; exact e.symm
def unsealOut (r : List UInt8 × Int × Nat) : Value := .tuple #[gs r.1, if r.2.2 = 0 then .nilIface else faultV r.2.2]
theorem unseal_bad {t : List UInt8} {c : Nat} {v : Value} (h : unsN t = ([], 0, c)) (hc : c ≠ 0) (hv : v = .tuple #[.string ⟨#[]⟩, faultV c]) : Ending.returned v = .returned (unsealOut (unsN t)) := by
  rw [h, hv, unsealOut, if_neg hc]
theorem unseal_ok {t l : List UInt8} {v : Value} (h : unsN t = (l, 0, 0)) (hv : v = .tuple #[gs l, .nilIface]) : Ending.returned v = .returned (unsealOut (unsN t)) := by
  rw [h, hv, unsealOut, if_pos rfl]
theorem unsN_cases (t : List UInt8) : (∃ c, c ≠ 0 ∧ unsN t = ([], 0, c)) ∨ ∃ l, unsN t = (l, 0, 0) := by
  unfold unsN
  split
  · exact .inl ⟨2, by decide, rfl⟩
  · split
    · exact .inl ⟨4, by decide, rfl⟩
    · split
      · exact .inr ⟨_, rfl⟩
      · exact .inl ⟨5, by decide, rfl⟩

set_option maxHeartbeats 1000000 in
set_option maxRecDepth 100000 in
theorem unseal_calls (t : List UInt8) (w : World) (hl : t.length ≤ 9223372036854775807) :
    Calls Tryz.prog 63 #[gs t] w fun e w' => e = .returned (unsealOut (unsN t)) ∧ Below w.heap.size w w' := by
  by_cases hb : 8000 < t.length
  · have HN := Lib.hid (unsN_big hb)
    go_enter Tryz.func63, Tryz.ntmps63
    go_wp2_with fail
    go_ret2
    exact ⟨unseal_bad HN.out (by decide) rfl, by go_grown⟩
  · by_cases h4 : t.length < 4
    · have HN := Lib.hid (unsN_short hb h4)
      go_enter Tryz.func63, Tryz.ntmps63
      go_wp2_with fail
      go_ret2
      exact ⟨unseal_bad HN.out (by decide) rfl, by go_grown⟩
    · have hh := slice_head (P := Tryz.prog) (T := 9) Tryz.underlying9 t (t.length - 4) ((t.length : Int) - 4) (by omega) (by omega)
      have hwr : IntKind.i64.wrap ((t.length : Int) - 4) = (t.length : Int) - 4 := IntWalk.i64_in _ (by omega)
      have hsm := seal_same hb h4
      have hc := fun W => sealI_calls (t.take (t.length - 4)) W (by simp; omega)
      by_cases he : sumB (crcOn 0 (t.take (t.length - 4))) = t.drop (t.length - 4)
      · have HN := Lib.hid (unsN_ok hb h4 he)
        rw [hsm.2 he] at hc
        generalize t.take (t.length - 4) = b at *
        have HC := Lib.hid hc
        clear hc hsm he
        go_enter Tryz.func63, Tryz.ntmps63
        go_wp2_with (go_at_call 28; refine (HC.out _).mono ?_; rintro e w1 ⟨rfl, hb1⟩)
        go_ret2
        exact ⟨unseal_ok HN.out rfl, hb1⟩
      · have HN := Lib.hid (unsN_bad hb h4 he)
        have hne : ¬ sealN (t.take (t.length - 4)) = t := fun h => he (hsm.1 h)
        generalize t.take (t.length - 4) = b at *
        generalize sealN b = s at *
        have hbe : (s == t) = false := by simpa using hne
        have HC := Lib.hid hc
        clear hc hsm he
        go_enter Tryz.func63, Tryz.ntmps63
        go_wp2_with (go_at_call 28; refine (HC.out _).mono ?_; rintro e w1 ⟨rfl, hb1⟩)
        go_ret2
        exact ⟨unseal_bad HN.out (by decide) rfl, hb1⟩

end Go.Proofs.YtjcdcaannajnpaaGreatDoor
