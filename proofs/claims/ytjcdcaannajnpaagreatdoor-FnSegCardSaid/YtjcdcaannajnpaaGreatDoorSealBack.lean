/- Promise 2 in plain mathematics: a sealed text comes back; with one byte turned it is refused. -/
import Derived.Test.YtjcdcaannajnpaaGreatDoorSealPlain
import Derived.Test.YtjcdcaannajnpaaGreatDoorUnseal
namespace Go.Proofs.YtjcdcaannajnpaaGreatDoor
open Go.RowKit

theorem ofNat_mod {a b : Nat} (h : UInt8.ofNat a = UInt8.ofNat b) : a % 256 = b % 256 := by
  have := congrArg UInt8.toNat h
  rwa [UInt8.toNat_ofNat', UInt8.toNat_ofNat'] at this
theorem sumB_inj {a b : Nat} (ha : a < 4294967296) (hb : b < 4294967296) (h : sumB a = sumB b) : a = b := by
  unfold sumB at h
  simp only [List.cons.injEq, and_true] at h
  have h0 := ofNat_mod h.1
  have h1 := ofNat_mod h.2.1
  have h2 := ofNat_mod h.2.2.1
  have h3 := ofNat_mod h.2.2.2
  omega
theorem seal_len {t : List UInt8} (h : ¬ 7996 < t.length) : (sealN t).length = t.length + 4 := by rw [sealN_small h]; simp [sumB]
theorem unsN_back {t : List UInt8} (h : ¬ 7996 < t.length) : unsN (sealN t) = (t, 0, 0) := by
  have hl := seal_len h
  have ht : (sealN t).take ((sealN t).length - 4) = t := by rw [hl, sealN_small h]; simp
  have hd : (sealN t).drop ((sealN t).length - 4) = sumB (crcOn 0 t) := by rw [hl, sealN_small h]; simp
  rw [unsN_ok (by omega) (by omega) (by rw [ht, hd]), ht]
theorem getD_at {l : List UInt8} {k : Nat} (h : k < l.length) : l.getD k 0 = l[k] := by simp [List.getD, h]
theorem unsN_turned {t : List UInt8} (h : ¬ 7996 < t.length) {k : Nat} (hk : k < (sealN t).length) {x : UInt8} (hx : x ≠ 0) : unsN (turned (sealN t) k x) = ([], 0, 5) := by
  have hl := seal_len h
  have hlt : (turned (sealN t) k x).length = t.length + 4 := by unfold turned; rw [List.length_set, hl]
  have hcl := crcOn_lt 0 t
  refine unsN_bad (by omega) (by omega) ?_
  rw [hlt, Nat.add_sub_cancel]
  unfold turned
  rw [sealN_small h] at hk ⊢
  by_cases hkt : k < t.length
  · have e : (t ++ sumB (crcOn 0 t)).getD k 0 = t[k] := by rw [getD_at hk, List.getElem_append_left hkt]
    rw [e, List.set_append_left _ _ hkt]
    have h1 : (t.set k (t[k] ^^^ x) ++ sumB (crcOn 0 t)).take t.length = t.set k (t[k] ^^^ x) := by
      rw [List.take_append_of_le_length (by simp), List.take_of_length_le (by simp)]
    have h2 : (t.set k (t[k] ^^^ x) ++ sumB (crcOn 0 t)).drop t.length = sumB (crcOn 0 t) := by
      have : t.length = (t.set k (t[k] ^^^ x)).length := by simp
      rw [this, List.drop_left]
    rw [h1, h2]
    intro hs
    have h3 := sumB_inj (crcOn_lt _ _) hcl hs
    rw [set_at_split hkt] at h3
    have h4 : crcOn 0 t = crcOn 0 (t.take k ++ t[k] :: t.drop (k + 1)) := by rw [← split_at hkt]
    rw [h4] at h3
    exact crcOn_turn _ _ (turn_ne hx) h3
  · have hk4 : k - t.length < (sumB (crcOn 0 t)).length := by simp at hk; omega
    have e : (t ++ sumB (crcOn 0 t)).getD k 0 = (sumB (crcOn 0 t))[k - t.length] := by rw [getD_at hk, List.getElem_append_right (by omega)]
    rw [e, List.set_append_right _ _ (by omega), List.take_left, List.drop_left]
    intro hs
    have h1 := congrArg (fun l => l[k - t.length]?) hs
    simp only [List.getElem?_set_self hk4, List.getElem?_eq_getElem hk4] at h1
    exact turn_ne hx (Option.some.inj h1).symm
end Go.Proofs.YtjcdcaannajnpaaGreatDoor
