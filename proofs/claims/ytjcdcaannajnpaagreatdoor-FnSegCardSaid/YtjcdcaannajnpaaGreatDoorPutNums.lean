/- putNums: numbers put together by a variadic function. -/
import Derived.Test.YtjcdcaannajnpaaGreatDoorText
namespace Go.Proofs.YtjcdcaannajnpaaGreatDoor
open Go.RowKit

/-- The bytes of some numbers, one behind the other. -/
def numsN : List Int → List UInt8
  | [] => []
  | n :: l => putN n ++ numsN l
theorem numsN_snoc : ∀ (l : List Int) (n : Int), numsN (l ++ [n]) = numsN l ++ putN n
  | [], n => by simp [numsN]
  | m :: l, n => by simp [numsN, numsN_snoc l n]
theorem numsN_len : ∀ (l : List Int), (numsN l).length ≤ l.length * 11
  | [] => by simp [numsN]
  | m :: l => by have := numsN_len l; have := (putN_length m).1; simp [numsN]; omega

/-- Block g holds these numbers from its head on. -/
structure HasNums (w : World) (g : Nat) (l : List Int) : Prop where
  cell : ∀ j (h : j < l.length), w.cell? ⟨g, j, none⟩ = some (.int .i64 l[j])
  fit : ∀ n ∈ l, -9223372036854775808 ≤ n ∧ n ≤ 9223372036854775807
theorem HasNums.below {w w' : World} {g : Nat} {l : List Int} (h : HasNums w g l) (hb : Below w.heap.size w w') : HasNums w' g l :=
  ⟨fun j hj => (hb.cell (World.block_lt_of_cell? w _ (h.cell j hj))).trans (h.cell j hj), h.fit⟩

set_option maxHeartbeats 1000000 in
set_option maxRecDepth 100000 in
theorem putNums_calls {g cap : Nat} {l : List Int} {w : World} (h : HasNums w g l) (n : Nat) (hn : n = l.length) (hl : l.length ≤ 1000) :
    Calls Tryz.prog 27 #[.slice (some ⟨g, 0, none⟩) n cap] w fun e w' => e = .returned (gs (numsN l)) ∧ Below w.heap.size w w' := by
  have HN := Lib.hid hn
  have HH := Lib.hid h
  have hn2 : n ≤ 1000 := by omega
  clear h hn
  go_enter Tryz.func27, Tryz.ntmps27
  go_wp2_with fail
  go_loopw [3, 5, 8] (fun v u i wr => ∃ k : Nat, i = .int .i64 (k : Int) ∧ k ≤ n ∧ v = gs (numsN (l.take k)) ∧ Below w.heap.size w wr) (fun _ _ i _ => n - (intOf i).toNat)
  case atStart => exact ⟨0, rfl, by omega, rfl, Below.refl _ _⟩
  case round =>
    obtain ⟨k, rfl, hk, rfl, hbl⟩ := hrel
    by_cases hkn : k < n
    · have hkl : k < l.length := by have := HN.out; omega
      have hh := HH.out.below hbl
      have c0 := hh.cell k hkl
      have hf := HH.out.fit l[k] (List.getElem_mem hkl)
      have hs : numsN (l.take (k + 1)) = numsN (l.take k) ++ putN l[k] := by rw [List.take_succ_eq_append_getElem hkl, numsN_snoc]
      have h1 := numsN_len (l.take k)
      have h2 := (putN_length l[k]).1
      have h3 : (l.take k).length ≤ 1000 := by simp; omega
      obtain ⟨f0, f1⟩ := hf
      have HS := Lib.hid hs
      generalize numsN (l.take k) = a at *
      generalize l[k] = m at *
      have HBL := Lib.hid hbl
      clear hh hbl hs
      go_wp2_with fail
      refine (putI_calls m _ f0 f1).mono ?_
      rintro e w1 ⟨rfl, hb1⟩
      have HB1 := Lib.hid (HBL.out.trans (hb1.mono HBL.out.size))
      clear hb1
      go_wp2_with fail
      refine (join_calls _ _ _ (by omega)).mono ?_
      rintro e w2 ⟨rfl, hb2⟩
      have HB2 := Lib.hid (HB1.out.trans (hb2.mono HB1.out.size))
      clear hb2
      go_wp2_with fail
      exact ⟨⟨k + 1, by go_num, by omega, by rw [HS.out], HB2.out⟩, by simp [intOf]; omega⟩
    · have hkn' : k = n := by omega
      have he : l.take k = l := by rw [List.take_of_length_le]; have := HN.out; omega
      have HE := Lib.hid he
      clear he
      go_wp2_with fail
      go_ret
      exact ⟨by rw [HE.out]; rfl, hbl⟩
end Go.Proofs.YtjcdcaannajnpaaGreatDoor
