/- The laws' markText: a text for each number, the same in every world. -/
import Derived.Test.YthimndilobadeaaDoorBytes
import Derived.Test.YthimndilobadeaaDoorProg
namespace Go.Proofs.YthimndilobadeaaDoor
open Go.RowKit

/-- The digits of k before l. -/
def mGo : Nat → Nat → List UInt8 → List UInt8
  | 0, _, l => l
  | f + 1, k, l => if k = 0 then l else mGo f (k / 10) (UInt8.ofNat (48 + k % 10) :: l)
def mText (k : Nat) : List UInt8 := if k = 0 then [109, 48] else 109 :: mGo 20 k []

set_option maxHeartbeats 1000000 in
set_option maxRecDepth 100000 in
theorem markText_calls (k : Nat) (w : World) (hk : k ≤ 1000000000000) : Calls Tryd.prog 41 #[.int .i64 (k : Int)] w fun e w' => e = .returned (gs (mText k)) ∧ Below w.heap.size w w' := by
  by_cases h0 : k = 0
  · subst h0
    go_enter Tryd.func41, Tryd.ntmps41
    go_wp2
    go_ret
    exact ⟨rfl, Below.refl _ _⟩
  · have hm : mText k = 109 :: mGo 20 k [] := by unfold mText; rw [if_neg h0]
    have HM := Lib.hid hm; clear hm
    have hpos : (0 : Int) < (k : Int) := by omega
    go_enter Tryd.func41, Tryd.ntmps41
    go_wp2_with fail
    go_loopw [0, 3] (fun v s wr => ∃ (f m : Nat) (l : List UInt8), v = .int .i64 (m : Int) ∧ s = gs l ∧ m ≤ 1000000000000 ∧ l.length + f = 20 ∧ m < 10 ^ f ∧ mGo 20 k [] = mGo f m l ∧ Below w.heap.size w wr) (fun v _ _ => (intOf v).toNat)
    case atStart => exact ⟨20, k, [], rfl, rfl, hk, rfl, by omega, rfl, Below.refl _ _⟩
    case round =>
      obtain ⟨f, m, l, rfl, rfl, hm, hlf, hf, hgo, hbl⟩ := hrel
      have hll : l.length ≤ 20 := by omega
      have HBL := Lib.hid hbl
      by_cases hz : m = 0
      · subst hz
        have hl : mGo f 0 l = l := by cases f <;> simp [mGo]
        rw [hl] at hgo
        have HG := Lib.hid hgo
        clear hgo hl hbl hf h0 hpos hlf hm
        go_wp2_with fail
        go_ret
        exact ⟨by rw [HM.out, HG.out]; exact cat_gs [109] l, HBL.out⟩
      · obtain ⟨f, rfl⟩ : ∃ g, f = g + 1 := by cases f with | zero => simp at hf; omega | succ g => exact ⟨g, rfl⟩
        have hf' : m / 10 < 10 ^ f := Nat.div_lt_of_lt_mul (by rw [Nat.pow_succ] at hf; omega)
        have hl : mGo (f + 1) m l = mGo f (m / 10) (UInt8.ofNat (48 + m % 10) :: l) := by simp [mGo, hz]
        rw [hl] at hgo
        have HG := Lib.hid hgo
        have HF := Lib.hid hf'
        have hmp : (0 : Int) < (m : Int) := by omega
        have hdn : ((UInt8.ofNat (48 + m % 10)).toNat : Int) = 48 + (m : Int) % 10 := by
          rw [UInt8.toNat_ofNat']; omega
        generalize UInt8.ofNat (48 + m % 10) = d at *
        have hbr : brow [d] = #[.int .u8 (48 + (m : Int) % 10)] := by rw [← hdn]; rfl
        have hcv := run_string_bytes (P := Tryd.prog) (dst := 9) Tryd.underlying94 Tryd.underlying5 Tryd.underlying9 wr [d] 1 1 _ rfl rfl
        rw [hbr] at hcv
        clear hbr hdn
        have HL := Lib.hid hlf
        clear hgo hl hbl hf hf' h0 hpos hlf
        go_wp2_with fail
        refine ⟨⟨f, m / 10, d :: l, by go_num, ?_, by omega, ?_, HF.out, HG.out, HBL.out.alloc HBL.out.size _⟩, ?_⟩
        · rw [cat_ba [d] l]; rfl
        · have := HL.out; rw [List.length_cons]; omega
        · simp [intOf]; omega
end Go.Proofs.YthimndilobadeaaDoor
