/- The laws' lwPieces: are two lists of pieces the same? -/
import Derived.Test.YtjcdcaannajnpaaPieceEq
namespace Go.Proofs.Ytjcdcaannajnpaa
open Go.RowKit

set_option maxHeartbeats 1000000 in
set_option maxRecDepth 100000 in
theorem lwPieces_calls {a b : Option Addr} {la ca lb cb : Nat} {l : List Pc} {w : World} (h : InPcs w a la l) (h' : InPcs w b lb l) :
    Calls Try.prog 15 #[.slice a la ca, .slice b lb cb] w fun e w' => e = .returned (.bool true) ∧ Below w.heap.size w w' := by
  have hm := h.most
  have hl := h.long
  have hl' := h'.long
  have hne : la = lb := by omega
  subst hne
  clear hl'
  go_enter Try.func15, Try.ntmps15
  go_wp2_with fail
  go_loopw [5] (fun i wr => ∃ k : Nat, i = .int .i64 (k : Int) ∧ k ≤ la ∧ Below w.heap.size w wr) (fun i _ => la - (intOf i).toNat)
  case atStart => exact ⟨0, rfl, Nat.zero_le _, Below.refl _ _⟩
  case round =>
    obtain ⟨k, rfl, hk, hbl⟩ := hrel
    by_cases hkl : k < la
    · have hh := h.below hbl
      have hh' := h'.below hbl
      obtain ⟨b1, o1, rfl⟩ := hh.there (by omega)
      obtain ⟨b2, o2, rfl⟩ := hh'.there (by omega)
      obtain ⟨c0, c1⟩ := hh.cell b1 o1 rfl k hkl
      obtain ⟨d0, d1⟩ := hh'.cell b2 o2 rfl k hkl
      generalize pcAt l k = p at *
      obtain ⟨at0, t⟩ := p
      dsimp only at c0 c1 d0 d1
      have HBL := Lib.hid hbl
      clear hh hh' h h' hbl
      go_wp2_with fail
      go_quiet (fail)
      go_wp2_with fail
      exact ⟨⟨k + 1, by go_num, by omega, below_drewN HBL.out _⟩, by simp [intOf]; omega⟩
    · have hkl' : k = la := by omega
      clear h h' hl
      go_wp2_with fail
      go_ret
      exact ⟨rfl, hbl⟩
end Go.Proofs.Ytjcdcaannajnpaa
