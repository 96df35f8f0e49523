/- The draws' pick and spoil. -/
import Derived.Test.YtjcdcaannajnpaaGreatDoorDrawR
import Derived.Test.YtjcdcaannajnpaaGreatDoorSlice
import Derived.Test.YtjcdcaannajnpaaGreatDoorSegB
import Derived.IntWalk
namespace Go.Proofs.YtjcdcaannajnpaaGreatDoor
open Go.RowKit

theorem idx_any {P : Program} {T : TypeId} (hT : P.underlying T = some .string) (t : List UInt8) (m : Nat) (d : UInt8) (h : t[m]? = some d) (W : World) :
    (Instr.index T (gs t) (.int .i64 (m : Int))).run P W = .ok (.int .u8 (d.toNat : Int)) W := by
  obtain ⟨hm, rfl⟩ := List.getElem?_eq_some_iff.1 h
  have hz : (⟨t.toArray⟩ : ByteArray).size = t.length := by simp [ByteArray.size]
  show (Instr.index T (.string ⟨t.toArray⟩) (.int .i64 (m : Int))).run P W = _
  rw [run_index_string (P := P) (w := W) T ⟨t.toArray⟩ .i64 (m : Int) hT, dif_pos ⟨by omega, by omega⟩]
  rfl

theorem src_drewN {a : Option Addr} {len cap : Nat} {z : List Int} {p : Nat} {w : World} (h : Src a len cap z p w) (n : Nat) : Src a len cap z p (w.drewN n) :=
  src_below h ⟨rfl, rfl, rfl, Nat.le_refl _, fun _ _ => rfl⟩
/-- Texts in a row. -/
def HasTexts (w : World) (g : Nat) (l : List (List UInt8)) : Prop := ∀ j (h : j < l.length), w.cell? ⟨g, j, none⟩ = some (gs l[j])

set_option maxHeartbeats 1000000 in
set_option maxRecDepth 100000 in
theorem pick_calls {a : Option Addr} {len cap : Nat} {z : List Int} {p : Nat} {w : World} (h : Src a len cap z p w) {g cp m : Nat} {l : List (List UInt8)} (ht : HasTexts w g l) (hm : l.length = m) (hm1 : 1 ≤ m) (hm2 : m ≤ 100) (hne : p ≠ g) {b : Nat} (hl : ∀ t ∈ l, t.length ≤ b) :
    Calls Tryz.prog 37 #[.pointer (some ⟨p, 0, none⟩), .slice (some ⟨g, 0, none⟩) m cp] w (DrawnT a len cap z p b w) := by
  have H1 := Lib.hid (src_draw h (most := (m : Int)) (by omega))
  have HT := Lib.hid ht
  have HL := Lib.hid hl
  have HM := Lib.hid hm
  clear h ht hl hm
  go_enter Tryz.func37, Tryz.ntmps37
  go_wp2_with fail
  (with_reducible refine H1.out.mono ?_)
  rintro e w1 ⟨r, rfl, ra, rb, s1, g1⟩
  obtain ⟨r, rfl⟩ := Int.eq_ofNat_of_zero_le ra
  have hrm : r < m := by omega
  have hrl : r < l.length := by have := HM.out; omega
  have c0 : w1.cell? ⟨g, r, none⟩ = some (gs l[r]) := g1.cell (HT.out r hrl) (by intro e; exact hne (Option.some.inj e).symm)
  have hlen := HL.out l[r] (List.getElem_mem hrl)
  generalize l[r] = t at *
  have HS := Lib.hid (And.intro s1 g1)
  have HN := Lib.hid hlen
  clear s1 g1 hlen ra rb H1
  go_wp2_with fail
  go_ret
  exact ⟨t, rfl, HN.out, HS.out.1, HS.out.2⟩

theorem marks_at (r : Nat) (h : r < 17) : ∃ d, ([32, 10, 48, 97, 45, 110, 44, 58, 93, 255, 40, 120, 126, 49, 128, 225, 59] : List UInt8)[r]? = some d :=
  ⟨_, List.getElem?_eq_getElem (by simpa using h)⟩

set_option maxHeartbeats 2000000 in
set_option maxRecDepth 100000 in
theorem spoil_calls {a : Option Addr} {len cap : Nat} {z : List Int} {p : Nat} {w : World} (h : Src a len cap z p w) (t : List UInt8) (ht : t.length ≤ 100) :
    Calls Tryz.prog 35 #[.pointer (some ⟨p, 0, none⟩), gs t] w (DrawnT a len cap z p 101 w) := by
  have e1 : IntKind.i64.wrap ((t.length : Int) + 1) = (t.length : Int) + 1 := IntWalk.i64_in _ (by omega)
  have H1 := Lib.hid (src_draw h (most := (t.length : Int) + 1) (by omega))
  clear h
  go_enter Tryz.func35, Tryz.ntmps35
  go_wp2_with fail
  (with_reducible refine H1.out.mono ?_)
  rintro e w1 ⟨k, rfl, ka, kb, s1, g1⟩
  obtain ⟨k, rfl⟩ := Int.eq_ofNat_of_zero_le ka
  have hk : k ≤ t.length := by omega
  have HG1 := Lib.hid g1
  have H2 := Lib.hid (src_draw s1 (most := 17) (by omega))
  clear s1 g1 H1 ka kb e1
  go_wp2_with fail
  (with_reducible refine H2.out.mono ?_)
  rintro e w2 ⟨r, rfl, ra, rb, s2, g2⟩
  obtain ⟨r, rfl⟩ := Int.eq_ofNat_of_zero_le ra
  have hr17 : r < 17 := by omega
  obtain ⟨d, hd⟩ := marks_at r hr17
  have hix := fun W => idx_any (P := Tryz.prog) (T := 9) Tryz.underlying9 _ r d hd W
  have hcv := run_string_bytes (P := Tryz.prog) (dst := 9) Tryz.underlying22 Tryz.underlying5 Tryz.underlying9 w2 [d] 1 1 _ rfl rfl
  rw [show brow [d] = #[.int .u8 (d.toNat : Int)] from rfl] at hcv
  have HG2 := Lib.hid (grown_trans HG1.out g2)
  have HS2 := Lib.hid (src_alloc s2 (.cells #[.int .u8 (d.toNat : Int)] 5))
  have S1 := slice_head (P := Tryz.prog) (T := 9) Tryz.underlying9 t k (k : Int) rfl hk
  have S2 := slice_tail (P := Tryz.prog) (T := 9) Tryz.underlying9 t k (k : Int) rfl hk
  obtain ⟨x1, hx1⟩ : ∃ x, x = t.take k := ⟨_, rfl⟩
  obtain ⟨x2, hx2⟩ : ∃ x, x = t.drop k := ⟨_, rfl⟩
  have l1 : x1.length ≤ k := by rw [hx1]; simp; omega
  have l2 : x2.length = t.length - k := by rw [hx2]; simp
  rw [← hx1] at S1
  rw [← hx2] at S2
  clear s2 g2 H2 ra rb hd HG1 hx1 hx2
  go_wp2_with fail
  go_wp2_with fail
  · have HSE := Lib.hid (And.intro (fun n => src_drewN HS2.out n) (fun n => grown_drew (draw_below HG2.out ((Below.refl _ _).alloc (Nat.le_refl _) (.cells #[.int .u8 (d.toNat : Int)] 5))) n))
    have K1 := cat_op (P := Tryz.prog) (x := ⟨x1.toArray⟩) (b := [d]) rfl rfl (by omega) (by simp)
    obtain ⟨y1, hy1⟩ : ∃ y, y = x1 ++ [d] := ⟨_, rfl⟩
    rw [← hy1] at K1
    have ly : y1.length ≤ k + 1 := by rw [hy1]; simp; omega
    have K2 := cat_op (P := Tryz.prog) (x := ⟨y1.toArray⟩) (b := x2) rfl rfl (by omega) (by omega)
    clear hy1
    go_quiet (fail)
    go_wp2_with fail
    go_ret
    exact ⟨_, rfl, by simp; omega, HSE.out.1 _, HSE.out.2 _⟩
  · have H3 := Lib.hid (src_one HS2.out (most := 3) (by omega))
    (with_reducible refine H3.out.mono ?_)
    rintro e w3 ⟨bb, rfl, s3, g3⟩
    have HG3 := Lib.hid (grown_trans (draw_below HG2.out ((Below.refl _ _).alloc (Nat.le_refl _) (.cells #[.int .u8 (d.toNat : Int)] 5))) g3)
    clear g3 H3 hcv hix
    cases bb with
    | true =>
      have HSE := Lib.hid (And.intro (fun n => src_drewN s3 n) (fun n => grown_drew HG3.out n))
      clear s3
      have K1 := cat_op (P := Tryz.prog) (x := ⟨x1.toArray⟩) (b := [d]) rfl rfl (by omega) (by simp)
      obtain ⟨y1, hy1⟩ : ∃ y, y = x1 ++ [d] := ⟨_, rfl⟩
      rw [← hy1] at K1
      have ly : y1.length ≤ k + 1 := by rw [hy1]; simp; omega
      have K2 := cat_op (P := Tryz.prog) (x := ⟨y1.toArray⟩) (b := x2) rfl rfl (by omega) (by omega)
      clear hy1
      go_wp2_with fail
      go_quiet (fail)
      go_wp2_with fail
      go_ret
      exact ⟨_, rfl, by simp; omega, HSE.out.1 _, HSE.out.2 _⟩
    | false =>
      have H4 := Lib.hid (src_one s3 (most := 2) (by omega))
      clear s3
      go_wp2_with fail
      (with_reducible refine H4.out.mono ?_)
      rintro e w4 ⟨b2, rfl, s4, g4⟩
      have HG4 := Lib.hid (grown_trans HG3.out g4)
      have HSE := Lib.hid (And.intro (fun n => src_drewN s4 n) (fun n => grown_drew HG4.out n))
      have e2 : IntKind.i64.wrap ((k : Int) + 1) = (k : Int) + 1 := IntWalk.i64_in _ (by omega)
      have S3 := slice_tail (P := Tryz.prog) (T := 9) Tryz.underlying9 t (k + 1) ((k : Int) + 1) (by omega) (by omega)
      obtain ⟨x3, hx3⟩ : ∃ x, x = t.drop (k + 1) := ⟨_, rfl⟩
      have l3 : x3.length = t.length - (k + 1) := by rw [hx3]; simp
      rw [← hx3] at S3
      clear s4 g4 H4 hx3
      cases b2 with
      | true =>
        have K1 := cat_op (P := Tryz.prog) (x := ⟨x1.toArray⟩) (b := x3) rfl rfl (by omega) (by omega)
        go_wp2_with fail
        go_quiet (fail)
        go_wp2_with fail
        go_ret
        exact ⟨_, rfl, by simp; omega, HSE.out.1 _, HSE.out.2 _⟩
      | false =>
        have K1 := cat_op (P := Tryz.prog) (x := ⟨x1.toArray⟩) (b := [d]) rfl rfl (by omega) (by simp)
        obtain ⟨y1, hy1⟩ : ∃ y, y = x1 ++ [d] := ⟨_, rfl⟩
        rw [← hy1] at K1
        have ly : y1.length ≤ k + 1 := by rw [hy1]; simp; omega
        have K2 := cat_op (P := Tryz.prog) (x := ⟨y1.toArray⟩) (b := x3) rfl rfl (by omega) (by omega)
        clear hy1
        go_wp2_with fail
        go_quiet (fail)
        go_wp2_with fail
        go_ret
        exact ⟨_, rfl, by simp; omega, HSE.out.1 _, HSE.out.2 _⟩
end Go.Proofs.YtjcdcaannajnpaaGreatDoor
