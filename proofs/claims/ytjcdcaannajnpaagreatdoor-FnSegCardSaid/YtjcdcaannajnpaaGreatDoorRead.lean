/- readNum, by goto from state to state. -/
import Derived.Test.YtjcdcaannajnpaaGreatDoorGet
import Derived.Test.YtjcdcaannajnpaaGreatDoorScope
import Derived.WalkMore
import Derived.Laws.DeepNot64
namespace Go.Proofs.YtjcdcaannajnpaaGreatDoor
open Go.RowKit

theorem place_big {t : List UInt8} (h : 8000 < t.length) (a : Int) (w : World) :
    Calls Tryz.prog 77 #[gs t, .int .i64 a] w fun e w' => e = .returned (faultV 2) ∧ w = w' := by
  go_enter Tryz.func77, Tryz.ntmps77
  go_wp2
  go_ret
  exact ⟨rfl, rfl⟩
theorem place_neg {t : List UInt8} (h : ¬ 8000 < t.length) {a : Int} (ha : a < 0) (w : World) :
    Calls Tryz.prog 77 #[gs t, .int .i64 a] w fun e w' => e = .returned (faultV 1) ∧ w = w' := by
  go_enter Tryz.func77, Tryz.ntmps77
  go_wp2
  go_ret
  exact ⟨rfl, rfl⟩
theorem place_ok {t : List UInt8} (h : ¬ 8000 < t.length) {a : Int} (ha : ¬ a < 0) (w : World) :
    Calls Tryz.prog 77 #[gs t, .int .i64 a] w fun e w' => e = .returned (.nilIface) ∧ w = w' := by
  go_enter Tryz.func77, Tryz.ntmps77
  go_wp2
  go_ret
  exact ⟨rfl, rfl⟩


/-- What readNum hands back. -/
def readOut (r : Int × Int × Nat) : Value := .tuple #[.int .i64 r.1, .int .i64 r.2.1, if r.2.2 = 0 then .nilIface else faultV r.2.2]
def ReadPost (t : List UInt8) (a : Int) (w : World) (e : Ending) (w' : World) : Prop := e = .returned (readOut (getN t a)) ∧ w = w'
theorem readPost_bad {t : List UInt8} {a : Int} {c : Nat} {w : World} {v : Value} (h : getN t a = (0, 0, c)) (hc : c ≠ 0) (hv : v = .tuple #[.int .i64 0, .int .i64 0, faultV c]) : ReadPost t a w (.returned v) w :=
  ⟨by rw [h, hv, readOut, if_neg hc], rfl⟩
theorem readPost_ok {t : List UInt8} {a n b b' : Int} {w : World} {v : Value} (h : getN t a = (n, b, 0)) (hv : v = .tuple #[.int .i64 n, .int .i64 b', .nilIface]) (hb : b' = b) : ReadPost t a w (.returned v) w :=
  ⟨by rw [h, hv, hb, readOut, if_pos rfl], rfl⟩

/-- At 'more': i bytes are read, q is what they say. -/
def AtMore (t : List UInt8) (a : Nat) (w : World) (i q : Nat) (a' : Act) (w' : World) : Prop :=
  ∃ (p x s : Int) (u9 u10 u11 u12 u13 u14 u15 u16 u17 u18 u19 u20 u21 u22 u23 u24 u25 u26 u27 u28 u29 u30 u31 u32 u33 u34 u35 u36 u37 u38 u39 u40 u41 u42 u43 u44 u45 u46 u47 u48 u49 u50 u51 u52 u53 u54 u55 u56 u57 : Value), a' = ⟨#[gs t, .int .i64 p, undef, undef, .int .i64 0, .int .i64 0, .nilIface, .int .u64 x, .int .u64 s, u9, u10, u11, u12, u13, u14, u15, u16, u17, u18, u19, u20, u21, u22, u23, u24, u25, u26, u27, u28, u29, u30, u31, u32, u33, u34, u35, u36, u37, u38, u39, u40, u41, u42, u43, u44, u45, u46, u47, u48, u49, u50, u51, u52, u53, u54, u55, u56, u57], []⟩ ∧ w' = w ∧ p = (a : Int) + (i : Int) ∧ x = (q : Int) ∧ s = 7 * (i : Int) ∧ i < 10 ∧ GetAt t a i q
/-- At 'last': byte i is below 128. -/
def AtLast (t : List UInt8) (a : Nat) (w : World) (a' : Act) (w' : World) : Prop :=
  ∃ (i q : Nat) (x : Int) (c : UInt8) (hlt : a + i < t.length) (u10 u11 u12 u13 u14 u15 u16 u17 u18 u19 u20 u21 u22 u23 u24 u25 u26 u27 u28 u29 u30 u31 u32 u33 u34 u35 u36 u37 u38 u39 u40 u41 u42 u43 u44 u45 u46 u47 u48 u49 u50 u51 u52 u53 u54 u55 u56 u57 : Value), a' = ⟨#[gs t, .int .i64 ((a : Int) + (i : Int) + 1), undef, undef, .int .i64 0, .int .i64 0, .nilIface, .int .u64 x, .int .u64 (7 * (i : Int)), .int .u8 (c.toNat : Int), u10, u11, u12, u13, u14, u15, u16, u17, u18, u19, u20, u21, u22, u23, u24, u25, u26, u27, u28, u29, u30, u31, u32, u33, u34, u35, u36, u37, u38, u39, u40, u41, u42, u43, u44, u45, u46, u47, u48, u49, u50, u51, u52, u53, u54, u55, u56, u57], []⟩ ∧ w' = w ∧ i < 10 ∧ GetAt t a i q ∧ c = t[a + i] ∧ c.toNat < 128 ∧ 0 ≤ x ∧ x < 18446744073709551616 ∧ (c.toNat ≤ 1 ∨ i ≠ 9 → x = ((q + c.toNat % 128 * 128 ^ i : Nat) : Int))
/-- At 'wrong'. -/
def AtWrong (t : List UInt8) (a : Nat) (w : World) (a' : Act) (w' : World) : Prop :=
  ∃ u1 u4 u5 u6 u7 u8 u9 u10 u11 u12 u13 u14 u15 u16 u17 u18 u19 u20 u21 u22 u23 u24 u25 u26 u27 u28 u29 u30 u31 u32 u33 u34 u35 u36 u37 u38 u39 u40 u41 u42 u43 u44 u45 u46 u47 u48 u49 u50 u51 u52 u53 u54 u55 u56 u57 : Value, a' = ⟨#[gs t, u1, undef, undef, u4, u5, u6, u7, u8, u9, u10, u11, u12, u13, u14, u15, u16, u17, u18, u19, u20, u21, u22, u23, u24, u25, u26, u27, u28, u29, u30, u31, u32, u33, u34, u35, u36, u37, u38, u39, u40, u41, u42, u43, u44, u45, u46, u47, u48, u49, u50, u51, u52, u53, u54, u55, u56, u57], []⟩ ∧ w' = w ∧ getN t a = (0, 0, 3)
def ReadJ (t : List UInt8) (a : Nat) (w : World) (l : Nat) (a' : Act) (w' : World) : Prop :=
  (l = 0 ∧ ∃ i q, AtMore t a w i q a' w') ∨ (l = 1 ∧ AtLast t a w a' w') ∨ (l = 2 ∧ AtWrong t a w a' w')
def readM (l : Nat) (a' : Act) (_ : World) : Nat := if l = 0 then 100 - (intOf (a'.tmps.getD 8 undef)).toNat else if l = 1 then 2 else 1

/-- The code behind 'more'. -/
def inScope : Code → Option Code
  | .scope c => some c
  | .seq a b => match inScope a with
    | some c => some c
    | none => inScope b
  | _ => none
noncomputable def moreCode : Code := match ((Tryz.f67.body.bind inScope).bind fun c => findLabel c 0) with
  | some (.seq _ r) => r
  | _ => .skip

set_option maxHeartbeats 2000000 in
set_option maxRecDepth 100000 in
theorem more_pass (t : List UInt8) (a : Nat) (w : World) (hl : t.length ≤ 8000) (ha : (a : Int) ≤ 9223372036854775807) (i q : Nat) (u9 u10 u11 u12 u13 u14 u15 u16 u17 u18 u19 u20 u21 u22 u23 u24 u25 u26 u27 u28 u29 u30 u31 u32 u33 u34 u35 u36 u37 u38 u39 u40 u41 u42 u43 u44 u45 u46 u47 u48 u49 u50 u51 u52 u53 u54 u55 u56 u57 : Value) (p x s : Int) (hp : p = (a : Int) + (i : Int)) (hx : x = (q : Int)) (hss : s = 7 * (i : Int)) (hi : i < 10) (hg : GetAt t a i q) :
    Code.wp Tryz.prog moreCode (jumps (fun l' a' w' => ReadJ t a w l' a' w' ∧ readM l' a' w' < 100 - 7 * i) (bodyPost Tryz.prog Tryz.f67 (ReadPost t a w))) ⟨#[gs t, .int .i64 p, undef, undef, .int .i64 0, .int .i64 0, .nilIface, .int .u64 x, .int .u64 s, u9, u10, u11, u12, u13, u14, u15, u16, u17, u18, u19, u20, u21, u22, u23, u24, u25, u26, u27, u28, u29, u30, u31, u32, u33, u34, u35, u36, u37, u38, u39, u40, u41, u42, u43, u44, u45, u46, u47, u48, u49, u50, u51, u52, u53, u54, u55, u56, u57], []⟩ w := by
  subst hp; subst hx; subst hss
  conv => arg 2; whnf
  by_cases hs : t.length ≤ a + i
  · have HN := Lib.hid (hg.short (by omega) hi hs)
    go_wp2_with fail
    rw [jumps_ret]
    go_ret3
    exact readPost_bad HN.out (by decide) rfl
  · have hlt : a + i < t.length := by omega
    obtain ⟨c, hc⟩ : ∃ c : UInt8, c = t[a + i] := ⟨_, rfl⟩
    have hc' : ((⟨t.toArray⟩ : ByteArray)[a + i]'(by simpa [ByteArray.size] using hlt)) = c := by rw [hc]; rfl
    have hcl : (c.toNat : Int) < 256 := by have := c.toNat_lt; omega
    have HC := Lib.hid hc; clear hc
    have HG := Lib.hid hg; clear hg
    rcases Nat.lt_or_ge c.toNat 128 with h128 | h128
    · have HB := Lib.hid (or_bound (c := c.toNat) (i := i) (small_q HG.out.2.1 hi))
      have HX : Hid (c.toNat ≤ 1 ∨ i ≠ 9 → bits .or .u64 (q : Int) (IntKind.u64.wrap ((c.toNat : Int) % 128 * 2 ^ (7 * i))) = ((q + c.toNat % 128 * 128 ^ i : Nat) : Int)) :=
        fun h => or_in HG.out.2.1 (get_small HG.out.2.1 hi (by omega)).2
      go_wp2_with fail
      go_step3
      refine ⟨.inr (.inl ⟨rfl, ?_⟩), ?_⟩
      · exact ⟨i, q, _, c, hlt, _, _, _, _, _, _, _, _, _, _, _, _, _, _, _, _, _, _, _, _, _, _, _, _, _, _, _, _, _, _, _, _, _, _, _, _, _, _, _, _, _, _, _, _, _, _, _, _, rfl, rfl, hi, HG.out, HC.out, h128, HB.out.1, HB.out.2, HX.out⟩
      · show 2 < 100 - 7 * i; omega
    · by_cases h9 : i = 9
      · subst h9
        have HN := Lib.hid (HG.out.wrong (by omega) hi hlt (.inl ⟨rfl, by rw [← HC.out]; omega⟩))
        go_wp2_with fail
        go_step3
        refine ⟨.inr (.inr ⟨rfl, ?_⟩), ?_⟩
        · exact ⟨_, _, _, _, _, _, _, _, _, _, _, _, _, _, _, _, _, _, _, _, _, _, _, _, _, _, _, _, _, _, _, _, _, _, _, _, _, _, _, _, _, _, _, _, _, _, _, _, _, _, _, _, _, _, _, rfl, rfl, HN.out⟩
        · show 1 < 100 - 7 * 9; omega
      · have hi9 : i < 9 := by omega
        have HX := Lib.hid (HG.out.next hi hlt (by rw [← HC.out]; omega) h9)
        have HO := Lib.hid (or_in HG.out.2.1 (get_small HG.out.2.1 hi (c := c.toNat) (by omega)).2)
        clear h9
        go_wp2_with fail
        go_step3
        refine ⟨.inl ⟨rfl, i + 1, q + c.toNat % 128 * 128 ^ i, ?_⟩, ?_⟩
        · exact ⟨_, _, _, _, _, _, _, _, _, _, _, _, _, _, _, _, _, _, _, _, _, _, _, _, _, _, _, _, _, _, _, _, _, _, _, _, _, _, _, _, _, _, _, _, _, _, _, _, _, _, _, _, rfl, rfl, by omega, HO.out, by omega, by omega, by rw [HC.out]; exact HX.out⟩
        · show 100 - (7 * (i : Int) + 7).toNat < 100 - 7 * i; omega

theorem unfold_calls (x : Nat) (w : World) (hx : x < 18446744073709551616) :
    Calls Tryz.prog 78 #[.int .u64 (x : Int)] w fun e w' => e = .returned (.int .i64 (unfoldN x)) ∧ w = w' := by
  rcases Nat.mod_two_eq_zero_or_one x with hp | hp
  · have HU := Lib.hid (unfold_even hp)
    have hp' : (x : Int) % 2 = 0 := by omega
    clear hp
    go_enter Tryz.func78, Tryz.ntmps78
    go_wp2
    go_ret
    exact ⟨by rw [HU.out]; rfl, rfl⟩
  · have HU := Lib.hid (unfold_odd hp)
    have hp' : (x : Int) % 2 = 1 := by omega
    have hn := i64_not (x / 2) (by omega)
    have hn' : bits .xor .i64 (-1) ((x : Int) / 2) = -1 - (x : Int) / 2 := hn
    clear hp hn
    go_enter Tryz.func78, Tryz.ntmps78
    go_wp2
    go_ret
    exact ⟨by rw [HU.out]; exact ret_int (by omega), rfl⟩

set_option maxHeartbeats 2000000 in
set_option maxRecDepth 100000 in
theorem last_pass (t : List UInt8) (a : Nat) (w : World) (hl : t.length ≤ 8000) (a' : Act) (w' : World) (h : AtLast t a w a' w') : ∃ rest, ((Tryz.f67.body.bind inScope).bind fun c => findLabel c 1) = some rest ∧
    Code.wp Tryz.prog rest (jumps (fun l' a'' w'' => ReadJ t a w l' a'' w'' ∧ readM l' a'' w'' < 2) (bodyPost Tryz.prog Tryz.f67 (ReadPost t a w))) a' w' := by
  obtain ⟨i, q, x, c, hlt, h⟩ := h
  obtain ⟨u10, h⟩ := h
  obtain ⟨u11, h⟩ := h
  obtain ⟨u12, h⟩ := h
  obtain ⟨u13, h⟩ := h
  obtain ⟨u14, h⟩ := h
  obtain ⟨u15, h⟩ := h
  obtain ⟨u16, h⟩ := h
  obtain ⟨u17, h⟩ := h
  obtain ⟨u18, h⟩ := h
  obtain ⟨u19, h⟩ := h
  obtain ⟨u20, h⟩ := h
  obtain ⟨u21, h⟩ := h
  obtain ⟨u22, h⟩ := h
  obtain ⟨u23, h⟩ := h
  obtain ⟨u24, h⟩ := h
  obtain ⟨u25, h⟩ := h
  obtain ⟨u26, h⟩ := h
  obtain ⟨u27, h⟩ := h
  obtain ⟨u28, h⟩ := h
  obtain ⟨u29, h⟩ := h
  obtain ⟨u30, h⟩ := h
  obtain ⟨u31, h⟩ := h
  obtain ⟨u32, h⟩ := h
  obtain ⟨u33, h⟩ := h
  obtain ⟨u34, h⟩ := h
  obtain ⟨u35, h⟩ := h
  obtain ⟨u36, h⟩ := h
  obtain ⟨u37, h⟩ := h
  obtain ⟨u38, h⟩ := h
  obtain ⟨u39, h⟩ := h
  obtain ⟨u40, h⟩ := h
  obtain ⟨u41, h⟩ := h
  obtain ⟨u42, h⟩ := h
  obtain ⟨u43, h⟩ := h
  obtain ⟨u44, h⟩ := h
  obtain ⟨u45, h⟩ := h
  obtain ⟨u46, h⟩ := h
  obtain ⟨u47, h⟩ := h
  obtain ⟨u48, h⟩ := h
  obtain ⟨u49, h⟩ := h
  obtain ⟨u50, h⟩ := h
  obtain ⟨u51, h⟩ := h
  obtain ⟨u52, h⟩ := h
  obtain ⟨u53, h⟩ := h
  obtain ⟨u54, h⟩ := h
  obtain ⟨u55, h⟩ := h
  obtain ⟨u56, h⟩ := h
  obtain ⟨u57, h⟩ := h
  obtain ⟨rfl, rfl, hi, hg, hc, h128, hx0, hx1, hx⟩ := h
  have HG := Lib.hid hg; clear hg
  have HC := Lib.hid hc; clear hc
  refine ⟨_, rfl, ?_⟩
  have hcl : (c.toNat : Int) < 256 := by have := c.toNat_lt; omega
  by_cases hw : (i = 9 ∧ 1 < c.toNat) ∨ (c.toNat = 0 ∧ 0 < i)
  · have HN := Lib.hid (HG.out.wrong (by omega) hi hlt (by rw [← HC.out]; exact hw))
    clear hx
    rcases hw with ⟨rfl, g⟩ | ⟨g, g0⟩
    · go_wp2_with fail
      go_step3
      exact ⟨.inr (.inr ⟨rfl, _, _, _, _, _, _, _, _, _, _, _, _, _, _, _, _, _, _, _, _, _, _, _, _, _, _, _, _, _, _, _, _, _, _, _, _, _, _, _, _, _, _, _, _, _, _, _, _, _, _, _, _, _, _, _, rfl, rfl, HN.out⟩), by show 1 < 2; omega⟩
    · have g1 : (c.toNat : Int) ≤ 0 := by omega
      clear g
      by_cases h9 : i = 9
      · subst h9
        go_wp2_with fail
        go_step3
        exact ⟨.inr (.inr ⟨rfl, _, _, _, _, _, _, _, _, _, _, _, _, _, _, _, _, _, _, _, _, _, _, _, _, _, _, _, _, _, _, _, _, _, _, _, _, _, _, _, _, _, _, _, _, _, _, _, _, _, _, _, _, _, _, _, rfl, rfl, HN.out⟩), by show 1 < 2; omega⟩
      · have h9' : i < 9 := by omega
        clear h9
        go_wp2_with fail
        go_step3
        exact ⟨.inr (.inr ⟨rfl, _, _, _, _, _, _, _, _, _, _, _, _, _, _, _, _, _, _, _, _, _, _, _, _, _, _, _, _, _, _, _, _, _, _, _, _, _, _, _, _, _, _, _, _, _, _, _, _, _, _, _, _, _, _, _, rfl, rfl, HN.out⟩), by show 1 < 2; omega⟩
  · have hn := HG.out.last (by omega) hi hlt (by rw [← HC.out]; exact h128) (by rw [← HC.out]; omega) (by rw [← HC.out]; omega)
    rw [← HC.out] at hn
    have hxe := hx (by omega)
    generalize q + c.toNat % 128 * 128 ^ i = y at hn hxe
    subst hxe
    have HN := Lib.hid hn; clear hn hx
    have hy : y < 18446744073709551616 := by omega
    have HY := Lib.hid hy; clear hy hx1 hx0
    by_cases h9 : i = 9
    · subst h9
      have hc1 : (c.toNat : Int) ≤ 1 := by omega
      have hc2 : 1 ≤ (c.toNat : Int) := by omega
      clear hw
      go_wp2_with (go_at_call 78; refine (unfold_calls _ _ HY.out).mono ?_; rintro e w1 ⟨rfl, rfl⟩)
      rw [jumps_ret]
      go_ret3
      exact readPost_ok HN.out rfl (by omega)
    · have h9' : i < 9 := by omega
      clear h9
      by_cases hi0 : i = 0
      · subst hi0
        clear hw
        go_wp2_with (go_at_call 78; refine (unfold_calls _ _ HY.out).mono ?_; rintro e w1 ⟨rfl, rfl⟩)
        rw [jumps_ret]
        go_ret3
        exact readPost_ok HN.out rfl (by omega)
      · have hc2 : 1 ≤ (c.toNat : Int) := by omega
        have hi1 : 1 ≤ (i : Int) := by omega
        clear hw
        go_wp2_with (go_at_call 78; refine (unfold_calls _ _ HY.out).mono ?_; rintro e w1 ⟨rfl, rfl⟩)
        rw [jumps_ret]
        go_ret3
        exact readPost_ok HN.out rfl (by omega)

set_option maxHeartbeats 2000000 in
set_option maxRecDepth 100000 in
theorem wrong_pass (t : List UInt8) (a : Nat) (w : World) (a' : Act) (w' : World) (h : AtWrong t a w a' w') : ∃ rest, ((Tryz.f67.body.bind inScope).bind fun c => findLabel c 2) = some rest ∧
    Code.wp Tryz.prog rest (jumps (fun l' a'' w'' => ReadJ t a w l' a'' w'' ∧ readM l' a'' w'' < 1) (bodyPost Tryz.prog Tryz.f67 (ReadPost t a w))) a' w' := by
  obtain ⟨u1, h⟩ := h
  obtain ⟨u4, h⟩ := h
  obtain ⟨u5, h⟩ := h
  obtain ⟨u6, h⟩ := h
  obtain ⟨u7, h⟩ := h
  obtain ⟨u8, h⟩ := h
  obtain ⟨u9, h⟩ := h
  obtain ⟨u10, h⟩ := h
  obtain ⟨u11, h⟩ := h
  obtain ⟨u12, h⟩ := h
  obtain ⟨u13, h⟩ := h
  obtain ⟨u14, h⟩ := h
  obtain ⟨u15, h⟩ := h
  obtain ⟨u16, h⟩ := h
  obtain ⟨u17, h⟩ := h
  obtain ⟨u18, h⟩ := h
  obtain ⟨u19, h⟩ := h
  obtain ⟨u20, h⟩ := h
  obtain ⟨u21, h⟩ := h
  obtain ⟨u22, h⟩ := h
  obtain ⟨u23, h⟩ := h
  obtain ⟨u24, h⟩ := h
  obtain ⟨u25, h⟩ := h
  obtain ⟨u26, h⟩ := h
  obtain ⟨u27, h⟩ := h
  obtain ⟨u28, h⟩ := h
  obtain ⟨u29, h⟩ := h
  obtain ⟨u30, h⟩ := h
  obtain ⟨u31, h⟩ := h
  obtain ⟨u32, h⟩ := h
  obtain ⟨u33, h⟩ := h
  obtain ⟨u34, h⟩ := h
  obtain ⟨u35, h⟩ := h
  obtain ⟨u36, h⟩ := h
  obtain ⟨u37, h⟩ := h
  obtain ⟨u38, h⟩ := h
  obtain ⟨u39, h⟩ := h
  obtain ⟨u40, h⟩ := h
  obtain ⟨u41, h⟩ := h
  obtain ⟨u42, h⟩ := h
  obtain ⟨u43, h⟩ := h
  obtain ⟨u44, h⟩ := h
  obtain ⟨u45, h⟩ := h
  obtain ⟨u46, h⟩ := h
  obtain ⟨u47, h⟩ := h
  obtain ⟨u48, h⟩ := h
  obtain ⟨u49, h⟩ := h
  obtain ⟨u50, h⟩ := h
  obtain ⟨u51, h⟩ := h
  obtain ⟨u52, h⟩ := h
  obtain ⟨u53, h⟩ := h
  obtain ⟨u54, h⟩ := h
  obtain ⟨u55, h⟩ := h
  obtain ⟨u56, h⟩ := h
  obtain ⟨u57, h⟩ := h
  obtain ⟨rfl, rfl, hn⟩ := h
  have HN := Lib.hid hn; clear hn
  refine ⟨_, rfl, ?_⟩
  go_wp2_with fail
  rw [jumps_ret]
  go_ret3
  exact readPost_bad HN.out (by decide) rfl

theorem jumps_mono {J J' : Nat → Act → World → Prop} {Q : Exit → Act → World → Prop} (h : ∀ l a w, J l a w → J' l a w) : ∀ e a w, jumps J Q e a w → jumps J' Q e a w := by
  intro e a w hq
  cases e with
  | goto l => exact h l a w hq
  | _ => exact hq

set_option maxHeartbeats 2000000 in
set_option maxRecDepth 100000 in
theorem read_calls (t : List UInt8) (a : Int) (w : World) (hl : t.length ≤ 9223372036854775807) (h1 : -9223372036854775808 ≤ a) (h2 : a ≤ 9223372036854775807) :
    Calls Tryz.prog 67 #[gs t, .int .i64 a] w (ReadPost t a w) := by
  by_cases hb : 8000 < t.length
  · have HN := Lib.hid (getN_big (a := a) hb)
    have HP := Lib.hid (place_big hb a w)
    go_enter Tryz.func67, Tryz.ntmps67
    go_wp2_with fail
    refine wp_scope_many (fun _ _ _ => False) (fun _ _ _ => 0) ?_ (fun _ _ _ h => h.elim)
    go_wp2_with (go_at_call 77; refine HP.out.mono ?_; rintro e w' ⟨rfl, rfl⟩)
    rw [jumps_ret]
    go_ret3
    exact readPost_bad HN.out (by decide) rfl
  · by_cases hn : a < 0
    · have HN := Lib.hid (getN_neg hb hn)
      have HP := Lib.hid (place_neg hb hn w)
      go_enter Tryz.func67, Tryz.ntmps67
      go_wp2_with fail
      refine wp_scope_many (fun _ _ _ => False) (fun _ _ _ => 0) ?_ (fun _ _ _ h => h.elim)
      go_wp2_with (go_at_call 77; refine HP.out.mono ?_; rintro e w' ⟨rfl, rfl⟩)
      rw [jumps_ret]
      go_ret3
      exact readPost_bad HN.out (by decide) rfl
    · have HP := Lib.hid (place_ok hb hn w)
      obtain ⟨a, rfl⟩ := Int.eq_ofNat_of_zero_le (show 0 ≤ a by omega)
      clear hn
      go_enter Tryz.func67, Tryz.ntmps67
      go_wp2_with fail
      refine wp_scope_many (ReadJ t a w) readM ?_ ?_
      · go_wp2_with (go_at_call 77; refine HP.out.mono ?_; rintro e w' ⟨rfl, rfl⟩)
        go_step3
        simp only [Exit.then]
        apply_assumption
        refine Code.wp_mono (jumps_mono (fun l b w' h => h.1)) (more_pass t a w (by omega) h2 0 0 _ _ _ _ _ _ _ _ _ _ _ _ _ _ _ _ _ _ _ _ _ _ _ _ _ _ _ _ _ _ _ _ _ _ _ _ _ _ _ _ _ _ _ _ _ _ _ _ _ _ _ _ (by omega) rfl rfl (by omega) (GetAt.start t a))
      · rintro l a' w' (⟨rfl, i, q, hm⟩ | ⟨rfl, hm⟩ | ⟨rfl, hm⟩)
        · obtain ⟨p, hm⟩ := hm
          obtain ⟨x, hm⟩ := hm
          obtain ⟨s, hm⟩ := hm
          obtain ⟨u9, hm⟩ := hm
          obtain ⟨u10, hm⟩ := hm
          obtain ⟨u11, hm⟩ := hm
          obtain ⟨u12, hm⟩ := hm
          obtain ⟨u13, hm⟩ := hm
          obtain ⟨u14, hm⟩ := hm
          obtain ⟨u15, hm⟩ := hm
          obtain ⟨u16, hm⟩ := hm
          obtain ⟨u17, hm⟩ := hm
          obtain ⟨u18, hm⟩ := hm
          obtain ⟨u19, hm⟩ := hm
          obtain ⟨u20, hm⟩ := hm
          obtain ⟨u21, hm⟩ := hm
          obtain ⟨u22, hm⟩ := hm
          obtain ⟨u23, hm⟩ := hm
          obtain ⟨u24, hm⟩ := hm
          obtain ⟨u25, hm⟩ := hm
          obtain ⟨u26, hm⟩ := hm
          obtain ⟨u27, hm⟩ := hm
          obtain ⟨u28, hm⟩ := hm
          obtain ⟨u29, hm⟩ := hm
          obtain ⟨u30, hm⟩ := hm
          obtain ⟨u31, hm⟩ := hm
          obtain ⟨u32, hm⟩ := hm
          obtain ⟨u33, hm⟩ := hm
          obtain ⟨u34, hm⟩ := hm
          obtain ⟨u35, hm⟩ := hm
          obtain ⟨u36, hm⟩ := hm
          obtain ⟨u37, hm⟩ := hm
          obtain ⟨u38, hm⟩ := hm
          obtain ⟨u39, hm⟩ := hm
          obtain ⟨u40, hm⟩ := hm
          obtain ⟨u41, hm⟩ := hm
          obtain ⟨u42, hm⟩ := hm
          obtain ⟨u43, hm⟩ := hm
          obtain ⟨u44, hm⟩ := hm
          obtain ⟨u45, hm⟩ := hm
          obtain ⟨u46, hm⟩ := hm
          obtain ⟨u47, hm⟩ := hm
          obtain ⟨u48, hm⟩ := hm
          obtain ⟨u49, hm⟩ := hm
          obtain ⟨u50, hm⟩ := hm
          obtain ⟨u51, hm⟩ := hm
          obtain ⟨u52, hm⟩ := hm
          obtain ⟨u53, hm⟩ := hm
          obtain ⟨u54, hm⟩ := hm
          obtain ⟨u55, hm⟩ := hm
          obtain ⟨u56, hm⟩ := hm
          obtain ⟨u57, hm⟩ := hm
          obtain ⟨rfl, rfl, hp, hx, hs, hi, hg⟩ := hm
          refine ⟨_, (rfl : _ = some (Code.seq Code.skip moreCode)), ?_⟩
          refine wp_seq (wp_skip ?_)
          refine Code.wp_mono (jumps_mono (fun l b w' h => ⟨h.1, ?_⟩)) (more_pass t a w' (by omega) h2 i q _ _ _ _ _ _ _ _ _ _ _ _ _ _ _ _ _ _ _ _ _ _ _ _ _ _ _ _ _ _ _ _ _ _ _ _ _ _ _ _ _ _ _ _ _ _ _ _ _ p x s hp hx hs hi hg)
          show _ < 100 - s.toNat
          have := h.2
          omega
        · exact last_pass t a w (by omega) a' w' hm
        · exact wrong_pass t a w a' w' hm
end Go.Proofs.YtjcdcaannajnpaaGreatDoor
