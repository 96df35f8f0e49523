/- The draws of chapter 4's texts: what SegRead and AckRead are tried with. -/
import Derived.Test.YtjcdcaannajnpaaGreatDoorSpoil
namespace Go.Proofs.YtjcdcaannajnpaaGreatDoor
open Go.RowKit

def ReadDrawn (w : World) (e : Ending) (w' : World) : Prop := ∃ l : List UInt8, e = .returned (gs l) ∧ l.length ≤ 200 ∧ Below w.heap.size w w'
theorem sealN_len (t : List UInt8) : (sealN t).length ≤ t.length + 4 := by
  unfold sealN
  split
  · simp
  · simp [sumB]
theorem segN_len (p s d : Int) (t : List UInt8) (e : Int) : (segN p s d t e).length ≤ 84 := by
  by_cases h : segOk p s d t e
  · rw [segN_yes h]
    have := sealN_len (segBody p s d t e)
    have := segBody_len (p := p) (s := s) (d := d) (e := e) h.2.1
    omega
  · rw [segN_no h]; simp
theorem ackN_len (p s d e : Int) : (ackN p s d e).length ≤ 84 := by
  by_cases h : ackOk p s d e
  · rw [ackN_yes h]
    have := sealN_len (ackBody p s d e)
    have := ackBody_len p s d e
    omega
  · rw [ackN_no h]; simp
theorem five_texts {w : World} {T : TypeId} (A : List UInt8) : HasTexts (w.alloc (.cells #[gs [], gs [83], gs [65], gs [83, 120], gs A] T)) w.heap.size [[], [83], [65], [83, 120], A] := fun j h => by
  match j, h with
  | 0, _ => simp
  | 1, _ => simp
  | 2, _ => simp
  | 3, _ => simp
  | 4, _ => simp
  | j + 5, h => simp at h; omega

set_option maxHeartbeats 2000000 in
set_option maxRecDepth 100000 in
theorem drawSegRead_calls {a : Option Addr} {len cap : Nat} {z : List Int} {w : World} (hrow : InRow w a len z) :
    Calls Tryz.prog 8 #[.slice a len cap] w (ReadDrawn w) := by
  have H1 := Lib.hid (source_calls (cap := cap) hrow)
  clear hrow
  go_enter Tryz.func8, Tryz.ntmps8
  go_wp2_with fail
  (with_reducible refine H1.out.mono ?_)
  rintro e w1 ⟨rfl, s1, hb1⟩
  have HB1 := Lib.hid hb1
  have H2 := Lib.hid (segOfD_calls s1)
  clear s1 hb1 H1
  go_wp2_with fail
  (with_reducible refine H2.out.mono ?_)
  rintro e w2 ⟨n1, n2, n3, t, n4, rfl, hwd, s2, g2⟩
  have HB2 := Lib.hid (HB1.out.grown g2 HB1.out.size (fun k hk => Nat.le_of_eq (Option.some.inj hk)))
  have HS2 := Lib.hid s2
  have H3 := Lib.hid (fun W => segBytesS_calls n1 n2 n3 t n4 W (by have := hwd.2.2.2.1; omega))
  have hlen := segN_len n1 n2 n3 t n4
  clear s2 g2 H2 HB1 hwd
  generalize segN n1 n2 n3 t n4 = R at *
  go_wp2_with fail
  (with_reducible refine (H3.out _).mono ?_)
  rintro e w3 ⟨rfl, hb3⟩
  have HB3 := Lib.hid (HB2.out.trans (hb3.mono HB2.out.size))
  have H4 := Lib.hid (src_draw (src_below HS2.out hb3) (most := 4) (by omega))
  clear hb3 H3 HB2 HS2
  go_wp2_with fail
  (with_reducible refine H4.out.mono ?_)
  rintro e w4 ⟨kk, rfl, kka, kkb, s4, g4⟩
  have HB4 := Lib.hid (HB3.out.grown g4 HB3.out.size (fun k hk => Nat.le_of_eq (Option.some.inj hk)))
  clear g4 H4 HB3
  by_cases hk0 : kk = 0
  · subst hk0
    have H5 := Lib.hid (spoil_calls s4 R (by omega))
    clear s4
    go_wp2_with fail
    (with_reducible refine H5.out.mono ?_)
    rintro e w5 ⟨l, rfl, hl, s5, g5⟩
    have HB5 := Lib.hid (HB4.out.grown g5 HB4.out.size (fun k hk => Nat.le_of_eq (Option.some.inj hk)))
    clear s5 g5 H5
    go_wp2_with fail
    go_ret
    exact ⟨l, rfl, by omega, HB5.out⟩
  · by_cases hk1 : kk = 1
    · subst hk1
      have H5 := Lib.hid (ackOf_calls s4)
      clear s4 hk0
      go_wp2_with fail
      (with_reducible refine H5.out.mono ?_)
      rintro e w5 ⟨m1, m2, m3, m4, rfl, hwd, s5, g5⟩
      have HB5 := Lib.hid (HB4.out.grown g5 HB4.out.size (fun k hk => Nat.le_of_eq (Option.some.inj hk)))
      have HS5 := Lib.hid s5
      have H6 := Lib.hid (fun W => ackBytesS_calls m1 m2 m3 m4 W)
      have hlen6 := ackN_len m1 m2 m3 m4
      clear s5 g5 H5 hwd HB4
      generalize ackN m1 m2 m3 m4 = A at *
      go_wp2_with fail
      (with_reducible refine (H6.out _).mono ?_)
      rintro e w6 ⟨rfl, hb6⟩
      have HB6 := Lib.hid (HB5.out.trans (hb6.mono HB5.out.size))
      have s6 := src_below HS5.out hb6
      have hp6 := src_lt s6
      have H7 := Lib.hid (fun T => pick_calls (cp := 5) (src_alloc s6 (.cells #[gs [], gs [83], gs [65], gs [83, 120], gs A] T)) (five_texts A) (m := 5) rfl (by omega) (by omega) (by omega) (b := 84) (by simp; omega))
      clear s6 hb6 H6 HB5 HS5
      go_wp2_with fail
      (with_reducible refine (H7.out _).mono ?_)
      rintro e w7 ⟨l, rfl, hl, s7, g7⟩
      have HB7 := Lib.hid ((HB6.out.alloc HB6.out.size _).grown g7 (by have := HB6.out.size; simp; omega) (fun k hk => Nat.le_of_eq (Option.some.inj hk)))
      have H8 := Lib.hid (fun W => sealS_calls l W (by omega))
      have hsl := sealN_len l
      clear s7 g7 H7 HB6
      generalize sealN l = L at *
      go_wp2_with fail
      (with_reducible refine (H8.out _).mono ?_)
      rintro e w8 ⟨rfl, hb8⟩
      have HB8 := Lib.hid (HB7.out.trans (hb8.mono HB7.out.size))
      clear hb8
      go_wp2_with fail
      go_ret
      exact ⟨L, rfl, by omega, HB8.out⟩
    · by_cases hk2 : kk = 2
      · subst hk2
        have H5 := Lib.hid (ackOf_calls s4)
        clear s4 hk0 hk1
        go_wp2_with fail
        (with_reducible refine H5.out.mono ?_)
        rintro e w5 ⟨m1, m2, m3, m4, rfl, hwd, s5, g5⟩
        have HB5 := Lib.hid (HB4.out.grown g5 HB4.out.size (fun k hk => Nat.le_of_eq (Option.some.inj hk)))
        have H6 := Lib.hid (fun W => ackBytesS_calls m1 m2 m3 m4 W)
        have hlen6 := ackN_len m1 m2 m3 m4
        clear s5 g5 H5 hwd HB4
        generalize ackN m1 m2 m3 m4 = A at *
        go_wp2_with fail
        (with_reducible refine (H6.out _).mono ?_)
        rintro e w6 ⟨rfl, hb6⟩
        have HB6 := Lib.hid (HB5.out.trans (hb6.mono HB5.out.size))
        clear hb6
        go_wp2_with fail
        go_ret
        exact ⟨A, rfl, by omega, HB6.out⟩
      · have d0 : (kk == 0) = false := by simpa using hk0
        have d1 : (kk == 1) = false := by simpa using hk1
        have d2 : (kk == 2) = false := by simpa using hk2
        clear s4 hk0 hk1 hk2
        go_wp2_with fail
        go_ret
        exact ⟨R, rfl, by omega, HB4.out⟩

set_option maxHeartbeats 2000000 in
set_option maxRecDepth 100000 in
theorem drawAckRead_calls {a : Option Addr} {len cap : Nat} {z : List Int} {w : World} (hrow : InRow w a len z) :
    Calls Tryz.prog 9 #[.slice a len cap] w (ReadDrawn w) := by
  have H1 := Lib.hid (source_calls (cap := cap) hrow)
  clear hrow
  go_enter Tryz.func9, Tryz.ntmps9
  go_wp2_with fail
  (with_reducible refine H1.out.mono ?_)
  rintro e w1 ⟨rfl, s1, hb1⟩
  have HB1 := Lib.hid hb1
  have H2 := Lib.hid (ackOf_calls s1)
  clear s1 hb1 H1
  go_wp2_with fail
  (with_reducible refine H2.out.mono ?_)
  rintro e w2 ⟨n1, n2, n3, n4, rfl, hwd, s2, g2⟩
  have HB2 := Lib.hid (HB1.out.grown g2 HB1.out.size (fun k hk => Nat.le_of_eq (Option.some.inj hk)))
  have HS2 := Lib.hid s2
  have H3 := Lib.hid (fun W => ackBytesS_calls n1 n2 n3 n4 W)
  have hlen := ackN_len n1 n2 n3 n4
  clear s2 g2 H2 HB1 hwd
  generalize ackN n1 n2 n3 n4 = R at *
  go_wp2_with fail
  (with_reducible refine (H3.out _).mono ?_)
  rintro e w3 ⟨rfl, hb3⟩
  have HB3 := Lib.hid (HB2.out.trans (hb3.mono HB2.out.size))
  have H4 := Lib.hid (src_draw (src_below HS2.out hb3) (most := 4) (by omega))
  clear hb3 H3 HB2 HS2
  go_wp2_with fail
  (with_reducible refine H4.out.mono ?_)
  rintro e w4 ⟨kk, rfl, kka, kkb, s4, g4⟩
  have HB4 := Lib.hid (HB3.out.grown g4 HB3.out.size (fun k hk => Nat.le_of_eq (Option.some.inj hk)))
  clear g4 H4 HB3
  by_cases hk0 : kk = 0
  · subst hk0
    have H5 := Lib.hid (spoil_calls s4 R (by omega))
    clear s4
    go_wp2_with fail
    (with_reducible refine H5.out.mono ?_)
    rintro e w5 ⟨l, rfl, hl, s5, g5⟩
    have HB5 := Lib.hid (HB4.out.grown g5 HB4.out.size (fun k hk => Nat.le_of_eq (Option.some.inj hk)))
    clear s5 g5 H5
    go_wp2_with fail
    go_ret
    exact ⟨l, rfl, by omega, HB5.out⟩
  · by_cases hk1 : kk = 1
    · subst hk1
      have H5 := Lib.hid (segOfD_calls s4)
      clear s4 hk0
      go_wp2_with fail
      (with_reducible refine H5.out.mono ?_)
      rintro e w5 ⟨m1, m2, m3, mt, m4, rfl, hwd, s5, g5⟩
      have HB5 := Lib.hid (HB4.out.grown g5 HB4.out.size (fun k hk => Nat.le_of_eq (Option.some.inj hk)))
      have H6 := Lib.hid (fun W => segBytesS_calls m1 m2 m3 mt m4 W (by have := hwd.2.2.2.1; omega))
      have hlen6 := segN_len m1 m2 m3 mt m4
      clear s5 g5 H5 hwd HB4
      generalize segN m1 m2 m3 mt m4 = A at *
      go_wp2_with fail
      (with_reducible refine (H6.out _).mono ?_)
      rintro e w6 ⟨rfl, hb6⟩
      have HB6 := Lib.hid (HB5.out.trans (hb6.mono HB5.out.size))
      clear hb6
      go_wp2_with fail
      go_ret
      exact ⟨A, rfl, by omega, HB6.out⟩
    · have d0 : (kk == 0) = false := by simpa using hk0
      have d1 : (kk == 1) = false := by simpa using hk1
      clear s4 hk0 hk1
      go_wp2_with fail
      go_ret
      exact ⟨R, rfl, by omega, HB4.out⟩
end Go.Proofs.YtjcdcaannajnpaaGreatDoor
