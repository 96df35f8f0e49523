/- The program's NetTake and NetTwice. -/
import Derived.Test.YthimndilobadeaaDoorNetI
namespace Go.Proofs.YthimndilobadeaaDoor
open Go.RowKit

theorem RingAt.ten {w w' : World} {b o o' f : Nat} {l : Tx} (h : RingAt w b o' f l) (ht : Ten w w' b o) (ha : o' + 10 ≤ o ∨ o + 10 ≤ o') : RingAt w' b o' f l := by
  have hf := h.first
  exact ⟨h.first, h.most, fun j hj => by obtain ⟨t, hx⟩ := h.slot j hj; exact ⟨t, (ht.cell _ (by omega)).trans hx⟩, (ht.cell _ (by omega)).trans h.at8, (ht.cell _ (by omega)).trans h.at9, fun j hj => (ht.cell _ (by omega)).trans (h.item j hj), fun j hj => (ht.frozen _).trans (h.free j hj)⟩
theorem wy_set {n : Nt} {i j : Nat} {p : Wy} (hi : i < n.length) : wyAt (n.set i p) j = if j = i then p else wyAt n j := by
  unfold wyAt
  by_cases e : j = i
  · subst e; simp [List.getD, hi]
  · rw [if_neg e]; simp [List.getD, List.getElem?_set_ne (Ne.symm e)]
theorem roads_ten {w w' : World} {g len k : Nat} {n : Nt} {back : Bool} {l : Tx} (h : RoadsTo w g len n) (hl : n.length = len) (hk : k < len) (ht : Ten w w' g (ringO k back)) (hr : ∃ f, RingAt w' g (ringO k back) f l) : RoadsTo w' g len (withN n k back l) := by
  intro i hi
  obtain ⟨⟨f, r1⟩, f', r2⟩ := h i hi
  unfold withN
  rw [wy_set (by omega)]
  by_cases e : i = k
  · subst e
    rw [if_pos rfl]
    cases back
    · exact ⟨hr, f', r2.ten ht (by simp [ringO])⟩
    · exact ⟨⟨f, r1.ten ht (by simp [ringO])⟩, hr⟩
  · rw [if_neg e]
    cases back
    · exact ⟨⟨f, r1.ten ht (by simp [ringO]; omega)⟩, f', r2.ten ht (by simp [ringO]; omega)⟩
    · exact ⟨⟨f, r1.ten ht (by simp [ringO]; omega)⟩, f', r2.ten ht (by simp [ringO]; omega)⟩
/-- All texts of a net are small. -/
def Smalls (n : Nt) : Prop := ∀ p ∈ n, (∀ t ∈ p.1, t.length ≤ 2000000) ∧ ∀ t ∈ p.2, t.length ≤ 2000000
theorem right_small {n : Nt} (h : netRight n) : Smalls n := fun p hp => by
  obtain ⟨h1, h2⟩ := netRight_each h p hp
  refine ⟨fun t ht => ?_, fun t ht => ?_⟩
  · obtain ⟨i, hi, rfl⟩ := List.mem_iff_getElem.1 ht
    have := (h1.2 i hi).2
    rw [txAt_get hi] at this
    omega
  · obtain ⟨i, hi, rfl⟩ := List.mem_iff_getElem.1 ht
    have := (h2.2 i hi).2
    rw [txAt_get hi] at this
    omega
theorem withN_small {n : Nt} {k : Nat} {back : Bool} {l : Tx} (h : Smalls n) (hk : k < n.length) (hl : ∀ t ∈ l, t.length ≤ 2000000) : Smalls (withN n k back l) := fun p hp => by
  unfold withN at hp
  rcases List.mem_or_eq_of_mem_set hp with h1 | h1
  · exact h p h1
  · have hw := h _ (wyAt_mem hk)
    subst h1
    cases back
    · exact ⟨hl, hw.2⟩
    · exact ⟨hw.1, hl⟩
theorem lst_small {n : Nt} {k : Nat} (h : Smalls n) (hk : k < n.length) (back : Bool) : ∀ t ∈ lst (wyAt n k) back, t.length ≤ 2000000 := by
  have hw := h _ (wyAt_mem hk)
  cases back
  · exact hw.1
  · exact hw.2
theorem lst_most {n : Nt} {k : Nat} (h : netRight n) (hk : k < n.length) (back : Bool) : (lst (wyAt n k) back).length ≤ 8 := by
  have hw := netRight_each h _ (wyAt_mem hk)
  cases back
  · exact hw.1.1
  · exact hw.2.1

/-- An answer's net: none, or one of the call's own. -/
def NetRow (w : World) (lo hi : Nat) (a : Option Addr) (len : Nat) (n : Nt) : Prop :=
  (a = none ∧ len = 0 ∧ n = []) ∨ ∃ g P Q, a = some ⟨g, 0, none⟩ ∧ NetOwn w lo hi g len n P Q
theorem NetRow.store {w : World} {lo hi len b : Nat} {a : Option Addr} {n : Nt} (h : NetRow w lo hi a len n) (hb : b < lo) (o : Nat) (v : Value) : NetRow (w.setCell ⟨b, o, none⟩ v) lo hi a len n := by
  rcases h with h | ⟨g, P, Q, rfl, h⟩
  · exact .inl h
  · exact .inr ⟨g, P, Q, rfl, h.kept (T := fun x => x = b) (kept_grown (tgrown_set w b o v) rfl) (fun x hx _ e => by omega)⟩
theorem NetOwn.wide {w : World} {lo hi lo' g len : Nat} {n : Nt} {P Q : Nat → Nat} (h : NetOwn w lo hi g len n P Q) (hl : lo' ≤ lo) : NetOwn w lo' hi g len n P Q :=
  ⟨h.long, h.most, ⟨Nat.le_trans hl h.low.1, h.low.2⟩, h.top, h.cell, h.there, h.back, h.order, h.chain⟩
/-- What a call that makes a net answers. -/
def NetAns (w : World) (r : NRes) (e : Ending) (w' : World) : Prop :=
  ∃ a len cap, e = .returned (netV a len cap r.2.1 r.2.2) ∧ NetRow w' w.heap.size w'.heap.size a len r.1 ∧ Below w.heap.size w w'
theorem netAns_code {w w' : World} (c : Int) (hb : Below w.heap.size w w') : NetAns w ([], [], c) (.returned (.agg #[.slice none 0 0, .string ⟨#[]⟩, .int .i64 c])) w' := ⟨none, 0, 0, rfl, .inl ⟨rfl, rfl, rfl⟩, hb⟩

set_option maxHeartbeats 2000000 in
set_option maxRecDepth 100000 in
theorem takeI_calls {S : Nat → Prop} {a : Option Addr} {len cap : Nat} {n : Nt} {w : World} (h : InNet S w a len n) (path : Int) (h1 : -9223372036854775808 ≤ path) (h2 : path ≤ 9223372036854775807) (back : Bool) (x : Int) (hg : EtCell w) :
    Calls Tryd.prog 8 #[.slice a len cap, .int .i64 path, .bool back, .int .i64 x] w (NetAns w (takeR n path back x)) := by
  have hlen := h.long
  have hcall := fun (W : World) (hb : Below w.heap.size w W) => openRingAt_calls (cap := cap) (h.below hb) path h1 h2 back x
  by_cases hc : openAtC n path back x = 0
  · obtain ⟨hc0, hx0, hx1⟩ := openAtC_ok hc
    obtain ⟨-, hr, hp0, hp1⟩ := openC_ok hc0
    obtain ⟨k, rfl⟩ : ∃ k : Nat, path = (k : Int) := ⟨path.toNat, by omega⟩
    obtain ⟨p, rfl⟩ : ∃ p : Nat, x = (p : Int) := ⟨x.toNat, by omega⟩
    have hR : takeR n k back p = (withN n k back ((lst (wyAt n k) back).eraseIdx p), txAt (lst (wyAt n k) back) p, 0) := by unfold takeR; rw [if_neg (by simpa using hc)]; rfl
    rw [hR]
    rw [hc] at hcall
    have hk : k < len := by omega
    simp only [Int.toNat_natCast] at hx1
    have hpl : p < (lst (wyAt n k) back).length := by omega
    have hwl : (withN n k back ((lst (wyAt n k) back).eraseIdx p)).length = len := by rw [withN_len, hlen]
    have hfit : Smalls (withN n k back ((lst (wyAt n k) back).eraseIdx p)) := withN_small (right_small hr) (by omega) (fun t ht => lst_small (right_small hr) (by omega) back t (List.mem_of_mem_eraseIdx ht))
    have hlen4 : len ≤ 4 := by have := hr.1.2; omega
    have htake : ∀ (W : World) (g : Nat), RoadsTo W g len n → Calls Tryd.prog 22 #[.pointer (some ⟨g, ringO k back, none⟩), .int .i64 (p : Int)] W fun e w' => e = .returned (gs (txAt (lst (wyAt n k) back) p)) ∧ Ten W w' g (ringO k back) ∧ RoadsTo w' g len (withN n k back ((lst (wyAt n k) back).eraseIdx p)) := fun W g hrd => by
      obtain ⟨f, hring⟩ := hrd.ring (p := k) (by omega) back
      exact (ringTake_calls hring p hpl).mono (fun e w' he => ⟨he.1, he.2.2, roads_ten hrd hlen hk he.2.2 he.2.1⟩)
    generalize hN : withN n k back ((lst (wyAt n k) back).eraseIdx p) = N at *
    generalize txAt (lst (wyAt n k) back) p = bs at *
    have hways := fun (W : World) (g : Nat) (hrd : RoadsTo W g len N) => waysOf_calls (cap := len) hrd hwl (by omega) hfit
    have HC := Lib.hid hcall
    have HT := Lib.hid htake
    have HW := Lib.hid hways
    have hbox := box3 w 26
    have hb0 : Below w.heap.size w (w.alloc (.cells #[.slice none 0 0, .string ⟨#[]⟩, .int .i64 0] 26)) := (Below.refl _ _).alloc (Nat.le_refl _) _
    have hs0 : (w.alloc (.cells #[.slice none 0 0, .string ⟨#[]⟩, .int .i64 0] 26)).heap.size = w.heap.size + 1 := by simp
    clear hcall htake hways h hR hc hc0 hr hx0 hx1 hp0 hp1 hpl hfit hN hg
    go_enter Tryd.func8, Tryd.ntmps8
    go_wp2_with fail
    generalize w.alloc (.cells #[.slice none 0 0, .string ⟨#[]⟩, .int .i64 0] 26) = W at *
    refine (HC.out _ hb0).mono ?_
    rintro e w1 (⟨h0, -⟩ | ⟨-, g, rfl, hrd, hg1, hg2, hb1⟩)
    · exact absurd rfl h0
    have hB1 := hb0.trans (hb1.mono hb0.size)
    have hbox1 := hbox.below (by omega) hb1
    have HT1 := Lib.hid (HT.out _ _ hrd)
    simp only [Int.toNat_natCast]
    generalize hoe : ringO k back = o at *
    have HB1 := Lib.hid hB1
    have HX1 := Lib.hid hbox1
    have hs1 := hb1.size
    clear hbox hbox1 hb0 hb1 hB1 hrd HC HT
    go_wp2_with fail
    refine HT1.out.mono ?_
    rintro e w2 ⟨rfl, t2, hrd2⟩
    have hB2 := t2.toBelow HB1.out (by omega) (by omega)
    have hbox2 : OpenTx w2 w.heap.size 3 := HX1.out.kept (t2.grown.block _ (by omega) (fun e => by have := Option.some.inj e; omega))
    have HW2 := Lib.hid (HW.out _ _ hrd2)
    have HB2 := Lib.hid hB2
    have HX2 := Lib.hid hbox2
    have hs2 := t2.same
    clear HB1 HX1 HT1 hB2 hbox2 hrd2 t2 HW
    go_wp2_with fail
    refine HW2.out.mono ?_
    rintro e w3 ⟨g3, P, Q, rfl, ho, hb3⟩
    have hB3 := HB2.out.trans (hb3.mono HB2.out.size)
    have hbox3 := HX2.out.below (by omega) hb3
    obtain ⟨v0, c0⟩ := hbox3.there 0 (by omega)
    obtain ⟨v1, c1⟩ := hbox3.there 1 (by omega)
    obtain ⟨v2, c2⟩ := hbox3.there 2 (by omega)
    have f0 := hbox3.free 0 (by omega)
    have f1 := hbox3.free 1 (by omega)
    have f2 := hbox3.free 2 (by omega)
    have HO := Lib.hid ho
    have HB3 := Lib.hid hB3
    have hs3 := hb3.size
    clear HB2 HX2 HW2 hbox3 hB3 hb3 ho
    go_wp2_with fail
    refine bodyPost_ret (v := netV (some ⟨g3, 0, none⟩) len len bs 0) (by simp [netV, results, Tryd.results8, go_sem, c0, c1, c2]) rfl ?_
    refine ⟨_, _, _, rfl, ?_, ((HB3.out.setCell (Nat.le_refl _) _).setCell (Nat.le_refl _) _).setCell (Nat.le_refl _) _⟩
    have hrow : NetRow w3 w2.heap.size w3.heap.size (some ⟨g3, 0, none⟩) len N := .inr ⟨g3, P, Q, rfl, HO.out⟩
    have hrow2 := ((hrow.store (b := w.heap.size) (by omega) 0 (.slice (some ⟨g3, 0, none⟩) len len)).store (b := w.heap.size) (by omega) 1 (gs bs)).store (b := w.heap.size) (by omega) 2 (.int .i64 0)
    rcases hrow2 with h | ⟨g4, P4, Q4, hg4, h4⟩
    · exact absurd h.1 (by simp)
    · exact .inr ⟨g4, P4, Q4, hg4, by simpa using h4.wide (by omega)⟩
  · have hR : takeR n path back x = ([], [], ((openAtC n path back x : Nat) : Int)) := by unfold takeR; rw [if_pos hc]
    rw [hR]
    generalize openAtC n path back x = c at *
    have HC := Lib.hid hcall
    have HG := Lib.hid hg
    clear hcall hg h hR
    go_enter Tryd.func8, Tryd.ntmps8
    go_wp2_with fail
    refine (HC.out _ ((Below.refl _ _).alloc (Nat.le_refl _) _)).mono ?_
    rintro e w1 (⟨h0, rfl, hb1⟩ | ⟨h0, -⟩)
    · have hbw : Below w.heap.size w w1 := ((Below.refl _ _).alloc (Nat.le_refl _) _).trans (hb1.mono (by simp))
      have hs := hb1.size
      obtain ⟨hc1, hf1⟩ := bcell hb1
      simp at hs hc1 hf1
      go_wp2_with fail
      refine (code_calls _ _ (HG.out.below hbw)).mono ?_
      rintro e w2 ⟨rfl, hb2⟩
      have hbw2 : Below w.heap.size w w2 := hbw.trans (hb2.mono (by omega))
      have hs2 := hb2.size
      obtain ⟨hc2, hf2⟩ := bcell hb2
      have hc3 : ∀ b o, b < w.heap.size + 1 → w2.cell? ⟨b, o, none⟩ = w1.cell? ⟨b, o, none⟩ := fun b o h => hc2 b o (by omega)
      have hf3 : ∀ b o, b < w.heap.size + 1 → w2.frozen? ⟨b, o, none⟩ = w1.frozen? ⟨b, o, none⟩ := fun b o h => hf2 b o (by omega)
      clear hc2 hf2
      go_wp2_with fail
      refine bodyPost_ret (v := .agg #[.slice none 0 0, .string ⟨#[]⟩, .int .i64 (c : Int)]) ?_ rfl ?_
      · simp [results, Tryd.results8, go_sem, hc1, hc3]
      · exact netAns_code _ (by go_grown)
    · exact absurd h0 hc
set_option maxHeartbeats 2000000 in
set_option maxRecDepth 100000 in
theorem twiceI_calls {S : Nat → Prop} {a : Option Addr} {len cap : Nat} {n : Nt} {w : World} (h : InNet S w a len n) (path : Int) (h1 : -9223372036854775808 ≤ path) (h2 : path ≤ 9223372036854775807) (back : Bool) (x : Int) (hg : EtCell w) :
    Calls Tryd.prog 15 #[.slice a len cap, .int .i64 path, .bool back, .int .i64 x] w (NetAns w (twiceR n path back x)) := by
  have hlen := h.long
  have hcall := fun (W : World) (hb : Below w.heap.size w W) => openRingAt_calls (cap := cap) (h.below hb) path h1 h2 back x
  by_cases hc : openAtC n path back x = 0
  · obtain ⟨hc0, hx0, hx1⟩ := openAtC_ok hc
    obtain ⟨-, hr, hp0, hp1⟩ := openC_ok hc0
    obtain ⟨k, rfl⟩ : ∃ k : Nat, path = (k : Int) := ⟨path.toNat, by omega⟩
    obtain ⟨p, rfl⟩ : ∃ p : Nat, x = (p : Int) := ⟨x.toNat, by omega⟩
    have hR : twiceR n k back p = (withN n k back (if (lst (wyAt n k) back).length < 8 then lst (wyAt n k) back ++ [txAt (lst (wyAt n k) back) p] else lst (wyAt n k) back), [], 0) := by unfold twiceR; rw [if_neg (by simpa using hc)]; rfl
    rw [hR]
    rw [hc] at hcall
    have hk : k < len := by omega
    simp only [Int.toNat_natCast] at hx1
    have hpl : p < (lst (wyAt n k) back).length := by omega
    have hwl : (withN n k back (if (lst (wyAt n k) back).length < 8 then lst (wyAt n k) back ++ [txAt (lst (wyAt n k) back) p] else lst (wyAt n k) back)).length = len := by rw [withN_len, hlen]
    have hfit : Smalls (withN n k back (if (lst (wyAt n k) back).length < 8 then lst (wyAt n k) back ++ [txAt (lst (wyAt n k) back) p] else lst (wyAt n k) back)) := withN_small (right_small hr) (by omega) (fun t ht => by
      split at ht
      · rcases List.mem_append.1 ht with h1 | h1
        · exact lst_small (right_small hr) (by omega) back t h1
        · rw [List.mem_singleton.1 h1]; exact lst_small (right_small hr) (by omega) back _ (txAt_mem hpl)
      · exact lst_small (right_small hr) (by omega) back t ht)
    have hlen4 : len ≤ 4 := by have := hr.1.2; omega
    have hslot : ∀ (W : World) (g : Nat), RoadsTo W g len n → ∃ q, (Calls Tryd.prog 30 #[.pointer (some ⟨g, ringO k back, none⟩), .int .i64 (p : Int)] W fun e w' => e = .returned (.pointer (some ⟨g, ringO k back + q, none⟩)) ∧ ∃ m, w' = W.drewN m) ∧ W.cell? ⟨g, ringO k back + q, none⟩ = some (gs (txAt (lst (wyAt n k) back) p)) ∧
        ∀ m, Calls Tryd.prog 29 #[.pointer (some ⟨g, ringO k back, none⟩), gs (txAt (lst (wyAt n k) back) p)] (W.drewN m) fun e w' => e = .returned (.tuple #[]) ∧ Ten W w' g (ringO k back) ∧ RoadsTo w' g len (withN n k back (if (lst (wyAt n k) back).length < 8 then lst (wyAt n k) back ++ [txAt (lst (wyAt n k) back) p] else lst (wyAt n k) back)) := fun W g hrd => by
      obtain ⟨f, hring⟩ := hrd.ring (p := k) (by omega) back
      have h8 := lst_most hr (k := k) (by omega) back
      refine ⟨(f + p) % 8, ringSlot_calls hring p (by omega), hring.item p hpl, fun m => (ringPush_calls (hring.drewN m) (txAt (lst (wyAt n k) back) p)).mono (fun e w' he => ?_)⟩
      have ht := (ten_drewN W g (ringO k back) m).trans he.2.2
      exact ⟨he.1, ht, roads_ten hrd hlen hk ht ⟨f, he.2.1⟩⟩
    generalize hN : withN n k back (if (lst (wyAt n k) back).length < 8 then lst (wyAt n k) back ++ [txAt (lst (wyAt n k) back) p] else lst (wyAt n k) back) = N at *
    generalize txAt (lst (wyAt n k) back) p = bs at *
    have hways := fun (W : World) (g : Nat) (hrd : RoadsTo W g len N) => waysOf_calls (cap := len) hrd hwl (by omega) hfit
    have HC := Lib.hid hcall
    have HT := Lib.hid hslot
    have HW := Lib.hid hways
    have hbox := box3 w 26
    have hb0 : Below w.heap.size w (w.alloc (.cells #[.slice none 0 0, .string ⟨#[]⟩, .int .i64 0] 26)) := (Below.refl _ _).alloc (Nat.le_refl _) _
    have hs0 : (w.alloc (.cells #[.slice none 0 0, .string ⟨#[]⟩, .int .i64 0] 26)).heap.size = w.heap.size + 1 := by simp
    clear hcall hslot hways h hR hc hc0 hr hx0 hx1 hp0 hp1 hpl hfit hN hg
    go_enter Tryd.func15, Tryd.ntmps15
    go_wp2_with fail
    generalize w.alloc (.cells #[.slice none 0 0, .string ⟨#[]⟩, .int .i64 0] 26) = W at *
    refine (HC.out _ hb0).mono ?_
    rintro e w1 (⟨h0, -⟩ | ⟨-, g, rfl, hrd, hg1, hg2, hb1⟩)
    · exact absurd rfl h0
    have hB1 := hb0.trans (hb1.mono hb0.size)
    have hbox1 := hbox.below (by omega) hb1
    obtain ⟨q, hs, hcq, hpu⟩ := HT.out _ _ hrd
    have HT1 := Lib.hid hs
    have HT2 := Lib.hid hpu
    simp only [Int.toNat_natCast]
    generalize hoe : ringO k back = o at *
    have HB1 := Lib.hid hB1
    have HX1 := Lib.hid hbox1
    have hs1 := hb1.size
    clear hbox hbox1 hb0 hb1 hB1 hrd HC HT hs hpu
    go_wp2_with fail
    refine HT1.out.mono ?_
    rintro e w2' ⟨rfl, m, rfl⟩
    go_wp2_with fail
    refine (HT2.out m).mono ?_
    rintro e w2 ⟨rfl, t2, hrd2⟩
    have hB2 := t2.toBelow HB1.out (by omega) (by omega)
    have hbox2 : OpenTx w2 w.heap.size 3 := HX1.out.kept (t2.grown.block _ (by omega) (fun e => by have := Option.some.inj e; omega))
    have HW2 := Lib.hid (HW.out _ _ hrd2)
    have HB2 := Lib.hid hB2
    have HX2 := Lib.hid hbox2
    have hs2 := t2.same
    clear HB1 HX1 HT1 HT2 hB2 hbox2 hrd2 t2 HW
    go_wp2_with fail
    refine HW2.out.mono ?_
    rintro e w3 ⟨g3, P, Q, rfl, ho, hb3⟩
    have hB3 := HB2.out.trans (hb3.mono HB2.out.size)
    have hbox3 := HX2.out.below (by omega) hb3
    obtain ⟨v0, c0⟩ := hbox3.there 0 (by omega)
    obtain ⟨v1, c1⟩ := hbox3.there 1 (by omega)
    obtain ⟨v2, c2⟩ := hbox3.there 2 (by omega)
    have f0 := hbox3.free 0 (by omega)
    have f1 := hbox3.free 1 (by omega)
    have f2 := hbox3.free 2 (by omega)
    have HO := Lib.hid ho
    have HB3 := Lib.hid hB3
    have hs3 := hb3.size
    clear HB2 HX2 HW2 hbox3 hB3 hb3 ho
    go_wp2_with fail
    refine bodyPost_ret (v := netV (some ⟨g3, 0, none⟩) len len [] 0) (by simp [netV, results, Tryd.results15, go_sem, c0, c1, c2]) rfl ?_
    refine ⟨_, _, _, rfl, ?_, ((HB3.out.setCell (Nat.le_refl _) _).setCell (Nat.le_refl _) _).setCell (Nat.le_refl _) _⟩
    have hrow : NetRow w3 w2.heap.size w3.heap.size (some ⟨g3, 0, none⟩) len N := .inr ⟨g3, P, Q, rfl, HO.out⟩
    have hrow2 := ((hrow.store (b := w.heap.size) (by omega) 0 (.slice (some ⟨g3, 0, none⟩) len len)).store (b := w.heap.size) (by omega) 1 (gs [])).store (b := w.heap.size) (by omega) 2 (.int .i64 0)
    rcases hrow2 with h | ⟨g4, P4, Q4, hg4, h4⟩
    · exact absurd h.1 (by simp)
    · exact .inr ⟨g4, P4, Q4, hg4, by simpa using h4.wide (by omega)⟩
  · have hR : twiceR n path back x = ([], [], ((openAtC n path back x : Nat) : Int)) := by unfold twiceR; rw [if_pos hc]
    rw [hR]
    generalize openAtC n path back x = c at *
    have HC := Lib.hid hcall
    have HG := Lib.hid hg
    clear hcall hg h hR
    go_enter Tryd.func15, Tryd.ntmps15
    go_wp2_with fail
    refine (HC.out _ ((Below.refl _ _).alloc (Nat.le_refl _) _)).mono ?_
    rintro e w1 (⟨h0, rfl, hb1⟩ | ⟨h0, -⟩)
    · have hbw : Below w.heap.size w w1 := ((Below.refl _ _).alloc (Nat.le_refl _) _).trans (hb1.mono (by simp))
      have hs := hb1.size
      obtain ⟨hc1, hf1⟩ := bcell hb1
      simp at hs hc1 hf1
      go_wp2_with fail
      refine (code_calls _ _ (HG.out.below hbw)).mono ?_
      rintro e w2 ⟨rfl, hb2⟩
      have hbw2 : Below w.heap.size w w2 := hbw.trans (hb2.mono (by omega))
      have hs2 := hb2.size
      obtain ⟨hc2, hf2⟩ := bcell hb2
      have hc3 : ∀ b o, b < w.heap.size + 1 → w2.cell? ⟨b, o, none⟩ = w1.cell? ⟨b, o, none⟩ := fun b o h => hc2 b o (by omega)
      have hf3 : ∀ b o, b < w.heap.size + 1 → w2.frozen? ⟨b, o, none⟩ = w1.frozen? ⟨b, o, none⟩ := fun b o h => hf2 b o (by omega)
      clear hc2 hf2
      go_wp2_with fail
      refine bodyPost_ret (v := .agg #[.slice none 0 0, .string ⟨#[]⟩, .int .i64 (c : Int)]) ?_ rfl ?_
      · simp [results, Tryd.results15, go_sem, hc1, hc3]
      · exact netAns_code _ (by go_grown)
    · exact absurd h0 hc
end Go.Proofs.YthimndilobadeaaDoor
