/- The model's l02Join: pieces that rise, those that stand side by side are one. -/
import Derived.Test.YtdcahilfmhkmiaaGreatDoorCutI
import Derived.Test.YtdcahilfmhkmiaaGreatDoorPackC
import Derived.Deep.LoopGhost
namespace Go.Proofs.YtdcahilfmhkmiaaGreatDoor
open Go.RowKit

theorem pv_get (a : List Pc) (q : Pc) : (pv (a ++ [q]))[a.length * 2]? = some (.int .i64 q.1) ∧ (pv (a ++ [q]))[a.length * 2 + 1]? = some (gs q.2) := by
  rw [pv_append]
  constructor
  · rw [List.getElem?_append_right (by rw [pv_length]; omega), pv_length, Nat.sub_self]; rfl
  · rw [List.getElem?_append_right (by rw [pv_length]; omega), pv_length, show a.length * 2 + 1 - a.length * 2 = 1 by omega]; rfl
theorem pv_set (a : List Pc) (q : Pc) (s : List UInt8) : (pv (a ++ [q])).set (a.length * 2 + 1) (gs s) = pv (a ++ [(q.1, s)]) := by
  rw [pv_append, pv_append, List.set_append_right _ _ (by rw [pv_length]; omega), pv_length, show a.length * 2 + 1 - a.length * 2 = 1 by omega]; rfl
theorem joinS_empty (acc : List Pc) (q : Pc) (l : List Pc) (h : q.2 = []) : joinS acc (q :: l) = joinS acc l := by rw [joinS.eq_2, if_pos h]
theorem joinS_first (q : Pc) (l : List Pc) (h : q.2 ≠ []) : joinS [] (q :: l) = joinS [q] l := by rw [joinS.eq_2, if_neg h]; rfl
theorem joinS_last (acc : List Pc) (p q : Pc) (l : List Pc) (h : q.2 ≠ []) : joinS (acc ++ [p]) (q :: l) = if pcEnd p = q.1 then joinS (acc ++ [(p.1, p.2 ++ q.2)]) l else joinS (acc ++ [p] ++ [q]) l := by
  rw [joinS.eq_2, if_neg h]
  have hla : (acc ++ [p]).getLast? = some p := by simp
  rw [hla]
  simp only [List.dropLast_concat]
theorem bytesN_app (a b : List Pc) : bytesN (a ++ b) = bytesN a + bytesN b := by
  induction a with
  | nil => simp [bytesN]
  | cons p a ih => simp [bytesN, ih]; omega
/-- The last piece of a row of the call's own. -/
theorem own_last {w : World} {B g c : Nat} {e : TypeId} {acc : List Pc} {q : Pc} (h : w.ownsRow B e 2 (.slice (some ⟨g, 0, none⟩) (acc ++ [q]).length c) (acc ++ [q]).length (pv (acc ++ [q]))) :
    w.cell? ⟨g, acc.length * 2, none⟩ = some (.int .i64 q.1) ∧ w.cell? ⟨g, acc.length * 2 + 1, none⟩ = some (gs q.2) ∧ w.frozen? ⟨g, acc.length * 2 + 1, none⟩ = false := by
  obtain ⟨h1, h2⟩ := pv_get acc q
  have hl : (acc ++ [q]).length = acc.length + 1 := by simp
  exact ⟨(h.cellAt (acc.length * 2) (by rw [hl]; omega)).trans h1, (h.cellAt (acc.length * 2 + 1) (by rw [hl]; omega)).trans h2, h.frozenAt _⟩

structure JoinAt (w : World) (L : List Pc) (wr : World) (k : Nat) (acc : List Pc) (v : Value) : Prop where
  row : wr.ownsRow w.heap.size 121 2 v acc.length (pv acc)
  le : acc.length ≤ k
  out : joinS [] L = joinS acc (L.drop k)
  time : ∀ p ∈ acc, 0 ≤ p.1 ∧ p.1 ≤ 3000000
  sum : bytesN acc + bytesN (L.drop k) ≤ 50000000
  below : Below w.heap.size w wr

set_option maxHeartbeats 2000000 in
set_option maxRecDepth 100000 in
theorem joinS_calls {a : Option Addr} {len cap : Nat} {l : List Pc} {w : World} (h : InPcs w a len l) (ht : ∀ i, i < len → 0 ≤ (pcAt l i).1 ∧ (pcAt l i).1 ≤ 3000000) (hs : bytesN l ≤ 50000000) :
    Calls Tryz.prog 247 #[.slice a len cap] w fun e w' => ∃ v, e = .returned v ∧ w'.ownsRow w.heap.size 121 2 v (joinS [] l).length (pv (joinS [] l)) ∧ Below w.heap.size w w' := by
  have hm := h.most
  have hlen := h.long
  have hzz : (Tryz.prog.info? 121).map (fun i => (i.zero, i.size, i.bytes)) = some (some (.agg #[.int .i64 0, gs []]), 2, 24) := by kernel_rfl
  obtain ⟨i0, hi, hz0, hz1, hz2⟩ := info_parts hzz
  clear hzz
  have HT := Lib.hid ht
  have HS := Lib.hid hs
  clear ht hs
  go_enter Tryz.func247, Tryz.ntmps247
  go_wp2_with fail
  go_loopw [3, 4] (fun v i wr => ∃ (k : Nat) (acc : List Pc), i = .int .i64 (k : Int) ∧ k ≤ len ∧ JoinAt w l wr k acc v) (fun _ i _ => len - (intOf i).toNat)
  case atStart =>
    refine ⟨0, [], rfl, Nat.zero_le _, ?_, Nat.le_refl _, rfl, (fun p hp => absurd hp (by simp)), by have := HS.out; simpa [bytesN] using this, ?_⟩
    · exact World.ownsRow_lit (base := w.heap.size) (size := 2) w #[] 0 (Nat.le_refl _) (by unfold maxLen; omega) rfl
    · exact (Below.refl _ _).alloc (Nat.le_refl _) _
  case round =>
    clear HS
    obtain ⟨k, acc, rfl, hk, hJ⟩ := hrel
    obtain ⟨a2, c2, rfl⟩ := ownsRow_slice hJ.row
    have hws := hJ.below.size
    have hle := hJ.le
    by_cases hkl : k < len
    · have hh := h.below hJ.below
      obtain ⟨b, o, rfl⟩ := hh.there (by omega)
      obtain ⟨c0, c1⟩ := hh.cell b o rfl k hkl
      obtain ⟨f0, f1, f2⟩ := hh.fit k hkl
      obtain ⟨t0, t1⟩ := HT.out k hkl
      have hdr := pcAt_drop' (by omega : k < l.length)
      generalize pcAt l k = p at *
      obtain ⟨at0, t⟩ := p
      dsimp only at c0 c1 f0 f1 f2 t0 t1
      have HJ := Lib.hid hJ
      have HD := Lib.hid hdr
      clear hJ hdr hh h HT
      cases ht : t.isEmpty with
      | true =>
        have hte : t = [] := by simpa using ht
        have hJ2 : JoinAt w l wr (k + 1) acc (.slice a2 acc.length c2) := ⟨HJ.out.row, Nat.le_succ_of_le HJ.out.le, by rw [HJ.out.out, HD.out, joinS_empty _ _ _ hte], HJ.out.time, by have := HJ.out.sum; rw [HD.out] at this; simp only [bytesN] at this; omega, HJ.out.below⟩
        have HJ2 := Lib.hid hJ2
        clear hJ2 hte
        go_wp2_with fail
        go_roundw
        case rel => exact ⟨k + 1, acc, by go_num, by omega, HJ2.out⟩
        case measure => simp [intOf]; omega
      | false =>
        have hne : t ≠ [] := by intro e; rw [e] at ht; simp at ht
        have HNE := Lib.hid hne
        clear hne
        rcases List.eq_nil_or_concat acc with rfl | ⟨acc, q, hcc⟩
        · have hz : decide (0 < ([] : List Pc).length) = false := rfl
          go_wp2_with fail
          go_quiet (fail)
          have HO := Lib.hid (ownsRow_below HJ.out.row (below_drewN (Below.refl _ _) nq))
          have HB := Lib.hid (below_drewN HJ.out.below nq)
          go_wp2_with (at_builtin; refine wpList_append_own _ rfl _ _ 23 rfl w.heap.size 121 i0 (.agg #[.int .i64 0, gs []]) 2 24 Tryz.underlying23 hi hz0 hz1 hz2 rfl (by decide) _ _ _ rfl (HO.out.alloc _) ⟨wr.heap.size, 0, none⟩ 1 1 [.int .i64 at0, gs t] rfl rfl (two_new _ _ _ _) (two_cell _ _ _) (by unfold maxLen; omega) (by omega) (by simp; omega) ?_)
          intro v' w1 hown' hgrow _
          have R := piece_step (p := (at0, t)) HB.out hws HO.out hown' hgrow
          have hJ2 : JoinAt w l w1 (k + 1) [(at0, t)] v' := ⟨R.1, by simp, by rw [HJ.out.out, HD.out, joinS_first _ _ HNE.out], fun p hp => by simp at hp; subst hp; exact ⟨t0, t1⟩, by have := HJ.out.sum; rw [HD.out] at this; simp only [bytesN] at this ⊢; omega, R.2⟩
          have HJ2 := Lib.hid hJ2
          clear hJ2 R hown' hgrow
          go_wp2
          go_roundw
          case rel => exact ⟨k + 1, _, by go_num, by omega, HJ2.out⟩
          case measure => simp [intOf]; omega
        · rw [List.concat_eq_append] at hcc
          subst hcc
          obtain ⟨g, c3, he, hgB, hglt⟩ := HJ.out.row.form (by simp)
          injection he with he1 he2 he3
          subst he1 he3
          obtain ⟨o0, o1, z1⟩ := own_last HJ.out.row
          obtain ⟨q0, q1⟩ := HJ.out.time q (by simp)
          have hql : q.2.length ≤ 50000000 := by have := HJ.out.sum; rw [bytesN_app] at this; simp only [bytesN] at this; omega
          have hlast := joinS_last acc q (at0, t) (l.drop (k + 1)) HNE.out
          have hend := endS_calls q
          have hwr : wrap64 (pcEnd q) = pcEnd q := IntWalk.wrap64_in _ (by unfold pcEnd; omega)
          rw [hwr] at hend
          have hset := pv_set acc q (q.2 ++ t)
          have hl1 : acc.length = (acc ++ [q]).length - 1 := by simp
          have hl0 : 0 < (acc ++ [q]).length := by simp
          rw [hl1] at o0 o1 z1 hset
          have HL := Lib.hid hlast
          have HE := Lib.hid hend
          have HSET := Lib.hid hset
          have HLE := Lib.hid (HJ.out.le)
          clear hlast hend hset hwr hl1
          generalize hN : (acc ++ [q]).length = N at *
          have HN := Lib.hid hN
          clear hN
          have hz : decide (0 < N) = true := by simp; omega
          have hkm : IntKind.i64.wrap ((N : Int) - 1) = ((N - 1 : Nat) : Int) := by rw [IntWalk.i64_in _ (by omega)]; omega
          have hN1 : N - 1 < N := by omega
          generalize hE : pcEnd q = E at *
          obtain ⟨qa, qt⟩ := q
          dsimp only at o0 o1 q0 q1 hql
          clear hE
          by_cases heq : E = at0
          · have hd : (E == at0) = true := by simpa using heq
            have HEQ := Lib.hid heq
            clear heq
            go_wp2_with fail
            first | (go_region_held3 (fun W => Below wr.heap.size wr W ∧ W.cell? ⟨b, o + k * 2, none⟩ = some (.int .i64 at0) ∧ W.cell? ⟨b, o + k * 2 + 1, none⟩ = some (gs t) ∧ W.cell? ⟨g, (N - 1) * 2, none⟩ = some (.int .i64 qa) ∧ W.cell? ⟨g, (N - 1) * 2 + 1, none⟩ = some (gs qt)) (first | exact ⟨(Below.refl _ _).drew, c0, c1, o0, o1⟩ | assumption | (refine keep4 (by assumption) (by assumption))) (first | (go_at_call 142; refine (HE.out _).mono ?_; rintro e w1 ⟨rfl, hb1⟩))) | fail
            have hS := (by assumption : Below wr.heap.size wr w1 ∧ _ ∧ _ ∧ _ ∧ _)
            obtain ⟨hBw, d0, d1, p0, p1⟩ := hS
            have HO := Lib.hid (ownsRow_below HJ.out.row hBw)
            have HB := Lib.hid (HJ.out.below.trans (hBw.mono hws))
            have hws1 : w.heap.size ≤ w1.heap.size := Nat.le_trans hws hBw.size
            have z2 := (hBw.frozen (World.block_lt_of_cell? _ _ o1)).trans z1
            clear hBw o0 o1 z1 c0 c1 HE hkm
            have hkm : IntKind.i64.wrap ((N : Int) - 1) = ((N - 1 : Nat) : Int) := by rw [IntWalk.i64_in _ (by omega)]; omega
            go_wp2_with fail
            go_region
            all_goals
              try simp only [cat_ba]
              have hod := ownsRow_below HO.out ((Below.refl _ _).drew)
              rw [HN.out] at hod
              have hrow := (hod.stored ((N - 1) * 2 + 1) (gs (qt ++ t))).1
              rw [HSET.out, ← HN.out] at hrow
              have hN3 : (acc ++ [(qa, qt)]).length = (acc ++ [(qa, qt ++ t)]).length := by simp
              rw [hN3] at hrow
              have hJ2 : JoinAt w l (w1.drew.setCell ⟨g, (N - 1) * 2 + 1, none⟩ (gs (qt ++ t))) (k + 1) (acc ++ [(qa, qt ++ t)]) (.slice (some ⟨g, 0, none⟩) N c2) := by
                refine ⟨by rw [← HN.out, hN3]; exact hrow, by have := HJ.out.le; simp at this ⊢; omega, by rw [HJ.out.out, HD.out, HL.out, if_pos HEQ.out], fun p hp => ?_, ?_, (HB.out.drew).setCell hgB _⟩
                · rcases List.mem_append.1 hp with hp | hp
                  · exact HJ.out.time p (by simp [hp])
                  · simp at hp; subst hp; exact ⟨q0, q1⟩
                · have := HJ.out.sum
                  rw [HD.out, bytesN_app] at this
                  rw [bytesN_app]
                  simp only [bytesN, List.length_append] at this ⊢
                  omega
              have HJ2 := Lib.hid hJ2
              clear hJ2 hod hN3 hrow p0 p1 d0 d1 z2
              go_wp2_with fail
              exact ⟨⟨k + 1, _, by go_num, by omega, HJ2.out⟩, by simp [intOf]; omega⟩
          · have hd : (E == at0) = false := by simpa using heq
            have HEQ := Lib.hid heq
            clear heq
            go_wp2_with fail
            first | (go_region_held3 (fun W => Below wr.heap.size wr W ∧ W.cell? ⟨b, o + k * 2, none⟩ = some (.int .i64 at0) ∧ W.cell? ⟨b, o + k * 2 + 1, none⟩ = some (gs t) ∧ W.cell? ⟨g, (N - 1) * 2, none⟩ = some (.int .i64 qa) ∧ W.cell? ⟨g, (N - 1) * 2 + 1, none⟩ = some (gs qt)) (first | exact ⟨(Below.refl _ _).drew, c0, c1, o0, o1⟩ | assumption | (refine keep4 (by assumption) (by assumption))) (first | (go_at_call 142; refine (HE.out _).mono ?_; rintro e w1 ⟨rfl, hb1⟩))) | fail
            have hS := (by assumption : Below wr.heap.size wr w1 ∧ _ ∧ _ ∧ _ ∧ _)
            obtain ⟨hBw, d0, d1, p0, p1⟩ := hS
            have HO := Lib.hid (ownsRow_below HJ.out.row hBw)
            have HB := Lib.hid (HJ.out.below.trans (hBw.mono hws))
            have hws1 : w.heap.size ≤ w1.heap.size := Nat.le_trans hws hBw.size
            have z2 := (hBw.frozen (World.block_lt_of_cell? _ _ o1)).trans z1
            clear hBw o0 o1 z1 z2 c0 c1 HE
            go_wp2_with (at_builtin; refine wpList_append_own _ rfl _ _ 23 rfl w.heap.size 121 i0 (.agg #[.int .i64 0, gs []]) 2 24 Tryz.underlying23 hi hz0 hz1 hz2 rfl (by decide) _ _ _ rfl (HO.out.alloc _) ⟨w1.heap.size, 0, none⟩ 1 1 [.int .i64 at0, gs t] rfl rfl (two_new _ _ _ _) (two_cell _ _ _) (by have := HN.out; unfold maxLen; omega) (by have := HN.out; omega) (by simp; omega) ?_)
            intro v' w2 hown' hgrow _
            have R := piece_step (p := (at0, t)) HB.out hws1 HO.out (by rw [List.length_append, List.length_singleton]; exact hown') hgrow
            have hJ2 : JoinAt w l w2 (k + 1) (acc ++ [(qa, qt)] ++ [(at0, t)]) v' := ⟨R.1, by have := HJ.out.le; rw [List.length_append, List.length_singleton]; omega, by rw [HJ.out.out, HD.out, HL.out, if_neg HEQ.out], fun p hp => (List.mem_append.1 hp).elim (HJ.out.time p) (fun hp => by simp at hp; subst hp; exact ⟨t0, t1⟩), by have := HJ.out.sum; rw [HD.out] at this; rw [bytesN_app (acc ++ [(qa, qt)])]; simp only [bytesN] at this ⊢; omega, R.2⟩
            have HJ2 := Lib.hid hJ2
            clear hJ2 R hown' hgrow
            go_wp2
            go_roundw
            case rel => exact ⟨k + 1, _, by go_num, by omega, HJ2.out⟩
            case measure => simp [intOf]; omega
    · have hd : l.drop k = [] := List.drop_eq_nil_of_le (by omega)
      have ho : joinS [] l = acc := by rw [hJ.out, hd]; rfl
      have HO := Lib.hid ho
      have HJ := Lib.hid hJ
      clear hd ho hJ h HT
      go_wp2_with fail
      go_ret
      exact ⟨_, rfl, by rw [HO.out]; exact HJ.out.row, HJ.out.below⟩
end Go.Proofs.YtdcahilfmhkmiaaGreatDoor
