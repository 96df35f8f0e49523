/- The model's l02Put: the walk. -/
import Derived.Test.YtdcahilfmhkmiaaGreatDoorPutS
import Derived.Deep.LoopGhost
import Derived.Deep.DeepCutAuto
namespace Go.Proofs.YtdcahilfmhkmiaaGreatDoor
open Go.RowKit

theorem pcAt_fits {L : List Pc} (h : ∀ p ∈ L, -9223372036854775808 ≤ p.1 ∧ p.1 ≤ 9223372036854775807 ∧ p.2.length ≤ 2000000) : ∀ i, i < L.length → -9223372036854775808 ≤ (pcAt L i).1 ∧ (pcAt L i).1 ≤ 9223372036854775807 ∧ (pcAt L i).2.length ≤ 2000000 :=
  fun _ hi => h _ (pcAt_mem' hi)
theorem mem_bytes {L : List Pc} {p : Pc} (h : p ∈ L) : p.2.length ≤ bytesN L := by
  induction L with
  | nil => cases h
  | cons q L ih =>
    simp only [bytesN]
    rcases List.mem_cons.1 h with rfl | h
    · omega
    · have := ih h; omega
/-- A row of the call's own, full of pieces, as a list of pieces in memory. -/
theorem inPcs_row {w : World} {B : Nat} {e : TypeId} {v : Value} {L : List Pc} (ho : w.ownsRow B e 2 v L.length (pv L)) (hm : L.length ≤ 2000000) (hf : ∀ p ∈ L, -9223372036854775808 ≤ p.1 ∧ p.1 ≤ 9223372036854775807 ∧ p.2.length ≤ 2000000) :
    ∃ a c, v = .slice a L.length c ∧ InPcs w a L.length L := by
  rcases ho.2 with ⟨rfl, h0⟩ | ⟨g, cap, cur, rfl, hb, hh, hn, hc, hcs, ht⟩
  · rw [h0]
    refine ⟨none, 0, rfl, ⟨h0, by omega, (fun h => by omega), (fun b o h => by cases h), (fun i hi => by omega)⟩⟩
  · refine ⟨some ⟨g, 0, none⟩, cap, rfl, ⟨rfl, hm, fun _ => ⟨g, 0, rfl⟩, fun b o hbo i hi => ?_, pcAt_fits hf⟩⟩
    cases hbo
    have hp : ∀ (l : List Pc) (i : Nat), i < l.length → (pv l)[i * 2]? = some (.int .i64 (pcAt l i).1) ∧ (pv l)[i * 2 + 1]? = some (gs (pcAt l i).2) := by
      intro l
      induction l with
      | nil => intro i hi; simp at hi
      | cons p l ih =>
        intro i hi
        cases i with
        | zero => exact ⟨rfl, rfl⟩
        | succ i =>
          obtain ⟨h1, h2⟩ := ih i (by simpa using hi)
          rw [show (i + 1) * 2 = i * 2 + 2 by omega]
          exact ⟨h1, h2⟩
    obtain ⟨h1, h2⟩ := hp L i hi
    rw [Nat.zero_add]
    exact ⟨(ho.cellAt (i * 2) (by omega)).trans h1, (ho.cellAt (i * 2 + 1) (by omega)).trans h2⟩

set_option maxHeartbeats 4000000 in
set_option maxRecDepth 100000 in
theorem putS_calls {a : Option Addr} {len cap : Nat} {l : List Pc} {w : World} (h : InPcs w a len l) (hr : right l) (n : Int) (t : List UInt8) (hn0 : 0 ≤ n) (hn1 : n ≤ 1000000) (htl : t.length ≤ 1000) (hs : bytesN l ≤ 1900000) :
    Calls Tryz.prog 210 #[.slice a len cap, .int .i64 n, gs t] w fun e w' => ∃ v, e = .returned v ∧ w'.ownsRow w.heap.size 121 2 v (putS l n t).length (pv (putS l n t)) ∧ Below w.heap.size w w' := by
  have hm := h.most
  have hlen := h.long
  have h40 := hr.1
  have htm : ∀ i, i < len → 0 ≤ (pcAt l i).1 ∧ (pcAt l i).1 ≤ 1000000 := fun i hi => ⟨(hr.2 i (by omega)).2.1, (hr.2 i (by omega)).2.2.1⟩
  have hzz : (Tryz.prog.info? 121).map (fun i => (i.zero, i.size, i.bytes)) = some (some (.agg #[.int .i64 0, gs []]), 2, 24) := by kernel_rfl
  obtain ⟨i0, hi, hz0, hz1, hz2⟩ := info_parts hzz
  have HT := Lib.hid htm
  have HS := Lib.hid hs
  have hen : n + (t.length : Int) ≤ 1001000 := by omega
  have hen0 : 0 ≤ n + (t.length : Int) := by omega
  have hst : ∀ w1 v, w1.ownsRow w.heap.size 121 2 v 0 [] → Below w.heap.size w w1 → PutAt w l n t w1 0 [] n t v := fun w1 v ho hb => ⟨ho, Nat.le_refl _, rfl, (fun p hp => absurd hp (by simp)), rfl, by omega, by simp [bytesN], hb⟩
  have HST := Lib.hid hst
  clear hzz hr htm hs hst
  generalize hE : n + (t.length : Int) = E at *
  have HE := Lib.hid hE
  clear hE
  go_enter Tryz.func210, Tryz.ntmps210
  go_wp2_with fail
  rw [HE.out]
  go_loopg [1, 2, 7, 9] len (fun m va vt v vi wr => ∃ (k : Nat) (acc : List Pc) (N : Int) (T : List UInt8), va = .int .i64 N ∧ vt = gs T ∧ vi = .int .i64 (k : Int) ∧ k ≤ len ∧ m = len - k ∧ PutAt w l n t wr k acc N T v)
  case atStart =>
    refine ⟨0, [], n, t, rfl, rfl, rfl, Nat.zero_le _, rfl, HST.out _ _ ?_ ?_⟩
    · exact World.ownsRow_lit (base := w.heap.size) (size := 2) w #[] 0 (Nat.le_refl _) (by unfold maxLen; omega) rfl
    · exact (Below.refl _ _).alloc (Nat.le_refl _) _
  case round =>
    clear HST
    obtain ⟨k, acc, N, T, rfl, rfl, rfl, hk, hgk, hP⟩ := hrel
    obtain ⟨a2, c2, rfl⟩ := ownsRow_slice hP.row
    have HGK := Lib.hid hgk
    clear hgk
    by_cases hkl : k < len
    · have hh := h.below hP.below
      obtain ⟨b, o, rfl⟩ := hh.there (by omega)
      obtain ⟨c0, c1⟩ := hh.cell b o rfl k hkl
      obtain ⟨f0, f1, f2⟩ := hh.fit k hkl
      obtain ⟨t0, t1⟩ := HT.out k hkl
      have hdr := pcAt_drop' (by omega : k < l.length)
      have hN0 : 0 ≤ N := by have := hP.low; omega
      have hN1 : N ≤ 1001000 := by have := hP.end'; have := HE.out; omega
      have hTl : T.length ≤ 1000 := by have := hP.end'; have := hP.low; omega
      have hwr : wrap64 (pcEnd (pcAt l k)) = pcEnd (pcAt l k) := IntWalk.wrap64_in _ (by unfold pcEnd; omega)
      have hend := endS_calls (pcAt l k)
      rw [hwr] at hend
      have hpe : (pcAt l k).1 ≤ pcEnd (pcAt l k) ∧ pcEnd (pcAt l k) ≤ 3000000 := by unfold pcEnd; omega
      have hws := hP.below.size
      have hale := hP.le
      generalize hp : pcAt l k = p at *
      have hP0 : ∀ (_ : ¬ (N < p.1 ∧ 0 < min E p.1 - N)), MidAt w l n t wr k p acc N T _ := fun hc => hP.mid0 hdr (by rw [HE.out]; exact hc)
      have hP1 := fun (w2 : World) (v2 : Value) (hc : N < p.1 ∧ 0 < min E p.1 - N) => hP.mid1 (w2 := w2) (v2 := v2) hdr (by rw [HE.out]; exact hc) hn0 t1
      rw [HE.out] at hP1
      obtain ⟨at0, pt⟩ := p
      dsimp only at c0 c1 f0 f1 f2 t0 t1 hP0 hP1 hpe
      have HP := Lib.hid hP
      have HP0 := Lib.hid hP0
      have HP1 := Lib.hid hP1
      have HEND := Lib.hid hend
      have HW := Lib.hid h
      have HPK := Lib.hid hp
      have HTT := Lib.hid (hP.end')
      clear hP hP0 hP1 hend hh h HT hdr hwr hp
      go_upto_if 29 with (fail)
      go_cut [1, 2, 7, 10] (fun va vt v _ wx => ∃ (acc' : List Pc) (N' : Int) (T' : List UInt8), va = .int .i64 N' ∧ vt = gs T' ∧ MidAt w l n t wx k (at0, pt) acc' N' T' v)
      case first =>
        have hMlo : 0 ≤ min E at0 := by omega
        have hMhi : min E at0 ≤ 1001000 := by omega
        have hME : min E at0 ≤ E := by omega
        by_cases h1 : N < at0
        · have hd1 : decide (N < at0) = true := by simp; omega
          by_cases h2 : 0 < min E at0 - N
          · have hmid := fun w2 v2 => HP1.out w2 v2 ⟨h1, h2⟩
            have hmc := minS_calls E at0
            generalize min E at0 = M at *
            have hd2 : decide (N < M) = true := by simp; omega
            have hlt : N < M := by omega
            have hml : (M - N).toNat ≤ T.length := by have := HTT.out; have := HE.out; omega
            have hsh := slice_head (P := Tryz.prog) Tryz.underlying9 T (M - N).toNat (M - N) (by omega) hml
            have hst := slice_tail (P := Tryz.prog) Tryz.underlying9 T (M - N).toNat (M - N) (by omega) hml
            have hsum : N + (M - N) = M := by omega
            have HMID := Lib.hid hmid
            have HMC := Lib.hid hmc
            have HSH := Lib.hid hsh
            have HST := Lib.hid hst
            have HSUM := Lib.hid hsum
            generalize (M - N).toNat = m at *
            have HO := Lib.hid HP.out.row
            clear hmid hmc hsh hst hsum h2 hml HP0 HP1 HTT
            go_wp2_with fail
            refine (HMC.out _).mono ?_
            rintro e w1 ⟨rfl, rfl⟩
            have hsh := HSH.out
            have hst := HST.out
            have hsum := HSUM.out
            go_wp2_with (at_builtin; refine wpList_append_own _ rfl _ _ 23 rfl w.heap.size 121 i0 (.agg #[.int .i64 0, gs []]) 2 24 Tryz.underlying23 hi hz0 hz1 hz2 rfl (by decide) _ _ _ rfl (HO.out.alloc _) ⟨w1.heap.size, 0, none⟩ 1 1 [.int .i64 N, gs (T.take m)] rfl rfl (two_new _ _ _ _) (two_cell _ _ _) (by unfold maxLen; omega) (by omega) (by simp; omega) ?_)
            intro v' w2 hown' hgrow _
            have R := piece_step (p := (N, T.take m)) HP.out.below hws HO.out hown' hgrow
            have HM2 := Lib.hid (HMID.out _ _ R.1 R.2)
            clear R hown' hgrow
            go_wp2_with fail
            go_meet
            exact ⟨_, _, _, rfl, rfl, HM2.out⟩
          · have hmid := HP0.out (fun h => h2 h.2)
            have hmc := minS_calls E at0
            generalize min E at0 = M at *
            have hge : M - N ≤ 0 := by omega
            have hd2 : decide (0 < M - N) = false := by simp; omega
            have hd3 : decide (N < M) = false := by simp; omega
            have HMID := Lib.hid hmid
            have HMC := Lib.hid hmc
            clear hmid hmc h2 HP0 HP1 HTT
            go_wp2_with fail
            refine (HMC.out _).mono ?_
            rintro e w1 ⟨rfl, rfl⟩
            go_wp2_with fail
            all_goals first
              | (exfalso; omega)
              | (go_meet; exact ⟨_, _, _, rfl, rfl, HMID.out⟩)
        · have hmid := HP0.out (fun h => h1 h.1)
          have HMID := Lib.hid hmid
          have hd1 : decide (N < at0) = false := by simp; omega
          clear hmid HP0 HP1 HTT hMlo hMhi hME
          go_wp2_with fail
          go_meet
          exact ⟨_, _, _, rfl, rfl, HMID.out⟩
      case rest =>
        clear HP0 HP1
        obtain ⟨acc', N', T', rfl, rfl, hM⟩ := hcut
        obtain ⟨a3, c3, rfl⟩ := ownsRow_slice hM.row
        have hnx := fun w2 v2 => hM.next (w2 := w2) (v2 := v2) t0 t1
        rw [HE.out] at hnx
        have hNe : N' ≤ E := by have := hM.end'; have := HE.out; omega
        have hN0' : 0 ≤ N' := by have := hM.low; omega
        have hTe : E - N' = T'.length := by have := hM.end'; have := HE.out; omega
        have hT' : T'.length ≤ 1000 := by have := hM.end'; have := hM.low; omega
        have hale' := hM.le
        have hws' := hM.below.size
        obtain ⟨c0, c1⟩ := (HW.out.below hM.below).cell b o rfl k hkl
        have HC := Lib.hid (fun (wx : World) (hb : Below w.heap.size w wx) => (HW.out.below hb).cell b o rfl k hkl)
        rw [HPK.out] at c0 c1
        have HO := Lib.hid hM.row
        have HMB := Lib.hid hM.below
        have HNX := Lib.hid hnx
        clear hM hnx HTT HP
        generalize hF : pcEnd (at0, pt) = F at *
        clear hF
        obtain ⟨hpe1, hpe2⟩ := hpe
        have hmc := minS_calls E F
        have hS : min E F ≤ E := by omega
        have hS0 : 0 ≤ min E F := by omega
        generalize min E F = S at *
        have HMC := Lib.hid hmc
        clear hmc
        by_cases hsk : 0 < S - N'
        · have hd1 : decide (N' < S) = true := by simp; omega
          have hd0 : decide (0 < S - N') = true := by simp; omega
          have hlt : N' < S := by omega
          have hml : (S - N').toNat ≤ T'.length := by omega
          have hst := slice_tail (P := Tryz.prog) Tryz.underlying9 T' (S - N').toNat (S - N') (by omega) hml
          have hsum : N' + (S - N') = S := by omega
          have HST := Lib.hid hst
          have HSUM := Lib.hid hsum
          clear hst hsum hml
          by_cases hge : at0 ≤ N'
          · have hd2 : decide (at0 ≤ N') = true := by simp; omega
            have HCN := Lib.hid (And.intro hsk hge)
            clear hsk hge
            generalize hmm : (S - N').toNat = m at *
            clear hmm
            go_wp2_with (at_builtin; refine wpList_append_own _ rfl _ _ 23 rfl w.heap.size 121 i0 (.agg #[.int .i64 0, gs []]) 2 24 Tryz.underlying23 hi hz0 hz1 hz2 rfl (by decide) _ _ _ rfl (HO.out.alloc _) ⟨wc.heap.size, 0, none⟩ 1 1 [.int .i64 at0, gs pt] rfl rfl (two_new _ _ _ _) (two_cell _ _ _) (by unfold maxLen; omega) (by omega) (by simp; omega) ?_)
            intro v' w2 hown' hgrow _
            have R := piece_step (p := (at0, pt)) HMB.out hws' HO.out hown' hgrow
            have HR1 := Lib.hid R.1
            have HR2 := Lib.hid R.2
            have hw2 := R.2.size
            obtain ⟨d0, d1⟩ := HC.out w2 R.2
            rw [HPK.out] at d0 d1
            clear R hown' hgrow c0 c1
            go_wp2_with fail
            refine (HEND.out _).mono ?_
            rintro e w3 ⟨rfl, hb3⟩
            have hB3 := HR2.out.trans (hb3.mono hw2)
            have HR3 := Lib.hid (ownsRow_below HR1.out hb3)
            obtain ⟨e0, e1⟩ := HC.out w3 hB3
            rw [HPK.out] at e0 e1
            have HB3 := Lib.hid hB3
            clear d0 d1 hb3 hB3
            go_wp2_with fail
            refine (HMC.out _).mono ?_
            rintro e w4 ⟨rfl, rfl⟩
            have hst := HST.out
            have hsum := HSUM.out
            go_wp2_with fail
            go_roundg (len - (k + 1))
            case measure => have := HGK.out; omega
            case rel => exact ⟨k + 1, acc' ++ [(at0, pt)], S, T'.drop m, by first | rfl | exact val_int (by omega), rfl, by go_num, by omega, rfl, (HNX.out _ _ HR3.out HB3.out).1 HCN.out⟩
          · have hd2 : decide (at0 ≤ N') = false := by simp; omega
            have HCN := Lib.hid (show ¬ (0 < S - N' ∧ at0 ≤ N') from fun h => hge h.2)
            clear hsk hge
            go_wp2_with (at_builtin; refine wpList_append_own _ rfl _ _ 23 rfl w.heap.size 121 i0 (.agg #[.int .i64 0, gs []]) 2 24 Tryz.underlying23 hi hz0 hz1 hz2 rfl (by decide) _ _ _ rfl (HO.out.alloc _) ⟨wc.heap.size, 0, none⟩ 1 1 [.int .i64 at0, gs pt] rfl rfl (two_new _ _ _ _) (two_cell _ _ _) (by unfold maxLen; omega) (by omega) (by simp; omega) ?_)
            intro v' w2 hown' hgrow _
            have R := piece_step (p := (at0, pt)) HMB.out hws' HO.out hown' hgrow
            have HR1 := Lib.hid R.1
            have HR2 := Lib.hid R.2
            have hw2 := R.2.size
            obtain ⟨d0, d1⟩ := HC.out w2 R.2
            rw [HPK.out] at d0 d1
            clear R hown' hgrow c0 c1
            go_wp2_with fail
            refine (HEND.out _).mono ?_
            rintro e w3 ⟨rfl, hb3⟩
            have hB3 := HR2.out.trans (hb3.mono hw2)
            have HR3 := Lib.hid (ownsRow_below HR1.out hb3)
            obtain ⟨e0, e1⟩ := HC.out w3 hB3
            rw [HPK.out] at e0 e1
            have HB3 := Lib.hid hB3
            clear d0 d1 hb3 hB3
            go_wp2_with fail
            refine (HMC.out _).mono ?_
            rintro e w4 ⟨rfl, rfl⟩
            go_wp2_with fail
            go_roundg (len - (k + 1))
            case measure => have := HGK.out; omega
            case rel => exact ⟨k + 1, acc' ++ [(at0, pt)], N', T', by first | rfl | exact val_int (by omega), rfl, by go_num, by omega, rfl, (HNX.out _ _ HR3.out HB3.out).2 HCN.out⟩
        · have hd1 : decide (N' < S) = false := by simp; omega
          have hd0 : decide (0 < S - N') = false := by simp; omega
          have hle : S ≤ N' := by omega
          have HCN := Lib.hid (show ¬ (0 < S - N' ∧ at0 ≤ N') from fun h => hsk h.1)
          clear hsk
          go_wp2_with (at_builtin; refine wpList_append_own _ rfl _ _ 23 rfl w.heap.size 121 i0 (.agg #[.int .i64 0, gs []]) 2 24 Tryz.underlying23 hi hz0 hz1 hz2 rfl (by decide) _ _ _ rfl (HO.out.alloc _) ⟨wc.heap.size, 0, none⟩ 1 1 [.int .i64 at0, gs pt] rfl rfl (two_new _ _ _ _) (two_cell _ _ _) (by unfold maxLen; omega) (by omega) (by simp; omega) ?_)
          intro v' w2 hown' hgrow _
          have R := piece_step (p := (at0, pt)) HMB.out hws' HO.out hown' hgrow
          have HR1 := Lib.hid R.1
          have HR2 := Lib.hid R.2
          have hw2 := R.2.size
          obtain ⟨d0, d1⟩ := HC.out w2 R.2
          rw [HPK.out] at d0 d1
          clear R hown' hgrow c0 c1
          go_wp2_with fail
          refine (HEND.out _).mono ?_
          rintro e w3 ⟨rfl, hb3⟩
          have hB3 := HR2.out.trans (hb3.mono hw2)
          have HR3 := Lib.hid (ownsRow_below HR1.out hb3)
          obtain ⟨e0, e1⟩ := HC.out w3 hB3
          rw [HPK.out] at e0 e1
          have HB3 := Lib.hid hB3
          clear d0 d1 hb3 hB3
          go_wp2_with fail
          refine (HMC.out _).mono ?_
          rintro e w4 ⟨rfl, rfl⟩
          go_wp2_with fail
          go_roundg (len - (k + 1))
          case measure => have := HGK.out; omega
          case rel => exact ⟨k + 1, acc' ++ [(at0, pt)], N', T', by first | rfl | exact val_int (by omega), rfl, by go_num, by omega, rfl, (HNX.out _ _ HR3.out HB3.out).2 HCN.out⟩
    · have hd : l.drop k = [] := List.drop_eq_nil_of_le (by omega)
      have hout := hP.out
      have hsum := hP.sum
      have hlow := hP.low
      have hend := hP.end'
      have hale := hP.le
      have hws := hP.below.size
      rw [hd] at hout hsum
      rw [HE.out] at hend
      have hfits : ∀ p ∈ acc ++ [(N, T)], 0 ≤ p.1 ∧ p.1 ≤ 2000000 ∧ p.2.length ≤ 2000000 := fun p hp => by
        have h1 := HS.out
        have h2 := mem_bytes hp
        rw [bytesN_app] at h2
        simp only [bytesN] at h2 hsum
        refine ⟨?_, ?_, by omega⟩
        · rcases List.mem_append.1 hp with hp | hp
          · exact (hP.time p hp).1
          · simp at hp; subst hp; show 0 ≤ N; omega
        · rcases List.mem_append.1 hp with hp | hp
          · exact (hP.time p hp).2
          · simp at hp; subst hp; show N ≤ 2000000; omega
      have hbs : bytesN (acc ++ [(N, T)]) ≤ 50000000 := by
        have h1 := HS.out
        rw [bytesN_app]
        simp only [bytesN] at hsum ⊢
        omega
      have hres : putS l n t = joinS [] (acc ++ [(N, T)]) := by unfold putS; rw [hout]; rfl
      have HRES := Lib.hid hres
      have HO := Lib.hid hP.row
      have HB := Lib.hid hP.below
      have HF := Lib.hid hfits
      have HBS := Lib.hid hbs
      clear hd hout hsum hlow hend hfits hbs hres hP h HT
      go_wp2_with (at_builtin; refine wpList_append_own _ rfl _ _ 23 rfl w.heap.size 121 i0 (.agg #[.int .i64 0, gs []]) 2 24 Tryz.underlying23 hi hz0 hz1 hz2 rfl (by decide) _ _ _ rfl (HO.out.alloc _) ⟨wr.heap.size, 0, none⟩ 1 1 [.int .i64 N, gs T] rfl rfl (two_new _ _ _ _) (two_cell _ _ _) (by unfold maxLen; omega) (by omega) (by simp; omega) ?_)
      intro v' w1 hown' hgrow _
      have R := piece_step (p := (N, T)) HB.out hws HO.out hown' hgrow
      obtain ⟨a3, c3, rfl, hin⟩ := inPcs_row R.1 (by simp; omega) (fun p hp => ⟨by have := (HF.out p hp).1; omega, by have := (HF.out p hp).2.1; omega, (HF.out p hp).2.2⟩)
      have hjc := joinS_calls (cap := c3) hin (fun i hi => ⟨(HF.out _ (pcAt_mem' hi)).1, by have := (HF.out _ (pcAt_mem' hi)).2.1; omega⟩) HBS.out
      have hw1 := R.2.size
      have HB1 := Lib.hid R.2
      generalize (acc ++ [(N, T)]).length = nn at *
      generalize joinS [] (acc ++ [(N, T)]) = JJ at *
      have HJ := Lib.hid hjc
      clear R hin hjc hown' hgrow
      go_wp2_with fail
      refine HJ.out.mono ?_
      rintro e w2 ⟨v, rfl, hown2, hb2⟩
      have HO2 := Lib.hid (ownsRow_base hown2 hw1)
      have HB2 := Lib.hid (HB1.out.trans (hb2.mono hw1))
      clear hown2 hb2
      go_wp2_with fail
      go_ret
      exact ⟨v, rfl, by rw [HRES.out]; exact HO2.out, HB2.out⟩
end Go.Proofs.YtdcahilfmhkmiaaGreatDoor
