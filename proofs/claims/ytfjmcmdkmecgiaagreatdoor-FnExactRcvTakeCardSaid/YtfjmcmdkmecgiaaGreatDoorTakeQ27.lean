/- The law of RcvTake, region 27. -/
import Derived.Test.YtfjmcmdkmecgiaaGreatDoorPackV
namespace Go.Proofs.YtfjmcmdkmecgiaaGreatDoor
open Go.RowKit

set_option maxHeartbeats 8000000 in
set_option maxRecDepth 200000 in
theorem takeReg27 {w w12 : World} {rd ed sz cp en : Int} {pa fa : Option Addr} {pc fc : Nat} {ps : List Pc} {n : Frs} {p s d : Int} {t : List UInt8} {e : Int} {r : RcR} {R : Ending → World → Prop} {K : Act → World → Prop} {u0 u1 u4 u5 u6 u7 u8 u9 u10 u11 u12 u13 u14 u15 u16 u17 u18 u19 u20 u21 u22 u23 u24 u25 u26 u27 u28 u29 u30 u31 u32 u33 u34 u35 u36 u37 u38 u39 u40 u41 u42 u43 u44 u45 u46 u47 u48 u49 u50 u51 u52 u53 u54 u55 u56 u57 u58 u59 u60 u61 u62 u63 u64 u65 u66 u67 u68 u69 u70 u71 u72 u73 u74 u75 u76 u77 u78 u79 u80 u81 : Value} (hp : InPcs w pa ps.length ps) (hf : InFrs (fun _ => True) w fa n.length n) (wt : t.length ≤ 9223372036854775807) (hr : rcvTakeN rd ps ed sz cp en n p s d t e = r) (hb12 : Below w.heap.size w w12) (n12 : ArgB w12 w.heap.size [.int .i64 rd, .slice pa ps.length pc, .int .i64 ed, .int .i64 sz, .int .i64 cp, .int .i64 en, .slice fa n.length fc] [.int .i64 p, .int .i64 s, .int .i64 d, gs t, .int .i64 e]) (hg : EtCell w) (htz : TzTab w)
    (hK : ∀ (t65 t66 t67 t68 t69 : Value) (G : Nat) (V : World), TkOwn w12 G r V → K ⟨List.toArray (u0 :: u1 :: .pointer (some ⟨w.heap.size, 0, none⟩) :: .pointer (some ⟨w.heap.size + 1, 0, none⟩) :: u4 :: u5 :: u6 :: u7 :: u8 :: u9 :: u10 :: u11 :: .pointer (some ⟨G, 0, none⟩) :: u13 :: u14 :: u15 :: u16 :: u17 :: u18 :: u19 :: u20 :: u21 :: u22 :: u23 :: u24 :: u25 :: u26 :: u27 :: u28 :: u29 :: u30 :: u31 :: u32 :: u33 :: u34 :: u35 :: u36 :: u37 :: u38 :: u39 :: u40 :: u41 :: u42 :: u43 :: u44 :: u45 :: u46 :: u47 :: u48 :: u49 :: u50 :: u51 :: u52 :: u53 :: u54 :: u55 :: u56 :: u57 :: u58 :: u59 :: u60 :: u61 :: u62 :: u63 :: u64 :: t65 :: t66 :: t67 :: t68 :: t69 :: u70 :: u71 :: u72 :: u73 :: u74 :: u75 :: u76 :: u77 :: u78 :: u79 :: u80 :: u81 :: []), []⟩ V) :
    Code.wp Tryz.prog (Code.region 27 #[{ dst := some 65, op := Op.load 81 (Operand.tmp 2), type := 81, pos := "exact.go:2142", after := #[], guard := none }, { dst := some 66, op := Op.call { callee := Callee.value (Operand.func 52), args := #[Operand.tmp 65], argTypes := #[81] }, type := 26, pos := "exact.go:2142", after := #[{ on := 0, ground := Ground.data }], guard := none }, { dst := some 67, op := Op.load 82 (Operand.tmp 3), type := 82, pos := "exact.go:2142", after := #[], guard := none }, { dst := some 68, op := Op.call { callee := Callee.value (Operand.func 53), args := #[Operand.tmp 67], argTypes := #[82] }, type := 28, pos := "exact.go:2142", after := #[{ on := 2, ground := Ground.data }, { on := 1, ground := Ground.chain }], guard := none }, { dst := some 69, op := Op.call { callee := Callee.value (Operand.func 9), args := #[Operand.tmp 66, Operand.tmp 68], argTypes := #[26, 28] }, type := 34, pos := "exact.go:2142", after := #[{ on := 1, ground := Ground.data }, { on := 3, ground := Ground.data }, { on := 3, ground := Ground.chain }], guard := none }, { dst := some 12, op := Op.alloc 34, type := 0, pos := "exact.go:2142", after := #[], guard := none }, { dst := none, op := Op.store 34 (Operand.tmp 12) (Operand.tmp 69), type := 0, pos := "exact.go:2142", after := #[{ on := 5, ground := Ground.data }, { on := 4, ground := Ground.data }, { on := 4, ground := Ground.chain }, { on := 0, ground := Ground.phase }, { on := 1, ground := Ground.phase }, { on := 2, ground := Ground.phase }, { on := 3, ground := Ground.phase }, { on := 4, ground := Ground.phase }, { on := 5, ground := Ground.phase }], guard := none }] true) (Exit.then K (bodyPost Tryz.prog Tryz.f5 R)) ⟨List.toArray (u0 :: u1 :: .pointer (some ⟨w.heap.size, 0, none⟩) :: .pointer (some ⟨w.heap.size + 1, 0, none⟩) :: u4 :: u5 :: u6 :: u7 :: u8 :: u9 :: u10 :: u11 :: u12 :: u13 :: u14 :: u15 :: u16 :: u17 :: u18 :: u19 :: u20 :: u21 :: u22 :: u23 :: u24 :: u25 :: u26 :: u27 :: u28 :: u29 :: u30 :: u31 :: u32 :: u33 :: u34 :: u35 :: u36 :: u37 :: u38 :: u39 :: u40 :: u41 :: u42 :: u43 :: u44 :: u45 :: u46 :: u47 :: u48 :: u49 :: u50 :: u51 :: u52 :: u53 :: u54 :: u55 :: u56 :: u57 :: u58 :: u59 :: u60 :: u61 :: u62 :: u63 :: u64 :: u65 :: u66 :: u67 :: u68 :: u69 :: u70 :: u71 :: u72 :: u73 :: u74 :: u75 :: u76 :: u77 :: u78 :: u79 :: u80 :: u81 :: []), []⟩ w12 := by
  have HTO := Lib.hid (fun (W : World) (hb : Below w.heap.size w W) => toRcv_calls (rd := rd) (ed := ed) (sz := sz) (cp := cp) (en := en) (pc := pc) (fc := fc) (hp.below hb) (hf.below hb))
  unfold RcvCopied at HTO
  unfold rcvV at HTO
  have HTS := Lib.hid (fun W => toSeg_calls p s d t e W)
  unfold segV at HTS
  have HI := Lib.hid (fun (W : World) (a b : Option Addr) (S : Nat → Prop) (hp : InPcs W a ps.length ps) (hf : InFrs S W b n.length n) (hgW : EtCell W) (hzW : TzTab W) => rcvTakeI_calls (rd := rd) (ed := ed) (sz := sz) (cp := cp) (en := en) (pc := ps.length) (fc := n.length) hp hf p s d t e wt hgW hzW)
  unfold RcOwn rcvOutV at HI
  unfold rcvV segV at HI
  rw [hr] at HI
  have HB12 := Lib.hid hb12
  have N_12 := Lib.hid n12
  have HG := Lib.hid hg
  have HTZ := Lib.hid htz
  clear hp hf wt hr hb12 n12 hg htz
  have HKK := Lib.hid hK
  clear hK
  refine wp_region_held_drew (S := (fun X => Below w12.heap.size w12 X)) (by kernel_rfl) ((Below.refl _ _).drew) (fun hHeld => ?_)
  refine wpAnyH_take (i := 0) (oi := _) (v := ?v3z0) rfl (by kernel_rfl) (by kernel_rfl) (by kernel_rfl) (fun _ _ _ h => h) (Or.inl ⟨by kernel_rfl, ?hy3z0⟩) (by with_reducible assumption) ?rest3z0
  case hy3z0 => (intro w hSw; (try dsimp only at hSw); obtain ⟨c0, c1, c2, c3, c4, c5, c6⟩ := (N_12.out.one.below hSw).seven; go_simp; (try with_reducible rfl))
  (try simp only [Act.put, List.getElem_toArray, List.getElem_cons_zero, List.setIfInBounds_toArray, List.set_cons_succ, List.set_cons_zero])
  refine wpAnyH_take (i := 2) (oi := _) (v := ?v3z2) rfl (by kernel_rfl) (by kernel_rfl) (by kernel_rfl) (fun _ _ _ h => h) (Or.inl ⟨by kernel_rfl, ?hy3z2⟩) (by with_reducible assumption) ?rest3z2
  case hy3z2 => (intro w hSw; (try dsimp only at hSw); obtain ⟨e0, e1, e2, e3, e4⟩ := (N_12.out.two.below hSw).five; go_simp; (try with_reducible rfl))
  (try simp only [Act.put, List.getElem_toArray, List.getElem_cons_succ, List.getElem_cons_zero, List.setIfInBounds_toArray, List.set_cons_succ, List.set_cons_zero])
  have HC : Below w12.heap.size w12 w12.drew := (Below.refl _ _).drew
  generalize w12.drew = v0 at *
  refine wpAnyH_ready (rs := [1, 5]) (by kernel_rfl) (by simp) (AllReadyH.cons (o := _) rfl (fun K hK => ?c3zc1) (AllReadyH.cons (o := _) rfl (fun K hK => ?c3za5) AllReadyH.nil))
  case c3zc1 =>
    go_simp
    refine (HTO.out _ (HB12.out.trans (HC.mono HB12.out.size))).mono ?_
    rintro e9 v1 ⟨gp8, gf8, A8, C8, rfl, -, -, HPO, HFO, -, hbN⟩
    go_simp
    refine hK.out _ _ (HC.trans (hbN.mono HC.size)) (fun hHeld2 => ?_)
    replace HC := HC.trans (hbN.mono HC.size)
    have hszv1 := hbN.size
    clear hHeld
    have hHeld := hHeld2
    clear hK K hHeld2 hbN
    (try simp only [Act.put, List.getElem_toArray, List.getElem_cons_succ, List.getElem_cons_zero, List.setIfInBounds_toArray, List.set_cons_succ, List.set_cons_zero])
    refine wpAnyH_ready (rs := [3, 5]) (by kernel_rfl) (by simp) (AllReadyH.cons (o := _) rfl (fun K hK => ?c3zcc3) (AllReadyH.cons (o := _) rfl (fun K hK => ?c3zca5) AllReadyH.nil))
    case c3zcc3 =>
      go_simp
      refine (HTS.out _).mono ?_
      rintro e9 v2 ⟨rfl, hbN⟩
      go_simp
      refine hK.out _ _ (HC.trans (hbN.mono HC.size)) (fun hHeld2 => ?_)
      replace HC := HC.trans (hbN.mono HC.size)
      replace HPO := HPO.below hbN
      replace HFO := HFO.below hbN
      have hszv2 := hbN.size
      clear hHeld
      have hHeld := hHeld2
      clear hK K hHeld2 hbN
      (try simp only [Act.put, List.getElem_toArray, List.getElem_cons_succ, List.getElem_cons_zero, List.setIfInBounds_toArray, List.set_cons_succ, List.set_cons_zero])
      refine wpAnyH_ready (rs := [4, 5]) (by kernel_rfl) (by simp) (AllReadyH.cons (o := _) rfl (fun K hK => ?c3zccc4) (AllReadyH.cons (o := _) rfl (fun K hK => ?c3zcca5) AllReadyH.nil))
      case c3zccc4 =>
        go_simp
        refine (HI.out _ _ _ _ HPO.in' HFO.in' (HG.out.below (HB12.out.trans (HC.mono HB12.out.size))) (HTZ.out.below (HB12.out.trans (HC.mono HB12.out.size)))).mono ?_
        rintro e9 v3 ⟨pa5, pc5, fa5, fc5, A5, C5, S5, T5, rfl, HT1, HT2, HT3, HT4, HT5, hbN⟩
        have hszS := HC.size
        go_simp
        refine hK.out _ _ (HC.trans (hbN.mono HC.size)) (fun hHeld2 => ?_)
        replace HC := HC.trans (hbN.mono HC.size)
        have hszv3 := hbN.size
        clear hHeld
        have hHeld := hHeld2
        clear hK K hHeld2 hbN
        (try simp only [Act.put, List.getElem_toArray, List.getElem_cons_succ, List.getElem_cons_zero, List.setIfInBounds_toArray, List.set_cons_succ, List.set_cons_zero])
        refine wpAnyH_ready (rs := [5]) (by kernel_rfl) (by simp) (AllReadyH.cons (o := _) rfl (fun K hK => ?c3zccca5) AllReadyH.nil)
        rw [if_pos (by kernel_rfl)]
        have HA := box_new v3 [.int .i64 0, .slice none 0 0, .int .i64 0, .int .i64 0, .int .i64 0, .int .i64 0, .slice none 0 0, .int .i64 0, .int .i64 0, .int .i64 0, .int .i64 0, gs [], .bool false, .int .i64 0] 34 (by simp)
        have hbN : Below v3.heap.size v3 (v3.alloc (.cells #[.int .i64 0, .slice none 0 0, .int .i64 0, .int .i64 0, .int .i64 0, .int .i64 0, .slice none 0 0, .int .i64 0, .int .i64 0, .int .i64 0, .int .i64 0, gs [], .bool false, .int .i64 0] 34)) := (Below.refl _ _).alloc (Nat.le_refl _) _
        have hsN : (v3.alloc (.cells #[.int .i64 0, .slice none 0 0, .int .i64 0, .int .i64 0, .int .i64 0, .int .i64 0, .slice none 0 0, .int .i64 0, .int .i64 0, .int .i64 0, .int .i64 0, gs [], .bool false, .int .i64 0] 34)).heap.size = v3.heap.size + 1 := by simp
        have HGL : w12.heap.size ≤ v3.heap.size := HC.size
        go_simp
        refine hK.out _ _ (HC.trans (hbN.mono HC.size)) (fun hHeld2 => ?_)
        generalize v3.alloc (.cells #[.int .i64 0, .slice none 0 0, .int .i64 0, .int .i64 0, .int .i64 0, .int .i64 0, .slice none 0 0, .int .i64 0, .int .i64 0, .int .i64 0, .int .i64 0, gs [], .bool false, .int .i64 0] 34) = v4 at *
        replace HC := HC.trans (hbN.mono HC.size)
        replace HT1 := HT1.below hbN
        replace HT2 := HT2.below hbN
        have hszv4 := hbN.size
        clear hHeld
        have hHeld := hHeld2
        clear hK K hHeld2 hbN
        (try simp only [Act.put, List.getElem_toArray, List.getElem_cons_succ, List.getElem_cons_zero, List.setIfInBounds_toArray, List.set_cons_succ, List.set_cons_zero])
        refine wpAnyH_ready (rs := [6]) (by kernel_rfl) (by simp) (AllReadyH.cons (o := _) rfl (fun K hK => ?c3zcccas) AllReadyH.nil)
        rw [if_pos (by kernel_rfl)]
        obtain ⟨⟨d0, d1, d2, d3, d4, d5, d6⟩, d7, d8, d9, da, db, dc, dd⟩ := HA.fourteen
        obtain ⟨z0, z1, z2, z3, z4, z5, z6, z7, z8, z9, za, zb, zc, zd⟩ := HA.frz14
        have HE := tkOwn_store (pc := pc5) (fc := fc5) HA HT1 HT2 HT3 (fun b e => ⟨by have := HT4 b e; omega, by have := HT4 b e; omega, by have := HT4 b e; omega⟩) (fun b e => ⟨by have := HT5 b e; omega, by have := HT5 b e; omega, by have := HT5 b e; omega⟩) HGL HC
        have HE := Lib.hid HE
        clear HC HT1 HT2 HT3 HT4 HT5 hHeld HA
        go_simp
        refine hK.out _ _ ?_ (fun hHeld2 => ?_)
        · obtain ⟨_, _, _, _, _, _, _, _, _, _, _, _, _, _, _, hE⟩ := HE.out; exact hE
        clear hK K hHeld2 d0 d1 d2 d3 d4 d5 d6 d7 d8 d9 da db dc dd z0 z1 z2 z3 z4 z5 z6 z7 z8 z9 za zb zc zd
        (try simp only [Act.put, List.getElem_toArray, List.getElem_cons_succ, List.getElem_cons_zero, List.setIfInBounds_toArray, List.set_cons_succ, List.set_cons_zero])
        refine wpAnyH_done (by kernel_rfl) ?_ _
        exact HKK.out _ _ _ _ _ _ _ HE.out
      case c3zcca5 =>
        rw [if_pos (by kernel_rfl)]
        have HA := box_new v2 [.int .i64 0, .slice none 0 0, .int .i64 0, .int .i64 0, .int .i64 0, .int .i64 0, .slice none 0 0, .int .i64 0, .int .i64 0, .int .i64 0, .int .i64 0, gs [], .bool false, .int .i64 0] 34 (by simp)
        have hbN : Below v2.heap.size v2 (v2.alloc (.cells #[.int .i64 0, .slice none 0 0, .int .i64 0, .int .i64 0, .int .i64 0, .int .i64 0, .slice none 0 0, .int .i64 0, .int .i64 0, .int .i64 0, .int .i64 0, gs [], .bool false, .int .i64 0] 34)) := (Below.refl _ _).alloc (Nat.le_refl _) _
        have hsN : (v2.alloc (.cells #[.int .i64 0, .slice none 0 0, .int .i64 0, .int .i64 0, .int .i64 0, .int .i64 0, .slice none 0 0, .int .i64 0, .int .i64 0, .int .i64 0, .int .i64 0, gs [], .bool false, .int .i64 0] 34)).heap.size = v2.heap.size + 1 := by simp
        have HGL : w12.heap.size ≤ v2.heap.size := HC.size
        go_simp
        refine hK.out _ _ (HC.trans (hbN.mono HC.size)) (fun hHeld2 => ?_)
        generalize v2.alloc (.cells #[.int .i64 0, .slice none 0 0, .int .i64 0, .int .i64 0, .int .i64 0, .int .i64 0, .slice none 0 0, .int .i64 0, .int .i64 0, .int .i64 0, .int .i64 0, gs [], .bool false, .int .i64 0] 34) = v5 at *
        replace HC := HC.trans (hbN.mono HC.size)
        replace HPO := HPO.below hbN
        replace HFO := HFO.below hbN
        have hszv5 := hbN.size
        clear hHeld
        have hHeld := hHeld2
        clear hK K hHeld2 hbN
        (try simp only [Act.put, List.getElem_toArray, List.getElem_cons_succ, List.getElem_cons_zero, List.setIfInBounds_toArray, List.set_cons_succ, List.set_cons_zero])
        refine wpAnyH_ready (rs := [4]) (by kernel_rfl) (by simp) (AllReadyH.cons (o := _) rfl (fun K hK => ?c3zccac4) AllReadyH.nil)
        go_simp
        refine (HI.out _ _ _ _ HPO.in' HFO.in' (HG.out.below (HB12.out.trans (HC.mono HB12.out.size))) (HTZ.out.below (HB12.out.trans (HC.mono HB12.out.size)))).mono ?_
        rintro e9 v6 ⟨pa5, pc5, fa5, fc5, A5, C5, S5, T5, rfl, HT1, HT2, HT3, HT4, HT5, hbN⟩
        have hszS := HC.size
        go_simp
        refine hK.out _ _ (HC.trans (hbN.mono HC.size)) (fun hHeld2 => ?_)
        replace HC := HC.trans (hbN.mono HC.size)
        replace HA := HA.below hbN
        have hszv6 := hbN.size
        clear hHeld
        have hHeld := hHeld2
        clear hK K hHeld2 hbN
        (try simp only [Act.put, List.getElem_toArray, List.getElem_cons_succ, List.getElem_cons_zero, List.setIfInBounds_toArray, List.set_cons_succ, List.set_cons_zero])
        refine wpAnyH_ready (rs := [6]) (by kernel_rfl) (by simp) (AllReadyH.cons (o := _) rfl (fun K hK => ?c3zccacs) AllReadyH.nil)
        rw [if_pos (by kernel_rfl)]
        obtain ⟨⟨d0, d1, d2, d3, d4, d5, d6⟩, d7, d8, d9, da, db, dc, dd⟩ := HA.fourteen
        obtain ⟨z0, z1, z2, z3, z4, z5, z6, z7, z8, z9, za, zb, zc, zd⟩ := HA.frz14
        have HE := tkOwn_store (pc := pc5) (fc := fc5) HA HT1 HT2 HT3 (fun b e => ⟨by have := HT4 b e; omega, by have := HT4 b e; omega, by have := HT4 b e; omega⟩) (fun b e => ⟨by have := HT5 b e; omega, by have := HT5 b e; omega, by have := HT5 b e; omega⟩) HGL HC
        have HE := Lib.hid HE
        clear HC HT1 HT2 HT3 HT4 HT5 hHeld HA
        go_simp
        refine hK.out _ _ ?_ (fun hHeld2 => ?_)
        · obtain ⟨_, _, _, _, _, _, _, _, _, _, _, _, _, _, _, hE⟩ := HE.out; exact hE
        clear hK K hHeld2 d0 d1 d2 d3 d4 d5 d6 d7 d8 d9 da db dc dd z0 z1 z2 z3 z4 z5 z6 z7 z8 z9 za zb zc zd
        (try simp only [Act.put, List.getElem_toArray, List.getElem_cons_succ, List.getElem_cons_zero, List.setIfInBounds_toArray, List.set_cons_succ, List.set_cons_zero])
        refine wpAnyH_done (by kernel_rfl) ?_ _
        exact HKK.out _ _ _ _ _ _ _ HE.out
    case c3zca5 =>
      rw [if_pos (by kernel_rfl)]
      have HA := box_new v1 [.int .i64 0, .slice none 0 0, .int .i64 0, .int .i64 0, .int .i64 0, .int .i64 0, .slice none 0 0, .int .i64 0, .int .i64 0, .int .i64 0, .int .i64 0, gs [], .bool false, .int .i64 0] 34 (by simp)
      have hbN : Below v1.heap.size v1 (v1.alloc (.cells #[.int .i64 0, .slice none 0 0, .int .i64 0, .int .i64 0, .int .i64 0, .int .i64 0, .slice none 0 0, .int .i64 0, .int .i64 0, .int .i64 0, .int .i64 0, gs [], .bool false, .int .i64 0] 34)) := (Below.refl _ _).alloc (Nat.le_refl _) _
      have hsN : (v1.alloc (.cells #[.int .i64 0, .slice none 0 0, .int .i64 0, .int .i64 0, .int .i64 0, .int .i64 0, .slice none 0 0, .int .i64 0, .int .i64 0, .int .i64 0, .int .i64 0, gs [], .bool false, .int .i64 0] 34)).heap.size = v1.heap.size + 1 := by simp
      have HGL : w12.heap.size ≤ v1.heap.size := HC.size
      go_simp
      refine hK.out _ _ (HC.trans (hbN.mono HC.size)) (fun hHeld2 => ?_)
      generalize v1.alloc (.cells #[.int .i64 0, .slice none 0 0, .int .i64 0, .int .i64 0, .int .i64 0, .int .i64 0, .slice none 0 0, .int .i64 0, .int .i64 0, .int .i64 0, .int .i64 0, gs [], .bool false, .int .i64 0] 34) = v7 at *
      replace HC := HC.trans (hbN.mono HC.size)
      replace HPO := HPO.below hbN
      replace HFO := HFO.below hbN
      have hszv7 := hbN.size
      clear hHeld
      have hHeld := hHeld2
      clear hK K hHeld2 hbN
      (try simp only [Act.put, List.getElem_toArray, List.getElem_cons_succ, List.getElem_cons_zero, List.setIfInBounds_toArray, List.set_cons_succ, List.set_cons_zero])
      refine wpAnyH_ready (rs := [3]) (by kernel_rfl) (by simp) (AllReadyH.cons (o := _) rfl (fun K hK => ?c3zcac3) AllReadyH.nil)
      go_simp
      refine (HTS.out _).mono ?_
      rintro e9 v8 ⟨rfl, hbN⟩
      go_simp
      refine hK.out _ _ (HC.trans (hbN.mono HC.size)) (fun hHeld2 => ?_)
      replace HC := HC.trans (hbN.mono HC.size)
      replace HPO := HPO.below hbN
      replace HFO := HFO.below hbN
      replace HA := HA.below hbN
      have hszv8 := hbN.size
      clear hHeld
      have hHeld := hHeld2
      clear hK K hHeld2 hbN
      (try simp only [Act.put, List.getElem_toArray, List.getElem_cons_succ, List.getElem_cons_zero, List.setIfInBounds_toArray, List.set_cons_succ, List.set_cons_zero])
      refine wpAnyH_ready (rs := [4]) (by kernel_rfl) (by simp) (AllReadyH.cons (o := _) rfl (fun K hK => ?c3zcacc4) AllReadyH.nil)
      go_simp
      refine (HI.out _ _ _ _ HPO.in' HFO.in' (HG.out.below (HB12.out.trans (HC.mono HB12.out.size))) (HTZ.out.below (HB12.out.trans (HC.mono HB12.out.size)))).mono ?_
      rintro e9 v9 ⟨pa5, pc5, fa5, fc5, A5, C5, S5, T5, rfl, HT1, HT2, HT3, HT4, HT5, hbN⟩
      have hszS := HC.size
      go_simp
      refine hK.out _ _ (HC.trans (hbN.mono HC.size)) (fun hHeld2 => ?_)
      replace HC := HC.trans (hbN.mono HC.size)
      replace HA := HA.below hbN
      have hszv9 := hbN.size
      clear hHeld
      have hHeld := hHeld2
      clear hK K hHeld2 hbN
      (try simp only [Act.put, List.getElem_toArray, List.getElem_cons_succ, List.getElem_cons_zero, List.setIfInBounds_toArray, List.set_cons_succ, List.set_cons_zero])
      refine wpAnyH_ready (rs := [6]) (by kernel_rfl) (by simp) (AllReadyH.cons (o := _) rfl (fun K hK => ?c3zcaccs) AllReadyH.nil)
      rw [if_pos (by kernel_rfl)]
      obtain ⟨⟨d0, d1, d2, d3, d4, d5, d6⟩, d7, d8, d9, da, db, dc, dd⟩ := HA.fourteen
      obtain ⟨z0, z1, z2, z3, z4, z5, z6, z7, z8, z9, za, zb, zc, zd⟩ := HA.frz14
      have HE := tkOwn_store (pc := pc5) (fc := fc5) HA HT1 HT2 HT3 (fun b e => ⟨by have := HT4 b e; omega, by have := HT4 b e; omega, by have := HT4 b e; omega⟩) (fun b e => ⟨by have := HT5 b e; omega, by have := HT5 b e; omega, by have := HT5 b e; omega⟩) HGL HC
      have HE := Lib.hid HE
      clear HC HT1 HT2 HT3 HT4 HT5 hHeld HA
      go_simp
      refine hK.out _ _ ?_ (fun hHeld2 => ?_)
      · obtain ⟨_, _, _, _, _, _, _, _, _, _, _, _, _, _, _, hE⟩ := HE.out; exact hE
      clear hK K hHeld2 d0 d1 d2 d3 d4 d5 d6 d7 d8 d9 da db dc dd z0 z1 z2 z3 z4 z5 z6 z7 z8 z9 za zb zc zd
      (try simp only [Act.put, List.getElem_toArray, List.getElem_cons_succ, List.getElem_cons_zero, List.setIfInBounds_toArray, List.set_cons_succ, List.set_cons_zero])
      refine wpAnyH_done (by kernel_rfl) ?_ _
      exact HKK.out _ _ _ _ _ _ _ HE.out
  case c3za5 =>
    rw [if_pos (by kernel_rfl)]
    have HA := box_new v0 [.int .i64 0, .slice none 0 0, .int .i64 0, .int .i64 0, .int .i64 0, .int .i64 0, .slice none 0 0, .int .i64 0, .int .i64 0, .int .i64 0, .int .i64 0, gs [], .bool false, .int .i64 0] 34 (by simp)
    have hbN : Below v0.heap.size v0 (v0.alloc (.cells #[.int .i64 0, .slice none 0 0, .int .i64 0, .int .i64 0, .int .i64 0, .int .i64 0, .slice none 0 0, .int .i64 0, .int .i64 0, .int .i64 0, .int .i64 0, gs [], .bool false, .int .i64 0] 34)) := (Below.refl _ _).alloc (Nat.le_refl _) _
    have hsN : (v0.alloc (.cells #[.int .i64 0, .slice none 0 0, .int .i64 0, .int .i64 0, .int .i64 0, .int .i64 0, .slice none 0 0, .int .i64 0, .int .i64 0, .int .i64 0, .int .i64 0, gs [], .bool false, .int .i64 0] 34)).heap.size = v0.heap.size + 1 := by simp
    have HGL : w12.heap.size ≤ v0.heap.size := HC.size
    go_simp
    refine hK.out _ _ (HC.trans (hbN.mono HC.size)) (fun hHeld2 => ?_)
    generalize v0.alloc (.cells #[.int .i64 0, .slice none 0 0, .int .i64 0, .int .i64 0, .int .i64 0, .int .i64 0, .slice none 0 0, .int .i64 0, .int .i64 0, .int .i64 0, .int .i64 0, gs [], .bool false, .int .i64 0] 34) = v10 at *
    replace HC := HC.trans (hbN.mono HC.size)
    have hszv10 := hbN.size
    clear hHeld
    have hHeld := hHeld2
    clear hK K hHeld2 hbN
    (try simp only [Act.put, List.getElem_toArray, List.getElem_cons_succ, List.getElem_cons_zero, List.setIfInBounds_toArray, List.set_cons_succ, List.set_cons_zero])
    refine wpAnyH_ready (rs := [1]) (by kernel_rfl) (by simp) (AllReadyH.cons (o := _) rfl (fun K hK => ?c3zac1) AllReadyH.nil)
    go_simp
    refine (HTO.out _ (HB12.out.trans (HC.mono HB12.out.size))).mono ?_
    rintro e9 v11 ⟨gp8, gf8, A8, C8, rfl, -, -, HPO, HFO, -, hbN⟩
    go_simp
    refine hK.out _ _ (HC.trans (hbN.mono HC.size)) (fun hHeld2 => ?_)
    replace HC := HC.trans (hbN.mono HC.size)
    replace HA := HA.below hbN
    have hszv11 := hbN.size
    clear hHeld
    have hHeld := hHeld2
    clear hK K hHeld2 hbN
    (try simp only [Act.put, List.getElem_toArray, List.getElem_cons_succ, List.getElem_cons_zero, List.setIfInBounds_toArray, List.set_cons_succ, List.set_cons_zero])
    refine wpAnyH_ready (rs := [3]) (by kernel_rfl) (by simp) (AllReadyH.cons (o := _) rfl (fun K hK => ?c3zacc3) AllReadyH.nil)
    go_simp
    refine (HTS.out _).mono ?_
    rintro e9 v12 ⟨rfl, hbN⟩
    go_simp
    refine hK.out _ _ (HC.trans (hbN.mono HC.size)) (fun hHeld2 => ?_)
    replace HC := HC.trans (hbN.mono HC.size)
    replace HPO := HPO.below hbN
    replace HFO := HFO.below hbN
    replace HA := HA.below hbN
    have hszv12 := hbN.size
    clear hHeld
    have hHeld := hHeld2
    clear hK K hHeld2 hbN
    (try simp only [Act.put, List.getElem_toArray, List.getElem_cons_succ, List.getElem_cons_zero, List.setIfInBounds_toArray, List.set_cons_succ, List.set_cons_zero])
    refine wpAnyH_ready (rs := [4]) (by kernel_rfl) (by simp) (AllReadyH.cons (o := _) rfl (fun K hK => ?c3zaccc4) AllReadyH.nil)
    go_simp
    refine (HI.out _ _ _ _ HPO.in' HFO.in' (HG.out.below (HB12.out.trans (HC.mono HB12.out.size))) (HTZ.out.below (HB12.out.trans (HC.mono HB12.out.size)))).mono ?_
    rintro e9 v13 ⟨pa5, pc5, fa5, fc5, A5, C5, S5, T5, rfl, HT1, HT2, HT3, HT4, HT5, hbN⟩
    have hszS := HC.size
    go_simp
    refine hK.out _ _ (HC.trans (hbN.mono HC.size)) (fun hHeld2 => ?_)
    replace HC := HC.trans (hbN.mono HC.size)
    replace HA := HA.below hbN
    have hszv13 := hbN.size
    clear hHeld
    have hHeld := hHeld2
    clear hK K hHeld2 hbN
    (try simp only [Act.put, List.getElem_toArray, List.getElem_cons_succ, List.getElem_cons_zero, List.setIfInBounds_toArray, List.set_cons_succ, List.set_cons_zero])
    refine wpAnyH_ready (rs := [6]) (by kernel_rfl) (by simp) (AllReadyH.cons (o := _) rfl (fun K hK => ?c3zacccs) AllReadyH.nil)
    rw [if_pos (by kernel_rfl)]
    obtain ⟨⟨d0, d1, d2, d3, d4, d5, d6⟩, d7, d8, d9, da, db, dc, dd⟩ := HA.fourteen
    obtain ⟨z0, z1, z2, z3, z4, z5, z6, z7, z8, z9, za, zb, zc, zd⟩ := HA.frz14
    have HE := tkOwn_store (pc := pc5) (fc := fc5) HA HT1 HT2 HT3 (fun b e => ⟨by have := HT4 b e; omega, by have := HT4 b e; omega, by have := HT4 b e; omega⟩) (fun b e => ⟨by have := HT5 b e; omega, by have := HT5 b e; omega, by have := HT5 b e; omega⟩) HGL HC
    have HE := Lib.hid HE
    clear HC HT1 HT2 HT3 HT4 HT5 hHeld HA
    go_simp
    refine hK.out _ _ ?_ (fun hHeld2 => ?_)
    · obtain ⟨_, _, _, _, _, _, _, _, _, _, _, _, _, _, _, hE⟩ := HE.out; exact hE
    clear hK K hHeld2 d0 d1 d2 d3 d4 d5 d6 d7 d8 d9 da db dc dd z0 z1 z2 z3 z4 z5 z6 z7 z8 z9 za zb zc zd
    (try simp only [Act.put, List.getElem_toArray, List.getElem_cons_succ, List.getElem_cons_zero, List.setIfInBounds_toArray, List.set_cons_succ, List.set_cons_zero])
    refine wpAnyH_done (by kernel_rfl) ?_ _
    exact HKK.out _ _ _ _ _ _ _ HE.out
end Go.Proofs.YtfjmcmdkmecgiaaGreatDoor
