/- Small texts laid together: TakeMemI, TakeI. -/
import Derived.Test.YtdcahilfmhkmiaaGreatDoorPackT
import Derived.Test.YtdcahilfmhkmiaaGreatDoorRcvM
import Derived.Test.YtdcahilfmhkmiaaGreatDoorInside
import Derived.Test.YtdcahilfmhkmiaaGreatDoorTakeB
import Derived.Test.YtdcahilfmhkmiaaGreatDoorTake6
import Derived.Test.YtdcahilfmhkmiaaGreatDoorPutI

namespace Go.Proofs.YtdcahilfmhkmiaaGreatDoor
open Go.RowKit

/-- A From is written over whole, its row new. -/
theorem FrsOwn.from_put {S T : Nat → Prop} {w : World} {b len i B : Nat} {n : Frs} {A : Nat → Option Addr} {C : Nat → Nat} (h : FrsOwn S w (some ⟨b, 0, none⟩) len n A C) (hil : i < len) {W : Int} {a : Option Addr} {c : Nat} {t : Lg}
    (hf : FarM w B (.slice a t.length c) t) (hW : I64 W) (hS : ∀ b', S b' → b' < B) (hST : ∀ b', S b' → T b') (hT : ∀ b', B ≤ b' → b' < w.heap.size → T b') :
    ∃ A' C', FrsOwn T ((w.setCell ⟨b, i * 2, none⟩ (.int .i64 W)).setCell ⟨b, i * 2 + 1, none⟩ (.slice a t.length c)) (some ⟨b, 0, none⟩) len (n.set i (W, t)) A' C' := by
  have hlen := h.long
  have hbl : LgB (some ⟨b, 0, none⟩) len b := ⟨by omega, 0, rfl⟩
  have hbB := hS b (h.blk b hbl)
  have h1 := h.want_set hil hW
  rw [Nat.zero_add] at h1
  have hat : ∀ j, frAt (n.set i (W, (frAt n i).2)) j = if j = i then (W, (frAt n i).2) else frAt n j := fun j => frAt_set (by omega)
  have hl2 : ∀ j, (frAt (n.set i (W, (frAt n i).2)) j).2 = (frAt n j).2 := fun j => by
    rw [hat]; split
    · rename_i e; rw [e]
    · rfl
  have hset : (n.set i (W, (frAt n i).2)).set i ((frAt (n.set i (W, (frAt n i).2)) i).1, t) = n.set i (W, t) := by
    rw [hat, if_pos rfl, List.set_set]
  have hlb : ∀ b', LgB a t.length b' → B ≤ b' ∧ b' < w.heap.size := fun b' hb' => by
    obtain ⟨hl, o, e⟩ := hb'
    exact hf.own.lt b' (by rw [e]; simp [Value.ownBlock])
  have hrow : InLg w a t.length t ∧ LgFree w a t.length ∧ t.length ≤ c := by
    have hown := hf.own
    rcases hown.2 with ⟨e, h0⟩ | ⟨g, cap, cur, e, hbg, hgg, hrest⟩
    · have ht : t = [] := List.eq_nil_of_length_eq_zero h0
      subst ht
      exact ⟨inLg_nil, lgFree_nil, by simp⟩
    · injection e with e1 e2 e3
      subst e1
      subst e3
      have hin := lg_own hown (by have := hf.few; omega) (fun i hi => hf.num.at hi)
      refine ⟨hin.1, ?_, ?_⟩
      · intro b' o e j hj
        cases e
        rw [Nat.zero_add]
        exact hown.frozenAt j
      · exact hrest.1
  have h2 := h1.late_put (T := T) (by omega : i < len) (x' := a) (c' := c) (t := t) (hrow.1.blk (fun b' hb' => Below.heap_setCell _ _ _ _ (by have := hlb b' hb'; show b' ≠ b; omega))) (hrow.2.1.set _ _)
    (fun b' hb' => ⟨hT b' (hlb b' hb').1 (hlb b' hb').2, by have := hlb b' hb'; omega, fun j hj hji hb'' => by
      rw [hl2] at hb''
      have := hS b' (h.lblk j hj b' hb'').1
      have := hlb b' hb'
      omega⟩) hST hrow.2.2
  rw [hset, Nat.zero_add] at h2
  exact ⟨_, _, h2⟩
end Go.Proofs.YtdcahilfmhkmiaaGreatDoor

namespace Go.Proofs.YtdcahilfmhkmiaaGreatDoor
open Go.RowKit

theorem TzTab.kept {w w' : World} (h : TzTab w) (hb : w'.heap[1]? = w.heap[1]?) : TzTab w' := fun j hj => (World.cell?_of_block (a := ⟨1, j, none⟩) hb).trans (h j hj)
theorem late_times {f : Fr} (h : fromOk f) : Up f.2 ∧ Times f.2 ∧ (∀ x ∈ f.2, f.1 < x) ∧ f.2.length ≤ 8 ∧ 0 ≤ f.1 ∧ f.1 ≤ 1000000 := by
  obtain ⟨hw, h8, hl⟩ := h
  have hm : ∀ x ∈ f.2, ∃ k, k < f.2.length ∧ lgAt f.2 k = x := fun x hx => by
    obtain ⟨k, hk, e⟩ := List.getElem_of_mem hx
    exact ⟨k, hk, by rw [lgAt_get hk, e]⟩
  refine ⟨?_, fun x hx => ?_, fun x hx => ?_, h8, hw⟩
  · have hst : ∀ j i, i < j → j < f.2.length → lgAt f.2 i < lgAt f.2 j := by
      intro j
      induction j with
      | zero => intro i hi; omega
      | succ j ih =>
        intro i hi hj
        have hs := (hl (j + 1) hj).2.2 (by omega)
        rw [Nat.add_sub_cancel] at hs
        by_cases e : i = j
        · rw [e]; exact hs
        · have := ih i (by omega) (by omega)
          omega
    refine List.pairwise_iff_getElem.2 fun i j hi hj hij => ?_
    have := hst j i hij hj
    rwa [lgAt_get hi, lgAt_get hj] at this
  · obtain ⟨k, hk, rfl⟩ := hm x hx
    exact (hl k hk).2.1
  · obtain ⟨k, hk, rfl⟩ := hm x hx
    exact (hl k hk).1
theorem inText_len (rd ed d : Int) (t : List UInt8) : (inText rd ed d t).length ≤ t.length := by
  unfold inText
  split
  · rw [List.length_take, List.length_drop]; omega
  · simp
theorem runN_fit : ∀ (l : Lg) (k : Int), (runN k l).2.length ≤ l.length ∧ (∀ x ∈ (runN k l).2, x ∈ l) ∧ k ≤ (runN k l).1 ∧ (runN k l).1 ≤ k + (l.length : Int)
  | [], k => by simp [runN]
  | x :: l, k => by
    obtain ⟨h1, h2, h3, h4⟩ := runN_fit l (k + 1)
    rw [runN_cons]
    split
    · exact ⟨by simp; omega, fun y hy => List.mem_cons_of_mem _ (h2 y hy), by omega, by simp; omega⟩
    · exact ⟨Nat.le_refl _, fun y hy => hy, Int.le_refl _, by simp; omega⟩
theorem subN_fit {W s : Int} {l : Lg} (hu : Up l) (h8 : l.length ≤ 8) (hn : Times l) (hW : 0 ≤ W ∧ W ≤ 1000000) (hs : 0 ≤ s ∧ s ≤ 1000000) : (subN (W, l) s).2.length ≤ 100 ∧ (0 ≤ (subN (W, l) s).1 ∧ (subN (W, l) s).1 ≤ 2000000) ∧ Times (subN (W, l) s).2 := by
  by_cases e : s = W
  · obtain ⟨h1, h2, h3, h4⟩ := runN_fit l (W + 1)
    unfold subN
    rw [if_pos e]
    exact ⟨by show (runN (W + 1) l).2.length ≤ 100; omega, ⟨by show 0 ≤ (runN (W + 1) l).1; omega, by show (runN (W + 1) l).1 ≤ 2000000; omega⟩, fun x hx => hn x (h2 x hx)⟩
  · rw [subN_ins hu e]
    split
    · refine ⟨?_, ⟨by show 0 ≤ W; omega, by show W ≤ 2000000; omega⟩, hn.ins hs⟩
      show (insN s l).length ≤ 100
      unfold insN
      split
      · omega
      · simp only [List.length_append, List.length_cons, List.length_take, List.length_drop]; omega
    · exact ⟨by show l.length ≤ 100; omega, ⟨by show 0 ≤ W; omega, by show W ≤ 2000000; omega⟩, hn⟩
theorem lastN_pos {rd : Int} {l : List Pc} (h : right l) (hrd : 0 ≤ rd) : 0 ≤ lastN rd l := by
  unfold lastN
  split
  · exact hrd
  · have := (h.2 (l.length - 1) (by omega)).2.1
    unfold pcEnd
    omega
/-- Three cells, behind a call that keeps what lies below B. -/
theorem keepT {w w' : World} {B g q : Nat} {x y z : Value} (hb : Below B w w') (hg : g < B) (hq : q < B) (h : w.cell? ⟨g, 6, none⟩ = some x ∧ w.cell? ⟨q, 0, none⟩ = some y ∧ w.cell? ⟨q, 1, none⟩ = some z) :
    w'.cell? ⟨g, 6, none⟩ = some x ∧ w'.cell? ⟨q, 0, none⟩ = some y ∧ w'.cell? ⟨q, 1, none⟩ = some z :=
  ⟨(hb.cell (p := ⟨g, 6, none⟩) hg).trans h.1, (hb.cell (p := ⟨q, 0, none⟩) hq).trans h.2.1, (hb.cell (p := ⟨q, 1, none⟩) hq).trans h.2.2⟩
theorem setT {w : World} {b i j g q : Nat} {u v x y z : Value} (hg : b ≠ g) (hq : b ≠ q) (h : w.cell? ⟨g, 6, none⟩ = some x ∧ w.cell? ⟨q, 0, none⟩ = some y ∧ w.cell? ⟨q, 1, none⟩ = some z) :
    ((w.setCell ⟨b, i, none⟩ u).setCell ⟨b, j, none⟩ v).cell? ⟨g, 6, none⟩ = some x ∧ ((w.setCell ⟨b, i, none⟩ u).setCell ⟨b, j, none⟩ v).cell? ⟨q, 0, none⟩ = some y ∧ ((w.setCell ⟨b, i, none⟩ u).setCell ⟨b, j, none⟩ v).cell? ⟨q, 1, none⟩ = some z :=
  have c {k o : Nat} {x : Value} (hk : b ≠ k) (h : w.cell? ⟨k, o, none⟩ = some x) : ((w.setCell ⟨b, i, none⟩ u).setCell ⟨b, j, none⟩ v).cell? ⟨k, o, none⟩ = some x :=
    (World.cell?_setCell_other _ _ _ _ (fun e => hk (by injection e))).trans ((World.cell?_setCell_other _ _ _ _ (fun e => hk (by injection e))).trans h)
  ⟨c hg h.1, c hq h.2.1, c hq h.2.2⟩
/-- What take answers, and leaves. -/
def TakeEnd (w : World) (S : Nat → Prop) (g gf fl fc : Nat) (rd ed sz cp p : Int) (R : RcR) (x : Ending) (w' : World) : Prop :=
  Kept (fun b => b = g ∨ b = gf) w w' ∧ ((∃ c, R = rcBad c ∧ x = .returned (faultV c)) ∨ (∃ (ps : List Pc) (en : Int) (n : Frs), R = ⟨rd, ps, ed, sz, cp, en, n, p, (frAt n p.toNat).1, rd + ((fromN ps rd).length : Int), ed, [], false, 0⟩ ∧ rcvOk rd ps ed sz cp en n ∧ x = .returned .nilIface ∧ 0 ≤ p ∧ p < (n.length : Int) ∧
    ∃ qa qc q A C, Box w' g [.int .i64 rd, .int .i64 ed, .int .i64 sz, .int .i64 cp, .slice qa ps.length qc, .int .i64 en, .slice (some ⟨gf, 0, none⟩) fl fc] ∧ PcsOwn (fun b => w.heap.size ≤ b ∧ b < q) w' qa ps.length ps ∧
      FrsOwn (fun b => S b ∨ (q ≤ b ∧ b < w'.heap.size)) w' (some ⟨gf, 0, none⟩) fl n A C ∧ w.heap.size ≤ q ∧ q ≤ w'.heap.size))
set_option maxHeartbeats 8000000 in
set_option maxRecDepth 100000 in
theorem takeGood_calls {S : Nat → Prop} {w : World} {g gf fl fc : Nat} {rd ed sz cp en : Int} {pa : Option Addr} {pl pc : Nat} {ps : List Pc} {n : Frs} {A : Nat → Option Addr} {C : Nat → Nat} (hx : Box w g [.int .i64 rd, .int .i64 ed, .int .i64 sz, .int .i64 cp, .slice pa pl pc, .int .i64 en, .slice (some ⟨gf, 0, none⟩) fl fc])
    (hp : InPcs w pa pl ps) (hf : FrsOwn S w (some ⟨gf, 0, none⟩) fl n A C) (hS : ∀ b, S b → b < w.heap.size ∧ b ≠ g) (hok : rcvOk rd ps ed sz cp en n)
    (pk : Nat) (s d : Int) (t : List UInt8) (e : Int) (hs : segOk (pk : Int) s d t e) (hpk : pk < n.length) (hTab : TzTab w) (hGg : 1 ≠ g ∧ 1 ≠ gf) :
    Calls Tryz.prog 64 #[.pointer (some ⟨g, 0, none⟩), segV (pk : Int) s d t e] w (TakeEnd w S g gf fl fc rd ed sz cp (pk : Int) (takeN rd ps ed sz cp en n (pk : Int) s d t e)) := by
  have hfl := hf.long
  have hpl := hp.long
  have hgw := hx.lt
  have hgf : gf ≠ g ∧ gf < w.heap.size := ⟨(hS gf (hf.blk gf ⟨by omega, 0, rfl⟩)).2, hf.lt ⟨by omega, 0, rfl⟩⟩
  obtain ⟨hrd, hed, hcp, hsz, hrt, -, -, -, hen, hfr, hfu⟩ := id hok
  obtain ⟨⟨hp0, hs0, hd0⟩, ht16, he⟩ := id hs
  have hR : takeN rd ps ed sz cp en n (pk : Int) s d t e = (if (takePs rd ps ed d t).2 ≠ 0 then rcBad 9 else if rcvOk rd (takePs rd ps ed d t).1 ed sz cp (takeEn rd (takePs rd ps ed d t).1 en e) (n.set pk (subN (frAt n pk) s)) then
    ⟨rd, (takePs rd ps ed d t).1, ed, sz, cp, takeEn rd (takePs rd ps ed d t).1 en e, n.set pk (subN (frAt n pk) s), (pk : Int), (frAt (n.set pk (subN (frAt n pk) s)) pk).1, rd + ((fromN (takePs rd ps ed d t).1 rd).length : Int), ed, [], false, 0⟩ else rcBad 9) := by
    unfold takeN
    simp only [Int.toNat_natCast]
  generalize takeN rd ps ed sz cp en n (pk : Int) s d t e = R at *
  have HR := Lib.hid hR
  clear hR
  have hLT := late_times (hfu pk (by omega))
  have HLT := Lib.hid hLT
  have h1 := fun V => segRightI_calls (pk : Int) s d t e V (by omega)
  rw [decide_eq_true hs] at h1
  have H1 := Lib.hid h1
  have h2 := fun V => hasPath_calls (rd := rd) (ed := ed) (sz := sz) (cp := cp) (en := en) (pa := pa) (fa := some ⟨gf, 0, none⟩) (pl := pl) (pc := pc) (fl := fl) (fc := fc) (pk : Int) V
  rw [decide_eq_true (show 0 ≤ (pk : Int) ∧ (pk : Int) < (fl : Int) by omega)] at h2
  unfold readerV at h2
  have H2 := Lib.hid h2
  have h3 := fun V => inside_calls rd ed sz cp d t V hrd hed hd0 ht16
  unfold roomV at h3
  have H3 := Lib.hid h3
  have hby := rcv_bytes hok
  have hpi := put_inside (ed := ed) (d := d) (t := t) hrt hrd
  have htl := inText_len rd ed d t
  have h4 := fun (V : World) (hb : Below w.heap.size w V) => putRI_calls (cap := pc) (hp.below hb) (inAt rd ed d t) (inText rd ed d t) (by omega) (by omega)
  have hpf := putR_len (l := ps) (inAt rd ed d t) (inText rd ed d t) (by omega)
  have hpr := fun h => putR_right (l := ps) (n := inAt rd ed d t) (t := inText rd ed d t) h
  rw [hpi] at h4 hpf hpr
  generalize takePs rd ps ed d t = P at *
  generalize inAt rd ed d t = at0 at *
  generalize inText rd ed d t = x0 at *
  have H4 := Lib.hid h4
  have HPF := Lib.hid hpf
  have HPR := Lib.hid hpr
  have HF := Lib.hid hf
  have HX := Lib.hid hx
  have HTAB := Lib.hid hTab
  have HS := Lib.hid hS
  have hpkf : (pk : Int) < (fl : Int) := by omega
  clear hpi htl h1 h2 h3 h4 hpf hpr hf hx hp hTab hS hok hs hby hfu hLT hen hrt
  unfold segV at *
  go_enter Tryz.func64, Tryz.ntmps64
  go_wp2_with fail
  have b1 : Below w.heap.size w (w.alloc (.cells #[.int .i64 (pk : Int), .int .i64 s, .int .i64 d, gs t, .int .i64 e] 28)) := (Below.refl _ _).alloc (Nat.le_refl _) _
  have n1 := box_new w [.int .i64 (pk : Int), .int .i64 s, .int .i64 d, gs t, .int .i64 e] 28 (by simp)
  (with_reducible refine (H1.out _).mono ?_); rintro x w1 ⟨rfl, hb⟩
  have HB := Lib.hid (b1.trans (hb.mono b1.size))
  have HN := Lib.hid (n1.below hb)
  have HY := Lib.hid (HX.out.below HB.out)
  clear b1 n1 hb H1
  obtain ⟨c0, c1, c2, c3, c4, c5, c6⟩ := HY.out.seven
  obtain ⟨e0, e1, e2, e3, e4⟩ := HN.out.five
  go_wp2_with fail
  refine wp_region_held_drew (S := (fun X => (X.cell? ⟨g, 0, none⟩ = some (.int .i64 rd) ∧ X.cell? ⟨g, 1, none⟩ = some (.int .i64 ed) ∧ X.cell? ⟨g, 2, none⟩ = some (.int .i64 sz) ∧ X.cell? ⟨g, 3, none⟩ = some (.int .i64 cp) ∧ X.cell? ⟨g, 4, none⟩ = some (.slice pa pl pc) ∧ X.cell? ⟨g, 5, none⟩ = some (.int .i64 en) ∧ X.cell? ⟨g, 6, none⟩ = some (.slice (some ⟨gf, 0, none⟩) fl fc)) ∧ (X.cell? ⟨w.heap.size, 0, none⟩ = some (.int .i64 (pk : Int)) ∧ X.cell? ⟨w.heap.size, 1, none⟩ = some (.int .i64 s) ∧ X.cell? ⟨w.heap.size, 2, none⟩ = some (.int .i64 d) ∧ X.cell? ⟨w.heap.size, 3, none⟩ = some (gs t) ∧ X.cell? ⟨w.heap.size, 4, none⟩ = some (.int .i64 e)))) (by kernel_rfl) (⟨⟨c0, c1, c2, c3, c4, c5, c6⟩, e0, e1, e2, e3, e4⟩) (fun hHeld => ?_)
  refine wpAnyH_take (i := 0) (oi := _) (v := ?v1x0) rfl (by kernel_rfl) (by kernel_rfl) (by kernel_rfl) (fun _ _ _ h => h) (Or.inl ⟨by kernel_rfl, ?hy1x0⟩) (by with_reducible assumption) ?rest1x0
  case hy1x0 => (intro w hSw; (try dsimp only at hSw); go_simp; (try with_reducible rfl))
  (try simp only [Act.put, List.getElem_toArray, List.getElem_cons_zero, List.setIfInBounds_toArray, List.set_cons_succ, List.set_cons_zero])
  refine wpAnyH_take (i := 1) (oi := _) (v := ?v1x1) rfl (by kernel_rfl) (by kernel_rfl) (by kernel_rfl) (fun _ _ _ h => h) (Or.inl ⟨by kernel_rfl, ?hy1x1⟩) (by with_reducible assumption) ?rest1x1
  case hy1x1 => (intro w hSw; (try dsimp only at hSw); go_simp; (try with_reducible rfl))
  (try simp only [Act.put, List.getElem_toArray, List.getElem_cons_succ, List.getElem_cons_zero, List.setIfInBounds_toArray, List.set_cons_succ, List.set_cons_zero])
  refine wpAnyH_take (i := 2) (oi := _) (v := ?v1x2) rfl (by kernel_rfl) (by kernel_rfl) (by kernel_rfl) (fun _ _ _ h => h) (Or.inl ⟨by kernel_rfl, ?hy1x2⟩) (by with_reducible assumption) ?rest1x2
  case hy1x2 => (intro w hSw; (try dsimp only at hSw); go_simp; (try with_reducible rfl))
  (try simp only [Act.put, List.getElem_toArray, List.getElem_cons_succ, List.getElem_cons_zero, List.setIfInBounds_toArray, List.set_cons_succ, List.set_cons_zero])
  refine wpAnyH_take (i := 3) (oi := _) (v := ?v1x3) rfl (by kernel_rfl) (by kernel_rfl) (by kernel_rfl) (fun _ _ _ h => h) (Or.inl ⟨by kernel_rfl, ?hy1x3⟩) (by with_reducible assumption) ?rest1x3
  case hy1x3 => (intro w hSw; (try dsimp only at hSw); go_simp; (try with_reducible rfl))
  (try simp only [Act.put, List.getElem_toArray, List.getElem_cons_succ, List.getElem_cons_zero, List.setIfInBounds_toArray, List.set_cons_succ, List.set_cons_zero])
  refine wpAnyH_take (i := 4) (oi := _) (v := ?v1x4) rfl (by kernel_rfl) (by kernel_rfl) (by kernel_rfl) (fun _ _ _ h => h) (Or.inl ⟨by kernel_rfl, ?hy1x4⟩) (by with_reducible assumption) ?rest1x4
  case hy1x4 => (intro w hSw; (try dsimp only at hSw); go_simp; (try with_reducible rfl))
  (try simp only [Act.put, List.getElem_toArray, List.getElem_cons_succ, List.getElem_cons_zero, List.setIfInBounds_toArray, List.set_cons_succ, List.set_cons_zero])
  refine wpAnyH_ready (rs := [5]) (by kernel_rfl) (by simp) (AllReadyH.cons (o := _) rfl (fun K hK => ?c1x5) AllReadyH.nil)
  go_simp
  refine (H2.out _).mono ?_
  rintro e9 w2 ⟨rfl, hb9⟩
  have HZ := Lib.hid (((Below.refl w1.heap.size w1).drew).trans hb9)
  have hbz := HB.out.trans (HZ.out.mono HB.out.size)
  have hnz := HN.out.below HZ.out
  have hyz := HY.out.below HZ.out
  clear hb9
  replace HB := Lib.hid hbz
  replace HN := Lib.hid hnz
  replace HY := Lib.hid hyz
  clear hbz hnz hyz
  go_simp
  refine hK.out _ _ (⟨HY.out.seven, HN.out.five⟩) (fun hHeld2 => ?_)
  clear hHeld
  have hHeld := hHeld2
  clear hK K hHeld2
  (try simp only [Act.put, List.getElem_toArray, List.getElem_cons_succ, List.getElem_cons_zero, List.setIfInBounds_toArray, List.set_cons_succ, List.set_cons_zero])
  refine wpAnyH_take (i := 6) (oi := _) (v := ?v1x6) rfl (by kernel_rfl) (by kernel_rfl) (by kernel_rfl) (fun _ _ _ h => h) (Or.inl ⟨by kernel_rfl, ?hy1x6⟩) (by with_reducible assumption) ?rest1x6
  case hy1x6 => (intro w hSw; (try dsimp only at hSw); go_simp; (try with_reducible rfl))
  (try simp only [Act.put, List.getElem_toArray, List.getElem_cons_succ, List.getElem_cons_zero, List.setIfInBounds_toArray, List.set_cons_succ, List.set_cons_zero])
  refine wpAnyH_done (by kernel_rfl) ?_ _
  clear c0 c1 c2 c3 c4 c5 c6 e0 e1 e2 e3 e4 HZ hHeld H2
  obtain ⟨c0, c1, c2, c3, c4, c5, c6⟩ := HY.out.seven
  obtain ⟨e0, e1, e2, e3, e4⟩ := HN.out.five
  go_wp2_with fail
  refine wp_region_held_drew (S := (fun X => (X.cell? ⟨g, 0, none⟩ = some (.int .i64 rd) ∧ X.cell? ⟨g, 1, none⟩ = some (.int .i64 ed) ∧ X.cell? ⟨g, 2, none⟩ = some (.int .i64 sz) ∧ X.cell? ⟨g, 3, none⟩ = some (.int .i64 cp) ∧ X.cell? ⟨g, 4, none⟩ = some (.slice pa pl pc) ∧ X.cell? ⟨g, 5, none⟩ = some (.int .i64 en) ∧ X.cell? ⟨g, 6, none⟩ = some (.slice (some ⟨gf, 0, none⟩) fl fc)) ∧ (X.cell? ⟨w.heap.size, 0, none⟩ = some (.int .i64 (pk : Int)) ∧ X.cell? ⟨w.heap.size, 1, none⟩ = some (.int .i64 s) ∧ X.cell? ⟨w.heap.size, 2, none⟩ = some (.int .i64 d) ∧ X.cell? ⟨w.heap.size, 3, none⟩ = some (gs t) ∧ X.cell? ⟨w.heap.size, 4, none⟩ = some (.int .i64 e)))) (by kernel_rfl) (⟨⟨c0, c1, c2, c3, c4, c5, c6⟩, e0, e1, e2, e3, e4⟩) (fun hHeld => ?_)
  refine wpAnyH_take (i := 0) (oi := _) (v := ?v2x0) rfl (by kernel_rfl) (by kernel_rfl) (by kernel_rfl) (fun _ _ _ h => h) (Or.inl ⟨by kernel_rfl, ?hy2x0⟩) (by with_reducible assumption) ?rest2x0
  case hy2x0 => (intro w hSw; (try dsimp only at hSw); go_simp; (try with_reducible rfl))
  (try simp only [Act.put, List.getElem_toArray, List.getElem_cons_zero, List.setIfInBounds_toArray, List.set_cons_succ, List.set_cons_zero])
  refine wpAnyH_take (i := 1) (oi := _) (v := ?v2x1) rfl (by kernel_rfl) (by kernel_rfl) (by kernel_rfl) (fun _ _ _ h => h) (Or.inl ⟨by kernel_rfl, ?hy2x1⟩) (by with_reducible assumption) ?rest2x1
  case hy2x1 => (intro w hSw; (try dsimp only at hSw); go_simp; (try with_reducible rfl))
  (try simp only [Act.put, List.getElem_toArray, List.getElem_cons_succ, List.getElem_cons_zero, List.setIfInBounds_toArray, List.set_cons_succ, List.set_cons_zero])
  refine wpAnyH_take (i := 2) (oi := _) (v := ?v2x2) rfl (by kernel_rfl) (by kernel_rfl) (by kernel_rfl) (fun _ _ _ h => h) (Or.inl ⟨by kernel_rfl, ?hy2x2⟩) (by with_reducible assumption) ?rest2x2
  case hy2x2 => (intro w hSw; (try dsimp only at hSw); go_simp; (try with_reducible rfl))
  (try simp only [Act.put, List.getElem_toArray, List.getElem_cons_succ, List.getElem_cons_zero, List.setIfInBounds_toArray, List.set_cons_succ, List.set_cons_zero])
  refine wpAnyH_take (i := 3) (oi := _) (v := ?v2x3) rfl (by kernel_rfl) (by kernel_rfl) (by kernel_rfl) (fun _ _ _ h => h) (Or.inl ⟨by kernel_rfl, ?hy2x3⟩) (by with_reducible assumption) ?rest2x3
  case hy2x3 => (intro w hSw; (try dsimp only at hSw); go_simp; (try with_reducible rfl))
  (try simp only [Act.put, List.getElem_toArray, List.getElem_cons_succ, List.getElem_cons_zero, List.setIfInBounds_toArray, List.set_cons_succ, List.set_cons_zero])
  refine wpAnyH_take (i := 4) (oi := _) (v := ?v2x4) rfl (by kernel_rfl) (by kernel_rfl) (by kernel_rfl) (fun _ _ _ h => h) (Or.inl ⟨by kernel_rfl, ?hy2x4⟩) (by with_reducible assumption) ?rest2x4
  case hy2x4 => (intro w hSw; (try dsimp only at hSw); go_simp; (try with_reducible rfl))
  (try simp only [Act.put, List.getElem_toArray, List.getElem_cons_succ, List.getElem_cons_zero, List.setIfInBounds_toArray, List.set_cons_succ, List.set_cons_zero])
  refine wpAnyH_take (i := 5) (oi := _) (v := ?v2x5) rfl (by kernel_rfl) (by kernel_rfl) (by kernel_rfl) (fun _ _ _ h => h) (Or.inl ⟨by kernel_rfl, ?hy2x5⟩) (by with_reducible assumption) ?rest2x5
  case hy2x5 => (intro w hSw; (try dsimp only at hSw); go_simp; (try with_reducible rfl))
  (try simp only [Act.put, List.getElem_toArray, List.getElem_cons_succ, List.getElem_cons_zero, List.setIfInBounds_toArray, List.set_cons_succ, List.set_cons_zero])
  refine wpAnyH_take (i := 6) (oi := _) (v := ?v2x6) rfl (by kernel_rfl) (by kernel_rfl) (by kernel_rfl) (fun _ _ _ h => h) (Or.inl ⟨by kernel_rfl, ?hy2x6⟩) (by with_reducible assumption) ?rest2x6
  case hy2x6 => (intro w hSw; (try dsimp only at hSw); go_simp; (try with_reducible rfl))
  (try simp only [Act.put, List.getElem_toArray, List.getElem_cons_succ, List.getElem_cons_zero, List.setIfInBounds_toArray, List.set_cons_succ, List.set_cons_zero])
  refine wpAnyH_take (i := 7) (oi := _) (v := ?v2x7) rfl (by kernel_rfl) (by kernel_rfl) (by kernel_rfl) (fun _ _ _ h => h) (Or.inl ⟨by kernel_rfl, ?hy2x7⟩) (by with_reducible assumption) ?rest2x7
  case hy2x7 => (intro w hSw; (try dsimp only at hSw); go_simp; (try with_reducible rfl))
  (try simp only [Act.put, List.getElem_toArray, List.getElem_cons_succ, List.getElem_cons_zero, List.setIfInBounds_toArray, List.set_cons_succ, List.set_cons_zero])
  refine wpAnyH_ready (rs := [8]) (by kernel_rfl) (by simp) (AllReadyH.cons (o := _) rfl (fun K hK => ?c2x8) AllReadyH.nil)
  go_simp
  refine (H3.out _).mono ?_
  rintro e9 w3 ⟨rfl, hb9⟩
  have HZ := Lib.hid (((Below.refl w2.heap.size w2).drew).trans hb9)
  have hbz := HB.out.trans (HZ.out.mono HB.out.size)
  have hnz := HN.out.below HZ.out
  have hyz := HY.out.below HZ.out
  clear hb9
  replace HB := Lib.hid hbz
  replace HN := Lib.hid hnz
  replace HY := Lib.hid hyz
  clear hbz hnz hyz
  go_simp
  refine hK.out _ _ (⟨HY.out.seven, HN.out.five⟩) (fun hHeld2 => ?_)
  clear hHeld
  have hHeld := hHeld2
  clear hK K hHeld2
  (try simp only [Act.put, List.getElem_toArray, List.getElem_cons_succ, List.getElem_cons_zero, List.setIfInBounds_toArray, List.set_cons_succ, List.set_cons_zero])
  refine wpAnyH_take (i := 9) (oi := _) (v := ?v2x9) rfl (by kernel_rfl) (by kernel_rfl) (by kernel_rfl) (fun _ _ _ h => h) (Or.inl ⟨by kernel_rfl, ?hy2x9⟩) (by with_reducible assumption) ?rest2x9
  case hy2x9 => (intro w hSw; (try dsimp only at hSw); go_simp; (try with_reducible rfl))
  (try simp only [Act.put, List.getElem_toArray, List.getElem_cons_succ, List.getElem_cons_zero, List.setIfInBounds_toArray, List.set_cons_succ, List.set_cons_zero])
  refine wpAnyH_take (i := 10) (oi := _) (v := ?v2x10) rfl (by kernel_rfl) (by kernel_rfl) (by kernel_rfl) (fun _ _ _ h => h) (Or.inl ⟨by kernel_rfl, ?hy2x10⟩) (by with_reducible assumption) ?rest2x10
  case hy2x10 => (intro w hSw; (try dsimp only at hSw); go_simp; (try with_reducible rfl))
  (try simp only [Act.put, List.getElem_toArray, List.getElem_cons_succ, List.getElem_cons_zero, List.setIfInBounds_toArray, List.set_cons_succ, List.set_cons_zero])
  refine wpAnyH_take (i := 11) (oi := _) (v := ?v2x11) rfl (by kernel_rfl) (by kernel_rfl) (by kernel_rfl) (fun _ _ _ h => h) (Or.inl ⟨by kernel_rfl, ?hy2x11⟩) (by with_reducible assumption) ?rest2x11
  case hy2x11 => (intro w hSw; (try dsimp only at hSw); go_simp; (try with_reducible rfl))
  (try simp only [Act.put, List.getElem_toArray, List.getElem_cons_succ, List.getElem_cons_zero, List.setIfInBounds_toArray, List.set_cons_succ, List.set_cons_zero])
  refine wpAnyH_take (i := 12) (oi := _) (v := ?v2x12) rfl (by kernel_rfl) (by kernel_rfl) (by kernel_rfl) (fun _ _ _ h => h) (Or.inl ⟨by kernel_rfl, ?hy2x12⟩) (by with_reducible assumption) ?rest2x12
  case hy2x12 => (intro w hSw; (try dsimp only at hSw); go_simp; (try with_reducible rfl))
  (try simp only [Act.put, List.getElem_toArray, List.getElem_cons_succ, List.getElem_cons_zero, List.setIfInBounds_toArray, List.set_cons_succ, List.set_cons_zero])
  refine wpAnyH_take (i := 13) (oi := _) (v := ?v2x13) rfl (by kernel_rfl) (by kernel_rfl) (by kernel_rfl) (fun _ _ _ h => h) (Or.inl ⟨by kernel_rfl, ?hy2x13⟩) (by with_reducible assumption) ?rest2x13
  case hy2x13 => (intro w hSw; (try dsimp only at hSw); go_simp; (try with_reducible rfl))
  (try simp only [Act.put, List.getElem_toArray, List.getElem_cons_succ, List.getElem_cons_zero, List.setIfInBounds_toArray, List.set_cons_succ, List.set_cons_zero])
  refine wpAnyH_done (by kernel_rfl) ?_ _
  clear c0 c1 c2 c3 c4 c5 c6 e0 e1 e2 e3 e4 HZ hHeld H3
  obtain ⟨c0, c1, c2, c3, c4, c5, c6⟩ := HY.out.seven
  obtain ⟨e0, e1, e2, e3, e4⟩ := HN.out.five
  go_wp2_with fail
  (with_reducible refine (H4.out _ HB.out).mono ?_); rintro e9 w4 ⟨v, rfl, hown, hb4⟩
  obtain ⟨qa, qc, rfl⟩ := ownsRow_slice hown
  have hpo := pcs_of_own hown rfl HPF.out.1 (fun i hi => HPF.out.2 _ (pcAt_mem hi))
  clear hown c0 c1 c2 c3 c4 c5 c6 e0 e1 e2 e3 e4 H4
  obtain ⟨Pp, Pc0⟩ := P
  dsimp only at *
  have b5 : Below w4.heap.size w4 (w4.alloc (.cells #[.slice qa Pp.length qc, .int .i64 Pc0] 167)) := (Below.refl _ _).alloc (Nat.le_refl _) _
  have n5 := box_new w4 [.slice qa Pp.length qc, .int .i64 Pc0] 167 (by simp)
  have hb5 := hb4.trans (b5.mono hb4.size)
  have hsz3 := HB.out.size
  have hsz4 := hb4.size
  have HPO := Lib.hid ((hpo.below b5).mono (T := fun b => w.heap.size ≤ b ∧ b < w4.heap.size) (fun b e => ⟨by omega, e.2⟩))
  have hN := HN.out.below hb5
  have hY := HY.out.below hb5
  have hB := HB.out.trans (hb5.mono HB.out.size)
  clear HN HY HB hpo hb4 b5 hb5
  have HN := Lib.hid hN
  have HY := Lib.hid hY
  have HB := Lib.hid hB
  clear hN hY hB
  obtain ⟨k0, k1⟩ : _ ∧ _ := ⟨n5.cell 0 _ rfl, n5.cell 1 _ rfl⟩
  cases hc0 : (Pc0 != 0) with
  | true =>
    have hr9 : R = rcBad 9 := by rw [HR.out, if_pos (by simpa using hc0)]
    go_wp2_with fail
    exact bodyPost_ret (v := faultV 9) (by simp [faultV, results, Tryz.results64, go_sem]) rfl ⟨kept_below HB.out, .inl ⟨9, hr9, rfl⟩⟩
  | false =>
    have hz0 : Pc0 = 0 := by simpa using hc0
    have hrt' := HPR.out hz0
    subst hz0
    obtain ⟨c0, c1, c2, c3, c4, c5, c6⟩ := HY.out.seven
    obtain ⟨z0, z1, z2, z3, z4, z5, z6⟩ := HY.out.frz7
    obtain ⟨e0, e1, e2, e3, e4⟩ := HN.out.five
    obtain ⟨W5, hW5⟩ : ∃ W5, W5 = w4.alloc (.cells #[.slice qa Pp.length qc, .int .i64 0] 167) := ⟨_, rfl⟩
    rw [← hW5] at c0 c1 c2 c3 c4 c5 c6 z0 z1 z2 z3 z4 z5 z6 e0 e1 e2 e3 e4 k0 k1 HN HY HB HPO n5
    have hne1 : w.heap.size ≠ g := by omega
    have hE4 : (W5.setCell ⟨g, 4, none⟩ (.slice qa Pp.length qc)).cell? ⟨w.heap.size, 4, none⟩ = some (.int .i64 e) := (World.cell?_setCell_other _ _ _ _ (fun e => by injection e; omega)).trans e4
    have hN := HN.out.other (p := ⟨g, 4, none⟩) (Ne.symm hne1) (.slice qa Pp.length qc)
    have hY := HY.out.set 4 (.slice qa Pp.length qc)
    simp only [List.set_cons_succ, List.set_cons_zero] at hY
    have hK := (kept_below (S := fun b => b = g) HB.out).trans (kept_set (S := fun b => b = g) W5 g 4 (.slice qa Pp.length qc) rfl)
    have hPO := HPO.out.kept (kept_set (S := fun b => b = g) W5 g 4 (.slice qa Pp.length qc) rfl) (fun b e e' => by omega)
    have HN := Lib.hid hN
    have HY := Lib.hid hY
    have HK := Lib.hid hK
    have HPO := Lib.hid hPO
    clear hN hY hK hPO HB hc0 n5
    subst hW5
    go_wp2_with fail
    have hsz5 : w4.heap.size ≤ ((w4.alloc (.cells #[.slice qa Pp.length qc, .int .i64 0] 167)).setCell ⟨g, 4, none⟩ (.slice qa Pp.length qc)).heap.size := by simp
    generalize (w4.alloc (.cells #[.slice qa Pp.length qc, .int .i64 0] 167)).setCell ⟨g, 4, none⟩ (.slice qa Pp.length qc) = W6 at *
    clear c0 c1 c2 c3 c4 c5 c6 z0 z1 z2 z3 z4 z5 z6 e0 e1 e2 e3 e4 k0 k1 hE4
    (with_reducible refine (learnEnd_calls HY.out HPO.out.in' hrt' (lastN_pos hrt' hrd.1) e).mono ?_); rintro e9 w6 ⟨rfl, hx6, hk6⟩
    have hsW := HK.out.size
    have hs6 := hk6.size
    have HK6 := Lib.hid (HK.out.trans hk6)
    have HPO6 := Lib.hid (HPO.out.kept hk6 (fun b e e' => by omega))
    have HN6 := Lib.hid (HN.out.kept (hk6.block _ HN.out.lt (by omega)))
    have HX6 := Lib.hid hx6
    have HF6 := Lib.hid (HF.out.kept HK6.out (fun b e e' => (HS.out b e).2 e'))
    have HTB := Lib.hid (HTAB.out.kept (HK6.out.block _ HTAB.out.lt hGg.1))
    have hS6 : ∀ b, S b → b < w6.heap.size := fun b hb => by have := (HS.out b hb).1; have := HK6.out.size; omega
    have HS6 := Lib.hid hS6
    have hhw := HN6.out.lt
    have hg6 := HX6.out.lt
    have hgf6 : gf < w6.heap.size := by omega
    have hG6 : 1 < w6.heap.size := by have := HTAB.out.lt; have := HK6.out.size; omega
    clear hx6 hk6 HK HPO HN HY hS6
    obtain ⟨hUp, hTm, hlow, h8, hW0⟩ := HLT.out
    have hlate := (HF6.out.late pk (by omega)).1
    have hHTO := fun (V : World) (hb : Below w6.heap.size w6 V) => trackOf_calls (c := C pk) (hlate.below hb) hUp hW0 hTm hlow h8
    have hfit := subN_fit (s := s) hUp h8 hTm hW0 hs0
    have hcell := fun (V : World) (hb : Below w6.heap.size w6 V) => (HF6.out.below hb).cell gf 0 rfl pk (by omega)
    have hfree := fun (V : World) (hb : Below w6.heap.size w6 V) (i : Nat) (hi : i < fl * 2) => (HF6.out.below hb).free gf 0 rfl i hi
    simp only [Nat.zero_add] at hcell hfree
    rw [show (frAt n pk) = ((frAt n pk).1, (frAt n pk).2) from rfl] at HR
    generalize (frAt n pk).1 = W0 at *
    generalize hl0 : (frAt n pk).2 = l0 at *
    have HTO := Lib.hid hHTO
    have HCELL := Lib.hid hcell
    have HFREE := Lib.hid hfree
    have HUP := Lib.hid hUp
    have HTM := Lib.hid hTm
    have HLOW := Lib.hid hlow
    have HFIT := Lib.hid hfit
    clear hHTO hcell hfree hUp hTm hlow hfit hl0 HLT hlate
    obtain ⟨c0, c1, c2, c3, c4, c5, c6⟩ := HX6.out.seven
    obtain ⟨e0, e1, e2, e3, e4⟩ := HN6.out.five
    go_wp2_with fail
    refine wp_region_held_drew (S := (fun X => X.cell? ⟨g, 6, none⟩ = some (.slice (some ⟨gf, 0, none⟩) fl fc) ∧ X.cell? ⟨w.heap.size, 0, none⟩ = some (.int .i64 (pk : Int)) ∧ X.cell? ⟨w.heap.size, 1, none⟩ = some (.int .i64 s))) (by kernel_rfl) (⟨c6, e0, e1⟩) (fun hHeld => ?_)
    refine wpAnyH_take (i := 0) (oi := _) (v := ?v3x0) rfl (by kernel_rfl) (by kernel_rfl) (by kernel_rfl) (fun _ _ _ h => h) (Or.inl ⟨by kernel_rfl, ?hy3x0⟩) (by with_reducible assumption) ?rest3x0
    case hy3x0 => (intro w hSw; (try dsimp only at hSw); go_simp; (try with_reducible rfl))
    (try simp only [Act.put, List.getElem_toArray, List.getElem_cons_zero, List.setIfInBounds_toArray, List.set_cons_succ, List.set_cons_zero])
    refine wpAnyH_take (i := 1) (oi := _) (v := ?v3x1) rfl (by kernel_rfl) (by kernel_rfl) (by kernel_rfl) (fun _ _ _ h => h) (Or.inl ⟨by kernel_rfl, ?hy3x1⟩) (by with_reducible assumption) ?rest3x1
    case hy3x1 => (intro w hSw; (try dsimp only at hSw); go_simp; (try with_reducible rfl))
    (try simp only [Act.put, List.getElem_toArray, List.getElem_cons_succ, List.getElem_cons_zero, List.setIfInBounds_toArray, List.set_cons_succ, List.set_cons_zero])
    refine wpAnyH_take (i := 2) (oi := _) (v := ?v3x2) rfl (by kernel_rfl) (by kernel_rfl) (by kernel_rfl) (fun _ _ _ h => h) (Or.inl ⟨by kernel_rfl, ?hy3x2⟩) (by with_reducible assumption) ?rest3x2
    case hy3x2 => (intro w hSw; (try dsimp only at hSw); go_simp; (try with_reducible rfl))
    (try simp only [Act.put, List.getElem_toArray, List.getElem_cons_succ, List.getElem_cons_zero, List.setIfInBounds_toArray, List.set_cons_succ, List.set_cons_zero])
    refine wpAnyH_take (i := 3) (oi := _) (v := ?v3x3) rfl (by kernel_rfl) (by kernel_rfl) (by kernel_rfl) (fun _ _ _ h => h) (Or.inl ⟨by kernel_rfl, ?hy3x3⟩) (by with_reducible assumption) ?rest3x3
    case hy3x3 => (intro w hSw; (try dsimp only at hSw); go_simp; (try with_reducible rfl))
    (try simp only [Act.put, List.getElem_toArray, List.getElem_cons_succ, List.getElem_cons_zero, List.setIfInBounds_toArray, List.set_cons_succ, List.set_cons_zero])
    refine wpAnyH_take (i := 4) (oi := _) (v := ?v3x4) rfl (by kernel_rfl) (by kernel_rfl) (by kernel_rfl) (fun _ _ _ h => h) (Or.inl ⟨by kernel_rfl, ?hy3x4⟩) (by with_reducible assumption) ?rest3x4
    case hy3x4 => (intro w hSw; (try dsimp only at hSw); go_simp; (try with_reducible rfl))
    (try simp only [Act.put, List.getElem_toArray, List.getElem_cons_succ, List.getElem_cons_zero, List.setIfInBounds_toArray, List.set_cons_succ, List.set_cons_zero])
    refine wpAnyH_take (i := 5) (oi := _) (v := ?v3x5) rfl (by kernel_rfl) (by kernel_rfl) (by kernel_rfl) (fun _ _ _ h => h) (Or.inl ⟨by kernel_rfl, ?hy3x5⟩) (by with_reducible assumption) ?rest3x5
    case hy3x5 => (intro w hSw; (try dsimp only at hSw); go_simp; (try with_reducible rfl))
    (try simp only [Act.put, List.getElem_toArray, List.getElem_cons_succ, List.getElem_cons_zero, List.setIfInBounds_toArray, List.set_cons_succ, List.set_cons_zero])
    refine wpAnyH_take (i := 6) (oi := _) (v := ?v3x6) rfl (by kernel_rfl) (by kernel_rfl) (by kernel_rfl) (fun _ _ _ h => h) (Or.inl ⟨by kernel_rfl, ?hy3x6⟩) (by with_reducible assumption) ?rest3x6
    case hy3x6 => (intro w hSw; (try dsimp only at hSw); go_simp; (try with_reducible rfl))
    (try simp only [Act.put, List.getElem_toArray, List.getElem_cons_succ, List.getElem_cons_zero, List.setIfInBounds_toArray, List.set_cons_succ, List.set_cons_zero])
    refine wpAnyH_take (i := 7) (oi := _) (v := ?v3x7) rfl (by kernel_rfl) (by kernel_rfl) (by kernel_rfl) (fun _ _ _ h => h) (Or.inl ⟨by kernel_rfl, ?hy3x7⟩) (by with_reducible assumption) ?rest3x7
    case hy3x7 => (intro w hSw; (try dsimp only at hSw); go_simp; (try with_reducible rfl))
    (try simp only [Act.put, List.getElem_toArray, List.getElem_cons_succ, List.getElem_cons_zero, List.setIfInBounds_toArray, List.set_cons_succ, List.set_cons_zero])
    refine wpAnyH_take (i := 8) (oi := _) (v := ?v3x8) rfl (by kernel_rfl) (by kernel_rfl) (by kernel_rfl) (fun _ _ _ h => h) (Or.inl ⟨by kernel_rfl, ?hy3x8⟩) (by with_reducible assumption) ?rest3x8
    case hy3x8 => (intro w hSw; (try dsimp only at hSw); go_simp; (try with_reducible rfl))
    (try simp only [Act.put, List.getElem_toArray, List.getElem_cons_succ, List.getElem_cons_zero, List.setIfInBounds_toArray, List.set_cons_succ, List.set_cons_zero])
    refine wpAnyH_take (i := 9) (oi := _) (v := ?v3x9) rfl (by kernel_rfl) (by kernel_rfl) (by kernel_rfl) (fun _ _ _ h => h) (Or.inl ⟨by kernel_rfl, ?hy3x9⟩) (by with_reducible assumption) ?rest3x9
    case hy3x9 => (intro w hSw; (try dsimp only at hSw); go_simp; (try with_reducible rfl))
    (try simp only [Act.put, List.getElem_toArray, List.getElem_cons_succ, List.getElem_cons_zero, List.setIfInBounds_toArray, List.set_cons_succ, List.set_cons_zero])
    refine wpAnyH_take (i := 10) (oi := _) (v := ?v3x10) rfl (by kernel_rfl) (by kernel_rfl) (by kernel_rfl) (fun _ _ _ h => h) (Or.inl ⟨by kernel_rfl, ?hy3x10⟩) (by with_reducible assumption) ?rest3x10
    case hy3x10 => (intro w hSw; (try dsimp only at hSw); go_simp; (try with_reducible rfl))
    (try simp only [Act.put, List.getElem_toArray, List.getElem_cons_succ, List.getElem_cons_zero, List.setIfInBounds_toArray, List.set_cons_succ, List.set_cons_zero])
    refine wpAnyH_take (i := 11) (oi := _) (v := ?v3x11) rfl (by kernel_rfl) (by kernel_rfl) (by kernel_rfl) (fun _ _ _ h => h) (Or.inl ⟨by kernel_rfl, ?hy3x11⟩) (by with_reducible assumption) ?rest3x11
    case hy3x11 => (intro w hSw; (try dsimp only at hSw); go_simp; (try with_reducible rfl))
    (try simp only [Act.put, List.getElem_toArray, List.getElem_cons_succ, List.getElem_cons_zero, List.setIfInBounds_toArray, List.set_cons_succ, List.set_cons_zero])
    refine wpAnyH_take (i := 12) (oi := _) (v := ?v3x12) rfl (by kernel_rfl) (by kernel_rfl) (by kernel_rfl) (fun _ _ _ h => h) (Or.inl ⟨by kernel_rfl, ?hy3x12⟩) (by with_reducible assumption) ?rest3x12
    case hy3x12 => (intro w hSw; (try dsimp only at hSw); go_simp; (try with_reducible rfl))
    (try simp only [Act.put, List.getElem_toArray, List.getElem_cons_succ, List.getElem_cons_zero, List.setIfInBounds_toArray, List.set_cons_succ, List.set_cons_zero])
    refine wpAnyH_take (i := 15) (oi := _) (v := ?v3x15) rfl (by kernel_rfl) (by kernel_rfl) (by kernel_rfl) (fun _ _ _ h => h) (Or.inl ⟨by kernel_rfl, ?hy3x15⟩) (by with_reducible assumption) ?rest3x15
    case hy3x15 => (intro w hSw; (try dsimp only at hSw); go_simp; (try with_reducible rfl))
    (try simp only [Act.put, List.getElem_toArray, List.getElem_cons_succ, List.getElem_cons_zero, List.setIfInBounds_toArray, List.set_cons_succ, List.set_cons_zero])
    refine wpAnyH_take (i := 16) (oi := _) (v := ?v3x16) rfl (by kernel_rfl) (by kernel_rfl) (by kernel_rfl) (fun _ _ _ h => h) (Or.inl ⟨by kernel_rfl, ?hy3x16⟩) (by with_reducible assumption) ?rest3x16
    case hy3x16 => (intro w hSw; (try dsimp only at hSw); go_simp; (try with_reducible rfl))
    (try simp only [Act.put, List.getElem_toArray, List.getElem_cons_succ, List.getElem_cons_zero, List.setIfInBounds_toArray, List.set_cons_succ, List.set_cons_zero])
    refine wpAnyH_ready (rs := [13]) (by kernel_rfl) (by simp) (AllReadyH.cons (o := _) rfl (fun K hK => ?c3x13) AllReadyH.nil)
    rw [if_pos (by kernel_rfl)]
    obtain ⟨f0, f1⟩ := HCELL.out w6.drew ((Below.refl _ _).drew)
    go_simp
    refine hK.out _ _ hHeld (fun hHeld2 => ?_)
    clear hHeld
    have hHeld := hHeld2
    clear hK K hHeld2 f0 f1
    (try simp only [Act.put, List.getElem_toArray, List.getElem_cons_succ, List.getElem_cons_zero, List.setIfInBounds_toArray, List.set_cons_succ, List.set_cons_zero])
    refine wpAnyH_ready (rs := [14]) (by kernel_rfl) (by simp) (AllReadyH.cons (o := _) rfl (fun K hK => ?c3x14) AllReadyH.nil)
    go_simp
    refine (HTO.out _ ((Below.refl _ _).drew)).mono ?_
    rintro e9 w7 ⟨N7, v7, F7, rfl, hf7, hT7, hb7⟩
    obtain ⟨a7, k7, rfl, -, -⟩ := hf7.slice
    have hs7 : w6.heap.size ≤ w7.heap.size := hb7.size
    have hf7B : FarM w7 w6.heap.size (.slice a7 F7.length k7) F7 := hf7
    have hb67 : Below w6.heap.size w6 w7 := ((Below.refl _ _).drew).trans hb7
    have HAF := Lib.hid (after_calls hf7B hs7 hT7 h8 HLOW.out hW0 HTM.out hs0 (HTB.out.under hG6 hb67) hG6)
    have HB7 := Lib.hid hb67
    clear hf7 hf7B hT7 hb67
    go_simp
    refine hK.out _ _ (keepT (B := w6.heap.size) hb7 hg6 hhw hHeld) (fun hHeld2 => ?_)
    clear hHeld
    have hHeld := hHeld2
    clear hK K hHeld2
    (try simp only [Act.put, List.getElem_toArray, List.getElem_cons_succ, List.getElem_cons_zero, List.setIfInBounds_toArray, List.set_cons_succ, List.set_cons_zero])
    refine wpAnyH_ready (rs := [17]) (by kernel_rfl) (by simp) (AllReadyH.cons (o := _) rfl (fun K hK => ?c3x17) AllReadyH.nil)
    go_simp
    refine HAF.out.mono ?_
    rintro e9 w8 ⟨N8, v8, F8, rfl, hf8, hT8, hb8⟩
    have HFR := Lib.hid (from_calls hf8 hT8 HFIT.out.1 HFIT.out.2.1 HFIT.out.2.2)
    obtain ⟨a8, k8, rfl, -, -⟩ := hf8.slice
    have HB8 := Lib.hid (HB7.out.trans hb8)
    have hs8 : w6.heap.size ≤ w8.heap.size := by have := hb8.size; omega
    clear hf8 hT8 HAF HB7
    go_simp
    refine hK.out _ _ (keepT (B := w6.heap.size) hb8 hg6 hhw hHeld) (fun hHeld2 => ?_)
    clear hHeld
    have hHeld := hHeld2
    clear hK K hHeld2
    (try simp only [Act.put, List.getElem_toArray, List.getElem_cons_succ, List.getElem_cons_zero, List.setIfInBounds_toArray, List.set_cons_succ, List.set_cons_zero])
    refine wpAnyH_ready (rs := [18]) (by kernel_rfl) (by simp) (AllReadyH.cons (o := _) rfl (fun K hK => ?c3x18) AllReadyH.nil)
    go_simp
    refine HFR.out.mono ?_
    rintro e9 w9 ⟨u9, rfl, hf9, hb9⟩
    obtain ⟨a9, k9, rfl, -, -⟩ := hf9.slice
    have hs9 : w8.heap.size ≤ w9.heap.size := hb9.size
    have HB9 := Lib.hid (HB8.out.trans (hb9.mono hs8))
    have HFN := Lib.hid (hf9.mono hs8)
    clear hf9 HFR HB8
    go_simp
    refine hK.out _ _ (keepT (B := w8.heap.size) hb9 (by omega) (by omega) hHeld) (fun hHeld2 => ?_)
    clear hHeld
    have hHeld := hHeld2
    clear hK K hHeld2
    (try simp only [Act.put, List.getElem_toArray, List.getElem_cons_succ, List.getElem_cons_zero, List.setIfInBounds_toArray, List.set_cons_succ, List.set_cons_zero])
    refine wpAnyH_take (i := 19) (oi := _) (v := ?v3x19) rfl (by kernel_rfl) (by kernel_rfl) (by kernel_rfl) (fun _ _ _ h => h) (Or.inl ⟨by kernel_rfl, ?hy3x19⟩) (by with_reducible assumption) ?rest3x19
    case hy3x19 => (intro w hSw; (try dsimp only at hSw); go_simp; (try with_reducible rfl))
    (try simp only [Act.put, List.getElem_toArray, List.getElem_cons_succ, List.getElem_cons_zero, List.setIfInBounds_toArray, List.set_cons_succ, List.set_cons_zero])
    refine wpAnyH_ready (rs := [20]) (by kernel_rfl) (by simp) (AllReadyH.cons (o := _) rfl (fun K hK => ?c3x20) AllReadyH.nil)
    rw [if_pos (by kernel_rfl)]
    obtain ⟨f0, f1⟩ := HCELL.out w9 HB9.out
    have z0 := HFREE.out w9 HB9.out (pk * 2) (by omega)
    have z1 := HFREE.out w9 HB9.out (pk * 2 + 1) (by omega)
    have HST := Lib.hid (setT (i := pk * 2) (j := pk * 2 + 1) (u := .int .i64 (subN (W0, l0) s).1) (v := .slice a9 (subN (W0, l0) s).2.length k9) hgf.1 (show gf ≠ w.heap.size by omega) hHeld)
    clear hHeld
    go_simp
    refine hK.out _ _ HST.out (fun _ => ?_)
    clear hK K f0 f1 z0 z1
    (try simp only [Act.put, List.getElem_toArray, List.getElem_cons_succ, List.getElem_cons_zero, List.setIfInBounds_toArray, List.set_cons_succ, List.set_cons_zero])
    refine wpAnyH_done (by kernel_rfl) ?_ _
    clear HST c0 c1 c2 c3 c4 c5 c6 e0 e1 e2 e3 e4 HTO HCELL HFREE
    obtain ⟨A', C', hfo⟩ := (HF6.out.below HB9.out).from_put (T := fun b => S b ∨ (w6.heap.size ≤ b ∧ b < w9.heap.size)) (show pk < fl by omega) HFN.out (show I64 (subN (W0, l0) s).1 by have := HFIT.out.2.1; unfold I64; omega) HS6.out (fun b h => .inl h) (fun b h1 h2 => .inr ⟨h1, h2⟩)
    have hx10 := ((HX6.out.below HB9.out).other (p := ⟨gf, pk * 2, none⟩) hgf.1 (.int .i64 (subN (W0, l0) s).1)).other (p := ⟨gf, pk * 2 + 1, none⟩) hgf.1 (.slice a9 (subN (W0, l0) s).2.length k9)
    have hk10 := ((HK6.out.mono (T := fun b => b = g ∨ b = gf) (fun b h => .inl h)).trans (kept_below HB9.out)).trans ((kept_set (S := fun b => b = g ∨ b = gf) w9 gf (pk * 2) (.int .i64 (subN (W0, l0) s).1) (.inr rfl)).trans (kept_set (S := fun b => b = g ∨ b = gf) _ gf (pk * 2 + 1) (.slice a9 (subN (W0, l0) s).2.length k9) (.inr rfl)))
    have hpo10 := (HPO6.out.below HB9.out).kept ((kept_set (S := fun b => b = gf) w9 gf (pk * 2) (.int .i64 (subN (W0, l0) s).1) rfl).trans (kept_set (S := fun b => b = gf) _ gf (pk * 2 + 1) (.slice a9 (subN (W0, l0) s).2.length k9) rfl)) (fun b e e' => by omega)
    have hs10 : w9.heap.size ≤ ((w9.setCell ⟨gf, pk * 2, none⟩ (.int .i64 (subN (W0, l0) s).1)).setCell ⟨gf, pk * 2 + 1, none⟩ (.slice a9 (subN (W0, l0) s).2.length k9)).heap.size := by simp
    have HRD := Lib.hid (readerRight_calls (rd := rd) (ed := ed) (sz := sz) (cp := cp) (en := takeEn rd Pp en e) (pc := qc) (fc := fc) hpo10.in' hfo.in')
    unfold readerV at HRD
    obtain ⟨c0, c1, c2, c3, c4, c5, c6⟩ := hx10.seven
    have HX := Lib.hid hx10
    have HK := Lib.hid hk10
    have HPO := Lib.hid hpo10
    have HFO := Lib.hid hfo
    clear hx10 hk10 hpo10 hfo HX6 HK6 HPO6 HN6 HF6 HTB HS6 HFIT HFN HB9 HUP HTM HLOW
    generalize (w9.setCell ⟨gf, pk * 2, none⟩ (.int .i64 (subN (W0, l0) s).1)).setCell ⟨gf, pk * 2 + 1, none⟩ (.slice a9 (subN (W0, l0) s).2.length k9) = W10 at *
    generalize takeEn rd Pp en e = en2 at *
    generalize n.set pk (subN (W0, l0) s) = n2 at *
    by_cases hok2 : rcvOk rd Pp ed sz cp en2 n2
    · rw [decide_eq_true hok2] at HRD
      have hr := HR.out
      rw [if_neg (by simp), if_pos hok2] at hr
      have HR2 := Lib.hid hr
      have HOK2 := Lib.hid hok2
      clear hr hok2 HR
      go_wp2_with fail
      (with_reducible refine HRD.out.mono ?_); rintro e9 w11 ⟨rfl, hb11⟩
      have HX2 := Lib.hid (HX.out.below hb11)
      have HK2 := Lib.hid (HK.out.trans (kept_below hb11))
      have HPO2 := Lib.hid (HPO.out.below hb11)
      have hs11 := hb11.size
      have HFO2 := Lib.hid ((HFO.out.below hb11).mono (T := fun b => S b ∨ (w4.heap.size ≤ b ∧ b < w11.heap.size)) (fun b h => h.imp id (fun h => ⟨by omega, by omega⟩)))
      clear hb11 HX HK HPO HFO c0 c1 c2 c3 c4 c5 c6 HRD
      go_wp2_with fail
      refine bodyPost_ret (v := .nilIface) (by simp [results, Tryz.results64, go_sem]) rfl ?_
      rw [HR2.out]
      have hl2 := HFO2.out.long
      exact ⟨HK2.out, .inr ⟨Pp, en2, n2, by rw [Int.toNat_natCast], HOK2.out, rfl, by omega, by omega, qa, qc, w4.heap.size, A', C', HX2.out, HPO2.out, HFO2.out, by omega, by omega⟩⟩
    · rw [decide_eq_false hok2] at HRD
      have hr := HR.out
      rw [if_neg (by simp), if_neg hok2] at hr
      have HR2 := Lib.hid hr
      clear hr hok2 HR
      go_wp2_with fail
      (with_reducible refine HRD.out.mono ?_); rintro e9 w11 ⟨rfl, hb11⟩
      have HK2 := Lib.hid (HK.out.trans (kept_below hb11))
      clear hb11 HX HK HPO HFO c0 c1 c2 c3 c4 c5 c6 HRD
      go_wp2_with fail
      refine bodyPost_ret (v := faultV 9) (by simp [faultV, results, Tryz.results64, go_sem]) rfl ?_
      rw [HR2.out]
      exact ⟨HK2.out, .inl ⟨9, rfl, rfl⟩⟩
end Go.Proofs.YtdcahilfmhkmiaaGreatDoor
