/- What lies in memory while a Seg is taken. -/
import Derived.Test.YtdcahilfmhkmiaaGreatDoorRcvPlain
import Derived.Test.YtdcahilfmhkmiaaGreatDoorRcvCopy
import Derived.Test.YtdcahilfmhkmiaaGreatDoorRcvR
import Derived.Test.YtdcahilfmhkmiaaGreatDoorRcvAck
import Derived.Test.YtdcahilfmhkmiaaGreatDoorPackA
import Derived.Test.YtdcahilfmhkmiaaGreatDoorMax
import Derived.Test.YtdcahilfmhkmiaaGreatDoorPutMem
import Derived.Test.YtdcahilfmhkmiaaGreatDoorSubB
namespace Go.Proofs.YtdcahilfmhkmiaaGreatDoor
open Go.RowKit

/-- The answer being made in block g; its pieces and Froms in blocks of their own. -/
structure TkMem (w : World) (g : Nat) (us ss os vs : List Value) (l : List Pc) (a : Option Addr) (c fb fl : Nat) (n : Frs) (V : World) : Prop where
  low : w.heap.size + 3 ≤ g
  below : Below w.heap.size w V
  box : Box V g vs
  one : Box V w.heap.size us
  seg : Box V (w.heap.size + 1) ss
  two : Box V (w.heap.size + 2) os
  pcs : InPcs V a l.length l
  own : V.ownsRow (w.heap.size + 3) 121 2 (.slice a l.length c) l.length (pv l)
  pne : ∀ b, (Value.slice a l.length c).ownBlock = some b → b ≠ g
  frs : ∃ F A C, FrsSp F V (some ⟨fb, 0, none⟩) fl n A C ∧ ∀ b, F b → w.heap.size + 3 ≤ b ∧ b < V.heap.size ∧ b ≠ g ∧ (Value.slice a l.length c).ownBlock ≠ some b
theorem lgB_own {a : Option Addr} {len n c b : Nat} (h : LgB a len b) : (Value.slice a n c).ownBlock = some b := by obtain ⟨_, o, e⟩ := h; rw [e]; rfl
theorem TkMem.pblk {w V : World} {g : Nat} {us ss os vs : List Value} {l : List Pc} {a : Option Addr} {c fb fl : Nat} {n : Frs} (h : TkMem w g us ss os vs l a c fb fl n V) : ∀ b, LgB a l.length b → w.heap.size + 3 ≤ b ∧ b < V.heap.size ∧ b ≠ g := fun b hl => by
  have := h.own.lt b (lgB_own hl)
  exact ⟨this.1, this.2, h.pne b (lgB_own hl)⟩
theorem TkMem.kept {w V V' : World} {g : Nat} {us ss os vs vs' : List Value} {l : List Pc} {a : Option Addr} {c fb fl : Nat} {n : Frs} (h : TkMem w g us ss os vs l a c fb fl n V) (hk : Kept (fun b => b = g) V V') (hb : Box V' g vs') : TkMem w g us ss os vs' l a c fb fl n V' := by
  have hlow := h.low
  obtain ⟨F, A, C, hf, hF⟩ := h.frs
  refine ⟨h.low, h.below.trans (hk.toBelow h.below.size (fun b hb e => by omega)), hb, h.one.kept (hk.block _ h.one.lt (by omega)), h.seg.kept (hk.block _ h.seg.lt (by omega)), h.two.kept (hk.block _ h.two.lt (by omega)),
    h.pcs.blks (fun b hl hw => hk.block b hw (h.pblk b hl).2.2), own_kept h.own hk (fun b e e' => h.pne b e e'), h.pne, F, A, C, hf.kept hk (fun b e e' => (hF b e).2.2.1 e'), fun b e => ⟨(hF b e).1, Nat.lt_of_lt_of_le (hF b e).2.1 hk.size, (hF b e).2.2⟩⟩
theorem TkMem.set {w V : World} {g : Nat} {us ss os vs : List Value} {l : List Pc} {a : Option Addr} {c fb fl : Nat} {n : Frs} (h : TkMem w g us ss os vs l a c fb fl n V) (i : Nat) (v : Value) : TkMem w g us ss os (vs.set i v) l a c fb fl n (V.setCell ⟨g, i, none⟩ v) :=
  h.kept (kept_set V g i v rfl) (h.box.set i v)
theorem TkMem.next {w V V' : World} {g : Nat} {us ss os vs : List Value} {l : List Pc} {a : Option Addr} {c fb fl : Nat} {n : Frs} (h : TkMem w g us ss os vs l a c fb fl n V) (hb : Below V.heap.size V V') : TkMem w g us ss os vs l a c fb fl n V' :=
  h.kept (kept_below hb) (h.box.below hb)
theorem TkMem.drew {w V : World} {g : Nat} {us ss os vs : List Value} {l : List Pc} {a : Option Addr} {c fb fl : Nat} {n : Frs} (h : TkMem w g us ss os vs l a c fb fl n V) : TkMem w g us ss os vs l a c fb fl n V.drew := h.next (below_drew' V)
theorem TkMem.drewN {w V : World} {g : Nat} {us ss os vs : List Value} {l : List Pc} {a : Option Addr} {c fb fl : Nat} {n : Frs} (h : TkMem w g us ss os vs l a c fb fl n V) (k : Nat) : TkMem w g us ss os vs l a c fb fl n (V.drewN k) := h.next (below_drewN (Below.refl _ _) k)
/-- Other pieces, in a block that came later. -/
theorem TkMem.pieces {w V V' : World} {g : Nat} {us ss os vs : List Value} {l m : List Pc} {a a' : Option Addr} {c c' fb fl : Nat} {n : Frs} (h : TkMem w g us ss os vs l a c fb fl n V) (hb : Below V.heap.size V V') (hp : InPcs V' a' m.length m)
    (ho : V'.ownsRow V.heap.size 121 2 (.slice a' m.length c') m.length (pv m)) : TkMem w g us ss os vs m a' c' fb fl n V' := by
  have h' := h.next hb
  have hlow := h.low
  have hg := h.box.lt
  obtain ⟨F, A, C, hf, hF⟩ := h.frs
  exact ⟨h'.low, h'.below, h'.box, h'.one, h'.seg, h'.two, hp, own_base ho (by omega), fun b e => by have := ho.lt b e; omega, F, A, C, hf.below hb, fun b e => ⟨(hF b e).1, Nat.lt_of_lt_of_le (hF b e).2.1 hb.size, (hF b e).2.2.1, fun hl => by have := (hF b e).2.1; have := (ho.lt b hl).1; omega⟩⟩
/-- A path of it taken. -/
theorem TkMem.sub {w V V' : World} {g : Nat} {us ss os vs : List Value} {l : List Pc} {a : Option Addr} {c fb fl : Nat} {n n' : Frs} {F : Nat → Prop} (h : TkMem w g us ss os vs l a c fb fl n V) (hF : ∀ b, F b → w.heap.size + 3 ≤ b ∧ b < V.heap.size ∧ b ≠ g ∧ (Value.slice a l.length c).ownBlock ≠ some b) (hfb : F fb) (hk : Kept (fun b => b = fb) V V')
    (hf : ∃ A C, FrsSp (fun b => F b ∨ (V.heap.size ≤ b ∧ b < V'.heap.size)) V' (some ⟨fb, 0, none⟩) fl n' A C) : TkMem w g us ss os vs l a c fb fl n' V' := by
  have hlow := h.low
  have hg := h.box.lt
  have hfb' := hF fb hfb
  obtain ⟨A, C, hf⟩ := hf
  refine ⟨h.low, h.below.trans (hk.toBelow h.below.size (fun b hb e => by omega)), h.box.kept (hk.block _ hg (by omega)), h.one.kept (hk.block _ h.one.lt (by omega)), h.seg.kept (hk.block _ h.seg.lt (by omega)), h.two.kept (hk.block _ h.two.lt (by omega)),
    h.pcs.blks (fun b hl hw => hk.block b hw (fun e => hfb'.2.2.2 (e ▸ lgB_own hl))), own_kept h.own hk (fun b e e' => hfb'.2.2.2 (e' ▸ e)), h.pne, _, A, C, hf, fun b e => ?_⟩
  rcases e with e | e
  · exact ⟨(hF b e).1, Nat.lt_of_lt_of_le (hF b e).2.1 hk.size, (hF b e).2.2⟩
  · exact ⟨by omega, e.2, by omega, fun hl => by have := (h.own.lt b hl).2; omega⟩
theorem TkMem.got {w V V' : World} {g : Nat} {us ss os vs : List Value} {l : List Pc} {a : Option Addr} {fb pc fc : Nat} {n : Frs} {rd ed sz cp en kp ks kd ke : Int} (h : TkMem w g us ss os vs l a pc fb n.length n V) (hk : Kept (fun b => b = w.heap.size + 2) V V') :
    RcSp w ⟨rd, l, ed, sz, cp, en, n, kp, ks, kd, ke, [], false, 0⟩ (.returned (rcvOutV rd a l.length pc ed sz cp en (some ⟨fb, 0, none⟩) n.length fc kp ks kd ke [] false 0)) V' := by
  obtain ⟨F, A, C, hf, hF⟩ := h.frs
  exact ⟨a, pc, some ⟨fb, 0, none⟩, fc, A, C, F, rfl, h.pcs.blks (fun b hl hw => hk.block b hw (by have := h.pblk b hl; omega)), own_base (own_kept h.own hk (fun b e e' => by have := h.own.lt b e; omega)) (by omega),
    hf.kept hk (fun b e e' => by have := hF b e; omega), fun b e => ⟨⟨by have := hF b e; omega, Nat.lt_of_lt_of_le (hF b e).2.1 hk.size⟩, (hF b e).2.2.2⟩, h.below.trans (hk.toBelow h.below.size (fun b hb e => by omega))⟩
end Go.Proofs.YtdcahilfmhkmiaaGreatDoor
