/- The document's row: parts behind each other, their signs. -/
import Derived.Test.YtnabfganecghkaaDoorRrG
namespace Go.Proofs.YtnabfganecghkaaDoor
open Go.RowKit
set_option linter.unusedVariables false

/-- a call's result box, its node's box with the list of nodes in it, its reader -/
structure KxS (w : World) (q : Nat) (L : List UInt8) (k d : Nat) (e : Int) (h : Nat) (kd : ByteArray) (v : Value) (n : Nat) (C : List Value) (W : World) : Prop where
  p : PtS w q L k d e h W
  nb : Nb W (h + 1) kd nvo v
  own : W.ownsRow (h + 2) 60 3 v n C
/-- the blocks of a list's nodes -/
def KU (h : Nat) (v : Value) (W : World) : Nat → Prop := fun b => h + 2 ≤ b ∧ b < W.heap.size ∧ v.ownBlock ≠ some b
theorem KxS.step {w W W' : World} {q k d h k' d' n : Nat} {L : List UInt8} {e e' : Int} {kd : ByteArray} {v : Value} {C : List Value} (z : KxS w q L k d e h kd v n C W) (o : RO W q L k' d' e' W') : KxS w q L k' d' e' h kd v n C W' := by
  have hq := z.p.hq
  refine ⟨z.p.step o, z.nb.go o.2 (by omega), ?_⟩
  refine z.own.kept (row := some q) ⟨o.2.s.os, o.2.s.tape, o.2.s.output, o.2.s.size, fun k hk hkr => o.2.s.block k hk (by simpa using hkr) (by simp [Value.ownBlock])⟩ (.inr ?_)
  intro hv
  have := (z.own.lt q hv).1
  omega
theorem KxS.incK {w W : World} {q k d h n : Nat} {L : List UInt8} {e : Int} {kd : ByteArray} {v : Value} {C : List Value} (z : KxS w q L k d e h kd v n C W) : KxS w q L (k + 1) d e h kd v n C (W.setCell ⟨q, 1, none⟩ (.int .i64 ((k : Int) + 1))) :=
  z.step ⟨z.p.ro.1.setK (k + 1) _ (by omega), go1_set 1 _⟩
theorem KxS.below {w W W' : World} {q k d h n : Nat} {L : List UInt8} {e : Int} {kd : ByteArray} {v : Value} {C : List Value} (z : KxS w q L k d e h kd v n C W) (b : Below W.heap.size W W') : KxS w q L k d e h kd v n C W' :=
  z.step ⟨z.p.ro.1.below b, Go1.of_below b⟩
theorem KxS.alloc {w W : World} {q k d h n : Nat} {L : List UInt8} {e : Int} {kd : ByteArray} {v : Value} {C : List Value} (z : KxS w q L k d e h kd v n C W) (o : Obj) : KxS w q L k d e h kd v n C (W.alloc o) := z.below ((Below.refl _ _).alloc (Nat.le_refl _) _)
theorem KxS.drew {w W : World} {q k d h n : Nat} {L : List UInt8} {e : Int} {kd : ByteArray} {v : Value} {C : List Value} (z : KxS w q L k d e h kd v n C W) : KxS w q L k d e h kd v n C W.drew :=
  z.step ⟨⟨z.p.ro.1.qw, z.p.ro.1.c0, z.p.ro.1.c1, z.p.ro.1.c2, z.p.ro.1.c3, z.p.ro.1.f1, z.p.ro.1.f2, z.p.ro.1.f3⟩, (Go1.refl _ _ _).drew⟩
/-- a store into a box of a call's own, none of these -/
theorem KxS.other {w W : World} {q k d h n b : Nat} {L : List UInt8} {e : Int} {kd : ByteArray} {v : Value} {C : List Value} (z : KxS w q L k d e h kd v n C W) (hb : h + 2 ≤ b) (hv : v.ownBlock ≠ some b) (i : Nat) (u : Value) : KxS w q L k d e h kd v n C (W.setCell ⟨b, i, none⟩ u) := by
  have hq := z.p.hq
  have hs := z.p.hs
  refine ⟨⟨z.p.ro.oz (h := b) (by omega) (by omega) i u, z.p.nb.other (a := ⟨b, i, none⟩) (by show h ≠ b; omega) u, hq, hs⟩, z.nb.other (a := ⟨b, i, none⟩) (by show h + 1 ≠ b; omega) u, ?_⟩
  obtain ⟨h1, h2⟩ := z.own
  refine ⟨h1, ?_⟩
  rcases h2 with h2 | ⟨r, cap, cur, hv2, hb2, hr, g⟩
  · exact .inl h2
  · refine .inr ⟨r, cap, cur, hv2, hb2, ?_, g⟩
    rw [Below.heap_setCell W ⟨b, i, none⟩ u r (by
      intro e
      apply hv
      rw [hv2]
      show some r = some b
      rw [e])]
    exact hr
theorem KxS.sz {w W : World} {q k d h n : Nat} {L : List UInt8} {e : Int} {kd : ByteArray} {v : Value} {C : List Value} (z : KxS w q L k d e h kd v n C W) : h + 2 ≤ W.heap.size := z.nb.hw
/-- behind an append of one node, and the store of the new list -/
theorem KxS.pushed {w W W1 : World} {q k d h n : Nat} {L : List UInt8} {e : Int} {kd : ByteArray} {v v' : Value} {C D : List Value} (z : KxS w q L k d e h kd v n C W) (hown : W1.ownsRow (h + 2) 60 3 v' (n + 1) D) (hg : W.grownBy W1 v.ownBlock) (ho : Own v v' W) :
    KxS w q L k d e h kd v' (n + 1) D (W1.setCell ⟨h + 1, 2, none⟩ v') := by
  have hq := z.p.hq
  have hs := z.p.hs
  have hsz := z.sz
  have hgs := hg.size
  have hvb : ∀ b, v.ownBlock = some b → h + 2 ≤ b := fun b hb => (z.own.lt b hb).1
  have hk : ∀ b, b < W.heap.size → b < h + 2 → W1.heap[b]? = W.heap[b]? := fun b hb hbh => hg.block b hb (fun e => by have := hvb b e.symm; omega)
  have hst : ∀ b, b < W.heap.size → b < h + 1 → (W1.setCell ⟨h + 1, 2, none⟩ v').heap[b]? = W.heap[b]? := fun b hb hbh => by
    rw [Below.heap_setCell W1 ⟨h + 1, 2, none⟩ v' b (by show b ≠ h + 1; omega)]
    exact hk b hb (by omega)
  have hqw := z.p.ro.1.qw
  have hgq := hst q (by omega) (by omega)
  refine ⟨⟨⟨?_, ?_⟩, ?_, hq, hs⟩, ?_, ?_⟩
  · have r := z.p.ro.1
    exact ⟨by simp; omega, (World.cell?_of_block hgq).trans r.c0, (World.cell?_of_block hgq).trans r.c1, (World.cell?_of_block hgq).trans r.c2, (World.cell?_of_block hgq).trans r.c3, (World.frozen?_of_block hgq).trans r.f1, (World.frozen?_of_block hgq).trans r.f2, (World.frozen?_of_block hgq).trans r.f3⟩
  · have g := z.p.ro.2
    refine ⟨⟨hg.os.trans g.s.os, hg.tape.trans g.s.tape, hg.output.trans g.s.output, by have := g.s.size; simp; omega, fun b hb hbq hr => ?_⟩, g.o⟩
    have hb2 : b < W.heap.size := Nat.lt_of_lt_of_le hb g.s.size
    rw [hst b hb2 (by omega)]
    exact g.s.block b hb hbq hr
  · exact z.p.nb.at (by simp; omega) (hst h (by omega) (by omega))
  · refine ⟨by simp; omega, ?_⟩
    have h1 : W1.heap[h + 1]? = some (.cells #[.string kd, nvo, v] 60 (0, 0)) := (hk (h + 1) (by omega) (by omega)).trans z.nb.blk
    rw [heap_set_at h1]
    rfl
  · exact ownsRow_setCell_below hown (by show h + 1 < h + 2; omega) v'
/-- the nodes of a list, behind an append and the store -/
theorem kids_pushed {w W W1 : World} {q k d h n : Nat} {L : List UInt8} {e : Int} {kd : ByteArray} {v v' : Value} {C : List Value} {nd : Nd} {V : Value} (z : KxS w q L k d e h kd v n C W) (hg : W.grownBy W1 v.ownBlock) (ho : Own v v' W) (h2 : NdV W (KU h v W) nd V) :
    NdV (W1.setCell ⟨h + 1, 2, none⟩ v') (KU h v' (W1.setCell ⟨h + 1, 2, none⟩ v')) nd V := by
  have hgs := hg.size
  refine h2.keep fun b i u hb hu => ?_
  have hb1 := hb.1
  refine ⟨?_, hb1, by have := hb.2.1; simp; omega, fun e => ?_⟩
  · have e1 : (W1.setCell ⟨h + 1, 2, none⟩ v').heap[b]? = W.heap[b]? := by
      rw [Below.heap_setCell W1 ⟨h + 1, 2, none⟩ v' b (by show b ≠ h + 1; omega)]
      exact hg.block b hb.2.1 (fun e => hb.2.2 e.symm)
    exact (World.cell?_of_block e1).trans hu
  · rcases ho b e with h3 | h3
    · exact hb.2.2 h3
    · have := hb.2.1; omega
/-- a list and one node more -/
theorem nd_snoc {W : World} {U : Nat → Prop} {l nd : Nd} {C : List Value} {kd : ByteArray} {hs ks : Value} (h1 : NdV W U l (.agg C.toArray)) (h2 : NdV W U nd (.agg #[.string kd, hs, ks])) : NdV W U (.snoc l nd) (.agg (C ++ [.string kd, hs, ks]).toArray) := ⟨C, kd, hs, ks, rfl, h1, h2⟩
theorem KU.step {h : Nat} {v : Value} {W W' : World} (hs : W.heap.size ≤ W'.heap.size) {nd : Nd} {V : Value} (z : NdV W' (KU h v W) nd V) : NdV W' (KU h v W') nd V := z.mono fun b hb _ => ⟨hb.1, by have := hb.2.1; omega, hb.2.2⟩
/-- the list through a call of the reader's -/
theorem kids_step {w W W' : World} {q k d h n k' d' : Nat} {L : List UInt8} {e e' : Int} {kd : ByteArray} {v : Value} {C : List Value} {nd : Nd} {V : Value} (z : KxS w q L k d e h kd v n C W) (o : RO W q L k' d' e' W') (h2 : NdV W (KU h v W) nd V) : NdV W' (KU h v W') nd V :=
  KU.step o.2.size (h2.go o.2 fun b hb => by have := hb.1; have := z.p.hq; omega)
theorem kids_below {W W' : World} {h : Nat} {v : Value} {nd : Nd} {V : Value} (b : Below W.heap.size W W') (h2 : NdV W (KU h v W) nd V) : NdV W' (KU h v W') nd V := KU.step b.size (h2.below b)
theorem kids_other {W : World} {h b : Nat} {v : Value} {nd : Nd} {V : Value} (h2 : NdV W (KU h v W) nd V) (i : Nat) (u : Value) (hu : ∀ c, KU h v W c → c ≠ b) : NdV (W.setCell ⟨b, i, none⟩ u) (KU h v (W.setCell ⟨b, i, none⟩ u)) nd V :=
  KU.step (by simp) (h2.other (a := ⟨b, i, none⟩) hu u)
/-- new blocks are of a list's nodes -/
theorem new_KU {w W W' : World} {q k d h n : Nat} {L : List UInt8} {e : Int} {kd : ByteArray} {v : Value} {C : List Value} {nd : Nd} {V : Value} (z : KxS w q L k d e h kd v n C W) (h2 : NdV W' (fun b => W.heap.size ≤ b) nd V) : NdV W' (KU h v W') nd V :=
  h2.mono fun b hb hb2 => ⟨by have := z.sz; omega, hb2, fun e => by have := (z.own.lt b e).2; omega⟩
end Go.Proofs.YtnabfganecghkaaDoor
