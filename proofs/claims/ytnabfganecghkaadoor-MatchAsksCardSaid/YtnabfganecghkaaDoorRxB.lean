/- The parser in memory: its own block, its row of places; what a call leaves as it was. -/
import Derived.Test.YtnabfganecghkaaDoorRows
import Derived.Test.YtnabfganecghkaaDoorRxA
import Derived.WalkKit
import Derived.Lib.Hide
import Derived.WalkLawsBesides
import Derived.WalkSpells
import Derived.OpenShut
import Derived.LoopTactic
import Derived.Below
import Derived.Lib.QuietBelow
import Derived.Deep.QuietTactic
import Derived.BigQuiet
import Derived.Deep.RegionWith
import Derived.Deep.RegionHeld3
import Derived.Outline
import Derived.Deep.AppendLies
import Derived.Laws.OwnMore
import Derived.Laws.AppendOwnNone
import Derived.IntWalk
import Derived.ArgAppend
import Derived.Laws.BitsAllLaws
namespace Go.Proofs.YtnabfganecghkaaDoor
open Go.RowKit
set_option linter.unusedVariables false

theorem ret_int {k : IntKind} {a b : Int} (h : a = b) : Ending.returned (.int k a) = .returned (.int k b) := by rw [h]
theorem ret_val {k : IntKind} {a b : Int} (h : a = b) : Value.int k a = .int k b := by rw [h]
theorem ret_bool {a b : Bool} (h : a = b) : Ending.returned (.bool a) = .returned (.bool b) := by rw [h]
/-- all cells that there are are kept -/
def Kept (w w' : World) : Prop := ∀ (p : Addr) (v : Value), w.cell? p = some v → w'.cell? p = some v
theorem Kept.of_below {w w' : World} (h : Below w.heap.size w w') : Kept w w' := fun p v hp => (h.cell (block_lt_of_cell hp)).trans hp
theorem Kept.trans {a b c : World} (h : Kept a b) (k : Kept b c) : Kept a c := fun p v hp => k p v (h p v hp)
theorem Kept.refl (w : World) : Kept w w := fun _ _ h => h
theorem Kept.drewN {w w' : World} (h : Kept w w') (n : Nat) : Kept w (w'.drewN n) := h
theorem Kept.drew {w w' : World} (h : Kept w w') : Kept w w'.drew := h
theorem Kept.alloc {w w' : World} (h : Kept w w') (o : Obj) : Kept w (w'.alloc o) := h.trans (Kept.of_below ((Below.refl _ _).alloc (Nat.le_refl _) _))
theorem below_drewN {B : Nat} {a w : World} (h : Below B a w) (n : Nat) : Below B a (w.drewN n) := ⟨h.os, h.tape, h.output, h.size, h.block⟩
/-- the cells xs lie at A -/
def Cl (w : World) (A : Option Addr) (xs : List Value) : Prop := xs = [] ∨ ∃ b off, A = some ⟨b, off, none⟩ ∧ ∀ j v, xs[j]? = some v → w.cell? ⟨b, off + j, none⟩ = some v
theorem Cl.kept {w w' : World} {A : Option Addr} {xs : List Value} (h : Cl w A xs) (k : Kept w w') : Cl w' A xs := by
  rcases h with h | ⟨b, off, e, hc⟩
  · exact .inl h
  · exact .inr ⟨b, off, e, fun j v hj => k _ _ (hc j v hj)⟩
theorem Cl.below {w w' : World} {A : Option Addr} {xs : List Value} (h : Cl w A xs) (k : Below w.heap.size w w') : Cl w' A xs := h.kept (Kept.of_below k)
theorem Cl.nil (w : World) (A : Option Addr) : Cl w A [] := .inl rfl
theorem Cl.some_ {w : World} {A : Option Addr} {xs : List Value} (h : Cl w A xs) (h0 : 0 < xs.length) : ∃ b off, A = some ⟨b, off, none⟩ ∧ ∀ j v, xs[j]? = some v → w.cell? ⟨b, off + j, none⟩ = some v := by
  rcases h with h | h
  · rw [h] at h0; simp at h0
  · exact h
/-- a store elsewhere leaves the cells -/
theorem Cl.set {w : World} {A : Option Addr} {xs : List Value} (h : Cl w A xs) {p : Addr} (hp : ∀ a, A = some a → a.block ≠ p.block) (v : Value) : Cl (w.setCell p v) A xs := by
  rcases h with h | ⟨b, off, e, hc⟩
  · exact .inl h
  · refine .inr ⟨b, off, e, fun j v hj => ?_⟩
    have hne : p ≠ ⟨b, off + j, none⟩ := fun e' => hp _ e (by rw [e'])
    rw [World.cell?_setCell_other _ _ _ _ hne]
    exact hc j v hj
theorem own_shape {w : World} {base : Nat} {e : TypeId} {size n : Nat} {v : Value} {xs : List Value} (h : w.ownsRow base e size v n xs) : ∃ A c, v = .slice A n c := by
  rcases h.2 with ⟨rfl, h0⟩ | ⟨g, cap, _, rfl, _⟩
  · exact ⟨none, 0, by rw [h0]⟩
  · exact ⟨_, cap, rfl⟩
theorem own_cl {w : World} {base : Nat} {e : TypeId} {size n c : Nat} {A : Option Addr} {xs : List Value} (h : w.ownsRow base e size (.slice A n c) n xs) : Cl w A xs := by
  by_cases h0 : n = 0
  · have := h.1
    rw [h0, Nat.zero_mul] at this
    exact .inl (List.eq_nil_of_length_eq_zero this)
  · obtain ⟨g, cap', hv, _, _⟩ := h.form (by omega)
    injection hv with e1 e2 e3
    subst e1
    refine .inr ⟨g, 0, rfl, fun j v hj => ?_⟩
    have hj' : j < n * size := by rw [← h.1]; exact (List.getElem?_eq_some_iff.1 hj).1
    rw [Nat.zero_add, h.cellAt j hj', hj]
theorem own_base {w : World} {B B' : Nat} {e : TypeId} {size n : Nat} {v : Value} {xs : List Value} (h : w.ownsRow B e size v n xs) (hB : B' ≤ B) : w.ownsRow B' e size v n xs := by
  obtain ⟨h1, h2⟩ := h
  refine ⟨h1, ?_⟩
  rcases h2 with h2 | ⟨g, cap, cur, hv, hb, r⟩
  · exact .inl h2
  · exact .inr ⟨g, cap, cur, hv, Nat.le_trans hB hb, r⟩
theorem own_below {w w' : World} {B : Nat} {e : TypeId} {size n : Nat} {v : Value} {xs : List Value} (h : w.ownsRow B e size v n xs) (hb : Below w.heap.size w w') : w'.ownsRow B e size v n xs :=
  h.kept (row := none) ⟨hb.os, hb.tape, hb.output, hb.size, fun k hk _ => hb.block k hk⟩ (by
    rcases ho : v.ownBlock with _ | g
    · exact .inl rfl
    · exact .inr (by simp))
theorem own_drewN {w : World} {B : Nat} {e : TypeId} {size n : Nat} {v : Value} {xs : List Value} (h : w.ownsRow B e size v n xs) (q : Nat) : (w.drewN q).ownsRow B e size v n xs := h
theorem below_own {W w w' : World} {B B' : Nat} {v : Value} {e : TypeId} {size n : Nat} {xs : List Value} (h : Below B W w) (hB : B ≤ w.heap.size) (hown : w.ownsRow B' e size v n xs) (hBB : B ≤ B') (hg : w.grownBy w' v.ownBlock) : Below B W w' :=
  h.grown hg hB (fun k hk => Nat.le_trans hBB (hown.lt k hk).1)
theorem heap_set_at {w : World} {g i : Nat} {cs : Array Value} {t : TypeId} {fr : Nat × Nat} (h : w.heap[g]? = some (.cells cs t fr)) (u : Value) : (w.setCell ⟨g, i, none⟩ u).heap[g]? = some (.cells (cs.setIfInBounds i u) t fr) := by
  simp [World.setCell, Array.getElem?_modify, h]
theorem addr_at (b o k : Nat) : (⟨b, o, none⟩ : Addr).add k = ⟨b, o + k, none⟩ := by
  unfold Addr.add
  split
  · subst_vars; rfl
  · rfl
/-- what append asks of its source -/
theorem Cl.src {w : World} {ad : Addr} {xs : List Value} (h : Cl w (some ad) xs) (j : Nat) (u : Value) (hu : xs[j]? = some u) : w.cell? (ad.add j) = some u := by
  obtain ⟨b, off, e, hc⟩ := h.some_ (by have := (List.getElem?_eq_some_iff.1 hu).1; omega)
  obtain rfl : ad = ⟨b, off, none⟩ := by simpa using e
  rw [addr_at]
  exact hc j u hu

/-- of what was there, only block p and the row's block may have turned -/
structure Step (p : Nat) (r : Option Nat) (w w' : World) : Prop where
  os : w'.os = w.os
  tape : w'.tape = w.tape
  output : w'.output = w.output
  size : w.heap.size ≤ w'.heap.size
  block : ∀ k, k < w.heap.size → k ≠ p → r ≠ some k → w'.heap[k]? = w.heap[k]?
/-- the row of v' lies in v's own block, or in a new one -/
def Own (v v' : Value) (w : World) : Prop := ∀ g, v'.ownBlock = some g → v.ownBlock = some g ∨ w.heap.size ≤ g
/-- a call that may turn the parser's block and its row alone, and move the row from v to v' -/
structure Go1 (g : Nat) (v v' : Value) (w w' : World) : Prop where
  s : Step g v.ownBlock w w'
  o : Own v v' w
theorem Go1.refl (g : Nat) (v : Value) (w : World) : Go1 g v v w w := ⟨⟨rfl, rfl, rfl, Nat.le_refl _, fun _ _ _ _ => rfl⟩, fun _ h => .inl h⟩
theorem Go1.trans {g : Nat} {v v' v'' : Value} {w w1 w2 : World} (h : Go1 g v v' w w1) (k : Go1 g v' v'' w1 w2) : Go1 g v v'' w w2 :=
  ⟨⟨k.s.os.trans h.s.os, k.s.tape.trans h.s.tape, k.s.output.trans h.s.output, Nat.le_trans h.s.size k.s.size, fun j hj hp hr =>
    (k.s.block j (Nat.lt_of_lt_of_le hj h.s.size) hp (fun e => (h.o j e).elim hr (fun e' => by omega))).trans (h.s.block j hj hp hr)⟩, fun j hj => by
    rcases k.o j hj with h1 | h1
    · exact h.o j h1
    · exact .inr (Nat.le_trans h.s.size h1)⟩
theorem Go1.size {g : Nat} {v v' : Value} {w w' : World} (h : Go1 g v v' w w') : w.heap.size ≤ w'.heap.size := h.s.size
theorem Go1.drewN {g : Nat} {v v' : Value} {w w' : World} (h : Go1 g v v' w w') (n : Nat) : Go1 g v v' w (w'.drewN n) := ⟨⟨h.s.os, h.s.tape, h.s.output, h.s.size, h.s.block⟩, h.o⟩
theorem Go1.drew {g : Nat} {v v' : Value} {w w' : World} (h : Go1 g v v' w w') : Go1 g v v' w w'.drew := ⟨⟨h.s.os, h.s.tape, h.s.output, h.s.size, h.s.block⟩, h.o⟩
/-- all below B stays, new blocks aside -/
theorem Go1.of_below {g : Nat} {v : Value} {w w' : World} (h : Below w.heap.size w w') : Go1 g v v w w' :=
  ⟨⟨h.os, h.tape, h.output, h.size, fun k hk _ _ => h.block k hk⟩, fun _ h => .inl h⟩
theorem Go1.alloc {g : Nat} {v v' : Value} {w w' : World} (h : Go1 g v v' w w') (o : Obj) : Go1 g v v' w (w'.alloc o) :=
  h.trans (Go1.of_below ((Below.refl _ _).alloc (Nat.le_refl _) _))

/-- the cells of places -/
def plE (p : Pl) : List Value := [.int .u64 (wd p.X 0 : Nat), .int .u64 (wd p.X 1 : Nat), .int .u64 (wd p.X 2 : Nat), .int .u64 (wd p.X 3 : Nat), .int .u64 (p.n : Nat)]
def plC (P : List Pl) : List Value := P.flatMap plE
theorem plC_length (P : List Pl) : (plC P).length = P.length * 5 := by
  induction P with
  | nil => rfl
  | cons a r ih =>
    have e : plC (a :: r) = plE a ++ plC r := rfl
    rw [e, List.length_append, ih, List.length_cons]
    show 5 + _ = _
    omega
theorem plC_append (P Q : List Pl) : plC (P ++ Q) = plC P ++ plC Q := by simp [plC]
theorem plC_at : ∀ {P : List Pl} {j i : Nat} {p : Pl}, P[j]? = some p → i < 5 → (plC P)[j * 5 + i]? = (plE p)[i]?
  | [], j, i, p, h, _ => by simp at h
  | a :: r, 0, i, p, h, hi => by
    simp at h
    subst h
    have e : plC (a :: r) = plE a ++ plC r := rfl
    rw [e, Nat.zero_mul, Nat.zero_add, List.getElem?_append_left (by exact hi)]
  | a :: r, j + 1, i, p, h, hi => by
    have ih := plC_at (P := r) (j := j) (p := p) (by simpa using h) hi
    have e : plC (a :: r) = plE a ++ plC r := rfl
    rw [e, List.getElem?_append_right (by show 5 ≤ _; omega)]
    show (plC r)[(j + 1) * 5 + i - 5]? = _
    rw [show (j + 1) * 5 + i - 5 = j * 5 + i by omega]
    exact ih
theorem plC_set : ∀ {P : List Pl} {j : Nat} {p : Pl} {m : Nat}, P[j]? = some p → (plC P).set (j * 5 + 4) (.int .u64 (m : Nat)) = plC (P.set j ⟨p.X, m⟩)
  | [], j, p, m, h => by simp at h
  | a :: r, 0, p, m, h => by
    simp at h
    subst h
    rfl
  | a :: r, j + 1, p, m, h => by
    have ih := plC_set (P := r) (j := j) (p := p) (m := m) (by simpa using h)
    have e : plC (a :: r) = plE a ++ plC r := rfl
    have e2 : (a :: r).set (j + 1) ⟨p.X, m⟩ = a :: r.set j ⟨p.X, m⟩ := rfl
    have e3 : plC (a :: r.set j ⟨p.X, m⟩) = plE a ++ plC (r.set j ⟨p.X, m⟩) := rfl
    rw [e, e2, e3, ← ih, List.set_append]
    have h5 : (plE a).length = 5 := rfl
    rw [h5, if_neg (by omega), show (j + 1) * 5 + 4 - 5 = j * 5 + 4 by omega]
theorem plC_one (P : List Pl) : ∀ u ∈ plC P, u.oneCell' = true := by
  intro u hu
  obtain ⟨p, _, hp⟩ := List.mem_flatMap.1 hu
  simp [plE] at hp
  rcases hp with rfl | rfl | rfl | rfl | rfl <;> rfl
/-- a text of bytes -/
def tx (l : List UInt8) : ByteArray := ⟨l.toArray⟩
theorem tx_size (l : List UInt8) : (tx l).size = l.length := by simp [tx, ByteArray.size]
theorem tx_data (l : List UInt8) : (tx l).data.toList = l := by simp [tx]
theorem tx_of (s : ByteArray) : tx s.data.toList = s := by cases s; simp [tx]
/-- the values of a set, of a piece -/
def setV (X : Nat → Bool) : Value := .agg #[.int .u64 (wd X 0 : Nat), .int .u64 (wd X 1 : Nat), .int .u64 (wd X 2 : Nat), .int .u64 (wd X 3 : Nat)]
def pcV (x : Pc) : Value := .agg #[.int .u64 (x.f : Nat), .int .u64 (x.l : Nat), .bool x.e]
def PcOk (x : Pc) : Prop := x.f < 18446744073709551616 ∧ x.l < 18446744073709551616
def PlOk (P : List Pl) : Prop := ∀ p ∈ P, p.n < 18446744073709551616

/-- the parser at block g: what is left, how deep, its places, what is wrong; its row lies from block B on -/
structure Ps (w : World) (g B : Nat) (l : List UInt8) (d : Nat) (v : Value) (P : List Pl) (e : Int) : Prop where
  gb : g < B
  bw : B ≤ w.heap.size
  c0 : w.cell? ⟨g, 0, none⟩ = some (.string (tx l))
  c1 : w.cell? ⟨g, 1, none⟩ = some (.int .i64 (d : Int))
  c2 : w.cell? ⟨g, 2, none⟩ = some v
  c3 : w.cell? ⟨g, 3, none⟩ = some (.int .i64 e)
  f0 : w.frozen? ⟨g, 0, none⟩ = false
  f1 : w.frozen? ⟨g, 1, none⟩ = false
  f2 : w.frozen? ⟨g, 2, none⟩ = false
  f3 : w.frozen? ⟨g, 3, none⟩ = false
  own : w.ownsRow B 104 5 v P.length (plC P)
  ok : PlOk P
theorem Ps.drewN {w : World} {g B : Nat} {l : List UInt8} {d : Nat} {v : Value} {P : List Pl} {e : Int} (h : Ps w g B l d v P e) (n : Nat) : Ps (w.drewN n) g B l d v P e :=
  ⟨h.gb, h.bw, h.c0, h.c1, h.c2, h.c3, h.f0, h.f1, h.f2, h.f3, h.own, h.ok⟩
theorem Ps.drew {w : World} {g B : Nat} {l : List UInt8} {d : Nat} {v : Value} {P : List Pl} {e : Int} (h : Ps w g B l d v P e) : Ps w.drew g B l d v P e :=
  ⟨h.gb, h.bw, h.c0, h.c1, h.c2, h.c3, h.f0, h.f1, h.f2, h.f3, h.own, h.ok⟩
theorem Ps.gw {w : World} {g B : Nat} {l : List UInt8} {d : Nat} {v : Value} {P : List Pl} {e : Int} (h : Ps w g B l d v P e) : g < w.heap.size := Nat.lt_of_lt_of_le h.gb h.bw
theorem Ps.ne {w : World} {g B : Nat} {l : List UInt8} {d : Nat} {v : Value} {P : List Pl} {e : Int} (h : Ps w g B l d v P e) : v.ownBlock ≠ some g := fun hg => by
  have := (h.own.lt g hg).1
  have := h.gb
  omega
/-- what leaves the parser's block and its row leaves the parser -/
theorem Ps.kept {w w' : World} {g B : Nat} {l : List UInt8} {d : Nat} {v : Value} {P : List Pl} {e : Int} (h : Ps w g B l d v P e) (hs : w.heap.size ≤ w'.heap.size) (hos : w'.os = w.os) (ht : w'.tape = w.tape) (ho : w'.output = w.output)
    (hk : ∀ k, k < w.heap.size → k = g ∨ v.ownBlock = some k → w'.heap[k]? = w.heap[k]?) : Ps w' g B l d v P e := by
  have hg := hk g h.gw (.inl rfl)
  refine ⟨h.gb, Nat.le_trans h.bw hs, (World.cell?_of_block hg).trans h.c0, (World.cell?_of_block hg).trans h.c1, (World.cell?_of_block hg).trans h.c2, (World.cell?_of_block hg).trans h.c3, (World.frozen?_of_block hg).trans h.f0, (World.frozen?_of_block hg).trans h.f1, (World.frozen?_of_block hg).trans h.f2, (World.frozen?_of_block hg).trans h.f3, ?_, h.ok⟩
  obtain ⟨h1, h2⟩ := h.own
  refine ⟨h1, ?_⟩
  rcases h2 with h2 | ⟨r, cap, cur, hv, hb, hr, q⟩
  · exact .inl h2
  · refine .inr ⟨r, cap, cur, hv, hb, ?_, q⟩
    rw [hk r (Array.getElem?_eq_some_iff.1 hr).1 (.inr (by rw [hv]; rfl))]
    exact hr
theorem Ps.below {w w' : World} {g B : Nat} {l : List UInt8} {d : Nat} {v : Value} {P : List Pl} {e : Int} (h : Ps w g B l d v P e) (hb : Below w.heap.size w w') : Ps w' g B l d v P e :=
  h.kept hb.size hb.os hb.tape hb.output fun k hk _ => hb.block k hk
theorem Ps.alloc {w : World} {g B : Nat} {l : List UInt8} {d : Nat} {v : Value} {P : List Pl} {e : Int} (h : Ps w g B l d v P e) (o : Obj) : Ps (w.alloc o) g B l d v P e :=
  h.below ((Below.refl _ _).alloc (Nat.le_refl _) _)
/-- a store into another block -/
theorem Ps.other {w : World} {g B : Nat} {l : List UInt8} {d : Nat} {v : Value} {P : List Pl} {e : Int} (h : Ps w g B l d v P e) {a : Addr} (h1 : a.block ≠ g) (h2 : v.ownBlock ≠ some a.block) (u : Value) : Ps (w.setCell a u) g B l d v P e :=
  h.kept (by simp) rfl rfl rfl fun k _ hk => Below.heap_setCell w a u k (fun e => by
    subst e
    rcases hk with hk | hk
    · exact h1 hk
    · exact h2 hk)
theorem Go1.other {g : Nat} {v v' : Value} {w w' : World} (h : Go1 g v v' w w') {a : Addr} (ha : w.heap.size ≤ a.block) (u : Value) : Go1 g v v' w (w'.setCell a u) :=
  ⟨⟨h.s.os, h.s.tape, h.s.output, by have := h.s.size; simpa using this, fun k hk hp hr => (Below.heap_setCell w' a u k (by omega)).trans (h.s.block k hk hp hr)⟩, h.o⟩
/-- stores into the parser's own block -/
theorem Ps.setP {w : World} {g B : Nat} {l l' : List UInt8} {d d' : Nat} {v : Value} {P : List Pl} {e e' : Int} (h : Ps w g B l d v P e) (i : Nat) (u : Value)
    (k0 : (w.setCell ⟨g, i, none⟩ u).cell? ⟨g, 0, none⟩ = some (.string (tx l'))) (k1 : (w.setCell ⟨g, i, none⟩ u).cell? ⟨g, 1, none⟩ = some (.int .i64 (d' : Int))) (k2 : (w.setCell ⟨g, i, none⟩ u).cell? ⟨g, 2, none⟩ = some v) (k3 : (w.setCell ⟨g, i, none⟩ u).cell? ⟨g, 3, none⟩ = some (.int .i64 e')) :
    Ps (w.setCell ⟨g, i, none⟩ u) g B l' d' v P e' ∧ Go1 g v v w (w.setCell ⟨g, i, none⟩ u) := by
  have f0 := h.f0
  have f1 := h.f1
  have f2 := h.f2
  have f3 := h.f3
  refine ⟨⟨h.gb, by simpa using h.bw, k0, k1, k2, k3, by simp [go_sem, f0], by simp [go_sem, f1], by simp [go_sem, f2], by simp [go_sem, f3], ownsRow_setCell_below h.own h.gb u, h.ok⟩, ⟨rfl, rfl, rfl, by simp, fun k _ hk _ => Below.heap_setCell w ⟨g, i, none⟩ u k hk⟩, fun _ h => .inl h⟩
theorem Ps.setL {w : World} {g B : Nat} {l : List UInt8} {d : Nat} {v : Value} {P : List Pl} {e : Int} (h : Ps w g B l d v P e) (l' : List UInt8) :
    Ps (w.setCell ⟨g, 0, none⟩ (.string (tx l'))) g B l' d v P e ∧ Go1 g v v w (w.setCell ⟨g, 0, none⟩ (.string (tx l'))) := by
  have c0 := h.c0
  have c1 := h.c1
  have c2 := h.c2
  have c3 := h.c3
  exact h.setP 0 _ (by simp [go_sem, c0]) (by simp [go_sem, c1]) (by simp [go_sem, c2]) (by simp [go_sem, c3])
theorem Ps.setD {w : World} {g B : Nat} {l : List UInt8} {d : Nat} {v : Value} {P : List Pl} {e : Int} (h : Ps w g B l d v P e) (d' : Nat) (D : Int) (hD : D = (d' : Int)) :
    Ps (w.setCell ⟨g, 1, none⟩ (.int .i64 D)) g B l d' v P e ∧ Go1 g v v w (w.setCell ⟨g, 1, none⟩ (.int .i64 D)) := by
  subst hD
  have c0 := h.c0
  have c1 := h.c1
  have c2 := h.c2
  have c3 := h.c3
  exact h.setP 1 _ (by simp [go_sem, c0]) (by simp [go_sem, c1]) (by simp [go_sem, c2]) (by simp [go_sem, c3])
theorem Ps.setE {w : World} {g B : Nat} {l : List UInt8} {d : Nat} {v : Value} {P : List Pl} {e : Int} (h : Ps w g B l d v P e) (e' : Int) :
    Ps (w.setCell ⟨g, 3, none⟩ (.int .i64 e')) g B l d v P e' ∧ Go1 g v v w (w.setCell ⟨g, 3, none⟩ (.int .i64 e')) := by
  have c0 := h.c0
  have c1 := h.c1
  have c2 := h.c2
  have c3 := h.c3
  exact h.setP 3 _ (by simp [go_sem, c0]) (by simp [go_sem, c1]) (by simp [go_sem, c2]) (by simp [go_sem, c3])
/-- a box of a call's own for a piece -/
structure Bx (w : World) (h g : Nat) (v : Value) (x : Pc) : Prop where
  hw : h < w.heap.size
  hg : h ≠ g
  hv : v.ownBlock ≠ some h
  blk : w.heap[h]? = some (.cells #[.int .u64 (x.f : Nat), .int .u64 (x.l : Nat), .bool x.e] 50 (0, 0))
theorem Bx.go {w w' : World} {h g : Nat} {v v' : Value} {x : Pc} (b : Bx w h g v x) (k : Go1 g v v' w w') : Bx w' h g v' x :=
  ⟨Nat.lt_of_lt_of_le b.hw k.size, b.hg, fun e => (k.o h e).elim b.hv (fun e' => by have := b.hw; omega), (k.s.block h b.hw b.hg b.hv).trans b.blk⟩
theorem Bx.drewN {w : World} {h g : Nat} {v : Value} {x : Pc} (b : Bx w h g v x) (n : Nat) : Bx (w.drewN n) h g v x := ⟨b.hw, b.hg, b.hv, b.blk⟩
theorem Bx.drew {w : World} {h g : Nat} {v : Value} {x : Pc} (b : Bx w h g v x) : Bx w.drew h g v x := ⟨b.hw, b.hg, b.hv, b.blk⟩
theorem Bx.alloc {w : World} {h g : Nat} {v : Value} {x : Pc} (b : Bx w h g v x) (o : Obj) : Bx (w.alloc o) h g v x := b.go (Go1.refl g v w |>.alloc o)
theorem Bx.cells {w : World} {h g : Nat} {v : Value} {x : Pc} (b : Bx w h g v x) : w.cell? ⟨h, 0, none⟩ = some (.int .u64 (x.f : Nat)) ∧ w.cell? ⟨h, 1, none⟩ = some (.int .u64 (x.l : Nat)) ∧ w.cell? ⟨h, 2, none⟩ = some (.bool x.e) ∧ w.frozen? ⟨h, 0, none⟩ = false ∧ w.frozen? ⟨h, 1, none⟩ = false ∧ w.frozen? ⟨h, 2, none⟩ = false := by
  have hb := b.blk
  refine ⟨by rw [cell_of_row _ _ _ _ _ _ hb]; rfl, by rw [cell_of_row _ _ _ _ _ _ hb]; rfl, by rw [cell_of_row _ _ _ _ _ _ hb]; rfl, by simp [World.frozen?, hb], by simp [World.frozen?, hb], by simp [World.frozen?, hb]⟩
theorem Bx.other {w : World} {h g : Nat} {v : Value} {x : Pc} (b : Bx w h g v x) {a : Addr} (ha : a.block ≠ h) (u : Value) : Bx (w.setCell a u) h g v x :=
  ⟨by simpa using b.hw, b.hg, b.hv, (Below.heap_setCell w a u h (fun e => ha e.symm)).trans b.blk⟩
/-- three stores -/
theorem Bx.put {w : World} {h g : Nat} {v : Value} {x : Pc} (b : Bx w h g v x) (y : Pc) :
    Bx (((w.setCell ⟨h, 0, none⟩ (.int .u64 (y.f : Nat))).setCell ⟨h, 1, none⟩ (.int .u64 (y.l : Nat))).setCell ⟨h, 2, none⟩ (.bool y.e)) h g v y := by
  refine ⟨by simpa using b.hw, b.hg, b.hv, ?_⟩
  rw [heap_set_at (heap_set_at (heap_set_at b.blk _) _) _]
  rfl
theorem Bx.putE {w : World} {h g : Nat} {v : Value} {x : Pc} (b : Bx w h g v x) (e : Bool) : Bx (w.setCell ⟨h, 2, none⟩ (.bool e)) h g v ⟨x.f, x.l, e⟩ := by
  refine ⟨by simpa using b.hw, b.hg, b.hv, ?_⟩
  rw [heap_set_at b.blk _]
  rfl
/-- a new box -/
theorem Bx.new {w : World} {g B : Nat} {l : List UInt8} {d : Nat} {v : Value} {P : List Pl} {e : Int} (p : Ps w g B l d v P e) (x : Pc) :
    Bx (w.alloc (.cells #[.int .u64 (x.f : Nat), .int .u64 (x.l : Nat), .bool x.e] 50 (0, 0))) w.heap.size g v x := by
  refine ⟨by simp, by have := p.gw; omega, fun e => ?_, heap_alloc_new w _⟩
  have := (p.own.lt _ e).2
  omega
theorem Ps.box {w : World} {h g B : Nat} {l : List UInt8} {d : Nat} {v : Value} {P : List Pl} {e : Int} {x : Pc} (p : Ps w g B l d v P e) (b : Bx w h g v x) (y : Pc) :
    Ps (((w.setCell ⟨h, 0, none⟩ (.int .u64 (y.f : Nat))).setCell ⟨h, 1, none⟩ (.int .u64 (y.l : Nat))).setCell ⟨h, 2, none⟩ (.bool y.e)) g B l d v P e :=
  ((p.other b.hg b.hv _).other b.hg b.hv _).other b.hg b.hv _
end Go.Proofs.YtnabfganecghkaaDoor
