/- Words for slices that read as lists, cell by cell, and for rows of a call's own. -/
import Derived.Test.YtjnienlidmmhdaaGreatDoorRows
import Derived.Test.YtjnienlidmmhdaaGreatDoorSpM
import Derived.WalkKit
import Derived.Lib.Hide
import Derived.WalkLawsBesides
import Derived.WalkSpells
import Derived.OpenShut
import Derived.LoopTactic
import Derived.Below
import Derived.Lib.QuietBelow
import Derived.Deep.QuietTactic
import Derived.BigQuiet
import Derived.Deep.RegionWith
import Derived.Outline
import Derived.Deep.AppendLies
import Derived.Laws.OwnMore
import Derived.Laws.AppendOwnNone
import Derived.IntWalk
namespace Go.Proofs.YtjnienlidmmhdaaGreatDoor.Tk
open Go.RowKit Go.Sort
set_option linter.unusedVariables false

theorem ret_int {k : IntKind} {a b : Int} (h : a = b) : Ending.returned (.int k a) = .returned (.int k b) := by rw [h]
theorem ret_val {k : IntKind} {a b : Int} (h : a = b) : Value.int k a = .int k b := by rw [h]
theorem ret_bool {a b : Bool} (h : a = b) : Ending.returned (.bool a) = .returned (.bool b) := by rw [h]

/-- what an int, a uint64 can be -/
def I64 (n : Int) : Prop := -9223372036854775808 ≤ n ∧ n ≤ 9223372036854775807
def U64 (n : Int) : Prop := 0 ≤ n ∧ n ≤ 18446744073709551615
/-- all cells that there are are kept -/
def Kept (w w' : World) : Prop := ∀ (p : Addr) (v : Value), w.cell? p = some v → w'.cell? p = some v
theorem Kept.of_below {w w' : World} (h : Below w.heap.size w w') : Kept w w' := fun p v hp => (h.cell (block_lt_of_cell hp)).trans hp
theorem Kept.trans {a b c : World} (h : Kept a b) (k : Kept b c) : Kept a c := fun p v hp => k p v (h p v hp)
theorem Kept.refl (w : World) : Kept w w := fun _ _ h => h
theorem Kept.drewN {w w' : World} (h : Kept w w') (n : Nat) : Kept w (w'.drewN n) := h
theorem Kept.drew {w w' : World} (h : Kept w w') : Kept w w'.drew := h
theorem Kept.alloc {w w' : World} (h : Kept w w') (o : Obj) : Kept w (w'.alloc o) := h.trans (Kept.of_below ((Below.refl _ _).alloc (Nat.le_refl _) _))
theorem below_drewN {B : Nat} {a w : World} (h : Below B a w) (n : Nat) : Below B a (w.drewN n) := ⟨h.os, h.tape, h.output, h.size, h.block⟩

/-- the cells xs lie at A -/
def Cl (w : World) (A : Option Addr) (xs : List Value) : Prop := xs = [] ∨ ∃ b off, A = some ⟨b, off, none⟩ ∧ ∀ j v, xs[j]? = some v → w.cell? ⟨b, off + j, none⟩ = some v
theorem Cl.kept {w w' : World} {A : Option Addr} {xs : List Value} (h : Cl w A xs) (k : Kept w w') : Cl w' A xs := by
  rcases h with h | ⟨b, off, e, hc⟩
  · exact .inl h
  · exact .inr ⟨b, off, e, fun j v hj => k _ _ (hc j v hj)⟩
theorem Cl.below {w w' : World} {A : Option Addr} {xs : List Value} (h : Cl w A xs) (k : Below w.heap.size w w') : Cl w' A xs := h.kept (Kept.of_below k)
theorem Cl.nil (w : World) (A : Option Addr) : Cl w A [] := .inl rfl
theorem Cl.some_ {w : World} {A : Option Addr} {xs : List Value} (h : Cl w A xs) (h0 : 0 < xs.length) : ∃ b off, A = some ⟨b, off, none⟩ ∧ ∀ j v, xs[j]? = some v → w.cell? ⟨b, off + j, none⟩ = some v := by
  rcases h with h | h
  · rw [h] at h0; simp at h0
  · exact h
/-- a store elsewhere leaves the cells -/
theorem Cl.set {w : World} {A : Option Addr} {xs : List Value} (h : Cl w A xs) {p : Addr} (hp : ∀ a, A = some a → a.block ≠ p.block) (v : Value) : Cl (w.setCell p v) A xs := by
  rcases h with h | ⟨b, off, e, hc⟩
  · exact .inl h
  · refine .inr ⟨b, off, e, fun j v hj => ?_⟩
    have hne : p ≠ ⟨b, off + j, none⟩ := fun e' => hp _ e (by rw [e'])
    rw [World.cell?_setCell_other _ _ _ _ hne]
    exact hc j v hj
theorem getElem?_lt {α : Type} {l : List α} {k : Nat} (h : k < l.length) : ∃ x, l[k]? = some x := ⟨l[k], List.getElem?_eq_getElem h⟩
theorem take_snoc {α : Type} (l : List α) (k : Nat) (x : α) (h : l[k]? = some x) : l.take (k + 1) = l.take k ++ [x] := by
  rw [List.take_add_one, h]; rfl
theorem mem_of_at {α : Type} {l : List α} {k : Nat} {x : α} (h : l[k]? = some x) : x ∈ l := List.mem_of_getElem? h
theorem own_shape {w : World} {base : Nat} {e : TypeId} {size n : Nat} {v : Value} {xs : List Value} (h : w.ownsRow base e size v n xs) : ∃ A c, v = .slice A n c := by
  rcases h.2 with ⟨rfl, h0⟩ | ⟨g, cap, _, rfl, _⟩
  · exact ⟨none, 0, by rw [h0]⟩
  · exact ⟨_, cap, rfl⟩
theorem own_cl {w : World} {base : Nat} {e : TypeId} {size n c : Nat} {A : Option Addr} {xs : List Value} (h : w.ownsRow base e size (.slice A n c) n xs) : Cl w A xs := by
  by_cases h0 : n = 0
  · have := h.1
    rw [h0, Nat.zero_mul] at this
    exact .inl (List.eq_nil_of_length_eq_zero this)
  · obtain ⟨g, cap', hv, _, _⟩ := h.form (by omega)
    injection hv with e1 e2 e3
    subst e1
    refine .inr ⟨g, 0, rfl, fun j v hj => ?_⟩
    have hj' : j < n * size := by rw [← h.1]; exact (List.getElem?_eq_some_iff.1 hj).1
    rw [Nat.zero_add, h.cellAt j hj', hj]
theorem own_base {w : World} {B B' : Nat} {e : TypeId} {size n : Nat} {v : Value} {xs : List Value} (h : w.ownsRow B e size v n xs) (hB : B' ≤ B) : w.ownsRow B' e size v n xs := by
  obtain ⟨h1, h2⟩ := h
  refine ⟨h1, ?_⟩
  rcases h2 with h2 | ⟨g, cap, cur, hv, hb, r⟩
  · exact .inl h2
  · exact .inr ⟨g, cap, cur, hv, Nat.le_trans hB hb, r⟩
theorem own_below {w w' : World} {B : Nat} {e : TypeId} {size n : Nat} {v : Value} {xs : List Value} (h : w.ownsRow B e size v n xs) (hb : Below w.heap.size w w') : w'.ownsRow B e size v n xs :=
  h.kept (row := none) ⟨hb.os, hb.tape, hb.output, hb.size, fun k hk _ => hb.block k hk⟩ (by
    rcases ho : v.ownBlock with _ | g
    · exact .inl rfl
    · exact .inr (by simp))
theorem own_drewN {w : World} {B : Nat} {e : TypeId} {size n : Nat} {v : Value} {xs : List Value} (h : w.ownsRow B e size v n xs) (q : Nat) : (w.drewN q).ownsRow B e size v n xs := h
theorem below_own {W w w' : World} {B B' : Nat} {v : Value} {e : TypeId} {size n : Nat} {xs : List Value} (h : Below B W w) (hB : B ≤ w.heap.size) (hown : w.ownsRow B' e size v n xs) (hBB : B ≤ B') (hg : w.grownBy w' v.ownBlock) : Below B W w' :=
  h.grown hg hB (fun k hk => Nat.le_trans hBB (hown.lt k hk).1)
theorem heap_set_at {w : World} {g i : Nat} {cs : Array Value} {t : TypeId} {fr : Nat × Nat} (h : w.heap[g]? = some (.cells cs t fr)) (u : Value) : (w.setCell ⟨g, i, none⟩ u).heap[g]? = some (.cells (cs.setIfInBounds i u) t fr) := by
  simp [World.setCell, Array.getElem?_modify, h]
theorem addr_at (b o k : Nat) : (⟨b, o, none⟩ : Addr).add k = ⟨b, o + k, none⟩ := by
  unfold Addr.add
  split
  · subst_vars; rfl
  · rfl
/-- what append asks of its source -/
theorem Cl.src {w : World} {ad : Addr} {xs : List Value} (h : Cl w (some ad) xs) (j : Nat) (u : Value) (hu : xs[j]? = some u) : w.cell? (ad.add j) = some u := by
  obtain ⟨b, off, e, hc⟩ := h.some_ (by have := (List.getElem?_eq_some_iff.1 hu).1; omega)
  obtain rfl : ad = ⟨b, off, none⟩ := by simpa using e
  rw [addr_at]
  exact hc j u hu

/-- the cells of numbers -/
def intsC (k : IntKind) (l : List Int) : List Value := l.map (Value.int k)
theorem intsC_length (k : IntKind) (l : List Int) : (intsC k l).length = l.length := by simp [intsC]
theorem intsC_append (k : IntKind) (l m : List Int) : intsC k (l ++ m) = intsC k l ++ intsC k m := by simp [intsC]
theorem intsC_at {k : IntKind} {l : List Int} {j : Nat} {x : Int} (h : l[j]? = some x) : (intsC k l)[j]? = some (.int k x) := by simp [intsC, h]
theorem intsC_one (k : IntKind) (l : List Int) : ∀ u ∈ intsC k l, u.oneCell' = true := by
  intro u hu
  obtain ⟨p, _, rfl⟩ := List.mem_map.1 hu
  rfl
/-- the cells of pairs: an int, and a number of kind k -/
def twoE (k : IntKind) (p : Int × Int) : List Value := [.int .i64 p.1, .int k p.2]
def twoC (k : IntKind) (l : List (Int × Int)) : List Value := l.flatMap (twoE k)
theorem twoC_length (k : IntKind) (l : List (Int × Int)) : (twoC k l).length = l.length * 2 := by
  induction l with
  | nil => rfl
  | cons a r ih => simp [twoC, twoE] at *; omega
theorem twoC_append (k : IntKind) (l m : List (Int × Int)) : twoC k (l ++ m) = twoC k l ++ twoC k m := by simp [twoC]
theorem twoC_at {k : IntKind} : ∀ {l : List (Int × Int)} {j : Nat} {p : Int × Int}, l[j]? = some p → (twoC k l)[j * 2]? = some (.int .i64 p.1) ∧ (twoC k l)[j * 2 + 1]? = some (.int k p.2)
  | [], j, p, h => by simp at h
  | a :: r, 0, p, h => by
    simp at h
    subst h
    exact ⟨rfl, rfl⟩
  | a :: r, j + 1, p, h => by
    have ih := twoC_at (k := k) (l := r) (j := j) (p := p) (by simpa using h)
    have e : twoC k (a :: r) = .int .i64 a.1 :: .int k a.2 :: twoC k r := rfl
    rw [e, show (j + 1) * 2 = j * 2 + 1 + 1 by omega]
    exact ih
theorem twoC_one (k : IntKind) (l : List (Int × Int)) : ∀ u ∈ twoC k l, u.oneCell' = true := by
  intro u hu
  obtain ⟨p, _, hp⟩ := List.mem_flatMap.1 hu
  simp [twoE] at hp
  rcases hp with rfl | rfl <;> rfl
/-- a slice of numbers, one of pairs, by its place -/
theorem Cl.ints {w : World} {A : Option Addr} {k : IntKind} {l : List Int} (h : Cl w A (intsC k l)) (h0 : 0 < l.length) : ∃ b off, A = some ⟨b, off, none⟩ ∧ ∀ (j : Nat) (x : Int), l[j]? = some x → w.cell? ⟨b, off + j, none⟩ = some (.int k x) := by
  obtain ⟨b, off, e, hc⟩ := h.some_ (by rw [intsC_length]; exact h0)
  exact ⟨b, off, e, fun j x hj => hc j _ (intsC_at hj)⟩
theorem Cl.twos {w : World} {A : Option Addr} {k : IntKind} {l : List (Int × Int)} (h : Cl w A (twoC k l)) (h0 : 0 < l.length) : ∃ b off, A = some ⟨b, off, none⟩ ∧ ∀ (j : Nat) (p : Int × Int), l[j]? = some p → w.cell? ⟨b, off + j * 2, none⟩ = some (.int .i64 p.1) ∧ w.cell? ⟨b, off + j * 2 + 1, none⟩ = some (.int k p.2) := by
  obtain ⟨b, off, e, hc⟩ := h.some_ (by rw [twoC_length]; omega)
  exact ⟨b, off, e, fun j p hj => ⟨hc _ _ (twoC_at hj).1, by rw [Nat.add_assoc]; exact hc _ _ (twoC_at hj).2⟩⟩
theorem box2 {W : World} {g : Nat} {t : TypeId} {v0 v1 : Value} (h : W.heap[g]? = some (.cells #[v0, v1] t (0, 0))) : W.cell? ⟨g, 0, none⟩ = some v0 ∧ W.cell? ⟨g, 1, none⟩ = some v1 ∧ ∀ i, W.frozen? ⟨g, i, none⟩ = false :=
  ⟨by rw [cell_of_row _ _ _ _ _ _ h]; rfl, by rw [cell_of_row _ _ _ _ _ _ h]; rfl, fun i => by simp [World.frozen?, h]⟩
/-- a block of two cells in whatever world keeps all below w0 -/
theorem box2b {w0 : World} {g : Nat} {t : TypeId} {v0 v1 : Value} (h : w0.heap[g]? = some (.cells #[v0, v1] t (0, 0))) (W : World) (hb : Below w0.heap.size w0 W) : W.cell? ⟨g, 0, none⟩ = some v0 ∧ W.cell? ⟨g, 1, none⟩ = some v1 :=
  let ⟨a, b, _⟩ := box2 ((hb.block g (Array.getElem?_eq_some_iff.1 h).1).trans h)
  ⟨a, b⟩
theorem infoI : (Tryz.prog.info? 3).map (fun i => (i.zero, i.size, i.bytes)) = some (some (.int .i64 0), 1, 8) := by kernel_rfl
theorem infoS : (Tryz.prog.info? 205).map (fun i => (i.zero, i.size, i.bytes)) = some (some (.agg #[.int .i64 0, .int .i64 0]), 2, 16) := by kernel_rfl
theorem infoB : (Tryz.prog.info? 123).map (fun i => (i.zero, i.size, i.bytes)) = some (some (.agg #[.int .i64 0, .int .u64 0]), 2, 16) := by kernel_rfl
/-- all bounds of a layout's runs -/
def Sb (s : List (Int × Int)) : Prop := ∀ p ∈ s, I64 p.1 ∧ I64 p.2

theorem offset_any (i o : Int) (w : World) : Calls Tryz.prog 235 #[.int .i64 i, .int .i64 o] w fun e w' => e = .returned (.bool (offB i o)) ∧ w = w' := by
  by_cases h : i = 0
  · subst h
    have HE := Lib.hid (show (o == 0) = offB 0 o from rfl)
    go_enter Tryz.func235, Tryz.ntmps235
    go_wp2
    go_ret
    exact ⟨ret_bool HE.out, rfl⟩
  · have h' : (i == 0) = false := by simpa using h
    by_cases h1 : 1 ≤ o
    · have HE := Lib.hid (show decide (o ≤ 524288) = offB i o by unfold offB; rw [if_neg h]; simp [h1])
      clear h
      go_enter Tryz.func235, Tryz.ntmps235
      go_wp2
      go_ret
      exact ⟨ret_bool HE.out, rfl⟩
    · have HE := Lib.hid (show false = offB i o by unfold offB; rw [if_neg h]; simp [h1])
      clear h
      go_enter Tryz.func235, Tryz.ntmps235
      go_wp2
      go_ret
      exact ⟨ret_bool HE.out, rfl⟩
end Go.Proofs.YtjnienlidmmhdaaGreatDoor.Tk
