/- Histograms' buckets as they lie in memory; contracts of sides, signs and sums. -/
import Derived.Test.YtjnienlidmmhdaaGreatDoorHsA
import Derived.Below
import Derived.Lib.QuietBelow
import Derived.BigQuiet
import Derived.Deep.RegionWith
import Derived.Outline
namespace Go.Proofs.YtjnienlidmmhdaaGreatDoor
open Go.RowKit Go.Sort
set_option linter.unusedVariables false

/-- an index that an int has, a count that a uint64 has -/
def Wb (p : Int × Int) : Prop := -9223372036854775808 ≤ p.1 ∧ p.1 ≤ 9223372036854775807 ∧ 0 ≤ p.2 ∧ p.2 ≤ 18446744073709551615
/-- a slice of buckets whose address is A reads as l -/
def Bk (w : World) (A : Option Addr) (l : List (Int × Int)) : Prop :=
  l.length ≤ 9223372036854775807 ∧ (∀ p ∈ l, Wb p) ∧ (l.length = 0 ∨ ∃ b off, A = some ⟨b, off, none⟩ ∧ ∀ (j : Nat) (p : Int × Int), l[j]? = some p → w.cell? ⟨b, off + j * 2, none⟩ = some (.int .i64 p.1) ∧ w.cell? ⟨b, off + j * 2 + 1, none⟩ = some (.int .u64 p.2))
/-- all cells that there are are kept -/
def Kept (w w' : World) : Prop := ∀ (p : Addr) (v : Value), w.cell? p = some v → w'.cell? p = some v
theorem Kept.of_below {w w' : World} (h : Below w.heap.size w w') : Kept w w' := fun p v hp => (h.cell (block_lt_of_cell hp)).trans hp
theorem Kept.trans {a b c : World} (h : Kept a b) (k : Kept b c) : Kept a c := fun p v hp => k p v (h p v hp)
theorem Bk.kept {w w' : World} {A : Option Addr} {l : List (Int × Int)} (h : Bk w A l) (k : Kept w w') : Bk w' A l := by
  obtain ⟨h1, h2, h3⟩ := h
  refine ⟨h1, h2, ?_⟩
  rcases h3 with h3 | ⟨b, off, e, hc⟩
  · exact .inl h3
  · exact .inr ⟨b, off, e, fun j p hj => ⟨k _ _ (hc j p hj).1, k _ _ (hc j p hj).2⟩⟩
theorem Bk.below {w w' : World} {A : Option Addr} {l : List (Int × Int)} (h : Bk w A l) (hb : Below w.heap.size w w') : Bk w' A l := h.kept (Kept.of_below hb)
theorem Bk.nil (w : World) (A : Option Addr) : Bk w A [] := ⟨by simp, by simp, .inl rfl⟩
theorem Bk.some_ {w : World} {A : Option Addr} {l : List (Int × Int)} (h : Bk w A l) (h0 : 0 < l.length) : ∃ b off, A = some ⟨b, off, none⟩ ∧ ∀ (j : Nat) (p : Int × Int), l[j]? = some p → w.cell? ⟨b, off + j * 2, none⟩ = some (.int .i64 p.1) ∧ w.cell? ⟨b, off + j * 2 + 1, none⟩ = some (.int .u64 p.2) := by
  rcases h.2.2 with h | h
  · omega
  · exact h
theorem getElem?_lt {α : Type} {l : List α} {k : Nat} (h : k < l.length) : ∃ x, l[k]? = some x := ⟨l[k], List.getElem?_eq_getElem h⟩
theorem take_snoc {α : Type} (l : List α) (k : Nat) (x : α) (h : l[k]? = some x) : l.take (k + 1) = l.take k ++ [x] := by
  rw [List.take_add_one, h]; rfl
theorem mem_of_at {α : Type} {l : List α} {k : Nat} {x : α} (h : l[k]? = some x) : x ∈ l := List.mem_of_getElem? h

theorem below_drewN {B : Nat} {a w : World} (h : Below B a w) (n : Nat) : Below B a (w.drewN n) := ⟨h.os, h.tape, h.output, h.size, h.block⟩
/-- a call that leaves the world as it is, where the walk asks for one of a row of worlds -/
theorem stays {P : Program} {f : FuncId} {args : Array Value} {W : World} {v : Value} {row : Nat → World} {at_ : Nat} (same : row at_ = W) (h : Calls P f args W fun e w' => e = .returned v ∧ W = w') :
    Calls P f args W fun e w' => e = .returned v ∧ ∃ k, w' = row k := by
  refine h.mono ?_
  rintro e w' ⟨he, rfl⟩
  exact ⟨he, at_, same.symm⟩
/-- how many observations buckets have -/
def cnt (l : List (Int × Int)) : Int := (l.map (·.2)).sum
theorem cnt_snoc (l : List (Int × Int)) (p : Int × Int) : cnt (l ++ [p]) = cnt l + p.2 := by simp [cnt]
theorem cnt_append (l m : List (Int × Int)) : cnt (l ++ m) = cnt l + cnt m := by simp [cnt]
theorem cnt_nonneg {l : List (Int × Int)} (h : ∀ p ∈ l, Wb p) : 0 ≤ cnt l := by
  induction l with
  | nil => simp [cnt]
  | cons a r ih =>
    have h1 := (h a (by simp)).2.2.1
    have h2 := ih (fun p hp => h p (by simp [hp]))
    simp [cnt] at *
    omega
theorem cnt_take {l : List (Int × Int)} (h : ∀ p ∈ l, Wb p) (k : Nat) : 0 ≤ cnt (l.take k) ∧ cnt (l.take k) ≤ cnt l := by
  have e : cnt l = cnt (l.take k) + cnt (l.drop k) := by rw [← cnt_append, List.take_append_drop]
  have h1 := cnt_nonneg (l := l.take k) (fun p hp => h p (List.mem_of_mem_take hp))
  have h2 := cnt_nonneg (l := l.drop k) (fun p hp => h p (List.mem_of_mem_drop hp))
  omega
def totV (z : Int) (l : List (Int × Int)) : Int := if z + cnt l ≤ 18446744073709551615 then z + cnt l else 0
def totE (z : Int) (l : List (Int × Int)) : Int := if z + cnt l ≤ 18446744073709551615 then 0 else 5

theorem sign_0 (w : World) : Calls Tryz.prog 273 #[.int .i64 0] w fun e w' => e = .returned (.int .i64 1) ∧ w = w' := by
  go_enter Tryz.func273, Tryz.ntmps273
  go_wp2
  go_ret
  exact ⟨rfl, rfl⟩
theorem sign_1 (w : World) : Calls Tryz.prog 273 #[.int .i64 1] w fun e w' => e = .returned (.int .i64 (-1)) ∧ w = w' := by
  go_enter Tryz.func273, Tryz.ntmps273
  go_wp2
  go_ret
  exact ⟨rfl, rfl⟩
theorem place_any (s : Int) (w : World) : Calls Tryz.prog 269 #[.int .i64 s] w fun e w' => e = .returned (.int .i64 (if s < 0 then 1 else 0)) ∧ w = w' := by
  by_cases h : s < 0
  · rw [if_pos h]
    go_enter Tryz.func269, Tryz.ntmps269
    go_wp2
    go_ret
    exact ⟨rfl, rfl⟩
  · rw [if_neg h]
    go_enter Tryz.func269, Tryz.ntmps269
    go_wp2
    go_ret
    exact ⟨rfl, rfl⟩
theorem both_any (v0 v1 v2 v3 v4 v5 : Value) (A B : Option Addr) (n c m d : Nat) (w : World) :
    Calls Tryz.prog 75 #[.agg #[v0, v1, v2, v3, v4, v5, .slice A n c, .slice B m d]] w fun e w' => e = .returned (.agg #[.slice A n c, .slice B m d]) ∧ Below w.heap.size w w' := by
  go_enter Tryz.func75, Tryz.ntmps75
  go_wp2
  exact bodyPost_ret (v := .agg #[.slice A n c, .slice B m d]) (by simp [results, Tryz.results75, go_sem]) rfl ⟨rfl, ((Below.refl _ _).alloc (Nat.le_refl _) _).alloc (by simp) _⟩
end Go.Proofs.YtjnienlidmmhdaaGreatDoor
