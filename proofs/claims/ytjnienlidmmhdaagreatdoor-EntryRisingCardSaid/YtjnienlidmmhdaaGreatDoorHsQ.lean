/- The document's own answer of what is wrong with a histogram. Written out by program: two kinds, two thresholds, two sides. -/
import Derived.Test.YtjnienlidmmhdaaGreatDoorHsDb
import Derived.Deep.AppendLies
import Derived.Deep.Cut
import Derived.Deep.RegionLaw
import Derived.Laws.AppendOwnNone
import Derived.Laws.OwnMore
import Derived.Maps.Ext
import Derived.Maps.RangeWalk
namespace Go.Proofs.YtjnienlidmmhdaaGreatDoor
open Go.RowKit Go.Sort
set_option linter.unusedVariables false

theorem box8q {w0 : World} {g : Nat} {t : TypeId} {v0 v1 v2 v3 v4 v5 v6 v7 : Value} (h : w0.heap[g]? = some (.cells #[v0, v1, v2, v3, v4, v5, v6, v7] t (0, 0))) (W : World) (hb : RowKit.Below w0.heap.size w0 W) :
    W.cell? ⟨g, 0, none⟩ = some v0 ∧ W.cell? ⟨g, 1, none⟩ = some v1 ∧ W.cell? ⟨g, 2, none⟩ = some v2 ∧ W.cell? ⟨g, 3, none⟩ = some v3 ∧ W.cell? ⟨g, 4, none⟩ = some v4 ∧ W.cell? ⟨g, 5, none⟩ = some v5 ∧ W.cell? ⟨g, 6, none⟩ = some v6 ∧ W.cell? ⟨g, 7, none⟩ = some v7 := by
  have hbx := (hb.block g (Array.getElem?_eq_some_iff.1 h).1).trans h
  refine ⟨?_, ?_, ?_, ?_, ?_, ?_, ?_, ?_⟩
  all_goals (rw [cell_of_row _ _ _ _ _ _ hbx]; rfl)
theorem infoU : (Tryz.prog.info? 36).map (fun i => (i.zero, i.size, i.bytes)) = some (some (.int .u64 0), 1, 8) := by kernel_rfl
def cellsU (L : List Int) : List Value := L.map (Value.int .u64)
theorem cellsU_snoc (L : List Int) (n : Int) : cellsU (L ++ [n]) = cellsU L ++ [.int .u64 n] := by simp [cellsU]
theorem cellsU_length (L : List Int) : (cellsU L).length = L.length := by simp [cellsU]
theorem ownsU_one (w : World) (n : Int) : (w.alloc (.cells #[.int .u64 n] 36)).ownsRow w.heap.size 36 1 (.slice (some ⟨w.heap.size, 0, none⟩) 1 1) 1 (cellsU [n]) :=
  ⟨by simp [cellsU], .inr ⟨w.heap.size, 1, #[.int .u64 n], rfl, Nat.le_refl _, heap_alloc_new w _, by omega, by unfold maxLen; omega, rfl, by simp [cellsU]⟩⟩
theorem sumTo_list (L : List Int) : ∀ k, k ≤ L.length → sumTo (fun i => L.getD i 0) k = (L.take k).sum := by
  intro k
  induction k with
  | zero => intro _; simp [sumTo]
  | succ k ih =>
    intro hk
    have e : sumTo (fun i => L.getD i 0) (k + 1) = sumTo (fun i => L.getD i 0) k + L.getD k 0 := rfl
    rw [e, ih (by omega), List.take_add_one, List.sum_append]
    have h : L[k]? = some L[k] := List.getElem?_eq_getElem (by omega)
    simp [List.getD, h]
/-- the counts of a histogram, as many sides as have been seen -/
def lk (zc : Int) (k : Nat) (P Q : List (Int × Int)) : List Int := zc :: ((if k = 0 then [] else if k = 1 then P else P ++ Q).map (·.2))
theorem own_rowU {w : World} {base n cap : Nat} {A : Option Addr} {L : List Int} (h : w.ownsRow base 36 1 (.slice A n cap) n (cellsU L)) (hp : 0 < L.length) (hl : L.length ≤ 100000) (hu : ∀ x ∈ L, 0 ≤ x ∧ x ≤ 18446744073709551615) :
    n = L.length ∧ ∃ b, A = some ⟨b, 0, none⟩ ∧ RowU w b 0 L.length (fun i => L.getD i 0) := by
  have hn : n = L.length := by
    have := h.1
    rw [cellsU_length] at this
    omega
  subst hn
  refine ⟨rfl, ?_⟩
  obtain ⟨g, cap', hv, _, _⟩ := h.form (by omega)
  injection hv with e1 e2 e3
  subst e1
  refine ⟨g, rfl, by omega, fun i hi => ?_⟩
  have hx : L[i]? = some L[i] := List.getElem?_eq_getElem hi
  have e : L.getD i 0 = L[i] := by simp [List.getD, hx]
  show w.cell? ⟨g, 0 + i, none⟩ = some (.int .u64 (L.getD i 0)) ∧ 0 ≤ L.getD i 0 ∧ L.getD i 0 ≤ 18446744073709551615
  rw [e]
  refine ⟨?_, (hu _ (List.getElem_mem hi)).1, (hu _ (List.getElem_mem hi)).2⟩
  rw [Nat.zero_add, h.cellAt i (by omega)]
  simp [cellsU, hx]
theorem refaddL (b len cap : Nat) (f : Nat → Int) (V E : Int) (w : World) (hr : RowU w b 0 len f) (hV : addV f len = V) (hE : addE f len = E) :
    Calls Tryz.prog 69 #[.slice (some ⟨b, 0, none⟩) len cap] w fun e w' => e = .returned (.tuple #[.int .u64 V, .int .i64 E]) ∧ w = w' := by
  rw [← hV, ← hE]
  exact refadd_row b 0 len cap f w hr
theorem chk_P {k s z zc ct : Int} {P Q : List (Int × Int)} (h0 : kindE k s z = 0) {e : Int} (he : e = sideE s z P) (hn : e ≠ 0) : e = checkF k s z zc ct P Q := by
  subst he
  unfold checkF
  rw [if_neg (by omega), if_pos hn]
theorem chk_Q {k s z zc ct : Int} {P Q : List (Int × Int)} (h0 : kindE k s z = 0) (h1 : sideE s z P = 0) {e : Int} (he : e = sideE s z Q) (hn : e ≠ 0) : e = checkF k s z zc ct P Q := by
  subst he
  unfold checkF
  rw [if_neg (by omega), if_neg (by omega), if_pos hn]
theorem chk_end {k s z zc ct : Int} {P Q : List (Int × Int)} (h0 : kindE k s z = 0) (h1 : sideE s z P = 0) (h2 : sideE s z Q = 0) : checkF k s z zc ct P Q = if zc + cnt (P ++ Q) ≤ 18446744073709551615 then (if zc + cnt (P ++ Q) = ct then 0 else 21) else 5 := by
  unfold checkF
  rw [if_neg (by omega), if_neg (by omega), if_neg (by omega)]
theorem side_big {s z : Int} {l : List (Int × Int)} (h : 512 < l.length) : (9 : Int) = sideE s z l := by unfold sideE; rw [if_pos h]
theorem side_small {s z : Int} {l : List (Int × Int)} (h : ¬ 512 < l.length) : walkE s z none l = sideE s z l := by unfold sideE; rw [if_neg h]
theorem bkt4 {s z : Int} {o : Option Int} {p : Int × Int} (hi : inB s p.1 = false) : bktE s z o p = 4 := by unfold bktE; rw [if_pos hi]
def RcRel (s z zc : Int) (P Q : List (Int × Int)) (w0 : World) (s3 s4 : Value) (wr : World) : Prop :=
  ∃ (k : Nat) (A' : Option Addr) (c' : Nat), k ≤ 2 ∧ s4 = .int .i64 k ∧ s3 = .slice A' (lk zc k P Q).length c' ∧ wr.ownsRow w0.heap.size 36 1 (.slice A' (lk zc k P Q).length c') (lk zc k P Q).length (cellsU (lk zc k P Q)) ∧ (1 ≤ k → sideE s z P = 0 ∧ P.length ≤ 512) ∧ (2 ≤ k → sideE s z Q = 0 ∧ Q.length ≤ 512) ∧ Below w0.heap.size w0 wr
def InRel (s z : Int) (L0 : List Int) (l : List (Int × Int)) (w0 : World) (s3 s6 : Value) (wr : World) : Prop :=
  ∃ (j : Nat) (A' : Option Addr) (c' : Nat), j ≤ l.length ∧ s6 = .int .i64 j ∧ s3 = .slice A' (L0.length + j) c' ∧ wr.ownsRow w0.heap.size 36 1 (.slice A' (L0.length + j) c') (L0.length + j) (cellsU (L0 ++ (l.take j).map (·.2))) ∧ walkE s z none l = walkE s z (prevO l j) (l.drop j) ∧ Below w0.heap.size w0 wr
end Go.Proofs.YtjnienlidmmhdaaGreatDoor
