/- The contracts of the library's Sort and Compact at rows of the call's own, of Join, of Has. -/
import Derived.Test.YtnbjgeamdipkcaaSpE
import Derived.Test.YtnbjgeamdipkcaaSpN
import Derived.Test.YtnbjgeamdipkcaaSpK
import Derived.Test.YtnbjgeamdipkcaaShelf
import Derived.Deep.RegionLaw
namespace Go.Proofs.Ytnbjgeamdipkcaa
open Go.RowKit Go.Sort
set_option linter.unusedVariables false

theorem own_holds {w : World} {base g c n : Nat} {X : List Int} (h : w.ownsRow base 3 1 (.slice (some ⟨g, 0, none⟩) n c) n (intsC .i64 X)) : Holds (Value.int .i64) w g 0 X.toArray := by
  have hn := h.1
  rw [intsC_length] at hn
  intro j hj
  have hj' : j < X.length := by simpa using hj
  refine ⟨?_, by rw [Nat.zero_add]; exact h.frozenAt j⟩
  rw [Nat.zero_add, h.cellAt j (by omega), intsC_at (List.getElem?_eq_getElem hj'), getElem!_pos X.toArray j hj]
  simp
theorem put_heap {w : World} {g n : Nat} {os : Array Obj} {cur : Array Value} {e : TypeId} {fr : Nat × Nat} (F : Array Int) (hb : w.heap[g]? = some (.cells cur e fr)) :
    (grow (putRow (Value.int .i64) (Sort.ahead w n) g 0 F) os).heap[g]? = some (.cells (putCells (Value.int .i64) 0 F cur) e fr) := by
  have hg : g < w.heap.size := (Array.getElem?_eq_some_iff.1 hb).1
  rw [heap_grow_old _ _ (by simpa using hg)]
  simp [putRow, mapBlock, Sort.ahead, Array.getElem?_modify, hb, onCells]
theorem put_grown {w : World} {g n : Nat} {os : Array Obj} (F : Array Int) : w.grownBy (grow (putRow (Value.int .i64) (Sort.ahead w n) g 0 F) os) (some g) := by
  refine ⟨rfl, rfl, rfl, by simp, fun k hk hne => ?_⟩
  rw [heap_grow_old _ _ (by simpa using hk)]
  have : g ≠ k := fun e => hne (by rw [e])
  simp [putRow, mapBlock, Sort.ahead, Array.getElem?_modify, this]
theorem put_take (cur : Array Value) (F : Array Int) (h : F.size ≤ cur.size) : (putCells (Value.int .i64) 0 F cur).toList.take F.size = intsC .i64 F.toList := by
  apply List.ext_getElem?
  intro j
  by_cases hj : j < F.size
  · rw [List.getElem?_take_of_lt hj, Array.getElem?_toList, intsC_at (x := F[j]!) (by rw [Array.getElem?_toList, getElem!_pos F j hj]; simp [hj])]
    simp [putCells, hj, show j < cur.size by omega]
  · rw [List.getElem?_take_eq_none (by omega), List.getElem?_eq_none (by rw [intsC_length]; simp; omega)]
/-- a row that is written over, by as many numbers or more than are left -/
theorem put_own {w : World} {base g c n q m : Nat} {os : Array Obj} {X : List Int} (h : w.ownsRow base 3 1 (.slice (some ⟨g, 0, none⟩) n c) n (intsC .i64 X)) (F : List Int) (hF : F.length = n) :
    (grow (putRow (Value.int .i64) (Sort.ahead w q) g 0 F.toArray) os).ownsRow base 3 1 (.slice (some ⟨g, 0, none⟩) n c) n (intsC .i64 F) := by
  rcases h.2 with ⟨h', _⟩ | ⟨g', cap', cur, hv, hb, hg, hnc, hcm, hcs, htake⟩
  · simp at h'
  · simp only [Value.slice.injEq, Option.some.injEq, Addr.mk.injEq, and_true, true_and] at hv
    obtain ⟨rfl, rfl⟩ := hv
    refine ⟨by rw [intsC_length]; omega, .inr ⟨g, c, _, rfl, hb, put_heap _ hg, hnc, hcm, by simp [putCells, hcs], ?_⟩⟩
    have := put_take cur F.toArray (by simp; omega)
    simpa [hF] using this
/-- what the sort leaves -/
def SortPost (w : World) (base : Nat) (v : Value) (X : List Int) (e : Ending) (w' : World) : Prop :=
  e = .returned (.tuple #[]) ∧ w'.ownsRow base 3 1 v X.length (intsC .i64 (X.mergeSort fun x y => decide (x ≤ y))) ∧ w.grownBy w' v.ownBlock
theorem sort_any (base n c : Nat) (A : Option Addr) (X : List Int) (w : World) (h : w.ownsRow base 3 1 (.slice A n c) n (intsC .i64 X)) (hn : n = X.length) (hX : X.length ≤ 1000000) :
    Calls Try.prog 17 #[.slice A n c] w (SortPost w base (.slice A n c) X) := by
  subst hn
  by_cases h0 : X.length = 0
  · have hX0 : X = [] := List.eq_nil_of_length_eq_zero h0
    subst hX0
    refine (Try.slices_Sort_int_none A c w).mono ?_
    rintro e w' ⟨rfl, rfl⟩
    exact ⟨rfl, by simpa using h, World.grownBy.refl _ _⟩
  · obtain ⟨g, c', hv, _, _⟩ := h.form (by omega)
    injection hv with e1 e2 e3
    subst e1
    have hlt := (h.lt g rfl).2
    refine (Try.slices_Sort_int g 0 c X w (own_holds h) hlt (by omega)).mono ?_
    rintro e w' ⟨rfl, q, os, rfl⟩
    exact ⟨rfl, put_own (m := 0) h _ (List.length_mergeSort _), put_grown _⟩
theorem grow_none (w : World) : grow w #[] = w := by simp [grow]
def CompactPost (w : World) (B : Nat) (Z : List Int) (e : Ending) (w' : World) : Prop := ∃ A c, e = .returned (.slice A (Lib.compact Z).length c) ∧ Cl w' A (intsC .i64 (Lib.compact Z)) ∧ ∀ W, Below B W w → B ≤ w.heap.size → Below B W w'
theorem compact_any (base n c : Nat) (A : Option Addr) (Z : List Int) (w : World) (h : w.ownsRow base 3 1 (.slice A n c) n (intsC .i64 Z)) (hn : n = Z.length) (hX : Z.length ≤ 1000000) :
    Calls Try.prog 18 #[.slice A n c] w (CompactPost w base Z) := by
  subst hn
  by_cases h0 : Z.length = 0
  · have hX0 : Z = [] := List.eq_nil_of_length_eq_zero h0
    subst hX0
    refine (Try.slices_Compact_int_empty A c w).mono ?_
    rintro e w' ⟨rfl, rfl⟩
    exact ⟨A, c, rfl, Cl.nil _ _, fun W hW _ => hW⟩
  · obtain ⟨g, c', hv, hb, _⟩ := h.form (by omega)
    injection hv with e1 e2 e3
    subst e1
    have hcap : Z.length ≤ c := by
      rcases h.2 with ⟨h', _⟩ | ⟨g', cap', cur, hv, hb, hg, hnc, hcm, hcs, htake⟩
      · simp at h'
      · simp only [Value.slice.injEq, Option.some.injEq, Addr.mk.injEq, and_true, true_and] at hv
        omega
    have hle := Lib.compact_length_le Z
    refine (Try.slices_Compact_int g 0 c Z w (own_holds h) (by omega) hcap).mono ?_
    rintro e w' ⟨rfl, q, rfl⟩
    have ho := put_own (m := 0) (q := q) (os := #[]) h (Lib.compact Z ++ List.replicate (Z.length - (Lib.compact Z).length) 0) (by simp; omega)
    rw [grow_none] at ho
    have hg := put_grown (w := w) (g := g) (n := q) (os := #[]) (Lib.compact Z ++ List.replicate (Z.length - (Lib.compact Z).length) 0).toArray
    rw [grow_none] at hg
    refine ⟨some ⟨g, 0, none⟩, c, rfl, ?_, fun W hW hB => hW.grown hg hB (fun k hk => by cases hk; exact (h.lt g rfl).1)⟩
    have hc := own_cl ho
    rw [intsC_append] at hc
    rcases hc with hc | ⟨b, off, e, hcl⟩
    · exact .inl (List.append_eq_nil_iff.1 hc).1
    · exact .inr ⟨b, off, e, fun j v hj => hcl j v (by rw [List.getElem?_append_left (List.getElem?_eq_some_iff.1 hj).1]; exact hj)⟩
/-- append of one row of the call's own to another one, at a step of a region -/
theorem step_app_ints {ops : Array Oper} {o : Oper} {a : Act} {w : World} {K : Act → World → Prop} {Q : Exit → Act → World → Prop} {E : Prop} (hgd : o.guard = none) (s x : Operand)
    (ho : o.op = .call { callee := .builtin .append, args := #[s, x], argTypes := #[27, 27] })
    (base : Nat) (A : Option Addr) (n c : Nat) (X : List Int) (hs : a.eval s = .slice A n c) (hown : w.ownsRow base 3 1 (.slice A n c) n (intsC .i64 X))
    (base2 : Nat) (B : Option Addr) (m d : Nat) (Y : List Int) (hx : a.eval x = .slice B m d) (hown2 : w.ownsRow base2 3 1 (.slice B m d) m (intsC .i64 Y)) (hl : n + m ≤ 1000000) (hbase : base ≤ w.heap.size)
    (h : ∀ A' c' w', w'.ownsRow base 3 1 (.slice A' (n + m) c') (n + m) (intsC .i64 (X ++ Y)) → w.grownBy w' (Value.slice A n c).ownBlock → K (a.put o.dst (.slice A' (n + m) c')) w') :
    if Region.wanted o (yielded ops a.tmps) = true then Oper.wp Try.prog o a w K Q else E := by
  have hw : Region.wanted o (yielded ops a.tmps) = true := by simp [Region.wanted, hgd]
  rw [if_pos hw]
  obtain ⟨i0, hi, hz0, hz1, hz2⟩ := info_parts infoI
  cases B with
  | none =>
    rcases hown2.2 with ⟨hv, hm⟩ | ⟨g, cap, cur, hv, _⟩
    · injection hv with e1 e2 e3
      subst hm e3
      have hY : Y = [] := by
        have := hown2.1
        rw [intsC_length] at this
        exact List.eq_nil_of_length_eq_zero (by omega)
      subst hY
      have hrun := run_append_owned_none (P := Try.prog) (w := w) base 27 o.type 3 i0 1 Try.underlying27 hi (.slice A n c) n (intsC .i64 X) hown
      unfold Oper.wp
      simp [execOp, ho, resolve, invoke, builtin, hs, hx, hrun, Result.andThen]
      exact h A c w (by simpa using hown) (World.grownBy.refl _ _)
    · simp at hv
  | some ad =>
    refine wp_append_own w s x 27 ho base 3 i0 (.int .i64 0) 1 8 Try.underlying27 hi hz0 hz1 hz2 rfl (by decide) _ n (intsC .i64 X) hs hown ad m d (intsC .i64 Y) hx (by have := hown2.1; omega) (own_cl hown2).src (intsC_one _ _) (by unfold maxLen; omega) (by omega) hbase ?_
    intro v' w' h1 h2 _
    obtain ⟨A', c', rfl⟩ := own_shape h1
    rw [← intsC_append] at h1
    exact h A' c' w' h1 h2
end Go.Proofs.Ytnbjgeamdipkcaa
