/- Rows of buckets: append of one, of all of another one; slices.Grow of nothing, slices.Concat. -/
import Derived.Test.YtbibhjcmdehdbaaHsN
import Derived.Test.YtbibhjcmdehdbaaHsP
import Derived.Test.YtbibhjcmdehdbaaMdC
import Derived.Lib.AppendZeros
namespace Go.Proofs.Ytbibhjcmdehdbaa
open Go.RowKit Go.Sort
set_option linter.unusedVariables false

theorem below_own {W w w' : World} {B : Nat} {v : Value} {e : TypeId} {size n : Nat} {xs : List Value} (h : Below B W w) (hB : B ≤ w.heap.size) (hown : w.ownsRow B e size v n xs) (hg : w.grownBy w' v.ownBlock) : Below B W w' :=
  h.grown hg hB (fun k hk => (hown.lt k hk).1)
theorem ownB_shape {w : World} {base n : Nat} {v : Value} {X : List Value} (h : w.ownsRow base 80 2 v n X) : ∃ A c, v = .slice A n c := by
  rcases h.2 with ⟨rfl, h0⟩ | ⟨g, cap, _, rfl, _⟩
  · exact ⟨none, 0, by rw [h0]⟩
  · exact ⟨_, cap, rfl⟩
theorem bk_none {w : World} {l : List (Int × Int)} (h : Bk w none l) : l = [] := by
  by_cases h0 : l.length = 0
  · exact List.eq_nil_of_length_eq_zero h0
  · obtain ⟨b, off, e, _⟩ := h.some_ (by omega)
    cases e
/-- append(x, s...): x a row of the call's own, s any buckets -/
theorem app_bks {ops : Array Oper} {rest : List Oper} {o : Oper} {a : Act} {w : World} {Q : Exit → Act → World → Prop} (hgd : o.guard = none) (s x : Operand)
    (ho : o.op = .call { callee := .builtin .append, args := #[s, x], argTypes := #[23, 23] })
    (base : Nat) (v : Value) (n : Nat) (X : List (Int × Int)) (hs : a.eval s = v) (hown : w.ownsRow base 80 2 v n (cellsL X))
    (A : Option Addr) (m c : Nat) (l : List (Int × Int)) (hx : a.eval x = .slice A m c) (hm : m = l.length) (hS : Bk w A l) (hl : n + m ≤ 1000000) (hbase : base ≤ w.heap.size)
    (h : ∀ A' c' w', w'.ownsRow base 80 2 (.slice A' (n + m) c') (n + m) (cellsL (X ++ l)) → w.grownBy w' v.ownBlock → wpList Try.prog ops Q rest (a.put o.dst (.slice A' (n + m) c')) w') : wpList Try.prog ops Q (o :: rest) a w := by
  obtain ⟨i0, hi, hz0, hz1, hz2⟩ := info_parts infoB
  subst hm
  cases A with
  | none =>
    obtain rfl := bk_none hS
    obtain ⟨A', c', rfl⟩ := ownB_shape hown
    refine wpList_plain hgd fun K hK => ?_
    have hrun : (Builtin.append_ #[23, 23] o.type #[.slice A' n c', .slice none 0 c]).run Try.prog w = .ok (.slice A' n c') w := by
      rcases hown.2 with ⟨he, hn⟩ | ⟨g, cap, cur, he, _, _, hnc, _⟩
      · rw [he]; simp [Builtin.append_, run_underlying Try.underlying23, sizeOf, typeInfo, hi, Builtin.lenOf, Builtin.firstCells]
      · rw [he]; simp [Builtin.append_, run_underlying Try.underlying23, sizeOf, typeInfo, hi, Builtin.lenOf, Builtin.firstCells, hnc, storeCells]
    have hh := h A' c' w (by simpa using hown) (World.grownBy.refl w _)
    simp only [List.length_nil, Nat.add_zero] at hh hx
    unfold Oper.wp
    simp [execOp, ho, resolve, invoke, builtin, hs, hx, hrun, Result.andThen]
    exact hK _ _ hh
  | some ad =>
    refine wpList_append_own w hgd s x 23 ho base 80 i0 (.agg #[.int .i64 0, .int .u64 0]) 2 16 Try.underlying23 hi hz0 hz1 hz2 rfl (by decide) v n (cellsL X) hs hown ad l.length c (cellsL l) hx (cellsL_length l) (bk_src hS) (cellsL_one l) (by unfold maxLen; omega) (by omega) hbase ?_
    intro v' w' h1 h2 _
    rw [← cellsL_append] at h1
    obtain ⟨A', c', rfl⟩ := ownB_shape h1
    exact h A' c' w' h1 h2
/-- append(x, y) -/
theorem app_bkt {ops : Array Oper} {rest : List Oper} {o : Oper} {a : Act} {w : World} {Q : Exit → Act → World → Prop} (hgd : o.guard = none) (s x : Operand)
    (ho : o.op = .call { callee := .builtin .append, args := #[s, x], argTypes := #[23, 23] })
    (base : Nat) (A : Option Addr) (n c : Nat) (X : List (Int × Int)) (hs : a.eval s = .slice A n c) (hown : w.ownsRow base 80 2 (.slice A n c) n (cellsL X))
    (g : Nat) (hx : a.eval x = .slice (some ⟨g, 0, none⟩) 1 1) (y : (Int × Int)) (hy0 : w.cell? ⟨g, 0, none⟩ = some (.int .i64 y.1)) (hy1 : w.cell? ⟨g, 1, none⟩ = some (.int .u64 y.2)) (hl : n + 1 ≤ 1000000) (hbase : base ≤ w.heap.size)
    (h : ∀ A' c' w', w'.ownsRow base 80 2 (.slice A' (n + 1) c') (n + 1) (cellsL (X ++ [y])) → w.grownBy w' (Value.slice A n c).ownBlock → wpList Try.prog ops Q rest (a.put o.dst (.slice A' (n + 1) c')) w') : wpList Try.prog ops Q (o :: rest) a w := by
  obtain ⟨i0, hi, hz0, hz1, hz2⟩ := info_parts infoB
  refine wpList_append_own w hgd s x 23 ho base 80 i0 (.agg #[.int .i64 0, .int .u64 0]) 2 16 Try.underlying23 hi hz0 hz1 hz2 rfl (by decide) _ n (cellsL X) hs hown ⟨g, 0, none⟩ 1 1 [.int .i64 y.1, .int .u64 y.2] hx rfl ?_ (by simp [Value.oneCell']) (by unfold maxLen; omega) (by omega) hbase ?_
  · intro j u hu
    have hj : j < 2 := (List.getElem?_eq_some_iff.1 hu).1
    rw [addr_at]
    rcases (show j = 0 ∨ j = 1 by omega) with rfl | rfl
    · simp at hu; subst hu; exact hy0
    · simp at hu; subst hu; exact hy1
  · intro v' w' h1 h2 _
    obtain ⟨A', c', rfl⟩ := ownB_shape h1
    have e : cellsL X ++ [.int .i64 y.1, .int .u64 y.2] = cellsL (X ++ [y]) := by rw [cellsL_append]; rfl
    rw [e] at h1
    exact h A' c' w' h1 h2
def GrowP (w : World) (e : Ending) (w' : World) : Prop := ∃ A c, e = .returned (.slice A 0 c) ∧ w'.ownsRow w.heap.size 80 2 (.slice A 0 c) 0 (cellsL []) ∧ Below w.heap.size w w'
set_option maxRecDepth 100000 in
theorem grow_zero (w : World) :
    Calls Try.prog 87 #[.slice none 0 0, .int .i64 0] w (GrowP w) := by
  go_enter Try.func87, Try.ntmps87
  go_wp2_with fail
  go_ret
  exact ⟨none, 0, rfl, World.ownsRow_nil _ _ _ _, Below.refl _ _⟩
set_option maxRecDepth 100000 in
theorem grow_some (n : Nat) (w : World) (h0 : 0 < n) (hn : n ≤ 1000000) :
    Calls Try.prog 87 #[.slice none 0 0, .int .i64 (n : Int)] w (GrowP w) := by
  obtain ⟨i0, hi, hz0, hz1, hz2⟩ := info_parts infoB
  have hr := Lib.run_append_nil_zeros (P := Try.prog) w 23 3 23 80 i0 (.agg #[.int .i64 0, .int .u64 0]) .i64 .i64 Try.underlying23 Try.underlying3 hi hz0 n h0 (by omega) (by omega) (by rw [hz2]; omega)
  have HR := Lib.hid hr
  have hni : 0 < (n : Int) := by omega
  have hnm : (n : Int) ≤ 1000000 := by omega
  clear hr
  go_enter Try.func87, Try.ntmps87
  go_wp2_with (at_builtin; refine Lib.wpList_append_run _ rfl _ _ _ _ rfl _ _ rfl rfl _ _ HR.out ?_)
  go_ret
  have hge := grownCap_ge w n 0 80
  have hle := grownCap_le_maxLen w n 0 80 (by unfold maxLen; omega)
  refine ⟨_, _, rfl, ⟨by simp [cellsL], .inr ⟨w.heap.size, _, _, rfl, Nat.le_refl _, heap_alloc_new w _, by omega, hle, ?_, by simp [cellsL]⟩⟩, Below.drew ((Below.refl _ _).alloc (Nat.le_refl _) _)⟩
  simp [size_zeroCells]
  omega
theorem grow_any (n : Nat) (w : World) (hn : n ≤ 1000000) :
    Calls Try.prog 87 #[.slice none 0 0, .int .i64 (n : Int)] w (GrowP w) := by
  by_cases h0 : n = 0
  · subst h0; exact grow_zero w
  · exact grow_some n w (by omega) hn
end Go.Proofs.Ytbibhjcmdehdbaa
