/- Rows of cells; the document's ends and Order. -/
import Derived.Test.YtbibhjcmdehdbaaRkA
import Derived.Test.YtbibhjcmdehdbaaMdD
import Derived.Deep.RegionLaw
import Derived.Deep.CutRange
namespace Go.Proofs.Ytbibhjcmdehdbaa
open Go.RowKit Go.Sort
set_option linter.unusedVariables false

theorem cellsC_append (X Y : List Cel) : cellsC (X ++ Y) = cellsC X ++ cellsC Y := by simp [cellsC]
theorem cellsC_length (X : List Cel) : (cellsC X).length = X.length * 4 := by
  induction X with
  | nil => rfl
  | cons a r ih =>
    have e : cellsC (a :: r) = [.int .i64 a.d, .int .i64 a.s, .int .i64 a.i, .int .u64 a.n] ++ cellsC r := rfl
    rw [e, List.length_append, ih]; simp; omega
theorem cellsC_at {X : List Cel} {j : Nat} {p : Cel} (h : X[j]? = some p) : (cellsC X)[j * 4]? = some (.int .i64 p.d) ∧ (cellsC X)[j * 4 + 1]? = some (.int .i64 p.s) ∧ (cellsC X)[j * 4 + 2]? = some (.int .i64 p.i) ∧ (cellsC X)[j * 4 + 3]? = some (.int .u64 p.n) := by
  induction X generalizing j with
  | nil => simp at h
  | cons a r ih =>
    have e : cellsC (a :: r) = [.int .i64 a.d, .int .i64 a.s, .int .i64 a.i, .int .u64 a.n] ++ cellsC r := rfl
    rw [e]
    cases j with
    | zero =>
      simp at h; subst h
      exact ⟨rfl, rfl, rfl, rfl⟩
    | succ j =>
      simp at h
      obtain ⟨a0, a1, a2, a3⟩ := ih h
      refine ⟨?_, ?_, ?_, ?_⟩
      · rw [show (j + 1) * 4 = 4 + j * 4 by omega, List.getElem?_append_right (by simp)]; simpa using a0
      · rw [show (j + 1) * 4 + 1 = 4 + (j * 4 + 1) by omega, List.getElem?_append_right (by simp)]; simpa using a1
      · rw [show (j + 1) * 4 + 2 = 4 + (j * 4 + 2) by omega, List.getElem?_append_right (by simp)]; simpa using a2
      · rw [show (j + 1) * 4 + 3 = 4 + (j * 4 + 3) by omega, List.getElem?_append_right (by simp)]; simpa using a3
/-- a slice of cells whose address is A reads as l -/
def Cs (w : World) (A : Option Addr) (l : List Cel) : Prop :=
  l.length ≤ 1000000 ∧ (l.length = 0 ∨ ∃ b off, A = some ⟨b, off, none⟩ ∧ ∀ (j : Nat) (p : Cel), l[j]? = some p → w.cell? ⟨b, off + j * 4, none⟩ = some (.int .i64 p.d) ∧ w.cell? ⟨b, off + j * 4 + 1, none⟩ = some (.int .i64 p.s) ∧ w.cell? ⟨b, off + j * 4 + 2, none⟩ = some (.int .i64 p.i) ∧ w.cell? ⟨b, off + j * 4 + 3, none⟩ = some (.int .u64 p.n))
theorem Cs.some_ {w : World} {A : Option Addr} {l : List Cel} (h : Cs w A l) (h0 : 0 < l.length) : ∃ b off, A = some ⟨b, off, none⟩ ∧ ∀ (j : Nat) (p : Cel), l[j]? = some p → w.cell? ⟨b, off + j * 4, none⟩ = some (.int .i64 p.d) ∧ w.cell? ⟨b, off + j * 4 + 1, none⟩ = some (.int .i64 p.s) ∧ w.cell? ⟨b, off + j * 4 + 2, none⟩ = some (.int .i64 p.i) ∧ w.cell? ⟨b, off + j * 4 + 3, none⟩ = some (.int .u64 p.n) := by
  rcases h.2 with h | h
  · omega
  · exact h
theorem Cs.below {w w' : World} {A : Option Addr} {l : List Cel} (h : Cs w A l) (hb : Below w.heap.size w w') : Cs w' A l := by
  refine ⟨h.1, ?_⟩
  rcases h.2 with h2 | ⟨b, off, e, hc⟩
  · exact .inl h2
  · refine .inr ⟨b, off, e, fun j p hj => ?_⟩
    obtain ⟨c0, c1, c2, c3⟩ := hc j p hj
    exact ⟨Kept.of_below hb _ _ c0, Kept.of_below hb _ _ c1, Kept.of_below hb _ _ c2, Kept.of_below hb _ _ c3⟩
theorem infoP : (Try.prog.info? 50).map (fun i => (i.zero, i.size, i.bytes)) = some (some (.agg #[.int .i64 0, .int .i64 0, .int .i64 0, .int .u64 0]), 4, 32) := by kernel_rfl
theorem ownP_shape {w : World} {base n : Nat} {v : Value} {X : List Value} (h : w.ownsRow base 50 4 v n X) : ∃ A c, v = .slice A n c := by
  rcases h.2 with ⟨rfl, h0⟩ | ⟨g, cap, _, rfl, _⟩
  · exact ⟨none, 0, by rw [h0]⟩
  · exact ⟨_, cap, rfl⟩
/-- append(x, y) -/
theorem appP {ops : Array Oper} {rest : List Oper} {o : Oper} {a : Act} {w : World} {Q : Exit → Act → World → Prop} (hgd : o.guard = none) (s x : Operand)
    (ho : o.op = .call { callee := .builtin .append, args := #[s, x], argTypes := #[40, 40] })
    (base : Nat) (A : Option Addr) (n c : Nat) (X : List Cel) (hs : a.eval s = .slice A n c) (hown : w.ownsRow base 50 4 (.slice A n c) n (cellsC X))
    (g : Nat) (hx : a.eval x = .slice (some ⟨g, 0, none⟩) 1 1) (y : Cel) (hy : Rb w g 50 #[.int .i64 y.d, .int .i64 y.s, .int .i64 y.i, .int .u64 y.n]) (hl : n + 1 ≤ 1000000) (hbase : base ≤ w.heap.size)
    (h : ∀ A' c' w', w'.ownsRow base 50 4 (.slice A' (n + 1) c') (n + 1) (cellsC (X ++ [y])) → w.grownBy w' (Value.slice A n c).ownBlock → wpList Try.prog ops Q rest (a.put o.dst (.slice A' (n + 1) c')) w') : wpList Try.prog ops Q (o :: rest) a w := by
  obtain ⟨i0, hi, hz0, hz1, hz2⟩ := info_parts infoP
  obtain ⟨y0, y1, y2, y3⟩ := hy.four
  refine wpList_append_own w hgd s x 40 ho base 50 i0 (.agg #[.int .i64 0, .int .i64 0, .int .i64 0, .int .u64 0]) 4 32 Try.underlying40 hi hz0 hz1 hz2 rfl (by decide) _ n (cellsC X) hs hown ⟨g, 0, none⟩ 1 1 [.int .i64 y.d, .int .i64 y.s, .int .i64 y.i, .int .u64 y.n] hx rfl ?_ (by simp [Value.oneCell']) (by unfold maxLen; omega) (by omega) hbase ?_
  · intro j u hu
    have hj : j < 4 := (List.getElem?_eq_some_iff.1 hu).1
    rw [addr_at]
    rcases (show j = 0 ∨ j = 1 ∨ j = 2 ∨ j = 3 by omega) with rfl | rfl | rfl | rfl
    · simp at hu; subst hu; exact y0
    · simp at hu; subst hu; exact y1
    · simp at hu; subst hu; exact y2
    · simp at hu; subst hu; exact y3
  · intro v' w' h1 h2 _
    have e : cellsC X ++ [.int .i64 y.d, .int .i64 y.s, .int .i64 y.i, .int .u64 y.n] = cellsC (X ++ [y]) := by rw [cellsC_append]; rfl
    rw [e] at h1
    obtain ⟨A', c', rfl⟩ := ownP_shape h1
    exact h A' c' w' h1 h2
/-- append(x, y) as a step of a region that draws its order -/
theorem stepP {ops : Array Oper} {o : Oper} {a : Act} {w : World} {K : Act → World → Prop} {Q : Exit → Act → World → Prop} {E : Prop} (hgd : o.guard = none) (s x : Operand)
    (ho : o.op = .call { callee := .builtin .append, args := #[s, x], argTypes := #[40, 40] })
    (base : Nat) (A : Option Addr) (n c : Nat) (X : List Cel) (hs : a.eval s = .slice A n c) (hown : w.ownsRow base 50 4 (.slice A n c) n (cellsC X))
    (g : Nat) (hx : a.eval x = .slice (some ⟨g, 0, none⟩) 1 1) (y : Cel) (hy : Rb w g 50 #[.int .i64 y.d, .int .i64 y.s, .int .i64 y.i, .int .u64 y.n]) (hl : n + 1 ≤ 1000000) (hbase : base ≤ w.heap.size)
    (h : ∀ A' c' w', w'.ownsRow base 50 4 (.slice A' (n + 1) c') (n + 1) (cellsC (X ++ [y])) → w.grownBy w' (Value.slice A n c).ownBlock → K (a.put o.dst (.slice A' (n + 1) c')) w') :
    if Region.wanted o (yielded ops a.tmps) = true then Oper.wp Try.prog o a w K Q else E := by
  have hw : Region.wanted o (yielded ops a.tmps) = true := by simp [Region.wanted, hgd]
  rw [if_pos hw]
  obtain ⟨i0, hi, hz0, hz1, hz2⟩ := info_parts infoP
  obtain ⟨y0, y1, y2, y3⟩ := hy.four
  refine wp_append_own w s x 40 ho base 50 i0 (.agg #[.int .i64 0, .int .i64 0, .int .i64 0, .int .u64 0]) 4 32 Try.underlying40 hi hz0 hz1 hz2 rfl (by decide) _ n (cellsC X) hs hown ⟨g, 0, none⟩ 1 1 [.int .i64 y.d, .int .i64 y.s, .int .i64 y.i, .int .u64 y.n] hx rfl ?_ (by simp [Value.oneCell']) (by unfold maxLen; omega) (by omega) hbase ?_
  · intro j u hu
    have hj : j < 4 := (List.getElem?_eq_some_iff.1 hu).1
    rw [addr_at]
    rcases (show j = 0 ∨ j = 1 ∨ j = 2 ∨ j = 3 by omega) with rfl | rfl | rfl | rfl
    · simp at hu; subst hu; exact y0
    · simp at hu; subst hu; exact y1
    · simp at hu; subst hu; exact y2
    · simp at hu; subst hu; exact y3
  · intro v' w' h1 h2 _
    have e : cellsC X ++ [.int .i64 y.d, .int .i64 y.s, .int .i64 y.i, .int .u64 y.n] = cellsC (X ++ [y]) := by rw [cellsC_append]; rfl
    rw [e] at h1
    obtain ⟨A', c', rfl⟩ := ownP_shape h1
    exact h A' c' w' h1 h2
/-- a row of the call's own, and all that lay ahead of it -/
def OwP (w0 w : World) (A : Option Addr) (c : Nat) (X : List Cel) : Prop := w.ownsRow w0.heap.size 50 4 (.slice A X.length c) X.length (cellsC X) ∧ Below w0.heap.size w0 w
theorem OwP.alloc {w0 w : World} {A : Option Addr} {c : Nat} {X : List Cel} (h : OwP w0 w A c X) (o : Obj) : OwP w0 (w.alloc o) A c X := ⟨h.1.alloc o, h.2.alloc h.2.size o⟩
theorem OwP.new {w0 w w1 : World} {A : Option Addr} {c : Nat} {X : List Cel} (h : OwP w0 w A c X) (hs : w1.heap.size ≤ w0.heap.size) : NewA w1 A := fun a ha => by
  subst ha
  rcases h.1.2 with ⟨h1, _⟩ | ⟨g, cap, cur, h1, h2, _⟩
  · cases h1
  · injection h1 with e1 _ _
    injection e1 with e1
    subst e1
    exact Nat.le_trans hs h2
theorem OwP.cs {w0 w : World} {A : Option Addr} {c : Nat} {X : List Cel} (h : OwP w0 w A c X) (hl : X.length ≤ 1000000) : Cs w A X := by
  refine ⟨hl, ?_⟩
  by_cases h0 : X.length = 0
  · exact .inl h0
  · obtain ⟨g, cap', hv, _, _⟩ := h.1.form (by omega)
    injection hv with e1 e2 e3
    subst e1
    refine .inr ⟨g, 0, rfl, fun j p hj => ?_⟩
    have hjl : j < X.length := (List.getElem?_eq_some_iff.1 hj).1
    obtain ⟨c0, c1, c2, c3⟩ := cellsC_at hj
    refine ⟨?_, ?_, ?_, ?_⟩
    · rw [Nat.zero_add, h.1.cellAt (j * 4) (by omega)]; exact c0
    · rw [Nat.zero_add, h.1.cellAt (j * 4 + 1) (by omega)]; exact c1
    · rw [Nat.zero_add, h.1.cellAt (j * 4 + 2) (by omega)]; exact c2
    · rw [Nat.zero_add, h.1.cellAt (j * 4 + 3) (by omega)]; exact c3
theorem infoR : (Try.prog.info? 45).map (fun i => (i.zero, i.size, i.bytes)) = some (some (.agg #[.int .i64 0, .int .i64 0, .int .i64 0, .int .u64 0]), 4, 32) := by kernel_rfl
theorem ownR_shape {w : World} {base n : Nat} {v : Value} {X : List Value} (h : w.ownsRow base 45 4 v n X) : ∃ A c, v = .slice A n c := by
  rcases h.2 with ⟨rfl, h0⟩ | ⟨g, cap, _, rfl, _⟩
  · exact ⟨none, 0, by rw [h0]⟩
  · exact ⟨_, cap, rfl⟩
/-- append(x, y) -/
theorem appR {ops : Array Oper} {rest : List Oper} {o : Oper} {a : Act} {w : World} {Q : Exit → Act → World → Prop} (hgd : o.guard = none) (s x : Operand)
    (ho : o.op = .call { callee := .builtin .append, args := #[s, x], argTypes := #[42, 42] })
    (base : Nat) (A : Option Addr) (n c : Nat) (X : List Cel) (hs : a.eval s = .slice A n c) (hown : w.ownsRow base 45 4 (.slice A n c) n (cellsC X))
    (g : Nat) (hx : a.eval x = .slice (some ⟨g, 0, none⟩) 1 1) (y : Cel) (hy : Rb w g 45 #[.int .i64 y.d, .int .i64 y.s, .int .i64 y.i, .int .u64 y.n]) (hl : n + 1 ≤ 1000000) (hbase : base ≤ w.heap.size)
    (h : ∀ A' c' w', w'.ownsRow base 45 4 (.slice A' (n + 1) c') (n + 1) (cellsC (X ++ [y])) → w.grownBy w' (Value.slice A n c).ownBlock → wpList Try.prog ops Q rest (a.put o.dst (.slice A' (n + 1) c')) w') : wpList Try.prog ops Q (o :: rest) a w := by
  obtain ⟨i0, hi, hz0, hz1, hz2⟩ := info_parts infoR
  obtain ⟨y0, y1, y2, y3⟩ := hy.four
  refine wpList_append_own w hgd s x 42 ho base 45 i0 (.agg #[.int .i64 0, .int .i64 0, .int .i64 0, .int .u64 0]) 4 32 Try.underlying42 hi hz0 hz1 hz2 rfl (by decide) _ n (cellsC X) hs hown ⟨g, 0, none⟩ 1 1 [.int .i64 y.d, .int .i64 y.s, .int .i64 y.i, .int .u64 y.n] hx rfl ?_ (by simp [Value.oneCell']) (by unfold maxLen; omega) (by omega) hbase ?_
  · intro j u hu
    have hj : j < 4 := (List.getElem?_eq_some_iff.1 hu).1
    rw [addr_at]
    rcases (show j = 0 ∨ j = 1 ∨ j = 2 ∨ j = 3 by omega) with rfl | rfl | rfl | rfl
    · simp at hu; subst hu; exact y0
    · simp at hu; subst hu; exact y1
    · simp at hu; subst hu; exact y2
    · simp at hu; subst hu; exact y3
  · intro v' w' h1 h2 _
    have e : cellsC X ++ [.int .i64 y.d, .int .i64 y.s, .int .i64 y.i, .int .u64 y.n] = cellsC (X ++ [y]) := by rw [cellsC_append]; rfl
    rw [e] at h1
    obtain ⟨A', c', rfl⟩ := ownR_shape h1
    exact h A' c' w' h1 h2
/-- append(x, y) as a step of a region that draws its order -/
theorem stepR {ops : Array Oper} {o : Oper} {a : Act} {w : World} {K : Act → World → Prop} {Q : Exit → Act → World → Prop} {E : Prop} (hgd : o.guard = none) (s x : Operand)
    (ho : o.op = .call { callee := .builtin .append, args := #[s, x], argTypes := #[42, 42] })
    (base : Nat) (A : Option Addr) (n c : Nat) (X : List Cel) (hs : a.eval s = .slice A n c) (hown : w.ownsRow base 45 4 (.slice A n c) n (cellsC X))
    (g : Nat) (hx : a.eval x = .slice (some ⟨g, 0, none⟩) 1 1) (y : Cel) (hy : Rb w g 45 #[.int .i64 y.d, .int .i64 y.s, .int .i64 y.i, .int .u64 y.n]) (hl : n + 1 ≤ 1000000) (hbase : base ≤ w.heap.size)
    (h : ∀ A' c' w', w'.ownsRow base 45 4 (.slice A' (n + 1) c') (n + 1) (cellsC (X ++ [y])) → w.grownBy w' (Value.slice A n c).ownBlock → K (a.put o.dst (.slice A' (n + 1) c')) w') :
    if Region.wanted o (yielded ops a.tmps) = true then Oper.wp Try.prog o a w K Q else E := by
  have hw : Region.wanted o (yielded ops a.tmps) = true := by simp [Region.wanted, hgd]
  rw [if_pos hw]
  obtain ⟨i0, hi, hz0, hz1, hz2⟩ := info_parts infoR
  obtain ⟨y0, y1, y2, y3⟩ := hy.four
  refine wp_append_own w s x 42 ho base 45 i0 (.agg #[.int .i64 0, .int .i64 0, .int .i64 0, .int .u64 0]) 4 32 Try.underlying42 hi hz0 hz1 hz2 rfl (by decide) _ n (cellsC X) hs hown ⟨g, 0, none⟩ 1 1 [.int .i64 y.d, .int .i64 y.s, .int .i64 y.i, .int .u64 y.n] hx rfl ?_ (by simp [Value.oneCell']) (by unfold maxLen; omega) (by omega) hbase ?_
  · intro j u hu
    have hj : j < 4 := (List.getElem?_eq_some_iff.1 hu).1
    rw [addr_at]
    rcases (show j = 0 ∨ j = 1 ∨ j = 2 ∨ j = 3 by omega) with rfl | rfl | rfl | rfl
    · simp at hu; subst hu; exact y0
    · simp at hu; subst hu; exact y1
    · simp at hu; subst hu; exact y2
    · simp at hu; subst hu; exact y3
  · intro v' w' h1 h2 _
    have e : cellsC X ++ [.int .i64 y.d, .int .i64 y.s, .int .i64 y.i, .int .u64 y.n] = cellsC (X ++ [y]) := by rw [cellsC_append]; rfl
    rw [e] at h1
    obtain ⟨A', c', rfl⟩ := ownR_shape h1
    exact h A' c' w' h1 h2
/-- a row of the call's own, and all that lay ahead of it -/
def OwR (w0 w : World) (A : Option Addr) (c : Nat) (X : List Cel) : Prop := w.ownsRow w0.heap.size 45 4 (.slice A X.length c) X.length (cellsC X) ∧ Below w0.heap.size w0 w
theorem OwR.alloc {w0 w : World} {A : Option Addr} {c : Nat} {X : List Cel} (h : OwR w0 w A c X) (o : Obj) : OwR w0 (w.alloc o) A c X := ⟨h.1.alloc o, h.2.alloc h.2.size o⟩
theorem OwR.new {w0 w w1 : World} {A : Option Addr} {c : Nat} {X : List Cel} (h : OwR w0 w A c X) (hs : w1.heap.size ≤ w0.heap.size) : NewA w1 A := fun a ha => by
  subst ha
  rcases h.1.2 with ⟨h1, _⟩ | ⟨g, cap, cur, h1, h2, _⟩
  · cases h1
  · injection h1 with e1 _ _
    injection e1 with e1
    subst e1
    exact Nat.le_trans hs h2
theorem OwR.cs {w0 w : World} {A : Option Addr} {c : Nat} {X : List Cel} (h : OwR w0 w A c X) (hl : X.length ≤ 1000000) : Cs w A X := by
  refine ⟨hl, ?_⟩
  by_cases h0 : X.length = 0
  · exact .inl h0
  · obtain ⟨g, cap', hv, _, _⟩ := h.1.form (by omega)
    injection hv with e1 e2 e3
    subst e1
    refine .inr ⟨g, 0, rfl, fun j p hj => ?_⟩
    have hjl : j < X.length := (List.getElem?_eq_some_iff.1 hj).1
    obtain ⟨c0, c1, c2, c3⟩ := cellsC_at hj
    refine ⟨?_, ?_, ?_, ?_⟩
    · rw [Nat.zero_add, h.1.cellAt (j * 4) (by omega)]; exact c0
    · rw [Nat.zero_add, h.1.cellAt (j * 4 + 1) (by omega)]; exact c1
    · rw [Nat.zero_add, h.1.cellAt (j * 4 + 2) (by omega)]; exact c2
    · rw [Nat.zero_add, h.1.cellAt (j * 4 + 3) (by omega)]; exact c3

def celF (d s : Int) (p : Int × Int) : Cel := ⟨d, s, p.1, p.2⟩
def negL (h : HV) : List Cel := h.Q.reverse.map (celF (-1) h.s)
def zeroL (h : HV) : List Cel := if 0 < h.zc then [⟨0, 0, 0, h.zc⟩] else []
def posL (h : HV) : List Cel := h.P.map (celF 1 h.s)
/-- a histogram's buckets in order -/
def ordF (h : HV) : List Cel := negL h ++ (zeroL h ++ posL h)
def OrdP (w : World) (l : List Cel) (e : Ending) (w' : World) : Prop := ∃ A c, e = .returned (.slice A l.length c) ∧ Cs w' A l ∧ Below w.heap.size w w' ∧ NewA w A
theorem zeroL_len (h : HV) : (zeroL h).length ≤ 1 := by unfold zeroL; split <;> simp
theorem ord_len {h : HV} (o : Ok h) : (ordF h).length ≤ 1025 := by
  have h1 := o.lP
  have h2 := o.lQ
  have h3 := zeroL_len h
  simp [ordF, negL, posL]
  omega
theorem rev_at {α : Type} {l : List α} {k : Nat} {x : α} (hk : k < l.length) (h : l[l.length - 1 - k]? = some x) : l.reverse[k]? = some x := by
  rw [List.getElem?_reverse hk]; exact h
theorem app_at {α : Type} {X l : List α} {k : Nat} {x : α} (h : l[k]? = some x) : X ++ l.take (k + 1) = (X ++ l.take k) ++ [x] := by rw [take_snoc l k x h, List.append_assoc]
theorem map_at {α β : Type} {f : α → β} {l : List α} {k : Nat} {x : α} (h : l[k]? = some x) : (l.map f)[k]? = some (f x) := by rw [List.getElem?_map, h]; rfl

theorem grown_drewK {W w' : World} {x : Option Nat} (h : W.drew.grownBy w' x) : W.grownBy w' x := (show W.grownBy W.drew x from ⟨rfl, rfl, rfl, Nat.le_refl _, fun _ _ _ => rfl⟩).trans h
theorem grown_drewsK {W w' : World} {n : Nat} {x : Option Nat} (h : (W.drewN n).grownBy w' x) : W.grownBy w' x := (show W.grownBy (W.drewN n) x from ⟨rfl, rfl, rfl, Nat.le_refl _, fun _ _ _ => rfl⟩).trans h
set_option maxHeartbeats 8000000 in
set_option maxRecDepth 100000 in
theorem reford_any (h : HV) (A B : Option Addr) (c d : Nat) (w : World) (hP : Bk w A h.P) (hQ : Bk w B h.Q) (o : Ok h) :
    Calls Try.prog 27 #[.agg #[.int .i64 h.k, .int .i64 h.s, .int .i64 h.z, .int .u64 h.zc, .int .u64 h.ct, .int .i64 h.sm, .slice A h.P.length c, .slice B h.Q.length d]] w (OrdP w (ordF h)) := by
  have hb0 : Below w.heap.size w (w.alloc (.cells #[.int .i64 h.k, .int .i64 h.s, .int .i64 h.z, .int .u64 h.zc, .int .u64 h.ct, .int .i64 h.sm, .slice A h.P.length c, .slice B h.Q.length d] 25)) := (Below.refl _ _).alloc (Nat.le_refl _) _
  have HX := Lib.hid (Rb.new w w.heap.size rfl 25 #[.int .i64 h.k, .int .i64 h.s, .int .i64 h.z, .int .u64 h.zc, .int .u64 h.ct, .int .i64 h.sm, .slice A h.P.length c, .slice B h.Q.length d])
  have HK := Lib.hid (And.intro (hP.below hb0) (hQ.below hb0))
  have HB0 := Lib.hid hb0
  have HLEN := Lib.hid (ord_len o)
  have lP := o.lP
  have lQ := o.lQ
  have hz := o.zc
  have lP2 : (h.P.length : Int) ≤ 512 := by omega
  have lQ2 : (h.Q.length : Int) ≤ 512 := by omega
  clear hP hQ o hb0
  go_enter Try.func27, Try.ntmps27
  go_wp2_with fail
  generalize w.alloc (.cells #[.int .i64 h.k, .int .i64 h.s, .int .i64 h.z, .int .u64 h.zc, .int .u64 h.ct, .int .i64 h.sm, .slice A h.P.length c, .slice B h.Q.length d] 25) = w0 at *
  go_loopw [3, 4] (fun v i wr => ∃ (k : Nat) (A1 : Option Addr) (c1 : Nat) (X : List Cel), k ≤ h.Q.length ∧ i = .int .i64 k ∧ v = .slice A1 X.length c1 ∧ Hid (X = (negL h).take k) ∧ Hid (OwR w0 wr A1 c1 X)) (fun _ i _ => h.Q.length - (intOf i).toNat)
  case atStart => exact ⟨0, none, 0, [], by omega, rfl, rfl, Lib.hid rfl, Lib.hid ⟨World.ownsRow_nil _ _ _ _, Below.refl _ _⟩⟩
  case round =>
    obtain ⟨k, A1, c1, X, hk, rfl, rfl, HXX, HO⟩ := hrel
    obtain ⟨x0, x1, x2, x3, x4, x5, x6, x7⟩ := (HX.out.below HO.out.2).eight
    have l0 := (HX.out.below HO.out.2).lt
    by_cases hlt : k < h.Q.length
    · have hki : (k : Int) < (h.Q.length : Int) := by omega
      obtain ⟨j, hj⟩ : ∃ j : Nat, (h.Q.length : Int) - 1 - k = (j : Int) := ⟨h.Q.length - 1 - k, by omega⟩
      have hjl : j < h.Q.length := by omega
      have hjl2 : (j : Int) < (h.Q.length : Int) := by omega
      obtain ⟨b, off, rfl, hcell⟩ := (HK.out.2.below HO.out.2).some_ (by omega)
      obtain ⟨p, hp⟩ := getElem?_lt hjl
      obtain ⟨q1, q2⟩ := hcell j p hp
      have hkl : k < (negL h).length := by simp [negL]; exact hlt
      have HT := Lib.hid (take_snoc (negL h) k (celF (-1) h.s p) (map_at (rev_at hlt (by rw [show h.Q.length - 1 - k = j by omega]; exact hp))))
      have hx : X.length ≤ 1000 := by rw [HXX.out, List.length_take]; have := hkl; simp [negL] at *; omega
      obtain ⟨pi, pc⟩ := p
      simp only [celF] at q1 q2 HT
      have hlb := block_lt_of_cell q1
      simp only at hlb
      clear hcell hp hkl
      go_wp2_with (at_builtin; refine appR rfl _ _ rfl w0.heap.size A1 X.length c1 X rfl ?c0 (wr.heap.size + 1) rfl ⟨-1, h.s, pi, pc⟩ ?c1 ?c2 ?c3 ?_)
      case c0 => exact ((HO.out.alloc _).alloc _).1
      case c1 => exact Rb.new _ _ (by simp) _ _
      case c2 => omega
      case c3 => exact ((HO.out.alloc _).alloc _).2.size
      intro A2 c2 w3 hown hgrow
      have HO2 := Lib.hid ((HO.out.alloc (.cells #[.int .i64 pi, .int .u64 pc] 80)).alloc (.cells #[.int .i64 (-1), .int .i64 h.s, .int .i64 pi, .int .u64 pc] 45))
      have HO3 := Lib.hid (show OwR w0 w3 A2 c2 (X ++ [⟨-1, h.s, pi, pc⟩]) from ⟨by rw [List.length_append]; exact hown, below_own HO2.out.2 HO2.out.2.size HO2.out.1 hgrow⟩)
      clear hown hgrow
      go_wp2_with fail
      go_roundw
      case rel => exact ⟨k + 1, A2, c2, X ++ [⟨-1, h.s, pi, pc⟩], by omega, by go_num, by rw [List.length_append]; rfl, Lib.hid (by rw [HT.out, ← HXX.out]), HO3⟩
      case measure => simp [intOf]; omega
    · obtain rfl : k = h.Q.length := by omega
      have hki : ¬ ((h.Q.length : Int) < (h.Q.length : Int)) := by omega
      have hX0 : X = negL h := by rw [HXX.out, List.take_of_length_le (by simp [negL])]
      have HX0 := Lib.hid hX0
      have hx : X.length ≤ 1000 := by rw [hX0]; simp [negL]; omega
      clear hX0 HXX
      go_upto_if 36 with fail
      clear x0 x1 x2 x4 x5 x6 x7
      go_cut [3, 36] from 37 to 42 (fun v s36 wx => ∃ (A2 : Option Addr) (c2 : Nat) (Y : List Cel), v = .slice A2 Y.length c2 ∧ Hid (Y = negL h ++ zeroL h) ∧ Hid (OwR w0 wx A2 c2 Y))
      case first =>
        by_cases hzc : 0 < h.zc
        · have HZ := Lib.hid (show zeroL h = [⟨0, 0, 0, h.zc⟩] by unfold zeroL; rw [if_pos hzc])
          go_wp2_with (at_builtin; refine appR rfl _ _ rfl w0.heap.size A1 X.length c1 X rfl ?c0 (wr.heap.size) rfl ⟨0, 0, 0, h.zc⟩ ?c1 ?c2 ?c3 ?_)
          case c0 => exact (HO.out.alloc _).1
          case c1 => exact Rb.new _ _ rfl _ _
          case c2 => omega
          case c3 => have := HO.out.2.size; simp; omega
          intro A2 c2 w3 hown hgrow
          have HO2 := Lib.hid (HO.out.alloc (.cells #[.int .i64 0, .int .i64 0, .int .i64 0, .int .u64 h.zc] 45))
          have HO3 := Lib.hid (show OwR w0 w3 A2 c2 (X ++ [⟨0, 0, 0, h.zc⟩]) from ⟨by rw [List.length_append]; exact hown, below_own HO2.out.2 HO2.out.2.size HO2.out.1 hgrow⟩)
          have HX3 := Lib.hid (show X ++ [⟨0, 0, 0, h.zc⟩] = negL h ++ zeroL h by rw [HZ.out, HX0.out])
          clear hown hgrow HX0 HO HO2
          go_wp2_with fail
          go_meet
          exact ⟨A2, c2, _, by rw [List.length_append]; rfl, HX3, HO3⟩
        · have HZ := Lib.hid (show zeroL h = [] by unfold zeroL; rw [if_neg hzc])
          have HX3 := Lib.hid (show X = negL h ++ zeroL h by rw [HZ.out, HX0.out, List.append_nil])
          go_wp2_with fail
          go_meet
          exact ⟨A1, c1, X, rfl, HX3, HO⟩
      case rest =>
        obtain ⟨A2, c2, Y, rfl, HX3, HO3⟩ := hcut
        obtain ⟨wA, hwA⟩ : ∃ W, W = wc := ⟨_, rfl⟩
        subst hwA
        clear x3 l0 hlt hki hk hx HX0 HO
        have hx3 : Y.length ≤ 1001 := by rw [HX3.out, List.length_append]; have := zeroL_len h; simp [negL]; omega
        go_wp2_with fail
        go_loopw [3, 6] (fun v i wr => ∃ (k : Nat) (A1 : Option Addr) (c1 : Nat) (X : List Cel), k ≤ h.P.length ∧ i = .int .i64 k ∧ v = .slice A1 X.length c1 ∧ Hid (X = Y ++ (posL h).take k) ∧ Hid (OwR w0 wr A1 c1 X)) (fun _ i _ => h.P.length - (intOf i).toNat)
        case atStart => exact ⟨0, A2, c2, Y, by omega, rfl, rfl, Lib.hid (by simp), HO3⟩
        case round =>
          obtain ⟨k, A1, c1, X, hk, rfl, rfl, HXX, HO⟩ := hrel
          obtain ⟨x0, x1, x2, x3, x4, x5, x6, x7⟩ := (HX.out.below HO.out.2).eight
          have l0 := (HX.out.below HO.out.2).lt
          by_cases hlt : k < h.P.length
          · have hki : (k : Int) < (h.P.length : Int) := by omega
            obtain ⟨b, off, rfl, hcell⟩ := (HK.out.1.below HO.out.2).some_ (by omega)
            obtain ⟨p, hp⟩ := getElem?_lt hlt
            obtain ⟨q1, q2⟩ := hcell k p hp
            have HT := Lib.hid (app_at (X := Y) (l := posL h) (k := k) (x := celF 1 h.s p) (map_at hp))
            have hx : X.length ≤ 2000 := by rw [HXX.out, List.length_append, List.length_take]; omega
            obtain ⟨pi, pc⟩ := p
            simp only [celF] at q1 q2 HT
            have hlb := block_lt_of_cell q1
            simp only at hlb
            have HS := Lib.hid HO.out.2.size
            clear hcell hp
            go_wp2_with fail
            have HOA := Lib.hid (HO.out.alloc (.cells #[.int .i64 1, .int .i64 h.s, .int .i64 pi, .int .u64 pc] 45))
            have HN := Lib.hid (Rb.new wr wr.heap.size rfl 45 #[.int .i64 1, .int .i64 h.s, .int .i64 pi, .int .u64 pc])
            go_region_law (refine stepR rfl (.tmp 50) (.tmp 66) rfl w0.heap.size _ _ _ X rfl HOA.out.1 _ rfl ⟨1, h.s, pi, pc⟩ HN.out (by omega) (by have := HS.out; simp; omega) ?_; intro A6 c6 w6 ho6 hg6; have HO6 := Lib.hid (And.intro ho6 (below_own HOA.out.2 HOA.out.2.size HOA.out.1 (by first | exact hg6 | exact grown_drewK hg6 | exact grown_drewsK hg6))); clear ho6 hg6)
            all_goals (go_wp2_with fail)
            all_goals
              have HO7 := Lib.hid (show OwR w0 w6 A6 c6 (X ++ [⟨1, h.s, pi, pc⟩]) from ⟨by rw [List.length_append]; exact HO6.out.1, HO6.out.2⟩)
              go_roundw
              case rel => exact ⟨k + 1, A6, c6, X ++ [⟨1, h.s, pi, pc⟩], by omega, by go_num, by rw [List.length_append]; rfl, Lib.hid (by rw [HT.out, ← HXX.out]), HO7⟩
              case measure => simp [intOf]; omega
          · obtain rfl : k = h.P.length := by omega
            have hki : ¬ ((h.P.length : Int) < (h.P.length : Int)) := by omega
            have hX0 : X = ordF h := by rw [HXX.out, List.take_of_length_le (by simp [posL]), HX3.out, List.append_assoc]; rfl
            have HF := Lib.hid (show OrdP w (ordF h) (.returned (.slice A1 X.length c1)) wr from ⟨A1, c1, by rw [hX0], by have := HO.out.cs (by rw [hX0]; have := HLEN.out; omega); rw [hX0] at this; exact this, HB0.out.trans (HO.out.2.mono HB0.out.size), HO.out.new HB0.out.size⟩)
            clear hX0 HXX HX3
            go_wp2_with fail
            go_ret
            exact HF.out
end Go.Proofs.Ytbibhjcmdehdbaa
