/- Rows of bytes, of labels, of texts that a call makes itself: append, and bytes as a text. -/
import Derived.Test.YtnnfoagdgoionabLbB
import Derived.Laws.IdiomStrings
import Derived.Lib.Strings
namespace Go.Proofs.Ytnnfoagdgoionab
open Go.RowKit
set_option linter.unusedVariables false

theorem ret_str {a b : List UInt8} (h : a = b) : Ending.returned (.string ⟨a.toArray⟩) = .returned (.string ⟨b.toArray⟩) := by rw [h]
/-- the cells of bytes -/
def byC (l : List UInt8) : List Value := l.map fun b => .int .u8 (b.toNat : Int)
theorem byC_length (l : List UInt8) : (byC l).length = l.length := by simp [byC]
theorem byC_append (l m : List UInt8) : byC (l ++ m) = byC l ++ byC m := by simp [byC]
theorem byC_one (l : List UInt8) : ∀ u ∈ byC l, u.oneCell' = true := by
  intro u hu
  obtain ⟨p, _, rfl⟩ := List.mem_map.1 hu
  rfl
/-- the cells of texts -/
def stC (l : List ByteArray) : List Value := l.map Value.string
theorem stC_length (l : List ByteArray) : (stC l).length = l.length := by simp [stC]
theorem stC_append (l m : List ByteArray) : stC (l ++ m) = stC l ++ stC m := by simp [stC]
theorem stC_at {l : List ByteArray} {j : Nat} {x : ByteArray} (h : l[j]? = some x) : (stC l)[j]? = some (.string x) := by simp [stC, h]
theorem infoT : (Try.prog.info? 9).map (fun i => (i.zero, i.size, i.bytes)) = some (some (.string ⟨#[]⟩), 1, 16) := by kernel_rfl

/-- append(x, y) at []byte -/
theorem app_byte {ops : Array Oper} {rest : List Oper} {o : Oper} {a : Act} {w : World} {Q : Exit → Act → World → Prop} (hgd : o.guard = none) (s x : Operand)
    (ho : o.op = .call { callee := .builtin .append, args := #[s, x], argTypes := #[57, 57] })
    (base : Nat) (A : Option Addr) (n c : Nat) (l : List UInt8) (hs : a.eval s = .slice A n c) (hown : w.ownsRow base 5 1 (.slice A n c) n (byC l))
    (g : Nat) (hx : a.eval x = .slice (some ⟨g, 0, none⟩) 1 1) (y : UInt8) (hy : w.cell? ⟨g, 0, none⟩ = some (.int .u8 (y.toNat : Int))) (hl : n + 1 ≤ 1000000) (hbase : base ≤ w.heap.size)
    (h : ∀ A' c' w', w'.ownsRow base 5 1 (.slice A' (n + 1) c') (n + 1) (byC (l ++ [y])) → w.grownBy w' (Value.slice A n c).ownBlock → wpList Try.prog ops Q rest (a.put o.dst (.slice A' (n + 1) c')) w') : wpList Try.prog ops Q (o :: rest) a w := by
  obtain ⟨i0, hi, hz0, hz1, hz2⟩ := info_parts infoU
  refine wpList_append_own w hgd s x 57 ho base 5 i0 (.int .u8 0) 1 1 Try.underlying57 hi hz0 hz1 hz2 rfl (by decide) _ n (byC l) hs hown ⟨g, 0, none⟩ 1 1 [.int .u8 (y.toNat : Int)] hx rfl ?_ (by simp [Value.oneCell']) (by unfold maxLen; omega) (by omega) hbase ?_
  · intro j u hu
    have hj : j < 1 := (List.getElem?_eq_some_iff.1 hu).1
    obtain rfl : j = 0 := by omega
    rw [addr_at]
    simp at hu
    subst hu
    exact hy
  · intro v' w' h1 h2 _
    obtain ⟨A', c', rfl⟩ := own_shape h1
    have e : byC l ++ [.int .u8 (y.toNat : Int)] = byC (l ++ [y]) := by simp [byC]
    rw [e] at h1
    exact h A' c' w' h1 h2
/-- append(x, y) at []api.Label -/
theorem app_lab {ops : Array Oper} {rest : List Oper} {o : Oper} {a : Act} {w : World} {Q : Exit → Act → World → Prop} (hgd : o.guard = none) (s x : Operand)
    (ho : o.op = .call { callee := .builtin .append, args := #[s, x], argTypes := #[22, 22] })
    (base : Nat) (A : Option Addr) (n c : Nat) (l : List Lab) (hs : a.eval s = .slice A n c) (hown : w.ownsRow base 36 2 (.slice A n c) n (labC l))
    (g : Nat) (hx : a.eval x = .slice (some ⟨g, 0, none⟩) 1 1) (y : Lab) (hy0 : w.cell? ⟨g, 0, none⟩ = some (.string y.1)) (hy1 : w.cell? ⟨g, 1, none⟩ = some (.string y.2)) (hl : n + 1 ≤ 4398046511104) (hbase : base ≤ w.heap.size)
    (h : ∀ A' c' w', w'.ownsRow base 36 2 (.slice A' (n + 1) c') (n + 1) (labC (l ++ [y])) → w.grownBy w' (Value.slice A n c).ownBlock → wpList Try.prog ops Q rest (a.put o.dst (.slice A' (n + 1) c')) w') : wpList Try.prog ops Q (o :: rest) a w := by
  obtain ⟨i0, hi, hz0, hz1, hz2⟩ := info_parts infoL
  refine wpList_append_own w hgd s x 22 ho base 36 i0 (.agg #[.string ⟨#[]⟩, .string ⟨#[]⟩]) 2 32 Try.underlying22 hi hz0 hz1 hz2 rfl (by decide) _ n (labC l) hs hown ⟨g, 0, none⟩ 1 1 [.string y.1, .string y.2] hx rfl ?_ (by simp [Value.oneCell']) (by unfold maxLen; omega) (by omega) hbase ?_
  · intro j u hu
    have hj : j < 2 := (List.getElem?_eq_some_iff.1 hu).1
    rw [addr_at]
    rcases (show j = 0 ∨ j = 1 by omega) with rfl | rfl
    · simp at hu; subst hu; exact hy0
    · simp at hu; subst hu; exact hy1
  · intro v' w' h1 h2 _
    obtain ⟨A', c', rfl⟩ := own_shape h1
    have e : labC l ++ [.string y.1, .string y.2] = labC (l ++ [y]) := by simp [labC, labE]
    rw [e] at h1
    exact h A' c' w' h1 h2
/-- append(x, y) at []string -/
theorem app_str {ops : Array Oper} {rest : List Oper} {o : Oper} {a : Act} {w : World} {Q : Exit → Act → World → Prop} (hgd : o.guard = none) (s x : Operand)
    (ho : o.op = .call { callee := .builtin .append, args := #[s, x], argTypes := #[23, 23] })
    (base : Nat) (A : Option Addr) (n c : Nat) (l : List ByteArray) (hs : a.eval s = .slice A n c) (hown : w.ownsRow base 9 1 (.slice A n c) n (stC l))
    (g : Nat) (hx : a.eval x = .slice (some ⟨g, 0, none⟩) 1 1) (y : ByteArray) (hy : w.cell? ⟨g, 0, none⟩ = some (.string y)) (hl : n + 1 ≤ 4398046511104) (hbase : base ≤ w.heap.size)
    (h : ∀ A' c' w', w'.ownsRow base 9 1 (.slice A' (n + 1) c') (n + 1) (stC (l ++ [y])) → w.grownBy w' (Value.slice A n c).ownBlock → wpList Try.prog ops Q rest (a.put o.dst (.slice A' (n + 1) c')) w') : wpList Try.prog ops Q (o :: rest) a w := by
  obtain ⟨i0, hi, hz0, hz1, hz2⟩ := info_parts infoT
  refine wpList_append_own w hgd s x 23 ho base 9 i0 (.string ⟨#[]⟩) 1 16 Try.underlying23 hi hz0 hz1 hz2 rfl (by decide) _ n (stC l) hs hown ⟨g, 0, none⟩ 1 1 [.string y] hx rfl ?_ (by simp [Value.oneCell']) (by unfold maxLen; omega) (by omega) hbase ?_
  · intro j u hu
    have hj : j < 1 := (List.getElem?_eq_some_iff.1 hu).1
    obtain rfl : j = 0 := by omega
    rw [addr_at]
    simp at hu
    subst hu
    exact hy
  · intro v' w' h1 h2 _
    obtain ⟨A', c', rfl⟩ := own_shape h1
    have e : stC l ++ [.string y] = stC (l ++ [y]) := by simp [stC]
    rw [e] at h1
    exact h A' c' w' h1 h2
/-- a new row of cells that append reads -/
theorem new_one (w : World) (v : Value) (t : TypeId) : (w.alloc (.cells #[v] t)).cell? ⟨w.heap.size, 0, none⟩ = some v := by simp [go_sem]
theorem new_two (w : World) (u v : Value) (t : TypeId) : (w.alloc (.cells #[u, v] t)).cell? ⟨w.heap.size, 0, none⟩ = some u ∧ (w.alloc (.cells #[u, v] t)).cell? ⟨w.heap.size, 1, none⟩ = some v := by simp [go_sem]
/-- what lies below B stays: a row from B on is grown behind a new block -/
theorem below_app {W w w' : World} {B B' : Nat} {o : Obj} {e : TypeId} {size n c : Nat} {A : Option Addr} {xs : List Value} (h : Below B W w) (hB : B ≤ w.heap.size) (hown : w.ownsRow B' e size (.slice A n c) n xs) (hBB : B ≤ B') (hg : (w.alloc o).grownBy w' (Value.slice A n c).ownBlock) : Below B W w' :=
  (h.alloc hB o).grown hg (by simp; omega) (fun k hk => Nat.le_trans hBB (hown.lt k hk).1)
theorem own_nil (w : World) (B e size : Nat) : w.ownsRow B e size (.slice none 0 0) 0 [] := ⟨by simp, .inl ⟨rfl, rfl⟩⟩
/-- bytes as a text -/
theorem conv_own {w : World} {B n c : Nat} {A : Option Addr} {l : List UInt8} (h : w.ownsRow B 5 1 (.slice A n c) n (byC l)) :
    (convert 57 9 (.slice A n c)).run Try.prog w = .ok (.string ⟨l.toArray⟩) w := by
  have hn : n = l.length := by have := h.1; rw [byC_length] at this; omega
  subst hn
  cases A with
  | none =>
    have h0 : l = [] := by
      rcases h.2 with ⟨_, h0⟩ | ⟨g, cap, cur, hv, _⟩
      · exact List.eq_nil_of_length_eq_zero h0
      · injection hv with e1; cases e1
    subst h0
    exact run_convert_bytes_nil w _ _ Try.underlying57 Try.underlying5 0 c _ Try.underlying9
  | some ad =>
    refine run_convert_bytes_back w _ _ _ ad c l Try.underlying57 Try.underlying5 Try.underlying9 fun j hj => ?_
    exact (own_cl h).src j _ (by simp [byC, hj])
/-- append(x, y) at []byte behind the block of y, in one go -/
theorem put_byte {ops : Array Oper} {rest : List Oper} {o : Oper} {a : Act} {W w : World} {Q : Exit → Act → World → Prop} (hgd : o.guard = none) (s x : Operand)
    (ho : o.op = .call { callee := .builtin .append, args := #[s, x], argTypes := #[57, 57] })
    (base : Nat) (A : Option Addr) (n c : Nat) (l : List UInt8) (hs : a.eval s = .slice A n c) (hown : w.ownsRow base 5 1 (.slice A n c) n (byC l)) (hb : Below base W w) (hbase : base ≤ w.heap.size) (hl : n + 1 ≤ 1000000)
    (yi : Int) (hx : a.eval x = .slice (some ⟨w.heap.size, 0, none⟩) 1 1) (y : UInt8) (hy : (y.toNat : Int) = yi)
    (h : ∀ A' c' w', w'.ownsRow base 5 1 (.slice A' (n + 1) c') (n + 1) (byC (l ++ [y])) → Below base W w' → base ≤ w'.heap.size → wpList Try.prog ops Q rest (a.put o.dst (.slice A' (n + 1) c')) w') :
    wpList Try.prog ops Q (o :: rest) a (w.alloc (.cells #[.int .u8 yi] 5)) := by
  refine app_byte hgd s x ho base A n c l hs (own_below hown ((Below.refl _ _).alloc (Nat.le_refl _) _)) w.heap.size hx y (by rw [hy]; exact new_one _ _ _) hl (by simp; omega) ?_
  intro A' c' w' h1 h2
  have hb' := below_app hb hbase hown (Nat.le_refl _) h2
  have hz := h2.size
  refine h A' c' w' h1 hb' ?_
  simp at hz
  omega
/-- append(x, y) at []api.Label behind the block of y -/
theorem put_lab {ops : Array Oper} {rest : List Oper} {o : Oper} {a : Act} {W w : World} {Q : Exit → Act → World → Prop} (hgd : o.guard = none) (s x : Operand)
    (ho : o.op = .call { callee := .builtin .append, args := #[s, x], argTypes := #[22, 22] })
    (base : Nat) (A : Option Addr) (n c : Nat) (l : List Lab) (hs : a.eval s = .slice A n c) (hown : w.ownsRow base 36 2 (.slice A n c) n (labC l)) (hb : Below base W w) (hbase : base ≤ w.heap.size) (hl : n + 1 ≤ 4398046511104)
    (b : Nat) (hbz : w.heap.size = b) (hx : a.eval x = .slice (some ⟨b, 0, none⟩) 1 1) (y : Lab)
    (h : ∀ A' c' w', w'.ownsRow base 36 2 (.slice A' (n + 1) c') (n + 1) (labC (l ++ [y])) → Below base W w' → base ≤ w'.heap.size → wpList Try.prog ops Q rest (a.put o.dst (.slice A' (n + 1) c')) w') :
    wpList Try.prog ops Q (o :: rest) a (w.alloc (.cells #[.string y.1, .string y.2] 36)) := by
  subst hbz
  refine app_lab hgd s x ho base A n c l hs (own_below hown ((Below.refl _ _).alloc (Nat.le_refl _) _)) w.heap.size hx y (new_two _ _ _ _).1 (new_two _ _ _ _).2 hl (by simp; omega) ?_
  intro A' c' w' h1 h2
  have hb' := below_app hb hbase hown (Nat.le_refl _) h2
  have hz := h2.size
  refine h A' c' w' h1 hb' ?_
  simp at hz
  omega
/-- append(x, y) at []string behind the block of y -/
theorem put_str {ops : Array Oper} {rest : List Oper} {o : Oper} {a : Act} {W w : World} {Q : Exit → Act → World → Prop} (hgd : o.guard = none) (s x : Operand)
    (ho : o.op = .call { callee := .builtin .append, args := #[s, x], argTypes := #[23, 23] })
    (base : Nat) (A : Option Addr) (n c : Nat) (l : List ByteArray) (hs : a.eval s = .slice A n c) (hown : w.ownsRow base 9 1 (.slice A n c) n (stC l)) (hb : Below base W w) (hbase : base ≤ w.heap.size) (hl : n + 1 ≤ 4398046511104)
    (b : Nat) (hbz : w.heap.size = b) (hx : a.eval x = .slice (some ⟨b, 0, none⟩) 1 1) (y : ByteArray)
    (h : ∀ A' c' w', w'.ownsRow base 9 1 (.slice A' (n + 1) c') (n + 1) (stC (l ++ [y])) → Below base W w' → base ≤ w'.heap.size → wpList Try.prog ops Q rest (a.put o.dst (.slice A' (n + 1) c')) w') :
    wpList Try.prog ops Q (o :: rest) a (w.alloc (.cells #[.string y] 9)) := by
  subst hbz
  refine app_str hgd s x ho base A n c l hs (own_below hown ((Below.refl _ _).alloc (Nat.le_refl _) _)) w.heap.size hx y (new_one _ _ _) hl (by simp; omega) ?_
  intro A' c' w' h1 h2
  have hb' := below_app hb hbase hown (Nat.le_refl _) h2
  have hz := h2.size
  refine h A' c' w' h1 hb' ?_
  simp at hz
  omega
end Go.Proofs.Ytnnfoagdgoionab
