/- A slice of histograms that grows: append(l, h). -/
import Derived.Test.YtbibhjcmdehdbaaMuF
namespace Go.Proofs.Ytbibhjcmdehdbaa
open Go.RowKit Go.Sort Go.Maps
set_option linter.unusedVariables false

theorem infoHi : (Try.prog.info? 25).map (fun i => (i.zero, i.size, i.bytes)) = some (some (.agg #[.int .i64 0, .int .i64 0, .int .i64 0, .int .u64 0, .int .u64 0, .int .i64 0, .slice none 0 0, .slice none 0 0]), 8, 96) := by kernel_rfl
/-- a histogram as it lies in a slice -/
structure HE where
  h : HV
  A : Option Addr
  B : Option Addr
  c : Nat
  d : Nat
def hcells (e : HE) : List Value := [.int .i64 e.h.k, .int .i64 e.h.s, .int .i64 e.h.z, .int .u64 e.h.zc, .int .u64 e.h.ct, .int .i64 e.h.sm, .slice e.A e.h.P.length e.c, .slice e.B e.h.Q.length e.d]
def cellsHs (L : List HE) : List Value := L.flatMap hcells
theorem cellsHs_snoc (L : List HE) (e : HE) : cellsHs (L ++ [e]) = cellsHs L ++ hcells e := by unfold cellsHs; rw [List.flatMap_append]; simp
theorem cellsHs_length (L : List HE) : (cellsHs L).length = L.length * 8 := by
  induction L with
  | nil => rfl
  | cons a r ih =>
    have : cellsHs (a :: r) = hcells a ++ cellsHs r := rfl
    rw [this, List.length_append, ih]
    simp [hcells]
    omega
theorem cellsHs_at {L : List HE} {j : Nat} {e : HE} (hj : L[j]? = some e) {i : Nat} (hi : i < 8) : (cellsHs L)[j * 8 + i]? = (hcells e)[i]? := by
  induction L generalizing j with
  | nil => simp at hj
  | cons a r ih =>
    have hc : cellsHs (a :: r) = hcells a ++ cellsHs r := rfl
    have hl : (hcells a).length = 8 := rfl
    rw [hc]
    cases j with
    | zero =>
      simp at hj
      subst hj
      rw [Nat.zero_mul, Nat.zero_add, List.getElem?_append_left (by omega)]
    | succ j =>
      rw [List.getElem?_append_right (by rw [hl]; omega), hl]
      have e1 : (j + 1) * 8 + i - 8 = j * 8 + i := by omega
      rw [e1]
      exact ih (by simpa using hj)
/-- append(l, h) -/
theorem app_hist {ops : Array Oper} {rest : List Oper} {o : Oper} {a : Act} {w : World} {Q : Exit → Act → World → Prop} (hgd : o.guard = none) (s x : Operand)
    (ho : o.op = .call { callee := .builtin .append, args := #[s, x], argTypes := #[34, 34] })
    (base : Nat) (A : Option Addr) (n c : Nat) (L : List HE) (hs : a.eval s = .slice A n c) (hown : w.ownsRow base 25 8 (.slice A n c) n (cellsHs L))
    (g : Nat) (hx : a.eval x = .slice (some ⟨g, 0, none⟩) 1 1) (y : HE) (hy : ∀ j u, (hcells y)[j]? = some u → w.cell? ⟨g, j, none⟩ = some u) (hl : n + 1 ≤ 1000000) (hbase : base ≤ w.heap.size)
    (h : ∀ A' c' w', w'.ownsRow base 25 8 (.slice A' (n + 1) c') (n + 1) (cellsHs (L ++ [y])) → w.grownBy w' (Value.slice A n c).ownBlock → wpList Try.prog ops Q rest (a.put o.dst (.slice A' (n + 1) c')) w') : wpList Try.prog ops Q (o :: rest) a w := by
  obtain ⟨i0, hi, hz0, hz1, hz2⟩ := info_parts infoHi
  refine wpList_append_own w hgd s x 34 ho base 25 i0 (.agg #[.int .i64 0, .int .i64 0, .int .i64 0, .int .u64 0, .int .u64 0, .int .i64 0, .slice none 0 0, .slice none 0 0]) 8 96 Try.underlying34 hi hz0 hz1 hz2 rfl (by decide) _ n (cellsHs L) hs hown ⟨g, 0, none⟩ 1 1 (hcells y) hx rfl ?_ (by simp [hcells, Value.oneCell']) (by unfold maxLen; omega) (by omega) hbase ?_
  · intro j u hu
    rw [addr_at, Nat.zero_add]
    exact hy j u hu
  · intro v' w' h1 h2 _
    rw [← cellsHs_snoc] at h1
    obtain ⟨A', c', rfl⟩ : ∃ A' c', v' = .slice A' (n + 1) c' := by
      obtain ⟨g', cap', hv, _, _⟩ := h1.form (by omega)
      exact ⟨_, _, hv⟩
    exact h A' c' w' h1 h2
/-- such a row is a slice of histograms -/
theorem own_hl {w : World} {base g n cap : Nat} {L : List HE} (hn : n = L.length) (h : w.ownsRow base 25 8 (.slice (some ⟨g, 0, none⟩) n cap) n (cellsHs L)) (hl : L.length ≤ 1000000) (hb : ∀ e ∈ L, (Bk w e.A e.h.P ∧ Bk w e.B e.h.Q) ∧ 0 ≤ e.h.zc ∧ e.h.zc ≤ 18446744073709551615) : Hl w (some ⟨g, 0, none⟩) (L.map HE.h) := by
  subst hn
  refine ⟨by rw [List.length_map]; exact hl, .inr ⟨g, 0, rfl, fun j x hj => ?_⟩⟩
  rw [List.getElem?_map] at hj
  obtain ⟨e, he, rfl⟩ := Option.map_eq_some_iff.1 hj
  have hlt : j < L.length := (List.getElem?_eq_some_iff.1 he).1
  have at_ : ∀ i, i < 8 → w.cell? ⟨g, 0 + j * 8 + i, none⟩ = (hcells e)[i]? := fun i hi => by
    rw [Nat.zero_add, h.cellAt (j * 8 + i) (by omega), cellsHs_at he hi]
  obtain ⟨⟨b1, b2⟩, z⟩ := hb e (List.mem_of_getElem? he)
  exact ⟨e.A, e.B, e.c, e.d, ⟨at_ 0 (by omega), at_ 1 (by omega), at_ 2 (by omega), at_ 3 (by omega), at_ 4 (by omega), at_ 5 (by omega), at_ 6 (by omega), at_ 7 (by omega)⟩, b1, b2, z⟩
end Go.Proofs.Ytbibhjcmdehdbaa
