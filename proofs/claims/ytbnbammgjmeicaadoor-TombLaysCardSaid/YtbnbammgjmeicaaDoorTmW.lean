/- Arguments that are slices of ranges, one range, and slices of numbers, read as what the contracts ask. -/
import Derived.Test.YtbnbammgjmeicaaDoorTmK
import Derived.ProofKit
import Derived.OpenShut
import Derived.Deep.SlicePairs
import Derived.WideShapes
import Derived.ChangeArms
import Derived.Lib.SmallJoins
namespace Go.Proofs.YtbnbammgjmeicaaDoor.Tm
open Go.ChangeShapes Go.WideShapes Go.RowKit Go.Deep
set_option linter.unusedVariables false

theorem spot_none {w : World} {a : Addr} {v : Value} {k : Nat} (h : w.cell? (a.add (0 * k)) = some v) : a = ⟨a.block, a.off, none⟩ := by
  simp [Addr.add] at h
  unfold World.cell? at h
  obtain ⟨b, o, s⟩ := a
  cases s with
  | none => rfl
  | some s =>
    simp only [Option.isSome_some, if_true] at h
    split at h <;> simp at h
theorem list_of {α : Type} {R : Nat → α → Prop} : ∀ (n : Nat), (∀ i, i < n → ∃ p, R i p) → ∃ l : List α, l.length = n ∧ ∀ j p, l[j]? = some p → R j p := by
  intro n
  induction n with
  | zero => exact fun _ => ⟨[], rfl, by simp⟩
  | succ k ih =>
    intro hi
    obtain ⟨l, hl, hp⟩ := ih (fun i h => hi i (by omega))
    obtain ⟨q, hq⟩ := hi k (by omega)
    refine ⟨l ++ [q], by simp [hl], fun j p hj => ?_⟩
    by_cases hjk : j < l.length
    · rw [List.getElem?_append_left hjk] at hj
      exact hp j p hj
    · rw [List.getElem?_append_right (by omega)] at hj
      obtain ⟨h1, h2⟩ := List.getElem?_eq_some_iff.1 hj
      simp at h1 h2
      obtain rfl : j = k := by omega
      rw [← h2]
      exact hq
section
variable {H : Type} {enc : TypeId × Value → H} {w : World} {spare : Nat → Bool} {held : Bool}
/-- a slice of ranges, opened -/
theorem open_rg {fuel : Nat} {cs : List Value} {x : DataW H × List MemPlace} (h : DataW.trod enc Tryd.prog w 0 spare held fuel 22 cs = some x) : ∃ (A : Option Addr) (l : List Rg) (c : Nat), cs = [.slice A l.length c] ∧ Cl w A (twoC .i64 l) ∧ l.length ≤ 9223372036854775807 := by
  rcases open_slice_pairs Tryd.underlying22 Tryd.underlying61 (by kernel_rfl) rfl rfl (by kernel_rfl) (by kernel_rfl) h with ⟨rfl, _⟩ | ⟨a, len, cap, m, n, V0, V1, D0, D1, P0, P1, rfl, _, hlc, hcm, hm, _, hc⟩
  · exact ⟨none, [], 0, rfl, .inl rfl, by simp⟩
  · have hlm : len ≤ m := by rw [hm]; split <;> omega
    have hi : ∀ i, i < len → ∃ p : Rg, V0 i = .int .i64 p.1 ∧ V1 i = .int .i64 p.2 := fun i hi => by
      obtain ⟨_, _, t0, t1⟩ := hc i (by omega)
      obtain ⟨x0, e0, _, w0⟩ := DataW.trod_int Tryd.underlying2 t0
      obtain ⟨x1, e1, _, w1⟩ := DataW.trod_int Tryd.underlying2 t1
      simp only [List.cons.injEq, and_true] at e0 e1
      exact ⟨(x0, x1), e0, e1⟩
    obtain ⟨l, hl, hp⟩ := list_of len hi
    subst hl
    refine ⟨some a, l, cap, rfl, ?_, by unfold maxLen at hcm; omega⟩
    by_cases h0 : l.length = 0
    · rw [List.eq_nil_of_length_eq_zero h0]; exact .inl rfl
    · have ha : a = ⟨a.block, a.off, none⟩ := spot_none (hc 0 (by omega)).1
      rw [ha]
      refine .inr ⟨a.block, a.off, rfl, fun j v hj => ?_⟩
      have hjl : j < l.length * 2 := by rw [← twoC_length .i64]; exact (List.getElem?_eq_some_iff.1 hj).1
      obtain ⟨p, hpj⟩ := getElem?_lt (l := l) (k := j / 2) (by omega)
      obtain ⟨v0, v1⟩ := hp (j / 2) p hpj
      obtain ⟨x0, x1⟩ := twoC_at (k := .i64) hpj
      obtain ⟨c0, c1, _⟩ := hc (j / 2) (by omega)
      rw [ha, addr_at, v0] at c0
      rw [ha, addr_at, v1] at c1
      rcases (show j = j / 2 * 2 ∨ j = j / 2 * 2 + 1 by omega) with e | e
      · rw [e, x0] at hj
        injection hj with hj
        subst hj
        rw [e]
        exact c0
      · rw [e, x1] at hj
        injection hj with hj
        subst hj
        rw [e]
        exact c1
end
/-- what is told of a slice of numbers that came in -/
def RowIn (k : IntKind) (w : World) (a : Option Addr) (len cap : Nat) (zs : List Int) : Prop :=
  (a = none ∧ len = 0 ∧ cap = 0 ∧ zs = []) ∨
  ∃ x, a = some x ∧ len ≤ cap ∧ cap ≤ maxLen ∧ zs.length = cap ∧ (∀ i, i < zs.length → w.cell? (x.add i) = some (.int k (zs.getD i 0))) ∧ ∀ n ∈ zs, (Lit.int k n).wf = true
theorem cl_of_row {k : IntKind} {w : World} {a : Option Addr} {len cap : Nat} {zs : List Int} (h : RowIn k w a len cap zs) :
    ∃ l : List Int, l.length = len ∧ Cl w a (intsC k l) ∧ (∀ n ∈ l, (Lit.int k n).wf = true) ∧ len ≤ cap ∧ cap ≤ 9223372036854775807 := by
  rcases h with ⟨rfl, rfl, rfl, rfl⟩ | ⟨x, rfl, hl, hm, hz, hc, hw⟩
  · exact ⟨[], rfl, Cl.nil _ _, by simp, Nat.le_refl _, by omega⟩
  · refine ⟨zs.take len, by simp; omega, ?_, fun n hn => hw n (List.mem_of_mem_take hn), hl, by unfold maxLen at hm; omega⟩
    by_cases h0 : len = 0
    · subst h0; exact .inl rfl
    · obtain ⟨b, off, spot⟩ := x
      have hc0 := hc 0 (by omega)
      have hs : spot = none := by simpa [Addr.add] using World.cell?_spot hc0
      subst hs
      refine .inr ⟨b, off, rfl, fun j v hj => ?_⟩
      unfold intsC at hj
      rw [List.getElem?_map] at hj
      obtain ⟨z, hzj, rfl⟩ := Option.map_eq_some_iff.mp hj
      rw [List.getElem?_take] at hzj
      split at hzj
      · rename_i hjl
        have := hc j (by omega)
        rw [addr_at] at this
        have e : zs.getD j 0 = z := by rw [List.getD_eq_getElem?_getD, hzj]; rfl
        rw [this, e]
      · cases hzj
end Go.Proofs.YtbnbammgjmeicaaDoor.Tm
