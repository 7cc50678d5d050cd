/- Arguments that are slices of the document's items, and of numbers, read as what the contracts ask. -/
import Derived.Test.YtpfceebmiolpeaaPlA
import Derived.ProofKit
import Derived.OpenShut
import Derived.Deep.SlicePairs
import Derived.Deep.Fields
import Derived.WideShapes
import Derived.ChangeArms
import Derived.Lib.SmallJoins
namespace Go.Proofs.Ytpfceebmiolpeaa.Pl
open Go.ChangeShapes Go.WideShapes Go.RowKit Go.Deep
set_option linter.unusedVariables false

theorem spot_none {w : World} {a : Addr} {v : Value} {k : Nat} (h : w.cell? (a.add (0 * k)) = some v) : a = ⟨a.block, a.off, none⟩ := by
  simp [Addr.add] at h
  unfold World.cell? at h
  obtain ⟨b, o, s⟩ := a
  cases s with
  | none => rfl
  | some s =>
    simp only [Option.isSome_some, if_true] at h
    split at h <;> simp at h
theorem list_of {α : Type} {R : Nat → α → Prop} : ∀ (n : Nat), (∀ i, i < n → ∃ p, R i p) → ∃ l : List α, l.length = n ∧ ∀ j p, l[j]? = some p → R j p := by
  intro n
  induction n with
  | zero => exact fun _ => ⟨[], rfl, by simp⟩
  | succ k ih =>
    intro hi
    obtain ⟨l, hl, hp⟩ := ih (fun i h => hi i (by omega))
    obtain ⟨q, hq⟩ := hi k (by omega)
    refine ⟨l ++ [q], by simp [hl], fun j p hj => ?_⟩
    by_cases hjk : j < l.length
    · rw [List.getElem?_append_left hjk] at hj
      exact hp j p hj
    · rw [List.getElem?_append_right (by omega)] at hj
      obtain ⟨h1, h2⟩ := List.getElem?_eq_some_iff.1 hj
      simp at h1 h2
      obtain rfl : j = k := by omega
      rw [← h2]
      exact hq
section
variable {H : Type} {enc : TypeId × Value → H} {w : World} {spare : Nat → Bool} {held : Bool}
theorem slice_form {t e : TypeId} {fuel : Nat} {cs : List Value} {x : DataW H × List MemPlace} (ht : Try.prog.underlying t = some (.slice e)) (h : DataW.trod enc Try.prog w 0 spare held fuel t cs = some x) : ∃ A n c, cs = [.slice A n c] := by
  rcases open_slice ht h with ⟨rfl, _⟩ | ⟨a, len, cap, m, n, D, Pl, rfl, _⟩
  · exact ⟨_, _, _, rfl⟩
  · exact ⟨_, _, _, rfl⟩
set_option maxRecDepth 100000 in
theorem open_rf {fuel : Nat} {cs : List Value} {x : DataW H × List MemPlace} (h : DataW.trod enc Try.prog w 0 spare held fuel 30 cs = some x) :
    ∃ (A : Option Addr) (l : List It) (c : Nat), cs = [.slice A l.length c] ∧ Cl w A (fC rfA l) ∧ l.length ≤ 9223372036854775807 := by
  rcases open_slice Try.underlying30 h with ⟨rfl, _⟩ | ⟨a, len, cap, m, n, D, Pl, rfl, _, hlc, hcm, hm, hx, hc⟩
  · exact ⟨none, [], 0, rfl, .inl rfl, by simp⟩
  · have hlm : len ≤ m := by rw [hm]; split <;> omega
    have c4 : Try.prog.cellsOf 45 = 4 := by kernel_rfl
    have ci1 : Try.prog.cellsOf 3 = 1 := by kernel_rfl
    have cl1 : Try.prog.cellsOf 2 = 1 := by kernel_rfl
    have hi : ∀ i, i < len → ∃ p : It, ∀ j v, (rfA p).toList[j]? = some v → w.cell? ((a.add (i * 4)).add j) = some v := fun i hi => by
      obtain ⟨cs', h1, h2⟩ := hc i (by omega)
      rw [c4] at h1
      obtain ⟨_, hlen, hcell⟩ := World.cells?_some h1
      obtain ⟨xs, k, _, _, hl, hlen2, hf⟩ := DataW.trod_struct Try.underlying45 h2
      match cs', hlen, xs, hlen2 with
      | [v0, v1, v2, v3], _, [y0, y1, y2, y3], _ =>
        have g0 := hf 0 _ rfl
        have g1 := hf 1 _ rfl
        have g2 := hf 2 _ rfl
        have g3 := hf 3 _ rfl
        simp [ci1, cl1] at g0 g1 g2 g3
        obtain ⟨x0, e0, _, w0⟩ := DataW.trod_int Try.underlying3 g0
        obtain ⟨x1, e1, _, w1⟩ := DataW.trod_int Try.underlying3 g1
        obtain ⟨x2, e2, _, w2⟩ := DataW.trod_int Try.underlying2 g2
        obtain ⟨x3, e3, _, w3⟩ := DataW.trod_int Try.underlying2 g3
        simp only [List.cons.injEq, and_true] at e0 e1 e2 e3
        subst e0 e1 e2 e3
        refine ⟨⟨x0, x2, x3, x1⟩, fun j v hj => ?_⟩
        have hj4 : j < 4 := (List.getElem?_eq_some_iff.1 hj).1
        have := hcell j (by omega)
        rw [this]
        exact hj
    obtain ⟨l, hl, hp⟩ := list_of len hi
    subst hl
    refine ⟨some a, l, cap, rfl, ?_, by unfold maxLen at hcm; omega⟩
    by_cases h0 : l.length = 0
    · rw [List.eq_nil_of_length_eq_zero h0]; exact .inl rfl
    · have hp0 := hp 0 l[0] (List.getElem?_eq_getElem (by omega)) 0 _ rfl
      have ha : a = ⟨a.block, a.off, none⟩ := spot_none (k := 4) (by
        have e : (a.add (0 * 4)).add 0 = a.add (0 * 4) := by simp [Addr.add]
        rw [e] at hp0
        exact hp0)
      rw [ha]
      refine .inr ⟨a.block, a.off, rfl, fun j v hj => ?_⟩
      have hjl : j < l.length * 4 := by rw [← fC_length fourR]; exact (List.getElem?_eq_some_iff.1 hj).1
      obtain ⟨p, hpj⟩ := getElem?_lt (l := l) (k := j / 4) (by omega)
      have h4 := fC_at fourR (j := j % 4) hpj (by omega)
      rw [show j / 4 * 4 + j % 4 = j by omega] at h4
      have h5 := hp (j / 4) p hpj (j % 4) v (h4.symm.trans hj)
      rw [ha, addr_at, addr_at, show a.off + j / 4 * 4 + j % 4 = a.off + j by omega] at h5
      exact h5
end
/-- what is told of a slice of numbers that came in -/
def RowIn (k : IntKind) (w : World) (a : Option Addr) (len cap : Nat) (zs : List Int) : Prop :=
  (a = none ∧ len = 0 ∧ cap = 0 ∧ zs = []) ∨
  ∃ x, a = some x ∧ len ≤ cap ∧ cap ≤ maxLen ∧ zs.length = cap ∧ (∀ i, i < zs.length → w.cell? (x.add i) = some (.int k (zs.getD i 0))) ∧ ∀ n ∈ zs, (Lit.int k n).wf = true
theorem cl_of_row {k : IntKind} {w : World} {a : Option Addr} {len cap : Nat} {zs : List Int} (h : RowIn k w a len cap zs) :
    ∃ l : List Int, l.length = len ∧ Cl w a (intsC k l) ∧ (∀ n ∈ l, (Lit.int k n).wf = true) ∧ len ≤ cap ∧ cap ≤ 9223372036854775807 := by
  rcases h with ⟨rfl, rfl, rfl, rfl⟩ | ⟨x, rfl, hl, hm, hz, hc, hw⟩
  · exact ⟨[], rfl, Cl.nil _ _, by simp, Nat.le_refl _, by omega⟩
  · refine ⟨zs.take len, by simp; omega, ?_, fun n hn => hw n (List.mem_of_mem_take hn), hl, by unfold maxLen at hm; omega⟩
    by_cases h0 : len = 0
    · subst h0; exact .inl rfl
    · obtain ⟨b, off, spot⟩ := x
      have hc0 := hc 0 (by omega)
      have hs : spot = none := by simpa [Addr.add] using World.cell?_spot hc0
      subst hs
      refine .inr ⟨b, off, rfl, fun j v hj => ?_⟩
      unfold intsC at hj
      rw [List.getElem?_map] at hj
      obtain ⟨z, hzj, rfl⟩ := Option.map_eq_some_iff.mp hj
      rw [List.getElem?_take] at hzj
      split at hzj
      · rename_i hjl
        have := hc j (by omega)
        rw [addr_at] at this
        have e : zs.getD j 0 = z := by rw [List.getD_eq_getElem?_getD, hzj]; rfl
        rw [this, e]
      · cases hzj
end Go.Proofs.Ytpfceebmiolpeaa.Pl
