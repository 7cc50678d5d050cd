/- Arguments that are slices of labels, read as what the contracts ask. -/
import Derived.Test.YtnnfoagdgoionabLbA
import Derived.ProofKit
import Derived.OpenShut
import Derived.Deep.SlicePairs
import Derived.Deep.Strs
import Derived.Deep.Fields
import Derived.WideShapes
import Derived.ChangeArms
import Derived.SizedLaws
import Derived.Test.YtnnfoagdgoionabLbC
namespace Go.Proofs.Ytnnfoagdgoionab
open Go.ChangeShapes Go.WideShapes Go.RowKit Go.Deep
set_option linter.unusedVariables false

theorem spot_none {w : World} {a : Addr} {v : Value} {k : Nat} (h : w.cell? (a.add (0 * k)) = some v) : a = ⟨a.block, a.off, none⟩ := by
  simp [Addr.add] at h
  unfold World.cell? at h
  obtain ⟨b, o, s⟩ := a
  cases s with
  | none => rfl
  | some s =>
    simp only [Option.isSome_some, if_true] at h
    split at h <;> simp at h
theorem list_of {α : Type} {R : Nat → α → Prop} : ∀ (n : Nat), (∀ i, i < n → ∃ p, R i p) → ∃ l : List α, l.length = n ∧ ∀ j p, l[j]? = some p → R j p := by
  intro n
  induction n with
  | zero => exact fun _ => ⟨[], rfl, by simp⟩
  | succ k ih =>
    intro hi
    obtain ⟨l, hl, hp⟩ := ih (fun i h => hi i (by omega))
    obtain ⟨q, hq⟩ := hi k (by omega)
    refine ⟨l ++ [q], by simp [hl], fun j p hj => ?_⟩
    by_cases hjk : j < l.length
    · rw [List.getElem?_append_left hjk] at hj
      exact hp j p hj
    · rw [List.getElem?_append_right (by omega)] at hj
      obtain ⟨h1, h2⟩ := List.getElem?_eq_some_iff.1 hj
      simp at h1 h2
      obtain rfl : j = k := by omega
      rw [← h2]
      exact hq
theorem bytesL : Try.prog.bytesOf 36 = 32 := by kernel_rfl
theorem bytesT : Try.prog.bytesOf 9 = 16 := by kernel_rfl
section
variable {H : Type} {enc : TypeId × Value → H} {w : World} {spare : Nat → Bool} {held : Bool}
/-- a slice of labels, opened: the list that it reads as, and how its datum is made -/
theorem open_lab {fuel : Nat} {cs : List Value} {x : DataW H × List MemPlace} (h : DataW.trod enc Try.prog w 0 spare held fuel 22 cs = some x) :
    ∃ (A : Option Addr) (l : List Lab) (c : Nat), cs = [.slice A l.length c] ∧ Lw w A l ∧ (l.length = 0 ∨ ∃ elems sp, x.1 = .slice elems sp ∧ elems.length = l.length) := by
  rcases open_slice_pairs Try.underlying22 Try.underlying36 (by kernel_rfl) rfl rfl (by kernel_rfl) (by kernel_rfl) h with ⟨rfl, _⟩ | ⟨a, len, cap, m, n, V0, V1, D0, D1, P0, P1, rfl, _, hlc, hcm, hm, hx, hc⟩
  · exact ⟨none, [], 0, rfl, Lw.nil _ _, .inl rfl⟩
  · have hlm : len ≤ m := by rw [hm]; split <;> omega
    have hi : ∀ i, i < len → ∃ p : Lab, V0 i = .string p.1 ∧ V1 i = .string p.2 ∧ Ws p.1 ∧ Ws p.2 := fun i hi => by
      obtain ⟨_, _, t0, t1⟩ := hc i (by omega)
      obtain ⟨x0, e0, _, w0⟩ := DataW.trod_string Try.underlying9 t0
      obtain ⟨x1, e1, _, w1⟩ := DataW.trod_string Try.underlying9 t1
      simp only [List.cons.injEq, and_true] at e0 e1
      unfold maxLen at w0 w1
      exact ⟨(x0, x1), e0, e1, by unfold Ws; exact w0, by unfold Ws; exact w1⟩
    obtain ⟨l, hl, hp⟩ := list_of len hi
    subst hl
    have hx1 : x.1 = .slice ((List.range l.length).map fun i => .agg [D0 i, D1 i]) ((List.range (m - l.length)).map fun j => .agg [D0 (l.length + j), D1 (l.length + j)]) := by rw [hx]
    refine ⟨some a, l, cap, rfl, ⟨by unfold maxLen at hcm; omega, fun p hpm => ?_, ?_⟩, .inr ⟨_, _, hx1, by simp⟩⟩
    · obtain ⟨k, hk, rfl⟩ := List.getElem_of_mem hpm
      have := hp k _ (List.getElem?_eq_getElem hk)
      exact ⟨this.2.2.1, this.2.2.2⟩
    · by_cases h0 : l.length = 0
      · rw [List.eq_nil_of_length_eq_zero h0]; exact .inl rfl
      · have ha : a = ⟨a.block, a.off, none⟩ := spot_none (hc 0 (by omega)).1
        rw [ha]
        refine .inr ⟨a.block, a.off, rfl, fun j v hj => ?_⟩
        have hjl : j < l.length * 2 := by rw [← labC_length]; exact (List.getElem?_eq_some_iff.1 hj).1
        obtain ⟨p, hpj⟩ := getElem?_lt (l := l) (k := j / 2) (by omega)
        obtain ⟨v0, v1, _⟩ := hp (j / 2) p hpj
        obtain ⟨c0, c1, _⟩ := hc (j / 2) (by omega)
        rw [ha, addr_at, v0] at c0
        rw [ha, addr_at, v1] at c1
        obtain ⟨l0, l1⟩ := labC_at hpj
        rcases (show j = j / 2 * 2 ∨ j = j / 2 * 2 + 1 by omega) with e | e
        · rw [← e] at l0 c0
          rw [l0] at hj
          injection hj with hj
          rw [← hj]; exact c0
        · rw [← e] at l1 c1
          rw [l1] at hj
          injection hj with hj
          rw [← hj]; exact c1
/-- a slice of texts, opened -/
theorem open_txt {fuel : Nat} {cs : List Value} {x : DataW H × List MemPlace} (h : DataW.trod enc Try.prog w 0 spare held fuel 23 cs = some x) :
    ∃ (A : Option Addr) (l : List ByteArray) (c : Nat), cs = [.slice A l.length c] ∧ (Cl w A (stC l) ∧ ∀ s ∈ l, Ws s) ∧ (l.length = 0 ∨ ∃ elems sp, x.1 = .slice elems sp ∧ elems.length = l.length) := by
  rcases open_strs Try.underlying23 Try.underlying9 (by kernel_rfl) h with ⟨rfl, _⟩ | ⟨a, len, cap, m, Sx, rfl, _, hlc, hcm, hm, hx, hc⟩
  · exact ⟨none, [], 0, rfl, ⟨Cl.nil _ _, by simp⟩, .inl rfl⟩
  · have hlm : len ≤ m := by rw [hm]; split <;> omega
    have hi : ∀ i, i < len → ∃ s : ByteArray, Sx i = s ∧ Ws s := fun i hi => by
      have h2 := (hc i (by omega)).2
      unfold maxLen at h2
      exact ⟨Sx i, rfl, h2⟩
    obtain ⟨l, hl, hp⟩ := list_of len hi
    subst hl
    have hx1 : x.1 = .slice ((List.range l.length).map fun i => .lit (.string (Sx i).data.toList)) ((List.range (m - l.length)).map fun j => .lit (.string (Sx (l.length + j)).data.toList)) := by rw [hx]
    refine ⟨some a, l, cap, rfl, ⟨?_, fun s hs => ?_⟩, .inr ⟨_, _, hx1, by simp⟩⟩
    · by_cases h0 : l.length = 0
      · rw [List.eq_nil_of_length_eq_zero h0]; exact .inl rfl
      · have h00 := (hc 0 (by omega)).1
        have ha : a = ⟨a.block, a.off, none⟩ := spot_none (k := 1) h00
        rw [ha]
        refine .inr ⟨a.block, a.off, rfl, fun j v hj => ?_⟩
        have hjl : j < l.length := by rw [← stC_length]; exact (List.getElem?_eq_some_iff.1 hj).1
        obtain ⟨s, hsj⟩ := getElem?_lt hjl
        have e1 := (hp j s hsj).1
        have c0 := (hc j (by omega)).1
        rw [ha, addr_at, e1] at c0
        rw [stC_at hsj] at hj
        injection hj with hj
        rw [← hj]; exact c0
    · obtain ⟨k, hk, rfl⟩ := List.getElem_of_mem hs
      exact (hp k _ (List.getElem?_eq_getElem hk)).2
end
end Go.Proofs.Ytnnfoagdgoionab
