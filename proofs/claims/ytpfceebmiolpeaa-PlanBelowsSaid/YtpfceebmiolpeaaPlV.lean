/- The argument that is a slice of the document's items, with what its numbers can be. -/
import Derived.Test.YtpfceebmiolpeaaPlW
namespace Go.Proofs.Ytpfceebmiolpeaa.Pl
open Go.ChangeShapes Go.WideShapes Go.RowKit Go.Deep
set_option linter.unusedVariables false

section
variable {H : Type} {enc : TypeId × Value → H} {w : World} {spare : Nat → Bool} {held : Bool}
set_option maxRecDepth 100000 in
theorem open_rfq {fuel : Nat} {cs : List Value} {x : DataW H × List MemPlace} (h : DataW.trod enc Try.prog w 0 spare held fuel 30 cs = some x) :
    ∃ (A : Option Addr) (l : List It) (c : Nat), cs = [.slice A l.length c] ∧ Cl w A (fC rfA l) ∧ l.length ≤ 9223372036854775807 ∧ ∀ x ∈ l, I64 x.q := by
  rcases open_slice Try.underlying30 h with ⟨rfl, _⟩ | ⟨a, len, cap, m, n, D, Pl, rfl, _, hlc, hcm, hm, hx, hc⟩
  · exact ⟨none, [], 0, rfl, .inl rfl, by simp, by simp⟩
  · have hlm : len ≤ m := by rw [hm]; split <;> omega
    have c4 : Try.prog.cellsOf 45 = 4 := by kernel_rfl
    have ci1 : Try.prog.cellsOf 3 = 1 := by kernel_rfl
    have cl1 : Try.prog.cellsOf 2 = 1 := by kernel_rfl
    have hi : ∀ i, i < len → ∃ p : It, (∀ j v, (rfA p).toList[j]? = some v → w.cell? ((a.add (i * 4)).add j) = some v) ∧ I64 p.q := fun i hi => by
      obtain ⟨cs', h1, h2⟩ := hc i (by omega)
      rw [c4] at h1
      obtain ⟨_, hlen, hcell⟩ := World.cells?_some h1
      obtain ⟨xs, k, _, _, hl, hlen2, hf⟩ := DataW.trod_struct Try.underlying45 h2
      match cs', hlen, xs, hlen2 with
      | [v0, v1, v2, v3], _, [y0, y1, y2, y3], _ =>
        have g0 := hf 0 _ rfl
        have g1 := hf 1 _ rfl
        have g2 := hf 2 _ rfl
        have g3 := hf 3 _ rfl
        simp [ci1, cl1] at g0 g1 g2 g3
        obtain ⟨x0, e0, _, w0⟩ := DataW.trod_int Try.underlying3 g0
        obtain ⟨x1, e1, _, w1⟩ := DataW.trod_int Try.underlying3 g1
        obtain ⟨x2, e2, _, w2⟩ := DataW.trod_int Try.underlying2 g2
        obtain ⟨x3, e3, _, w3⟩ := DataW.trod_int Try.underlying2 g3
        simp only [List.cons.injEq, and_true] at e0 e1 e2 e3
        subst e0 e1 e2 e3
        refine ⟨⟨x0, x2, x3, x1⟩, fun j v hj => ?_, bounds_i64 w0⟩
        have hj4 : j < 4 := (List.getElem?_eq_some_iff.1 hj).1
        have := hcell j (by omega)
        rw [this]
        exact hj
    obtain ⟨l, hl, hp⟩ := list_of len hi
    subst hl
    refine ⟨some a, l, cap, rfl, ?_, by unfold maxLen at hcm; omega, fun x hx => ?_⟩
    case refine_2 =>
      obtain ⟨k, hk, rfl⟩ := List.getElem_of_mem hx
      exact (hp k _ (List.getElem?_eq_getElem hk)).2
    by_cases h0 : l.length = 0
    · rw [List.eq_nil_of_length_eq_zero h0]; exact .inl rfl
    · have hp0 := (hp 0 l[0] (List.getElem?_eq_getElem (by omega))).1 0 _ rfl
      have ha : a = ⟨a.block, a.off, none⟩ := spot_none (k := 4) (by
        have e : (a.add (0 * 4)).add 0 = a.add (0 * 4) := by simp [Addr.add]
        rw [e] at hp0
        exact hp0)
      rw [ha]
      refine .inr ⟨a.block, a.off, rfl, fun j v hj => ?_⟩
      have hjl : j < l.length * 4 := by rw [← fC_length fourR]; exact (List.getElem?_eq_some_iff.1 hj).1
      obtain ⟨p, hpj⟩ := getElem?_lt (l := l) (k := j / 4) (by omega)
      have h4 := fC_at fourR (j := j % 4) hpj (by omega)
      rw [show j / 4 * 4 + j % 4 = j by omega] at h4
      have h5 := (hp (j / 4) p hpj).1 (j % 4) v (h4.symm.trans hj)
      rw [ha, addr_at, addr_at, show a.off + j / 4 * 4 + j % 4 = a.off + j by omega] at h5
      exact h5
end
end Go.Proofs.Ytpfceebmiolpeaa.Pl
