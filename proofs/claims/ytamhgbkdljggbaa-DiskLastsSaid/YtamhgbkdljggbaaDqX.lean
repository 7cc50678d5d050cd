/- Truths and cuts as arguments. -/
import Derived.Test.YtamhgbkdljggbaaDqW
import Derived.ChangeSlices
namespace Go.Proofs.Ytamhgbkdljggbaa.Dk
open Go.ChangeShapes Go.WideShapes Go.RowKit Go.Deep
set_option linter.unusedVariables false

section
variable {H : Type} {enc : TypeId × Value → H} {w : World} {spare : Nat → Bool} {held : Bool}
set_option maxRecDepth 100000 in
theorem open_u16 {fuel : Nat} {cs : List Value} {x : DataW H × List MemPlace} (h : DataW.trod enc Try.prog w 0 spare held fuel 24 cs = some x) :
    ∃ (A : Option Addr) (l : List Nat) (c : Nat), cs = [.slice A l.length c] ∧ Tk.Cl w A (l.map fun u : Nat => Value.int .u16 (u : Int)) ∧ (∀ u ∈ l, u < 65536) ∧ (l.length = 0 ∨ ∃ elems sp, x.1 = .slice elems sp ∧ elems.length = l.length) := by
  rcases open_slice Try.underlying24 h with ⟨rfl, _⟩ | ⟨a, len, cap, m, n, D, Pl, rfl, _, hlc, hcm, hm, hx, hc⟩
  · exact ⟨none, [], 0, rfl, .inl rfl, (fun u hu => by cases hu), .inl rfl⟩
  · have hlm : len ≤ m := by rw [hm]; split <;> omega
    have c1 : Try.prog.cellsOf 52 = 1 := by kernel_rfl
    have hi : ∀ i, i < len → ∃ u : Nat, w.cell? (a.add (i * 1)) = some (.int .u16 (u : Int)) ∧ u < 65536 := fun i hi => by
      obtain ⟨cs', h1, h2⟩ := hc i (by omega)
      rw [c1] at h1
      obtain ⟨_, hlen, hcell⟩ := World.cells?_some h1
      obtain ⟨z, e, _, wz⟩ := DataW.trod_int Try.underlying52 h2
      subst e
      have q := hcell 0 (by omega)
      have hb : 0 ≤ z ∧ z ≤ 65535 := bounds_u16 wz
      refine ⟨z.toNat, ?_, by omega⟩
      rw [Int.toNat_of_nonneg hb.1]
      simpa [Addr.add] using q
    obtain ⟨l, hl, hp⟩ := list_of len hi
    subst hl
    refine ⟨some a, l, cap, rfl, ?_, fun u hu => ?_, .inr ⟨_, _, by rw [hx], by simp⟩⟩
    · by_cases h0 : l.length = 0
      · exact .inl (by rw [List.eq_nil_of_length_eq_zero h0]; rfl)
      · have ha : a = ⟨a.block, a.off, none⟩ := spot_none (k := 1) ((hp 0 l[0] (List.getElem?_eq_getElem (by omega))).1)
        refine .inr ⟨a.block, a.off, congrArg some ha, fun j v hj => ?_⟩
        rw [List.getElem?_map] at hj
        obtain ⟨u, hu, rfl⟩ := Option.map_eq_some_iff.1 hj
        have := (hp j u hu).1
        rw [ha, Tk.addr_add, Nat.mul_one] at this
        exact this
    · obtain ⟨k, hk, rfl⟩ := List.getElem_of_mem hu
      exact (hp k _ (List.getElem?_eq_getElem hk)).2
set_option maxRecDepth 100000 in
theorem open_bools {fuel : Nat} {cs : List Value} {x : DataW H × List MemPlace} (h : DataW.trod enc Try.prog w 0 spare held fuel 23 cs = some x) :
    ∃ (A : Option Addr) (l : List Bool) (c : Nat), cs = [.slice A l.length c] ∧ Tk.Cl w A (l.map Value.bool) := by
  rcases open_slice Try.underlying23 h with ⟨rfl, _⟩ | ⟨a, len, cap, m, n, D, Pl, rfl, _, hlc, hcm, hm, hx, hc⟩
  · exact ⟨none, [], 0, rfl, .inl rfl⟩
  · have hlm : len ≤ m := by rw [hm]; split <;> omega
    have c1 : Try.prog.cellsOf 4 = 1 := by kernel_rfl
    have hi : ∀ i, i < len → ∃ u : Bool, w.cell? (a.add (i * 1)) = some (.bool u) := fun i hi => by
      obtain ⟨cs', h1, h2⟩ := hc i (by omega)
      rw [c1] at h1
      obtain ⟨_, hlen, hcell⟩ := World.cells?_some h1
      obtain ⟨z, e, _⟩ := DataW.trod_bool Try.underlying4 h2
      subst e
      have q := hcell 0 (by omega)
      exact ⟨z, by simpa [Addr.add] using q⟩
    obtain ⟨l, hl, hp⟩ := list_of len hi
    subst hl
    refine ⟨some a, l, cap, rfl, ?_⟩
    by_cases h0 : l.length = 0
    · exact .inl (by rw [List.eq_nil_of_length_eq_zero h0]; rfl)
    · have ha : a = ⟨a.block, a.off, none⟩ := spot_none (k := 1) (hp 0 l[0] (List.getElem?_eq_getElem (by omega)))
      refine .inr ⟨a.block, a.off, congrArg some ha, fun j v hj => ?_⟩
      rw [List.getElem?_map] at hj
      obtain ⟨u, hu, rfl⟩ := Option.map_eq_some_iff.1 hj
      have := hp j u hu
      rw [ha, Tk.addr_add, Nat.mul_one] at this
      exact this
end
end Go.Proofs.Ytamhgbkdljggbaa.Dk
