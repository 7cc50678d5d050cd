/-
  For all slices of labels l and m and all slices of strings names the law LabelMakes returns true and leaves its arguments as they were; no further condition.
-/
import Derived.Test.YtnnfoagdgoionabRows
import Derived.Test.YtnnfoagdgoionabLbMw
import Derived.Test.YtnnfoagdgoionabLbW
import Derived.SizedLaws
import Derived.WalkKit
import Derived.ProofKit
import Derived.OpenShut
import Derived.ShutString
import Derived.ChangeOld
import Derived.Below
namespace Go.Proofs.Ytnnfoagdgoionab.labelMakes
open Go.ChangeShapes Go.WideShapes Go.ChangeAt Go.RowKit
open Go.ChangeMaps (open_string shut_string)
set_option linter.unusedVariables false

theorem own : ownKnob Try.prog.godebug = none := by kernel_rfl
theorem laidOut : laidOutB Try.prog = true := by kernel_rfl

set_option maxRecDepth 100000 in
theorem lifted (os : Os) (started : os.Started) (H : Type) (enc : TypeId × Value → H) :
    ReturnsInHanded {} Try.checked os 3 .any (Rows.labelMakesSpec.pre6 enc Try.prog Try.f3 Rows.labelMakesRow.domain false) (Rows.labelMakesSpec.post enc Try.prog Try.f3 false true false false) := by
  refine returnsInHanded_of_change_sized (C := Try.checked) own started (by kernel_rfl) Try.func3
    (ChangeSpec.witness6 (enc := enc) (C := Try.checked) false ⟨#[], #[.slice none 0 0, .slice none 0 0, .slice none 0 0], []⟩ 8 (by kernel_rfl) (by kernel_rfl) (by kernel_rfl) (by kernel_rfl)) ?_
  intro W base args ds gs before hval0 hW hcnd hsz0 _
  have hsz : (DataW.weightsEach Try.prog (Try.f3.params.toList ++ Rows.labelMakesSpec.plain.varTypes Try.prog) (ds ++ gs)).all (· ≤ reachBytes) = true := hsz0
  clear hsz0
  have hval : ∀ (j : Nat) t v, Try.f3.params[j]? = some t → args[j]? = some v → Value.okWide Try.prog W .any base t v := hval0
  have hW' := hW
  obtain ⟨p, q, hA0, hV, rfl, hfz, hnd⟩ := hW
  have hA : DataW.TrodAll enc Try.prog W 0 (fun _ => true) true Try.f3.params.toList args.toList ds p := hA0
  rw [Try.params3] at hA hval hsz
  obtain ⟨v0, vs0, d0, ds0, p0, q0, hargs, rfl, rfl, h0, r0⟩ := trodAll_cons hA
  obtain ⟨v1, vs1, d1, ds1, p1, q1, rfl, rfl, rfl, h1, r1⟩ := trodAll_cons r0
  obtain ⟨v2, vs2, d2, ds2, p2, q2, rfl, rfl, rfl, h2, r2⟩ := trodAll_cons r1
  obtain ⟨rfl, rfl, rfl⟩ := trodAll_nil r2
  obtain rfl : args = #[v0, v1, v2] := by cases args; simp_all
  obtain ⟨rfl, rfl⟩ := trodVars_none hV
  obtain ⟨a0, len0, cap0, rfl⟩ := okWide_slice Try.underlying22 (hval 0 22 v0 rfl rfl)
  have k0 := h0
  have lt0 : ∀ x ∈ p0, x.block < W.heap.size := by obtain ⟨m, hm⟩ := k0; exact DataW.trod_lt m _ _ _ hm
  obtain ⟨l0, e0, w0, n0⟩ : ∃ l : List Lab, len0 = l.length ∧ (Lw W a0 l) ∧ l.length ≤ 4398046510976 := by
    obtain ⟨fuel, hf⟩ := h0
    obtain ⟨A, l, c, hcs, hL, hx⟩ := open_lab hf
    simp [Value.cells] at hcs
    obtain ⟨rfl, rfl, rfl⟩ := hcs
    refine ⟨l, rfl, hL, ?_⟩
    rcases hx with h | ⟨elems, sp, hx, he⟩
    · omega
    · have hx' : d0 = .slice elems sp := hx
      have hs := sized_slice hsz (j := 0) (t := 22) (e := 36) (elems := elems) (spare := sp) rfl (by simp [hx']) Try.underlying22
      rw [bytesL] at hs
      simp only [reachBytes] at hs
      omega
  obtain ⟨a1, len1, cap1, rfl⟩ := okWide_slice Try.underlying22 (hval 1 22 v1 rfl rfl)
  have k1 := h1
  have lt1 : ∀ x ∈ p1, x.block < W.heap.size := by obtain ⟨m, hm⟩ := k1; exact DataW.trod_lt m _ _ _ hm
  obtain ⟨l1, e1, w1, n1⟩ : ∃ l : List Lab, len1 = l.length ∧ (Lw W a1 l) ∧ l.length ≤ 4398046510976 := by
    obtain ⟨fuel, hf⟩ := h1
    obtain ⟨A, l, c, hcs, hL, hx⟩ := open_lab hf
    simp [Value.cells] at hcs
    obtain ⟨rfl, rfl, rfl⟩ := hcs
    refine ⟨l, rfl, hL, ?_⟩
    rcases hx with h | ⟨elems, sp, hx, he⟩
    · omega
    · have hx' : d1 = .slice elems sp := hx
      have hs := sized_slice hsz (j := 1) (t := 22) (e := 36) (elems := elems) (spare := sp) rfl (by simp [hx']) Try.underlying22
      rw [bytesL] at hs
      simp only [reachBytes] at hs
      omega
  obtain ⟨a2, len2, cap2, rfl⟩ := okWide_slice Try.underlying23 (hval 2 23 v2 rfl rfl)
  have k2 := h2
  have lt2 : ∀ x ∈ p2, x.block < W.heap.size := by obtain ⟨m, hm⟩ := k2; exact DataW.trod_lt m _ _ _ hm
  obtain ⟨l2, e2, w2, n2⟩ : ∃ l : List ByteArray, len2 = l.length ∧ (Cl W a2 (stC l) ∧ (∀ s ∈ l, Ws s)) ∧ l.length ≤ 8796093021952 := by
    obtain ⟨fuel, hf⟩ := h2
    obtain ⟨A, l, c, hcs, hL, hx⟩ := open_txt hf
    simp [Value.cells] at hcs
    obtain ⟨rfl, rfl, rfl⟩ := hcs
    refine ⟨l, rfl, hL, ?_⟩
    rcases hx with h | ⟨elems, sp, hx, he⟩
    · omega
    · have hx' : d2 = .slice elems sp := hx
      have hs := sized_slice hsz (j := 2) (t := 23) (e := 9) (elems := elems) (spare := sp) rfl (by simp [hx']) Try.underlying23
      rw [bytesT] at hs
      simp only [reachBytes] at hs
      omega
  clear hA0 hval0
  refine (labelMakes_walk a0 len0 cap0 l0 a1 len1 cap1 l1 a2 len2 cap2 l2 W e0 e1 e2 w0 w1 w2 n0 n1 n2 ).mono fun e W' ⟨he, bel⟩ => ?_
  subst he
  exact ⟨_, rfl, _, _, _, [], _, [], hW', trodAll_mk1 (shut_bool Try.underlying4 _), (trodAll_cons_mk (Below.trod laidOut (by kernel_rfl) (of_decide_eq_true (by kernel_rfl)) k0 bel lt0) (trodAll_cons_mk (Below.trod laidOut (by kernel_rfl) (of_decide_eq_true (by kernel_rfl)) k1 bel lt1) (trodAll_cons_mk (Below.trod laidOut (by kernel_rfl) (of_decide_eq_true (by kernel_rfl)) k2 bel lt2) trodAll_mk0))), rfl, bel.frame _, fun h => by cases h⟩

theorem over : Rows.labelMakesRow.holds Try.pinned (OpenSpec.ofChange Rows.labelMakesSpec) :=
  OpenClaim.holds_of_wide 3 Try.f3 rfl rfl rfl rfl rfl rfl rfl ⟨rfl, rfl, rfl, rfl, rfl⟩ rfl rfl rfl rfl rfl (by kernel_rfl) Try.func3 (by kernel_rfl)
    (of_decide_eq_true (by kernel_rfl)) (by unfold Func.isWrapper; first | (rw [if_pos (by decide +kernel)]; kernel_rfl) | (rw [if_neg (by decide +kernel)]; exact ⟨rfl, rfl⟩))
    (fun os started H enc _ => lifted os started H enc)

theorem proved : Rows.LabelMakesSaid := over
#print axioms proved
end Go.Proofs.Ytnnfoagdgoionab.labelMakes
