/- append of numbers, as a step of a region: the row grows in its own block or in a new one; a set but for a range, whichever. -/
import Derived.Test.YtdmlogpmojmikaaTmX
import Derived.Test.YtdmlogpmojmikaaTmP
import Derived.Test.YtdmlogpmojmikaaRgR
namespace Go.Proofs.Ytdmlogpmojmikaa.Tm
open Go.RowKit Go.Sort
set_option linter.unusedVariables false

theorem wp_app_i64 {o : Oper} {a : Act} {w : World} {K : Act → World → Prop} {Q : Exit → Act → World → Prop} (s x : Operand)
    (ho : o.op = .call { callee := .builtin .append, args := #[s, x], argTypes := #[38, 38] })
    (base : Nat) (A : Option Addr) (n c : Nat) (l : List Int) (hs : a.eval s = .slice A n c) (hown : w.ownsRow base 2 1 (.slice A n c) n (intsC .i64 l))
    (B : Option Addr) (m d : Nat) (L : List Int) (hx : a.eval x = .slice B m d) (hd : B = none → d = 0) (hL : L.length = m) (hc : Cl w B (intsC .i64 L)) (k : Nat) (hk : n + m = k) (hl : k ≤ 1000000) (hbase : base ≤ w.heap.size)
    (h : ∀ A' c' w', w'.ownsRow base 2 1 (.slice A' k c') k (intsC .i64 (l ++ L)) → w.grownBy w' (Value.slice A n c).ownBlock → (∀ g, (Value.slice A' k c').ownBlock = some g → (Value.slice A n c).ownBlock = some g ∨ w.heap.size ≤ g) → K (a.put o.dst (.slice A' k c')) w') : Oper.wp Try.prog o a w K Q := by
  subst hk hL
  obtain ⟨i0, hi, hz0, hz1, hz2⟩ := info_parts infoE
  have hLl : (intsC .i64 l).length = n * 1 := by have := hown.1; omega
  have hcs : (intsC .i64 L).length = L.length * 1 := by rw [intsC_length]; omega
  cases B with
  | none =>
    have hy0 : L = [] := by
      rcases hc with h0 | ⟨_, _, h0, _⟩
      · cases L with
        | nil => rfl
        | cons p r => simp [intsC] at h0
      · cases h0
    subst hy0
    obtain rfl := hd rfl
    have hrun := run_append_owned_none (P := Try.prog) (w := w) base 38 o.type 2 i0 1 Try.underlying38 hi _ n (intsC .i64 l) hown
    unfold Oper.wp
    simp [execOp, ho, resolve, invoke, builtin, hs, hx, hrun, Result.andThen]
    have := h A c w (by simpa using hown) (World.grownBy.refl w _) (fun g hg => .inl hg)
    rw [Oper.upon_value]
    simpa using this
  | some bd =>
    cases A with
    | none =>
      have h0 : n = 0 ∧ c = 0 := by
        rcases hown.2 with ⟨hv, h0⟩ | ⟨b, cap, cur, hv, _⟩
        · injection hv with e1 e2 e3
          exact ⟨h0, e3⟩
        · injection hv with e1 e2 e3
          cases e1
      obtain ⟨rfl, rfl⟩ := h0
      have hP : l = [] := List.eq_nil_of_length_eq_zero (by rw [intsC_length] at hLl; omega)
      subst hP
      obtain ⟨v', w', hrun, r1, r2, _⟩ := run_append_own (P := Try.prog) w w.heap.size 38 o.type 2 i0 (.int .i64 0) 1 8 Try.underlying38 hi hz0 hz1 hz2 rfl (by decide) (.slice none 0 0) 0 [] (World.ownsRow_nil w _ _ _) bd L.length d (intsC .i64 L) hcs (fun j u hu => hc.src j u hu) (intsC_one _ L) (by unfold maxLen; omega) (by omega) (Nat.le_refl _)
      unfold Oper.wp
      simp [execOp, ho, resolve, invoke, builtin, hs, hx, hrun, Result.andThen]
      obtain ⟨A', c', rfl⟩ := own_shape r1
      have r1' : w'.ownsRow w.heap.size 2 1 (.slice A' (0 + L.length) c') (0 + L.length) (intsC .i64 ([] ++ L)) := by simpa [intsC] using r1
      have := h A' c' w' (own_base r1' hbase) r2 (fun g hg => .inr (r1.lt g hg).1)
      rw [Oper.upon_value]
      simpa using this
    | some ad =>
      obtain ⟨b, rfl⟩ : ∃ b, ad = ⟨b, 0, none⟩ := by
        rcases hown.2 with ⟨hv, _⟩ | ⟨b, cap, cur, hv, _⟩
        · injection hv with e1 e2 e3
          cases e1
        · injection hv with e1 e2 e3
          exact ⟨b, by injection e1⟩
      by_cases hfit : n + L.length ≤ c
      · obtain ⟨w', hrun, r1, r2⟩ := run_append_fits (P := Try.prog) w base 38 o.type 2 i0 1 Try.underlying38 hi hz1 b n c (intsC .i64 l) hown bd L.length d (intsC .i64 L) hcs (fun j u hu => hc.src j u hu) (intsC_one _ L) hfit
        unfold Oper.wp
        simp [execOp, ho, resolve, invoke, builtin, hs, hx, hrun, Result.andThen]
        rw [← intsC_append] at r1
        exact h _ _ w' r1 r2 (fun g hg => .inl hg)
      · obtain ⟨v', w', hrun, r1, r2⟩ := run_append_arg_grows (P := Try.prog) w 38 o.type 2 i0 (.int .i64 0) 1 8 Try.underlying38 hi hz0 hz1 hz2 rfl (by decide) ⟨b, 0, none⟩ n c (intsC .i64 l) hLl (fun j u hu => (own_cl hown).src j u hu) bd L.length d (intsC .i64 L) hcs (fun j u hu => hc.src j u hu) (by omega) (by unfold maxLen; omega) (by omega)
        unfold Oper.wp
        simp [execOp, ho, resolve, invoke, builtin, hs, hx, hrun, Result.andThen]
        rw [← intsC_append] at r1
        obtain ⟨A', c', rfl⟩ := own_shape r1
        exact h _ _ w' (own_base r1 hbase) ⟨r2.os, r2.tape, r2.output, r2.size, fun k hk _ => r2.block k hk (by simp)⟩ (fun r hr => .inr (r1.lt r hr).1)
theorem withoutR {H : Int → Prop} {n : Nat} {v : Value} {w : World} (h : TS H n v w) (a b : Int) (hn : n ≤ 1000) :
    Calls Try.prog 10 #[v, .agg #[.int .i64 a, .int .i64 b]] w fun e w' => ∃ z, e = .returned z ∧ TS (fun t => H t ∧ ¬ HasR [(a, b)] t) (2 * n) z w' ∧ Below w.heap.size w w' := by
  by_cases hr : RightP (a, b)
  · refine (withoutT h a b hr hn).mono ?_
    rintro e w' ⟨z, rfl, ⟨Z, z1, z2, z3, z4⟩, hb⟩
    exact ⟨z, rfl, ⟨Z, z1, fun t => by rw [z2]; show H t ∧ ¬ InR (a, b) t ↔ H t ∧ ¬ HasR [(a, b)] t; rw [hasR_one]; simp [hr], z3, z4⟩, hb⟩
  · refine (withoutN h a b hr).mono ?_
    rintro e w' ⟨z, rfl, ⟨Z, z1, z2, z3, z4⟩, hb⟩
    exact ⟨z, rfl, ⟨Z, z1, fun t => by rw [z2]; show H t ↔ H t ∧ ¬ HasR [(a, b)] t; rw [hasR_one]; simp [hr], by omega, z4⟩, hb⟩
/-- a new box of the region's own -/
def BoxN (ty : TypeId) (v : Value) (w : World) : Prop := ∃ g, v = .pointer (some ⟨g, 0, none⟩) ∧ w.heap[g]? = some (.cells #[.slice none 0 0] ty (0, 0))
theorem BoxN.below {ty : TypeId} {v : Value} {w w' : World} (h : BoxN ty v w) (hb : Below w.heap.size w w') : BoxN ty v w' := by
  obtain ⟨g, h1, h2⟩ := h
  exact ⟨g, h1, (hb.block g (Array.getElem?_eq_some_iff.1 h2).1).trans h2⟩
end Go.Proofs.Ytdmlogpmojmikaa.Tm
