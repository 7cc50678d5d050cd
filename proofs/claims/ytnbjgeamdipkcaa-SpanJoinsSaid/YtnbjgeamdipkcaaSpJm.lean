/- What SpanJoins wants, step by step; equal buckets. -/
import Derived.Test.YtnbjgeamdipkcaaSpD
import Derived.Test.YtnbjgeamdipkcaaSpHo
import Derived.Laws.StructEq
namespace Go.Proofs.Ytnbjgeamdipkcaa
open Go.RowKit Go.Sort
set_option linter.unusedVariables false

/-- what is still wanted -/
def Jst (U : List Int) (X : List (Int × Int)) (Wt : List Int) (k a : Nat) : Prop := wantF (U.drop k) (X.drop a) = Wt.drop k ∧ ∀ i ∈ idsL (X.drop a), i ∈ U.drop k
theorem drop_cons {α : Type} {l r : List α} {k : Nat} {x : α} (h : x :: r = l.drop k) : l[k]? = some x ∧ r = l.drop (k + 1) := by
  have h1 : l[k]? = some x := by
    have := congrArg (fun z => z[0]?) h
    simpa using this.symm
  refine ⟨h1, ?_⟩
  rw [drop_at h1] at h
  exact (List.cons.inj h).2
theorem asc_drop {l : List Int} (h : Asc l) (k : Nat) : Asc (l.drop k) := by unfold Asc at *; exact h.sublist (List.drop_sublist _ _)
theorem idsL_drop (l : List (Int × Int)) (k : Nat) : idsL (l.drop k) = (idsL l).drop k := by simp [idsL, List.map_drop]
theorem Jst.take {U : List Int} {X : List (Int × Int)} {Wt : List Int} {k a : Nat} {x : Int} {p : Int × Int} (h : Jst U X Wt k a) (hx : U[k]? = some x) (hp : X[a]? = some p) (he : p.1 = x) (aX : Asc (idsL X)) : Wt[k]? = some p.2 ∧ Jst U X Wt (k + 1) (a + 1) := by
  obtain ⟨h1, h2⟩ := h
  rw [drop_at hx, drop_at hp] at h1 h2
  simp only [wantF, if_pos he] at h1
  obtain ⟨e1, e2⟩ := drop_cons h1
  refine ⟨e1, e2, fun i hi => ?_⟩
  have h3 := h2 i (by simp [idsL] at hi ⊢; exact .inr hi)
  simp only [List.mem_cons] at h3
  rcases h3 with rfl | h3
  · have ha := asc_drop aX a
    rw [← idsL_drop, drop_at hp] at ha
    have hc : (p.1 :: idsL (X.drop (a + 1))).Pairwise fun a b => a < b := ha
    have := (List.pairwise_cons.1 hc).1 _ hi
    omega
  · exact h3
theorem Jst.skip {U : List Int} {X : List (Int × Int)} {Wt : List Int} {k a : Nat} {x : Int} {p : Int × Int} (h : Jst U X Wt k a) (hx : U[k]? = some x) (hp : X[a]? = some p) (he : p.1 ≠ x) (aX : Asc (idsL X)) (aU : Asc U) : Wt[k]? = some 0 ∧ Jst U X Wt (k + 1) a := by
  obtain ⟨h1, h2⟩ := h
  rw [drop_at hx] at h1 h2
  have hp1 := h2 p.1 (by rw [drop_at hp]; simp [idsL])
  have hpr : p.1 ∈ U.drop (k + 1) := by
    simp only [List.mem_cons] at hp1
    rcases hp1 with e | e
    · exact absurd e he
    · exact e
  have ha := asc_drop aU k
  rw [drop_at hx] at ha
  have hc : (x :: U.drop (k + 1)).Pairwise fun a b => a < b := ha
  have hlt := (List.pairwise_cons.1 hc).1 _ hpr
  rw [drop_at hp] at h1
  simp only [wantF, if_neg he] at h1
  obtain ⟨e1, e2⟩ := drop_cons h1
  refine ⟨e1, by rw [drop_at hp]; exact e2, fun i hi => ?_⟩
  have h3 := h2 i hi
  simp only [List.mem_cons] at h3
  rcases h3 with rfl | h3
  · have ha := asc_drop aX a
    rw [← idsL_drop, drop_at hp] at ha
    have hc : (p.1 :: idsL (X.drop (a + 1))).Pairwise fun a b => a < b := ha
    rw [drop_at hp] at hi
    have hi' : i = p.1 ∨ i ∈ idsL (X.drop (a + 1)) := by simpa [idsL] using hi
    rcases hi' with e | e
    · exact absurd e.symm he
    · have := (List.pairwise_cons.1 hc).1 _ e
      omega
  · exact h3
theorem Jst.none {U : List Int} {X : List (Int × Int)} {Wt : List Int} {k a : Nat} {x : Int} (h : Jst U X Wt k a) (hx : U[k]? = some x) (hp : X.length ≤ a) : Wt[k]? = some 0 ∧ Jst U X Wt (k + 1) a := by
  obtain ⟨h1, h2⟩ := h
  have hn : X.drop a = [] := List.drop_eq_nil_of_le hp
  rw [drop_at hx, hn] at h1
  simp only [wantF] at h1
  obtain ⟨e1, e2⟩ := drop_cons h1
  exact ⟨e1, by rw [hn]; exact e2, fun i hi => by rw [hn] at hi; simp [idsL] at hi⟩
theorem Jst.done {U : List Int} {X : List (Int × Int)} {Wt : List Int} {k a : Nat} (h : Jst U X Wt k a) (hk : U.length ≤ k) : X.length ≤ a := by
  have hn : U.drop k = [] := List.drop_eq_nil_of_le hk
  rw [Jst, hn] at h
  by_cases hl : X.length ≤ a
  · exact hl
  · obtain ⟨p, hp⟩ := getElem?_lt (l := X) (k := a) (by omega)
    have := h.2 p.1 (by rw [drop_at hp]; simp [idsL])
    simp at this
/-- those that have something -/
def fil (l : List (Int × Int)) : List (Int × Int) := l.filter fun p => !(p.2 == 0)
theorem fil_snoc {l : List (Int × Int)} {k : Nat} {p : Int × Int} (h : l[k]? = some p) : fil (l.take (k + 1)) = fil (l.take k) ++ (if p.2 = 0 then [] else [p]) := by
  rw [take_snoc l k p h]
  unfold fil
  rw [List.filter_append]
  by_cases h0 : p.2 = 0 <;> simp [h0]
theorem fil_le (l : List (Int × Int)) : (fil l).length ≤ l.length := List.length_filter_le _ _
theorem neqB (a b c d : Int) (w : World) : (binOp .neq 41 (.agg #[.int .i64 a, .int .u64 b]) (.agg #[.int .i64 c, .int .u64 d])).run Try.prog w = .ok (.bool (!(a == c && b == d))) w := by
  have u3 := Try.underlying3
  have a3 := Try.isAgg3
  have z3 := Try.sizeOf3
  have u2 := Try.underlying39
  have a2 := Try.isAgg39
  have z2 := Try.sizeOf39
  have hS : Try.prog.underlying 41 = some (.struct (Try.prog.fieldsOf 41)) := by kernel_rfl
  have hp : Try.prog.stoodInHeld 41 = false := by kernel_rfl
  rw [run_neq_struct, show (10000 : Nat) = 9999 + 1 from rfl, run_equalIn_agg w 9999 41 _ _ hS hp]
  simp only [Program.fieldsOf, Try.underlying41]
  go_simp
  by_cases h1 : a = c <;> by_cases h2 : b = d <;> simp [h1, h2]
theorem guardB (op : BinOp) (x y : Operand) (xs ys : Array Value) (w : World) : (eqGuard op 41 x y (.agg xs) (.agg ys)).run Try.prog w = .ok () w := run_eqGuard_agg w op _ x y xs ys (by kernel_rfl)
theorem buckets_at (A B : Option Addr) (c m d n k : Nat) (f : Int) (ids cs : List Int) (w : World) (hk : k = cs.length) (hn : n = ids.length) (hf : f = fstL ids) (hm : m = (runsL ids).length) (hS : Ly w A ids) (ha : Asc ids) (hi : Inb ids) (hl : ids.length ≤ 10000) (hB : Cl w B (intsC .u64 cs)) (hcl : k ≤ 9223372036854775807) :
    Calls Try.prog 14 #[.agg #[.int .i64 f, .slice A m c], .slice B k d] w (BkPost w ids cs) := by
  subst hk
  exact buckets_any A B c m d n f ids cs w hn hf hm hS ha hi hl hB hcl
end Go.Proofs.Ytnbjgeamdipkcaa
