/- Maps from ints to ints: what such a map holds, key by key. -/
import Derived.Test.YtnbjgeamdipkcaaSpB
import Derived.Maps.RangeWalk
import Derived.Maps.Ext
import Derived.Maps.OwnOps
import Derived.Maps.OwnSet
namespace Go.Proofs.Ytnbjgeamdipkcaa
open Go.RowKit Go.Sort Go.Maps
set_option linter.unusedVariables false

theorem lawI : Keyed Try.prog 3 := int_keyed Try.underlying3
theorem kI (x : Int) : WideAt.IsKeyLit (Lit.int .i64 x) := trivial
theorem zeroI (w : World) : (zeroValue 3).run Try.prog w = .ok (.int .i64 0) w := by kernel_rfl
/-- what a map of ints holds: nought where it has none -/
def Rd1 (D : DataW Unit) (f : Int → Int) : Prop :=
  Tidy D ∧ (∀ x, D.atKey (.int .i64 x) (.lit (.int .i64 0)) = .lit (.int .i64 (f x)) ∧ (has D (.int .i64 x) = true ↔ f x ≠ 0)) ∧
  ∃ L : List Int, L.Nodup ∧ (∀ x, f x ≠ 0 ↔ x ∈ L) ∧ size D = L.length
theorem Rd1.empty : Rd1 (.map []) (fun _ => 0) :=
  ⟨tidy_empty, fun x => ⟨rfl, by simp [has]⟩, [], List.nodup_nil, by simp, rfl⟩
theorem Rd1.put {D : DataW Unit} {f : Int → Int} (h : Rd1 D f) {x n : Int} (hn : n ≠ 0) : Rd1 (D.put (.int .i64 x) (.lit (.int .i64 n))) (fun z => if z = x then n else f z) := by
  obtain ⟨ht, hr, L, hL1, hL2, hL3⟩ := h
  refine ⟨ht.put (kI x) _, fun z => ?_, ?_⟩
  · by_cases he : z = x
    · subst he
      rw [atKey_put_same ht.isMap (kI _), has_put_same ht.isMap (kI _)]
      simp [hn]
    · have hne : (Lit.int .i64 z) ≠ .int .i64 x := fun e => he (by simpa using e)
      rw [atKey_put_other hne, has_put_other hne]
      simp only [if_neg he]
      exact hr z
  · rw [size_put ht]
    by_cases hh : has D (.int .i64 x) = true
    · rw [if_pos hh]
      have hm : x ∈ L := (hL2 x).1 ((hr x).2.1 hh)
      refine ⟨L, hL1, fun z => ?_, hL3⟩
      by_cases he : z = x
      · subst he; simp [hn, hm]
      · simp only [if_neg he]; exact hL2 z
    · rw [if_neg hh]
      have hm : x ∉ L := fun hm => hh ((hr x).2.2 ((hL2 x).2 hm))
      refine ⟨x :: L, List.nodup_cons.2 ⟨hm, hL1⟩, fun z => ?_, by simp [hL3]⟩
      by_cases he : z = x
      · subst he; simp [hn]
      · simp only [List.mem_cons, he, false_or, if_false]; exact hL2 z
theorem Rd1.ext {D : DataW Unit} {f g : Int → Int} (h : Rd1 D f) (e : ∀ x, f x = g x) : Rd1 D g := by
  have : f = g := funext e
  rw [← this]; exact h
theorem Rd1.size_eq {D : DataW Unit} {f : Int → Int} (h : Rd1 D f) (L : List Int) (h1 : L.Nodup) (h2 : ∀ x, f x ≠ 0 ↔ x ∈ L) : size D = L.length := by
  obtain ⟨_, _, M, m1, m2, m3⟩ := h
  rw [m3]
  apply List.Perm.length_eq
  rw [List.perm_ext_iff_of_nodup m1 h1]
  exact fun x => (m2 x).symm.trans (h2 x)
theorem asc_nodup {l : List Int} (h : Asc l) : l.Nodup := by
  unfold Asc at h
  exact h.imp (fun h => by omega)
/-- who has a number -/
def fA (xs : List Int) (z : Int) : Int := if z ∈ xs then 1 else 0
def fB (xs ys : List Int) (z : Int) : Int := (if z ∈ xs then 1 else 0) + (if z ∈ ys then 2 else 0)
theorem fA_snoc (xs : List Int) (x z : Int) : fA (xs ++ [x]) z = if z = x then 1 else fA xs z := by
  unfold fA
  by_cases h : z = x
  · simp [h]
  · simp [h]
theorem fA_new {l : List Int} {k : Nat} {x : Int} (h : Asc l) (hx : l[k]? = some x) : fA (l.take k) x = 0 := by
  unfold fA
  rw [if_neg]
  have ht := take_snoc l k x hx
  intro hm
  have ha : Asc (l.take (k + 1)) := by unfold Asc at *; exact h.sublist (List.take_sublist _ _)
  rw [ht] at ha
  have := ha.init.2 x hm
  omega
theorem fB_snoc (xs ys : List Int) (y z : Int) (h : y ∉ ys) : fB xs (ys ++ [y]) z = if z = y then fA xs y + 2 else fB xs ys z := by
  unfold fB fA
  by_cases hz : z = y
  · subst hz; simp
  · simp [hz]
theorem asc_new {l : List Int} {k : Nat} {x : Int} (h : Asc l) (hx : l[k]? = some x) : x ∉ l.take k := fun hm => by
  have h0 := fA_new h hx
  unfold fA at h0
  rw [if_pos hm] at h0
  omega
theorem fB_old {xs ys : List Int} {y : Int} (h : y ∉ ys) : fB xs ys y = fA xs y := by
  unfold fB fA
  rw [if_neg h]; omega
theorem fB_nil (xs : List Int) (z : Int) : fB xs [] z = fA xs z := by simp [fB, fA]
theorem fA_cases (xs : List Int) (z : Int) : fA xs z = 0 ∨ fA xs z = 1 := by unfold fA; by_cases h : z ∈ xs <;> simp [h]
theorem fB_uni {xs ys U : List Int} (h : Uni xs ys U) (z : Int) : fB xs ys z ≠ 0 ↔ z ∈ U := by
  rw [h.2.1 z]
  unfold fB
  by_cases h1 : z ∈ xs <;> by_cases h2 : z ∈ ys <;> simp [h1, h2]
theorem fB_two (xs ys : List Int) (z : Int) : fB xs ys z = 2 ↔ z ∉ xs ∧ z ∈ ys := by
  unfold fB
  by_cases h1 : z ∈ xs <;> by_cases h2 : z ∈ ys <;> simp [h1, h2]
theorem sameB_has {xs ys U : List Int} (h : Uni xs ys U) (hx : Asc xs) : sameB U xs = true ↔ ∀ z, fB xs ys z ≠ 2 := by
  unfold sameB
  rw [decide_eq_true_eq, h.has hx]
  constructor
  · intro hh z e
    obtain ⟨a, b⟩ := (fB_two xs ys z).1 e
    exact a (hh z b)
  · intro hh y hy
    exact Classical.byContradiction fun hn => hh y ((fB_two xs ys y).2 ⟨hn, hy⟩)
/-- buckets by what is wanted: those that have something -/
theorem bkt_want : ∀ (ids : List Int) (l : List (Int × Int)), Asc ids → Asc (idsL l) → (∀ i ∈ idsL l, i ∈ ids) → bktF ids (wantF ids l) = l.filter (fun p => !(p.2 == 0))
  | [], l, _, _, hm => by
    cases l with
    | nil => rfl
    | cons p t => have := hm p.1 (by simp [idsL]); simp at this
  | x :: r, [], ha, hl, hm => by
    have ih := bkt_want r [] (by unfold Asc at *; exact (List.pairwise_cons.1 ha).2) hl (fun i hi => by simp [idsL] at hi)
    simp only [wantF, bktF, if_true]
    exact ih
  | x :: r, p :: t, ha, hl, hm => by
    unfold Asc at ha hl
    obtain ⟨a1, a2⟩ := List.pairwise_cons.1 ha
    have hl' : (p.1 :: idsL t).Pairwise fun a b => a < b := hl
    obtain ⟨l1, l2⟩ := List.pairwise_cons.1 hl'
    have hp : p.1 = x ∨ p.1 ∈ r := by
      have := hm p.1 (by simp [idsL])
      simpa using this
    have ht : ∀ i ∈ idsL t, i ∈ r := fun i hi => by
      have h1 := l1 i hi
      have h2 := hm i (by simp [idsL] at hi ⊢; exact .inr hi)
      simp only [List.mem_cons] at h2
      rcases h2 with rfl | h2
      · rcases hp with h | h
        · omega
        · have := a1 _ h; omega
      · exact h2
    by_cases hx : p.1 = x
    · have ih := bkt_want r t a2 l2 ht
      simp only [wantF, if_pos hx, bktF]
      by_cases h0 : p.2 = 0
      · rw [if_pos h0, ih]; simp [h0]
      · rw [if_neg h0, ih, List.filter_cons, if_pos (by simp [h0])]
        rw [← hx]
    · have ih := bkt_want r (p :: t) a2 hl (fun i hi => by
        have hi' : i = p.1 ∨ i ∈ idsL t := by simpa [idsL] using hi
        rcases hi' with rfl | hi'
        · rcases hp with h | h
          · exact absurd h hx
          · exact h
        · exact ht i hi')
      simp only [wantF, if_neg hx, bktF, if_true]
      exact ih
end Go.Proofs.Ytnbjgeamdipkcaa
