/- Counts by a layout that has all buckets: those of the buckets, and 0 elsewhere. -/
import Derived.Test.YtnbjgeamdipkcaaSpC
import Derived.Test.YtnbjgeamdipkcaaSpH
namespace Go.Proofs.Ytnbjgeamdipkcaa
open Go.RowKit Go.Sort
set_option linter.unusedVariables false

/-- of each index the next bucket's count, if it is that one's -/
def wantF : List Int → List (Int × Int) → List Int
  | [], _ => []
  | x :: r, [] => 0 :: wantF r []
  | x :: r, p :: l => if p.1 = x then p.2 :: wantF r l else 0 :: wantF r (p :: l)
theorem cntF_skip {x : Int} {p : Int × Int} {r : List Int} {t : List (Int × Int)} (h : ∀ y ∈ r, p.1 < y) : cntF r (p :: t) = cntF r t := by
  cases r with
  | nil => rfl
  | cons y s =>
    have e : dropW y (p :: t) = dropW y t := by simp only [dropW]; rw [if_pos (h y (by simp))]
    simp only [cntF, e]
theorem cntF_want : ∀ (ids : List Int) (l : List (Int × Int)), Asc ids → Asc (idsL l) → (∀ i ∈ idsL l, i ∈ ids) → cntF ids l = wantF ids l
  | [], l, _, _, _ => by simp [cntF, wantF]
  | x :: r, [], ha, hl, hm => by
    have ih := cntF_want r [] (by unfold Asc at *; exact (List.pairwise_cons.1 ha).2) hl (fun i hi => by simp [idsL] at hi)
    simp only [cntF, dropW, headC, wantF, ih]
  | x :: r, p :: t, ha, hl, hm => by
    unfold Asc at ha hl
    obtain ⟨a1, a2⟩ := List.pairwise_cons.1 ha
    have hl' : (p.1 :: idsL t).Pairwise fun a b => a < b := hl
    obtain ⟨l1, l2⟩ := List.pairwise_cons.1 hl'
    have hp : p.1 = x ∨ p.1 ∈ r := by
      have := hm p.1 (by simp [idsL])
      simpa using this
    have hnl : ¬ p.1 < x := by
      rcases hp with h | h
      · omega
      · have := a1 _ h; omega
    have e : dropW x (p :: t) = p :: t := by simp only [dropW]; rw [if_neg hnl]
    have ht : ∀ i ∈ idsL t, i ∈ r := fun i hi => by
      have h1 := l1 i hi
      have h2 := hm i (by simp [idsL] at hi ⊢; exact .inr hi)
      simp only [List.mem_cons] at h2
      rcases h2 with rfl | h2
      · omega
      · exact h2
    simp only [cntF, e, headC, wantF]
    by_cases hx : p.1 = x
    · rw [if_pos hx, if_pos hx, cntF_skip (x := x) (fun y hy => by have := a1 y hy; omega), cntF_want r t a2 l2 ht]
    · rw [if_neg hx, if_neg hx, cntF_want r (p :: t) a2 hl (fun i hi => by
        have hi' : i = p.1 ∨ i ∈ idsL t := by simpa [idsL] using hi
        rcases hi' with rfl | hi'
        · rcases hp with h | h
          · exact absurd h hx
          · exact h
        · exact ht i hi')]
theorem want_self : ∀ (l : List (Int × Int)), wantF (idsL l) l = l.map (·.2)
  | [] => rfl
  | p :: t => by
    have e : idsL (p :: t) = p.1 :: idsL t := rfl
    rw [e]
    simp only [wantF, if_true, List.map_cons, want_self t]
theorem cntF_self {l : List (Int × Int)} (h : Asc (idsL l)) : cntF (idsL l) l = l.map (·.2) := by
  rw [cntF_want _ _ h h (fun i hi => hi), want_self]
theorem uni_self {xs : List Int} (h : Asc xs) : uni xs xs = xs := (Uni.has (uni_uni xs xs) h).2 (fun y hy => hy)
theorem uni_swap (xs ys : List Int) : uni ys xs = uni xs ys := (uni_uni ys xs).one (uni_uni xs ys).swap
theorem sameB_self (xs : List Int) : sameB xs xs = true := by simp [sameB]
/-- a layout as a value -/
def lyV (F : Int) (A : Option Addr) (n c : Nat) : Value := .agg #[.int .i64 F, .slice A n c]
end Go.Proofs.Ytnbjgeamdipkcaa
