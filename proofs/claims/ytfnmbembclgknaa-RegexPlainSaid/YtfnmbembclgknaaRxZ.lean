/- Patterns in brackets, with signs and bars, plainly. -/
import Derived.Test.YtfnmbembclgknaaRxY
import Derived.Test.YtfnmbembclgknaaRxX
namespace Go.Proofs.Ytfnmbembclgknaa
set_option linter.unusedVariables false

/-- it may be in brackets, at the second depth -/
def Deep (p : List UInt8) (x : Rx) : Prop := patF 99 2 none .eps (p ++ [41]) = .ok x [41]
theorem step_brack {p : List UInt8} {x : Rx} (h : Deep p x) (m : Nat) (o : Option Rx) (z : Rx) (t : List UInt8) (hm : (p ++ 41 :: t).length < m) :
    patF (m + 1) 1 o z (40 :: (p ++ 41 :: t)) = patF m 1 o (.cat z (signs x t).1) (signs x t).2 := by
  rw [patF_on (by decide) (by decide), brack_part h t hm]
theorem parse_of {l : List UInt8} {x : Rx} (hl : l.length ≤ 64) (h : patF 100 1 none .eps l = .ok x []) : parseF l = .ok x [] := by
  unfold parseF
  rw [if_neg (by omega), h]
  rfl
theorem parse_one {p : List UInt8} {x : Rx} (h : Deep p x) (hl : p.length ≤ 60) : parseF (40 :: (p ++ [41])) = .ok (.cat .eps x) [] := by
  refine parse_of (by simp; omega) ?_
  rw [step_brack h 99 none .eps [] (by simp; omega)]
  exact patF_end (.inl rfl)
theorem parse_star {p : List UInt8} {x : Rx} (h : Deep p x) (hl : p.length ≤ 60) : parseF (40 :: (p ++ [41, 42])) = .ok (.cat .eps (.star x)) [] := by
  refine parse_of (by simp; omega) ?_
  rw [step_brack h 99 none .eps [42] (by simp; omega)]
  exact patF_end (.inl rfl)
theorem parse_plus {p : List UInt8} {x : Rx} (h : Deep p x) (hl : p.length ≤ 60) : parseF (40 :: (p ++ [41, 43])) = .ok (.cat .eps (.plus x)) [] := by
  refine parse_of (by simp; omega) ?_
  rw [step_brack h 99 none .eps [43] (by simp; omega)]
  exact patF_end (.inl rfl)
theorem parse_opt {p : List UInt8} {x : Rx} (h : Deep p x) (hl : p.length ≤ 60) : parseF (40 :: (p ++ [41, 63])) = .ok (.cat .eps (.opt x)) [] := by
  refine parse_of (by simp; omega) ?_
  rw [step_brack h 99 none .eps [63] (by simp; omega)]
  exact patF_end (.inl rfl)
theorem parse_long {p : List UInt8} {x : Rx} (h : Deep p x) (hl : p.length ≤ 20) : parseF (40 :: (p ++ 41 :: 40 :: (p ++ [41, 42]))) = .ok (.cat (.cat .eps x) (.star x)) [] := by
  refine parse_of (by simp; omega) ?_
  rw [step_brack h 99 none .eps _ (by simp; omega)]
  show patF 99 1 none (.cat .eps x) (40 :: (p ++ 41 :: [42])) = _
  rw [step_brack h 98 none _ [42] (by simp; omega)]
  exact patF_end (.inl rfl)
theorem parse_row {p q : List UInt8} {x y : Rx} (h : Deep p x) (h2 : Deep q y) (hl : p.length + q.length ≤ 50) : parseF (40 :: (p ++ 41 :: 40 :: (q ++ [41]))) = .ok (.cat (.cat .eps x) y) [] := by
  refine parse_of (by simp; omega) ?_
  rw [step_brack h 99 none .eps _ (by simp; omega)]
  show patF 99 1 none (.cat .eps x) (40 :: (q ++ 41 :: [])) = _
  rw [step_brack h2 98 none _ [] (by simp; omega)]
  exact patF_end (.inl rfl)
theorem parse_bar {p q : List UInt8} {x y : Rx} (h : Deep p x) (h2 : Deep q y) (hl : p.length + q.length ≤ 50) : parseF (40 :: (p ++ 41 :: 124 :: 40 :: (q ++ [41]))) = .ok (.alt (.cat .eps x) (.cat .eps y)) [] := by
  refine parse_of (by simp; omega) ?_
  rw [step_brack h 99 none .eps _ (by simp; omega)]
  show patF 99 1 none (.cat .eps x) (124 :: 40 :: (q ++ 41 :: [])) = _
  rw [patF_bar rfl]
  show patF 98 1 (some (.cat .eps x)) .eps (40 :: (q ++ 41 :: [])) = _
  rw [step_brack h2 97 _ _ [] (by simp; omega)]
  exact patF_end (.inl rfl)
theorem lang_eps (r : Rx) (s : Bs) : Lang (.cat .eps r) s ↔ Lang r s := by
  constructor
  · rintro ⟨u, v, rfl, h1, h2⟩
    have h1' : u = [] := h1
    subst h1'
    exact h2
  · intro h
    exact ⟨[], s, rfl, rfl, h⟩
theorem bool_iff {a b : Bool} (h : a = true ↔ b = true) : a = b := Bool.eq_iff_iff.2 h
/-- once or more: once and as often as one likes -/
theorem lang_long (x : Rx) (s : Bs) : Lang (.cat (.cat .eps x) (.star x)) s ↔ Lang (.cat .eps (.plus x)) s := by
  rw [lang_eps]
  constructor
  · rintro ⟨u, v, rfl, h1, h2⟩
    exact ⟨u, v, rfl, (lang_eps x u).1 h1, h2⟩
  · rintro ⟨u, v, rfl, h1, h2⟩
    exact ⟨u, v, rfl, (lang_eps x u).2 h1, h2⟩
theorem lang_star (x : Rx) (s : Bs) : Lang (.cat .eps (.star x)) s ↔ s = [] ∨ Lang (.cat .eps (.plus x)) s := by
  rw [lang_eps, lang_eps]
  constructor
  · intro h
    by_cases h0 : s = []
    · exact .inl h0
    · exact .inr ((many_plus h0).2 h)
  · rintro (rfl | ⟨u, v, rfl, h1, h2⟩)
    · exact Many.nil
    · exact Many.cons h1 h2
theorem lang_opt (x : Rx) (s : Bs) : Lang (.cat .eps (.opt x)) s ↔ s = [] ∨ Lang (.cat .eps x) s := by
  rw [lang_eps, lang_eps]
  exact Iff.rfl
/-- a class of a range; all others; a dot -/
def clsL (lo hi : UInt8) : List UInt8 := [91, 92, lo, 45, 92, hi, 93]
def notL (lo hi : UInt8) : List UInt8 := [91, 94, 92, lo, 45, 92, hi, 93]
theorem parse_class {lo hi : UInt8} (h : ¬ hi.toNat < lo.toNat) : parseF (clsL lo hi) = .ok (.cat .eps (.one (withX noX lo.toNat hi.toNat))) [] := by
  have h1 : classF [92, lo, 45, 92, hi, 93] = some (withX noX lo.toNat hi.toNat, []) := by
    have e : itemF noX [92, lo, 45, 92, hi, 93] = some (withX noX lo.toNat hi.toNat, [93]) := by
      unfold itemF
      show (match toF lo [45, 92, hi, 93] with
        | none => none
        | some (b, l2) => if b.toNat < lo.toNat then none else some (withX noX lo.toNat b.toNat, l2)) = _
      show (if hi.toNat < lo.toNat then none else some (withX noX lo.toNat hi.toNat, [93])) = _
      rw [if_neg h]
    show insF [92, lo, 45, 92, hi, 93] = _
    unfold insF
    rw [e]
    rfl
  have h2 : atomF 91 [92, lo, 45, 92, hi, 93] = some (withX noX lo.toNat hi.toNat, []) := h1
  refine parse_of (by simp [clsL]) ?_
  rw [clsL, patF_on (by decide) (by decide)]
  unfold bareF
  rw [if_neg (by decide), h2]
  exact patF_end (.inl rfl)
theorem parse_not {lo hi : UInt8} (h : ¬ hi.toNat < lo.toNat) : parseF (notL lo hi) = .ok (.cat .eps (.one (notX (withX noX lo.toNat hi.toNat)))) [] := by
  have h1 : classF [94, 92, lo, 45, 92, hi, 93] = some (notX (withX noX lo.toNat hi.toNat), []) := by
    have e : itemF noX [92, lo, 45, 92, hi, 93] = some (withX noX lo.toNat hi.toNat, [93]) := by
      unfold itemF
      show (match toF lo [45, 92, hi, 93] with
        | none => none
        | some (b, l2) => if b.toNat < lo.toNat then none else some (withX noX lo.toNat b.toNat, l2)) = _
      show (if hi.toNat < lo.toNat then none else some (withX noX lo.toNat hi.toNat, [93])) = _
      rw [if_neg h]
    show (match insF [92, lo, 45, 92, hi, 93] with
      | none => none
      | some (X, q) => some (notX X, q)) = _
    have e2 : insF [92, lo, 45, 92, hi, 93] = some (withX noX lo.toNat hi.toNat, []) := by
      unfold insF
      rw [e]
      rfl
    rw [e2]
  have h2 : atomF 91 [94, 92, lo, 45, 92, hi, 93] = some (notX (withX noX lo.toNat hi.toNat), []) := h1
  refine parse_of (by simp [notL]) ?_
  rw [notL, patF_on (by decide) (by decide)]
  unfold bareF
  rw [if_neg (by decide), h2]
  exact patF_end (.inl rfl)
theorem parse_dot : parseF [46] = .ok (.cat .eps (.one (notX noX))) [] := by
  refine parse_of (by decide) ?_
  rw [patF_on (by decide) (by decide)]
  exact patF_end (.inl rfl)
theorem mt_one {r : Res} {X : Nat → Bool} (h : r = .ok (.cat .eps (.one X)) []) (c : UInt8) : mtR r [c] = X c.toNat := by
  subst h
  apply bool_iff
  rw [mtR_ok, lang_eps]
  constructor
  · rintro ⟨d, h1, h2⟩
    injection h1 with h1 _
    rw [h1]; exact h2
  · intro h
    exact ⟨c, rfl, h⟩
theorem mt_two {r : Res} {X : Nat → Bool} (h : r = .ok (.cat .eps (.one X)) []) (s : List UInt8) (hs : s.length ≠ 1) : mtR r s = false := by
  subst h
  cases h2 : mtR (.ok (.cat .eps (.one X)) []) s with
  | false => rfl
  | true =>
    rw [mtR_ok, lang_eps] at h2
    obtain ⟨d, h1, _⟩ := h2
    rw [h1] at hs
    exact absurd rfl hs
end Go.Proofs.Ytfnmbembclgknaa
