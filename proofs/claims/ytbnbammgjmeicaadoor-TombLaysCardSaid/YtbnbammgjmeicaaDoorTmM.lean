/- Ranges of times as plain lists: which times they have, when they are as few as may be, and that the times tell the ranges. Nothing of the program stands here. -/
import Derived.WalkKit
namespace Go.Proofs.YtbnbammgjmeicaaDoor.Tm
set_option linter.unusedVariables false

abbrev Rg := Int × Int
def RightP (r : Rg) : Prop := 0 ≤ r.1 ∧ r.1 ≤ r.2 ∧ r.2 ≤ 1099511627776
instance (r : Rg) : Decidable (RightP r) := by unfold RightP; exact inferInstance
def rightB (r : Rg) : Bool := decide (RightP r)
def InR (r : Rg) (t : Int) : Prop := r.1 ≤ t ∧ t ≤ r.2
instance (r : Rg) (t : Int) : Decidable (InR r t) := by unfold InR; exact inferInstance
/-- has one of the ranges the time? -/
def HasP (l : List Rg) (t : Int) : Prop := ∃ r, r ∈ l ∧ InR r t
/-- has one of those that may be? -/
def HasR (l : List Rg) (t : Int) : Prop := ∃ r, r ∈ l ∧ RightP r ∧ InR r t
instance (l : List Rg) (t : Int) : Decidable (HasP l t) := decidable_of_iff (l.any (fun r => decide (InR r t)) = true) (by simp [HasP])
instance (l : List Rg) (t : Int) : Decidable (HasR l t) := decidable_of_iff (l.any (fun r => decide (RightP r ∧ InR r t)) = true) (by simp [HasR])
def hasB (l : List Rg) (t : Int) : Bool := decide (HasP l t)
def hasRB (l : List Rg) (t : Int) : Bool := decide (HasR l t)
/-- as few ranges as may be, rising -/
def Can (l : List Rg) : Prop := (∀ r ∈ l, RightP r) ∧ l.Pairwise fun a b => a.2 + 2 ≤ b.1
theorem can_nil : Can [] := ⟨fun r h => by simp at h, List.Pairwise.nil⟩
theorem can_tail {a : Rg} {r : List Rg} (h : Can (a :: r)) : Can r := ⟨fun x hx => h.1 x (by simp [hx]), (List.pairwise_cons.1 h.2).2⟩
theorem can_head {a : Rg} {r : List Rg} (h : Can (a :: r)) : RightP a ∧ ∀ x ∈ r, a.2 + 2 ≤ x.1 := ⟨h.1 a (by simp), (List.pairwise_cons.1 h.2).1⟩
theorem hasP_nil (t : Int) : ¬ HasP [] t := fun ⟨r, h, _⟩ => by simp at h
theorem hasP_cons (a : Rg) (r : List Rg) (t : Int) : HasP (a :: r) t ↔ InR a t ∨ HasP r t := by
  constructor
  · rintro ⟨x, hx, h⟩
    rcases List.mem_cons.1 hx with rfl | hx
    · exact .inl h
    · exact .inr ⟨x, hx, h⟩
  · rintro (h | ⟨x, hx, h⟩)
    · exact ⟨a, by simp, h⟩
    · exact ⟨x, by simp [hx], h⟩
theorem hasP_append (l m : List Rg) (t : Int) : HasP (l ++ m) t ↔ HasP l t ∨ HasP m t := by
  constructor
  · rintro ⟨x, hx, h⟩
    rcases List.mem_append.1 hx with hx | hx
    · exact .inl ⟨x, hx, h⟩
    · exact .inr ⟨x, hx, h⟩
  · rintro (⟨x, hx, h⟩ | ⟨x, hx, h⟩)
    · exact ⟨x, by simp [hx], h⟩
    · exact ⟨x, by simp [hx], h⟩
theorem hasP_one (r : Rg) (t : Int) : HasP [r] t ↔ InR r t := by rw [hasP_cons]; exact ⟨fun h => h.resolve_right (hasP_nil t), .inl⟩
theorem hasR_append (l m : List Rg) (t : Int) : HasR (l ++ m) t ↔ HasR l t ∨ HasR m t := by
  constructor
  · rintro ⟨x, hx, h⟩
    rcases List.mem_append.1 hx with hx | hx
    · exact .inl ⟨x, hx, h⟩
    · exact .inr ⟨x, hx, h⟩
  · rintro (⟨x, hx, h⟩ | ⟨x, hx, h⟩)
    · exact ⟨x, by simp [hx], h⟩
    · exact ⟨x, by simp [hx], h⟩
theorem hasR_can {l : List Rg} (h : ∀ r ∈ l, RightP r) (t : Int) : HasR l t ↔ HasP l t :=
  ⟨fun ⟨x, hx, _, hi⟩ => ⟨x, hx, hi⟩, fun ⟨x, hx, hi⟩ => ⟨x, hx, h x hx, hi⟩⟩
theorem hasR_one (r : Rg) (t : Int) : HasR [r] t ↔ RightP r ∧ InR r t := by
  constructor
  · rintro ⟨x, hx, h⟩
    simp at hx
    subst hx
    exact h
  · intro h; exact ⟨r, by simp, h⟩
/-- the times tell the ranges -/
theorem can_one : ∀ {l m : List Rg}, Can l → Can m → (∀ t, HasP l t ↔ HasP m t) → l = m
  | [], [], _, _, _ => rfl
  | [], b :: s, _, hm, h => by
    obtain ⟨⟨h1, h2, h3⟩, _⟩ := can_head hm
    exact absurd ((h b.1).2 ((hasP_cons _ _ _).2 (.inl ⟨by omega, h2⟩))) (hasP_nil _)
  | a :: r, [], hl, _, h => by
    obtain ⟨⟨h1, h2, h3⟩, _⟩ := can_head hl
    exact absurd ((h a.1).1 ((hasP_cons _ _ _).2 (.inl ⟨by omega, h2⟩))) (hasP_nil _)
  | a :: r, b :: s, hl, hm, h => by
    obtain ⟨⟨a1, a2, a3⟩, ar⟩ := can_head hl
    obtain ⟨⟨b1, b2, b3⟩, bs⟩ := can_head hm
    have ge_a : ∀ t, HasP (a :: r) t → a.1 ≤ t := by
      intro t ht
      rcases (hasP_cons _ _ _).1 ht with hi | ⟨x, hx, hi⟩
      · exact hi.1
      · have := ar x hx; have := hi.1; omega
    have ge_b : ∀ t, HasP (b :: s) t → b.1 ≤ t := by
      intro t ht
      rcases (hasP_cons _ _ _).1 ht with hi | ⟨x, hx, hi⟩
      · exact hi.1
      · have := bs x hx; have := hi.1; omega
    have e1 : a.1 = b.1 := by
      have x1 := ge_b a.1 ((h a.1).1 ((hasP_cons _ _ _).2 (.inl ⟨by omega, a2⟩)))
      have x2 := ge_a b.1 ((h b.1).2 ((hasP_cons _ _ _).2 (.inl ⟨by omega, b2⟩)))
      omega
    have e2 : a.2 = b.2 := by
      by_cases hlt : a.2 < b.2
      · have := (h (a.2 + 1)).2 ((hasP_cons _ _ _).2 (.inl ⟨by omega, by omega⟩))
        rcases (hasP_cons _ _ _).1 this with hi | ⟨x, hx, hi⟩
        · have := hi.2; omega
        · have := ar x hx; have := hi.1; omega
      · by_cases hgt : b.2 < a.2
        · have := (h (b.2 + 1)).1 ((hasP_cons _ _ _).2 (.inl ⟨by omega, by omega⟩))
          rcases (hasP_cons _ _ _).1 this with hi | ⟨x, hx, hi⟩
          · have := hi.2; omega
          · have := bs x hx; have := hi.1; omega
        · omega
    have ea : a = b := Prod.ext e1 e2
    subst ea
    congr 1
    refine can_one (can_tail hl) (can_tail hm) fun t => ?_
    constructor
    · rintro ⟨x, hx, hi⟩
      have := (h t).1 ((hasP_cons _ _ _).2 (.inr ⟨x, hx, hi⟩))
      rcases (hasP_cons _ _ _).1 this with hj | hj
      · have := ar x hx; have := hi.1; have := hj.2; omega
      · exact hj
    · rintro ⟨x, hx, hi⟩
      have := (h t).2 ((hasP_cons _ _ _).2 (.inr ⟨x, hx, hi⟩))
      rcases (hasP_cons _ _ _).1 this with hj | hj
      · have := bs x hx; have := hi.1; have := hj.2; omega
      · exact hj

/-- ranges, and one behind their beginnings -/
def andL (l : List Rg) (r : Rg) : List Rg :=
  match l.getLast? with
  | none => [r]
  | some p => if p.2 + 2 ≤ r.1 then l ++ [r] else l.dropLast ++ [(p.1, max p.2 r.2)]
theorem andL_nil (r : Rg) : andL [] r = [r] := rfl
theorem andL_new (l : List Rg) (p r : Rg) (h : p.2 + 2 ≤ r.1) : andL (l ++ [p]) r = l ++ [p] ++ [r] := by simp [andL, h]
theorem andL_in (l : List Rg) (p r : Rg) (h : ¬ p.2 + 2 ≤ r.1) : andL (l ++ [p]) r = l ++ [(p.1, max p.2 r.2)] := by simp [andL, h]
def andF (l : List Rg) : List Rg := l.foldl andL []
theorem andF_snoc (l : List Rg) (r : Rg) : andF (l ++ [r]) = andL (andF l) r := by simp [andF, List.foldl_append]
theorem andL_len (l : List Rg) (r : Rg) : (andL l r).length ≤ l.length + 1 ∧ l.length ≤ (andL l r).length := by
  unfold andL
  cases h : l.getLast? with
  | none => rw [List.getLast?_eq_none_iff.1 h]; simp
  | some p =>
    have hne : l ≠ [] := by intro e; rw [e] at h; simp at h
    have := List.length_pos_iff.2 hne
    by_cases hc : p.2 + 2 ≤ r.1
    · simp [hc]
    · simp [hc]; omega
theorem split_end {α : Type} {s : List α} (h : s ≠ []) : ∃ r p, s = r ++ [p] := ⟨s.dropLast, s.getLast h, (List.dropLast_concat_getLast h).symm⟩
/-- what andL keeps -/
structure AndOk (l : List Rg) (b : Int) : Prop where
  can : Can l
  low : ∀ r ∈ l, r.1 ≤ b
theorem and_step {l : List Rg} {b : Int} {r : Rg} (h : AndOk l b) (hb : b ≤ r.1) (hr : RightP r) : AndOk (andL l r) r.1 ∧ ∀ t, HasP (andL l r) t ↔ HasP l t ∨ InR r t := by
  by_cases hl : l = []
  · subst hl
    refine ⟨⟨⟨fun x hx => by simp [andL_nil] at hx; subst hx; exact hr, List.pairwise_singleton _ _⟩, fun x hx => by simp [andL_nil] at hx; subst hx; omega⟩, fun t => ?_⟩
    rw [andL_nil, hasP_one]
    exact ⟨.inr, fun h => h.resolve_left (hasP_nil t)⟩
  · obtain ⟨s, p, rfl⟩ := split_end hl
    have hp : RightP p := h.can.1 p (by simp)
    have hpl : p.1 ≤ b := h.low p (by simp)
    have hs : ∀ x ∈ s, RightP x ∧ x.2 + 2 ≤ p.1 := fun x hx => ⟨h.can.1 x (by simp [hx]), (List.pairwise_append.1 h.can.2).2.2 x hx p (by simp)⟩
    have hsp := (List.pairwise_append.1 h.can.2).1
    obtain ⟨r1, r2, r3⟩ := hr
    obtain ⟨p1, p2, p3⟩ := hp
    by_cases hc : p.2 + 2 ≤ r.1
    · rw [andL_new s p r hc]
      refine ⟨⟨⟨fun x hx => ?_, ?_⟩, fun x hx => ?_⟩, fun t => ?_⟩
      · rcases List.mem_append.1 hx with hx | hx
        · exact h.can.1 x hx
        · simp at hx; subst hx; exact ⟨r1, r2, r3⟩
      · refine List.pairwise_append.2 ⟨h.can.2, List.pairwise_singleton _ _, fun x hx y hy => ?_⟩
        simp at hy
        subst hy
        rcases List.mem_append.1 hx with hx | hx
        · have := (hs x hx).2; omega
        · simp at hx; subst hx; exact hc
      · rcases List.mem_append.1 hx with hx | hx
        · have := h.low x hx; omega
        · simp at hx; subst hx; omega
      · rw [hasP_append, hasP_one]
    · rw [andL_in s p r hc]
      refine ⟨⟨⟨fun x hx => ?_, ?_⟩, fun x hx => ?_⟩, fun t => ?_⟩
      · rcases List.mem_append.1 hx with hx | hx
        · exact (hs x hx).1
        · simp at hx; subst hx; exact ⟨p1, by show p.1 ≤ max p.2 r.2; omega, by show max p.2 r.2 ≤ _; omega⟩
      · refine List.pairwise_append.2 ⟨hsp, List.pairwise_singleton _ _, fun x hx y hy => ?_⟩
        simp at hy
        subst hy
        exact (hs x hx).2
      · rcases List.mem_append.1 hx with hx | hx
        · have := h.low x (by simp [hx]); omega
        · simp at hx; subst hx; show p.1 ≤ r.1; omega
      · rw [hasP_append, hasP_one, hasP_append, hasP_one]
        have e : InR (p.1, max p.2 r.2) t ↔ InR p t ∨ InR r t := by
          show (p.1 ≤ t ∧ t ≤ max p.2 r.2) ↔ (p.1 ≤ t ∧ t ≤ p.2) ∨ (r.1 ≤ t ∧ t ≤ r.2)
          omega
        rw [e, or_assoc]
/-- what is made of ranges by rising beginnings -/
theorem andF_ok (l : List Rg) (hr : ∀ r ∈ l, RightP r) (hs : l.Pairwise fun a b => a.1 ≤ b.1) : Can (andF l) ∧ ∀ t, HasP (andF l) t ↔ HasP l t := by
  have key : ∀ (m k : List Rg) (b : Int), (∀ r ∈ m, RightP r ∧ b ≤ r.1) → m.Pairwise (fun a b => a.1 ≤ b.1) → AndOk k b → Can (m.foldl andL k) ∧ ∀ t, HasP (m.foldl andL k) t ↔ HasP k t ∨ HasP m t := by
    intro m
    induction m with
    | nil => intro k b _ _ hk; exact ⟨hk.can, fun t => ⟨.inl, fun h => h.resolve_right (hasP_nil t)⟩⟩
    | cons a r ih =>
      intro k b hm hp hk
      obtain ⟨ha, hb⟩ := hm a (by simp)
      obtain ⟨q1, q2⟩ := and_step hk hb ha
      obtain ⟨i1, i2⟩ := ih (andL k a) a.1 (fun x hx => ⟨(hm x (by simp [hx])).1, (List.pairwise_cons.1 hp).1 x hx⟩) (List.pairwise_cons.1 hp).2 q1
      refine ⟨i1, fun t => ?_⟩
      show HasP (r.foldl andL (andL k a)) t ↔ _
      rw [i2, q2, hasP_cons, or_assoc]
  obtain ⟨h1, h2⟩ := key l [] 0 (fun r h => ⟨hr r h, (hr r h).1⟩) hs ⟨can_nil, fun r h => by simp at h⟩
  exact ⟨h1, fun t => by rw [show andF l = l.foldl andL [] from rfl, h2]; exact ⟨fun h => h.resolve_left (hasP_nil t), .inr⟩⟩
theorem andF_len (l : List Rg) : (andF l).length ≤ l.length := by
  have key : ∀ (m k : List Rg), (m.foldl andL k).length ≤ k.length + m.length := by
    intro m
    induction m with
    | nil => intro k; simp
    | cons a r ih => intro k; have := ih (andL k a); have := (andL_len k a).1; simp at *; omega
  have := key l []
  simpa [andF] using this
/-- a set made of ranges -/
def Is (X : List Rg) (l : List Rg) : Prop := Can X ∧ ∀ t, HasP X t ↔ HasR l t
theorem Is.unique {X Y l m : List Rg} (hX : Is X l) (hY : Is Y m) (h : ∀ t, HasR l t ↔ HasR m t) : X = Y := can_one hX.1 hY.1 fun t => by rw [hX.2, hY.2, h]
theorem Is.self {X : List Rg} (h : Can X) : Is X X := ⟨h, fun t => (hasR_can h.1 t).symm⟩
theorem hasR_perm {l m : List Rg} (h : l.Perm m) (t : Int) : HasR l t ↔ HasR m t :=
  ⟨fun ⟨x, hx, r⟩ => ⟨x, h.mem_iff.1 hx, r⟩, fun ⟨x, hx, r⟩ => ⟨x, h.mem_iff.2 hx, r⟩⟩
theorem hasP_filter (l : List Rg) (t : Int) : HasP (l.filter rightB) t ↔ HasR l t := by
  constructor
  · rintro ⟨x, hx, hi⟩
    obtain ⟨h1, h2⟩ := List.mem_filter.1 hx
    exact ⟨x, h1, by simpa [rightB] using h2, hi⟩
  · rintro ⟨x, hx, hr, hi⟩
    exact ⟨x, List.mem_filter.2 ⟨hx, by simpa [rightB] using hr⟩, hi⟩
theorem is_of {l Y : List Rg} (hp : Y.Perm (l.filter rightB)) (hs : Y.Pairwise fun a b => a.1 ≤ b.1) : Is (andF Y) l := by
  have hr : ∀ r ∈ Y, RightP r := fun r h => by
    have := (List.mem_filter.1 (hp.mem_iff.1 h)).2
    simpa [rightB] using this
  obtain ⟨h1, h2⟩ := andF_ok Y hr hs
  refine ⟨h1, fun t => ?_⟩
  rw [h2, ← hasP_filter]
  exact ⟨fun ⟨x, hx, r⟩ => ⟨x, hp.mem_iff.1 hx, r⟩, fun ⟨x, hx, r⟩ => ⟨x, hp.mem_iff.2 hx, r⟩⟩

/-- ranges but for one: what is ahead of it and behind it -/
def cutE (r x : Rg) : List Rg := [(x.1, min x.2 (r.1 - 1)), (max x.1 (r.2 + 1), x.2)]
def cutL (r : Rg) (l : List Rg) : List Rg := l.flatMap (cutE r)
theorem cutL_len (r : Rg) (l : List Rg) : (cutL r l).length = 2 * l.length := by
  induction l with
  | nil => rfl
  | cons a s ih => simp [cutL, cutE] at *; omega
theorem hasR_cut {r : Rg} {l : List Rg} (hr : RightP r) (hl : ∀ x ∈ l, RightP x) (t : Int) : HasR (cutL r l) t ↔ HasP l t ∧ ¬ InR r t := by
  obtain ⟨r1, r2, r3⟩ := hr
  constructor
  · rintro ⟨y, hy, ⟨y1, y2, y3⟩, i1, i2⟩
    obtain ⟨x, hx, hy⟩ := List.mem_flatMap.1 hy
    obtain ⟨x1, x2, x3⟩ := hl x hx
    simp only [cutE, List.mem_cons, List.not_mem_nil, or_false] at hy
    rcases hy with rfl | rfl
    · simp only at *
      exact ⟨⟨x, hx, by omega, by omega⟩, fun h => by have := h.1; omega⟩
    · simp only at *
      exact ⟨⟨x, hx, by omega, by omega⟩, fun h => by have := h.2; omega⟩
  · rintro ⟨⟨x, hx, i1, i2⟩, hn⟩
    obtain ⟨x1, x2, x3⟩ := hl x hx
    by_cases h : t < r.1
    · refine ⟨(x.1, min x.2 (r.1 - 1)), List.mem_flatMap.2 ⟨x, hx, by simp [cutE]⟩, ⟨x1, ?_, ?_⟩, i1, ?_⟩ <;> simp only <;> omega
    · have : r.2 < t := by
        by_cases h2 : r.2 < t
        · exact h2
        · exact absurd ⟨by omega, by omega⟩ hn
      refine ⟨(max x.1 (r.2 + 1), x.2), List.mem_flatMap.2 ⟨x, hx, by simp [cutE]⟩, ⟨?_, ?_, ?_⟩, ?_, i2⟩ <;> simp only <;> omega
end Go.Proofs.YtbnbammgjmeicaaDoor.Tm
