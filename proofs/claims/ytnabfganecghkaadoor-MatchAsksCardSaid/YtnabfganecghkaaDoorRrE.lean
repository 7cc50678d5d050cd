/- Where parts of a text may end that begin at some places: plainly, by languages. -/
import Derived.Test.YtnabfganecghkaaDoorRxT
namespace Go.Proofs.YtnabfganecghkaaDoor
set_option linter.unusedVariables false

/-- what lies between two places of a text -/
def sub (s : Bs) (i j : Nat) : Bs := (s.take j).drop i
theorem sub_len {s : Bs} {i j : Nat} (hj : j ≤ s.length) : (sub s i j).length = j - i := by
  unfold sub
  rw [List.length_drop, List.length_take]
  omega
theorem sub_app {s : Bs} {i j k : Nat} (hi : i ≤ j) (hj : j ≤ k) : sub s i j ++ sub s j k = sub s i k := by
  unfold sub
  have h1 : s.take j = (s.take k).take j := by rw [List.take_take, Nat.min_eq_left hj]
  rw [h1]
  generalize s.take k = t
  by_cases hl : j ≤ t.length
  · have h2 : (t.take j).drop i = (t.drop i).take (j - i) := by rw [List.drop_take]
    have h3 : t.drop j = (t.drop i).drop (j - i) := by rw [List.drop_drop]; congr 1; omega
    rw [h2, h3, List.take_append_drop]
  · rw [List.take_of_length_le (by omega), List.drop_eq_nil_of_le (show t.length ≤ j by omega), List.append_nil]
theorem sub_cut {s u v : Bs} {i k : Nat} (hi : i ≤ k) (hk : k ≤ s.length) (h : sub s i k = u ++ v) : ∃ j, i ≤ j ∧ j ≤ k ∧ u = sub s i j ∧ v = sub s j k := by
  have hl := congrArg List.length h
  rw [sub_len hk, List.length_append] at hl
  refine ⟨i + u.length, by omega, by omega, ?_, ?_⟩
  · have h2 := sub_app (s := s) (i := i) (j := i + u.length) (k := k) (by omega) (by omega)
    rw [h] at h2
    exact (List.append_inj h2 (by rw [sub_len (by omega)]; omega)).1.symm
  · have h2 := sub_app (s := s) (i := i) (j := i + u.length) (k := k) (by omega) (by omega)
    rw [h] at h2
    exact (List.append_inj h2 (by rw [sub_len (by omega)]; omega)).2.symm
theorem sub_nil {s : Bs} {i j : Nat} (hi : i ≤ j) (hj : j ≤ s.length) : sub s i j = [] ↔ i = j := by
  constructor
  · intro h
    have := congrArg List.length h
    rw [sub_len hj] at this
    simp at this
    omega
  · rintro rfl
    exact List.eq_nil_of_length_eq_zero (by rw [sub_len hj]; omega)
theorem sub_all (s : Bs) : sub s 0 s.length = s := by simp [sub]
theorem sub_one {s : Bs} {i : Nat} (hi : i < s.length) : sub s i (i + 1) = [s[i]] := by
  unfold sub
  rw [List.drop_take, List.drop_eq_getElem_cons hi, show i + 1 - i = 1 by omega, List.take_succ_cons, List.take_zero]
/-- from the places F a word of l may end at the places G -/
def EndsOk (l : Bs → Prop) (s : Bs) (F G : Nat → Bool) : Prop := ∀ j, j ≤ s.length → (G j = true ↔ ∃ i, i ≤ j ∧ F i = true ∧ l (sub s i j))
theorem EndsOk.congr {l : Bs → Prop} {s : Bs} {F F' G G' : Nat → Bool} (h : EndsOk l s F G) (hF : ∀ i, i ≤ s.length → F' i = F i) (hG : ∀ i, i ≤ s.length → G' i = G i) : EndsOk l s F' G' := by
  intro j hj
  rw [hG j hj, h j hj]
  constructor
  · rintro ⟨i, h1, h2, h3⟩; exact ⟨i, h1, by rw [hF i (by omega)]; exact h2, h3⟩
  · rintro ⟨i, h1, h2, h3⟩; exact ⟨i, h1, by rw [← hF i (by omega)]; exact h2, h3⟩
theorem EndsOk.iff {l l' : Bs → Prop} {s : Bs} {F G : Nat → Bool} (h : EndsOk l s F G) (hl : ∀ u, l u ↔ l' u) : EndsOk l' s F G := by
  intro j hj
  rw [h j hj]
  constructor
  · rintro ⟨i, h1, h2, h3⟩; exact ⟨i, h1, h2, (hl _).1 h3⟩
  · rintro ⟨i, h1, h2, h3⟩; exact ⟨i, h1, h2, (hl _).2 h3⟩
theorem ends_eps (s : Bs) (F : Nat → Bool) : EndsOk (fun u => u = []) s F F := by
  intro j hj
  constructor
  · intro h; exact ⟨j, Nat.le_refl _, h, (sub_nil (Nat.le_refl _) hj).2 rfl⟩
  · rintro ⟨i, h1, h2, h3⟩
    rw [← (sub_nil h1 hj).1 h3]
    exact h2
theorem ends_none (s : Bs) (F : Nat → Bool) : EndsOk (fun _ => False) s F (fun _ => false) := by
  intro j hj
  constructor
  · intro h; cases h
  · rintro ⟨i, h1, h2, h3⟩; exact h3.elim
theorem ends_cat {a b : Bs → Prop} {s : Bs} {F G H : Nat → Bool} (h : EndsOk a s F G) (k : EndsOk b s G H) : EndsOk (fun w => ∃ u v, w = u ++ v ∧ a u ∧ b v) s F H := by
  intro j hj
  rw [k j hj]
  constructor
  · rintro ⟨i, h1, h2, h3⟩
    obtain ⟨i0, h4, h5, h6⟩ := (h i (by omega)).1 h2
    exact ⟨i0, by omega, h5, _, _, (sub_app h4 h1).symm, h6, h3⟩
  · rintro ⟨i, h1, h2, u, v, huv, hu, hv⟩
    obtain ⟨m, h4, h5, rfl, rfl⟩ := sub_cut h1 hj huv
    exact ⟨m, h5, (h m (by omega)).2 ⟨i, h4, h2, hu⟩, hv⟩
theorem ends_or {a b : Bs → Prop} {s : Bs} {F G H : Nat → Bool} (h : EndsOk a s F G) (k : EndsOk b s F H) : EndsOk (fun w => a w ∨ b w) s F (fun j => G j || H j) := by
  intro j hj
  simp only [Bool.or_eq_true]
  rw [h j hj, k j hj]
  constructor
  · rintro (⟨i, h1, h2, h3⟩ | ⟨i, h1, h2, h3⟩)
    · exact ⟨i, h1, h2, .inl h3⟩
    · exact ⟨i, h1, h2, .inr h3⟩
  · rintro ⟨i, h1, h2, h3 | h3⟩
    · exact .inl ⟨i, h1, h2, h3⟩
    · exact .inr ⟨i, h1, h2, h3⟩
theorem ends_byte {X : Nat → Bool} {s : Bs} {F G : Nat → Bool} (h0 : G 0 = false) (hS : ∀ i (hi : i < s.length), G (i + 1) = (F i && X (s[i]).toNat)) : EndsOk (fun w => ∃ c, w = [c] ∧ X c.toNat = true) s F G := by
  intro j hj
  cases j with
  | zero =>
    rw [h0]
    constructor
    · intro h; cases h
    · rintro ⟨i, h1, h2, c, h3, h4⟩
      have := congrArg List.length h3
      rw [sub_len hj] at this
      simp at this
  | succ j =>
    rw [hS j (by omega), Bool.and_eq_true]
    constructor
    · rintro ⟨h1, h2⟩
      exact ⟨j, by omega, h1, s[j], sub_one (by omega), h2⟩
    · rintro ⟨i, h1, h2, c, h3, h4⟩
      have h5 := congrArg List.length h3
      rw [sub_len hj] at h5
      simp at h5
      obtain rfl : i = j := by omega
      rw [sub_one (by omega)] at h3
      injection h3 with h3 _
      subst h3
      exact ⟨h2, h4⟩
/-- a round of as often as one likes: what came out, what is in hand -/
structure Rnd (a M : Bs → Prop) (s : Bs) (F O N : Nat → Bool) : Prop where
  so : ∀ j, j ≤ s.length → O j = true → ∃ i, i ≤ j ∧ F i = true ∧ M (sub s i j)
  sn : ∀ j, j ≤ s.length → N j = true → ∃ i, i ≤ j ∧ F i = true ∧ Many a (sub s i j)
  cl : ∀ i j, i ≤ j → j ≤ s.length → (F i = true ∨ O i = true) → a (sub s i j) → O j = true ∨ ∃ k, k ≤ j ∧ N k = true ∧ a (sub s k j)
theorem many_snoc {a : Bs → Prop} {u v : Bs} (h : Many a u) (hv : a v) : Many a (u ++ v) := by
  induction h with
  | nil => rw [List.nil_append, ← List.append_nil v]; exact .cons hv .nil
  | cons h1 _ ih => rw [List.append_assoc]; exact .cons h1 ih
theorem plus_snoc {a : Bs → Prop} {u v : Bs} (h : Many a u) (hv : a v) : ∃ x y, u ++ v = x ++ y ∧ a x ∧ Many a y := by
  cases h with
  | nil => exact ⟨v, [], by simp, hv, .nil⟩
  | cons h1 h2 => exact ⟨_, _, by rw [List.append_assoc], h1, many_snoc h2 hv⟩
theorem Rnd.star0 (a : Bs → Prop) (s : Bs) (F : Nat → Bool) : Rnd a (Many a) s F F F := by
  refine ⟨fun j hj h => ⟨j, Nat.le_refl _, h, ?_⟩, fun j hj h => ⟨j, Nat.le_refl _, h, ?_⟩, fun i j h1 h2 h3 h4 => .inr ⟨i, h1, h3.elim id id, h4⟩⟩
  · rw [(sub_nil (Nat.le_refl _) hj).2 rfl]; exact .nil
  · rw [(sub_nil (Nat.le_refl _) hj).2 rfl]; exact .nil
theorem Rnd.plus0 (a M : Bs → Prop) (s : Bs) (F O : Nat → Bool) (hO : ∀ j, j ≤ s.length → O j = false) : Rnd a M s F O F := by
  refine ⟨fun j hj h => (by rw [hO j hj] at h; cases h), fun j hj h => ⟨j, Nat.le_refl _, h, ?_⟩, fun i j h1 h2 h3 h4 => .inr ⟨i, h1, ?_, h4⟩⟩
  · rw [(sub_nil (Nat.le_refl _) hj).2 rfl]; exact .nil
  · rcases h3 with h3 | h3
    · exact h3
    · rw [hO i (by omega)] at h3; cases h3
theorem Rnd.step {a M : Bs → Prop} {s : Bs} {F O N N' O' : Nat → Bool} (h : Rnd a M s F O N) (k : EndsOk a s N N') (hM : ∀ u v, Many a u → a v → M (u ++ v)) (hO : ∀ j, j ≤ s.length → O' j = (O j || N' j)) : Rnd a M s F O' N' := by
  have hn : ∀ j, j ≤ s.length → N' j = true → ∃ i, i ≤ j ∧ F i = true ∧ ∃ u v, sub s i j = u ++ v ∧ Many a u ∧ a v := by
    intro j hj hN
    obtain ⟨m, h1, h2, h3⟩ := (k j hj).1 hN
    obtain ⟨i, h4, h5, h6⟩ := h.sn m (by omega) h2
    exact ⟨i, by omega, h5, _, _, (sub_app h4 h1).symm, h6, h3⟩
  refine ⟨fun j hj hj2 => ?_, fun j hj hj2 => ?_, fun i j h1 h2 h3 h4 => ?_⟩
  · rw [hO j hj, Bool.or_eq_true] at hj2
    rcases hj2 with h1 | h1
    · exact h.so j hj h1
    · obtain ⟨i, h2, h3, u, v, h4, h5, h6⟩ := hn j hj h1
      exact ⟨i, h2, h3, by rw [h4]; exact hM u v h5 h6⟩
  · obtain ⟨i, h2, h3, u, v, h4, h5, h6⟩ := hn j hj hj2
    exact ⟨i, h2, h3, by rw [h4]; exact many_snoc h5 h6⟩
  · rw [hO j h2, Bool.or_eq_true]
    by_cases hN : N' i = true
    · exact .inr ⟨i, h1, hN, h4⟩
    · have h5 : F i = true ∨ O i = true := by
        rcases h3 with h3 | h3
        · exact .inl h3
        · rw [hO i (by omega), Bool.or_eq_true] at h3
          exact .inr (h3.resolve_right hN)
      rcases h.cl i j h1 h2 h5 h4 with h6 | ⟨m, h6, h7, h8⟩
      · exact .inl (.inl h6)
      · exact .inl (.inr ((k j h2).2 ⟨m, h6, h7, h8⟩))
theorem Rnd.closed {a M : Bs → Prop} {s : Bs} {F O N N' : Nat → Bool} (h : Rnd a M s F O N) (k : EndsOk a s N N') (hO : ∀ j, j ≤ s.length → O j = (O j || N' j)) (i j : Nat) (h1 : i ≤ j) (h2 : j ≤ s.length) (h3 : F i = true ∨ O i = true) (h4 : a (sub s i j)) : O j = true := by
  rcases h.cl i j h1 h2 h3 h4 with h6 | ⟨m, h6, h7, h8⟩
  · exact h6
  · rw [hO j h2, (k j h2).2 ⟨m, h6, h7, h8⟩, Bool.or_true]
theorem closed_many {a : Bs → Prop} {s : Bs} {O : Nat → Bool} (hc : ∀ i j, i ≤ j → j ≤ s.length → O i = true → a (sub s i j) → O j = true) {w : Bs} (h : Many a w) : ∀ i j, i ≤ j → j ≤ s.length → O i = true → sub s i j = w → O j = true := by
  induction h with
  | nil =>
    intro i j h1 h2 h3 h4
    rw [← (sub_nil h1 h2).1 h4]
    exact h3
  | cons hu _ ih =>
    intro i j h1 h2 h3 h4
    obtain ⟨m, h5, h6, rfl, rfl⟩ := sub_cut h1 h2 h4
    exact ih m j h6 h2 (hc i m h5 (by omega) h3 hu) rfl
theorem Rnd.star {a : Bs → Prop} {s : Bs} {F O N N' : Nat → Bool} (h : Rnd a (Many a) s F O N) (hF : ∀ j, j ≤ s.length → F j = true → O j = true) (k : EndsOk a s N N') (hO : ∀ j, j ≤ s.length → O j = (O j || N' j)) : EndsOk (Many a) s F O := by
  intro j hj
  refine ⟨h.so j hj, ?_⟩
  rintro ⟨i, h1, h2, h3⟩
  exact closed_many (fun i j h1 h2 h3 h4 => h.closed k hO i j h1 h2 (.inr h3) h4) h3 i j h1 hj (hF i (by omega) h2) rfl
theorem Rnd.plus {a : Bs → Prop} {s : Bs} {F O N N' : Nat → Bool} (h : Rnd a (fun w => ∃ u v, w = u ++ v ∧ a u ∧ Many a v) s F O N) (k : EndsOk a s N N') (hO : ∀ j, j ≤ s.length → O j = (O j || N' j)) : EndsOk (fun w => ∃ u v, w = u ++ v ∧ a u ∧ Many a v) s F O := by
  intro j hj
  refine ⟨h.so j hj, ?_⟩
  rintro ⟨i, h1, h2, u, v, h3, hu, hv⟩
  obtain ⟨m, h5, h6, rfl, rfl⟩ := sub_cut h1 hj h3
  exact closed_many (fun i j h1 h2 h3 h4 => h.closed k hO i j h1 h2 (.inr h3) h4) hv m j h6 hj (h.closed k hO i m h5 (by omega) (.inl h2) hu) rfl
/-- how many places are not there yet -/
def gaps (O : Nat → Bool) : Nat → Nat
  | 0 => 0
  | n + 1 => gaps O n + (if O n then 0 else 1)
theorem gaps_le {O O' : Nat → Bool} : ∀ n, (∀ i, i < n → O i = true → O' i = true) → gaps O' n ≤ gaps O n
  | 0, _ => Nat.le_refl _
  | n + 1, h => by
    have ih := gaps_le n (fun i hi => h i (by omega))
    have h2 := h n (by omega)
    unfold gaps
    cases h3 : O n with
    | true => rw [h2 h3]; simpa using ih
    | false =>
      cases O' n <;> simp <;> omega
theorem gaps_lt {O O' : Nat → Bool} : ∀ n k, k < n → (∀ i, i < n → O i = true → O' i = true) → O k = false → O' k = true → gaps O' n < gaps O n
  | 0, k, hk, _, _, _ => by omega
  | n + 1, k, hk, h, h1, h2 => by
    have hle := gaps_le n (fun i hi => h i (by omega))
    have h3 := h n (by omega)
    unfold gaps
    by_cases he : k = n
    · subst he
      rw [h1, h2]
      simp
      omega
    · have ih := gaps_lt n k (by omega) (fun i hi => h i (by omega)) h1 h2
      cases h4 : O n with
      | true => rw [h3 h4]; simpa using ih
      | false => cases O' n <;> simp <;> omega
theorem gaps_bound (O : Nat → Bool) : ∀ n, gaps O n ≤ n
  | 0 => Nat.le_refl _
  | n + 1 => by
    have := gaps_bound O n
    unfold gaps
    split <;> omega
end Go.Proofs.YtnabfganecghkaaDoor
