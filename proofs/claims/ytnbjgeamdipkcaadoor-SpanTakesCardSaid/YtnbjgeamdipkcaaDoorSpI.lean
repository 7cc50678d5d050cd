/- The contract of Indices. -/
import Derived.Test.YtnbjgeamdipkcaaDoorSpR
import Derived.Test.YtnbjgeamdipkcaaDoorSpA
namespace Go.Proofs.YtnbjgeamdipkcaaDoor
open Go.RowKit Go.Sort
set_option linter.unusedVariables false

/-- append(x, y): one number more -/
theorem own_form {w : World} {base : Nat} {e : TypeId} {size n c : Nat} {A : Option Addr} {xs : List Value} (h : w.ownsRow base e size (.slice A n c) n xs) : ∀ k, (Value.slice A n c).ownBlock = some k → base ≤ k := fun k hk => (h.lt k hk).1
theorem tot_at {s : List (Int × Int)} {k : Nat} {p : Int × Int} (h : s[k]? = some p) : tot (s.take (k + 1)) = tot (s.take k) + p.1 + p.2 := by
  rw [take_snoc s k p h, tot_snoc]
theorem indF_at {s : List (Int × Int)} {k : Nat} {p : Int × Int} {a : Int} (h : s[k]? = some p) : indF a (s.take (k + 1)) = indF a (s.take k) ++ rng (a + tot (s.take k) + p.1) p.2.toNat := by
  rw [take_snoc s k p h, indF_snoc]
theorem sum_pos {s : List (Int × Int)} (h : ∀ p ∈ s, 1 ≤ p.2) : 0 ≤ lens s := by
  induction s with
  | nil => simp [lens]
  | cons a r ih =>
    have h1 := h a (by simp)
    have h2 := ih (fun p hp => h p (by simp [hp]))
    simp only [lens]
    omega
theorem indF_length {s : List (Int × Int)} (a : Int) (h : ∀ p ∈ s, 1 ≤ p.2) : ((indF a s).length : Int) = lens s := by
  induction s generalizing a with
  | nil => rfl
  | cons p r ih =>
    have h1 := h p (by simp)
    have h2 := ih (a + p.1 + p.2) (fun q hq => h q (by simp [hq]))
    simp only [indF, lens, List.length_append, rng_length]
    omega
theorem lens_take {s : List (Int × Int)} (h : ∀ p ∈ s, 1 ≤ p.2) (k : Nat) : 0 ≤ lens (s.take k) ∧ lens (s.take k) ≤ lens s := by
  have e : lens s = lens (s.take k) + lens (s.drop k) := by rw [← lens_append, List.take_append_drop]
  have h1 := sum_pos (s := s.take k) (fun p hp => h p (List.mem_of_mem_take hp))
  have h2 := sum_pos (s := s.drop k) (fun p hp => h p (List.mem_of_mem_drop hp))
  omega
/-- bounds of what is reached: of indices within bounds -/
theorem reach_bd {l : List Int} (hi : Inb l) {k : Nat} {p : Int × Int} (h : (runsL l)[k]? = some p) : -262144 ≤ fstL l + tot ((runsL l).take k) + p.1 ∧ fstL l + tot ((runsL l).take k) + p.1 + p.2 ≤ 262145 ∧ 1 ≤ p.2 := by
  obtain ⟨t1, t2, t3, t4⟩ := runs_tell l
  have hp := t4 p (mem_of_at h)
  have hk : (runsL l).take (k + 1) ++ (runsL l).drop (k + 1) = runsL l := List.take_append_drop _ _
  have e : indF (fstL l) (runsL l) = indF (fstL l) ((runsL l).take k) ++ rng (fstL l + tot ((runsL l).take k) + p.1) p.2.toNat ++ indF (fstL l + tot ((runsL l).take (k + 1))) ((runsL l).drop (k + 1)) := by
    rw [← indF_at h, ← indF_append, hk]
  have hm : ∀ j : Nat, (j : Int) < p.2 → fstL l + tot ((runsL l).take k) + p.1 + (j : Int) ∈ l := fun j hj => by
    have hm : fstL l + tot ((runsL l).take k) + p.1 + (j : Int) ∈ indF (fstL l) (runsL l) := by
      rw [e]
      refine List.mem_append_left _ (List.mem_append_right _ ?_)
      simp only [rng, List.mem_map, List.mem_range]
      exact ⟨j, by omega, rfl⟩
    rw [t1] at hm
    exact hm
  have a := hi _ (hm 0 (by omega))
  have b := hi _ (hm (p.2.toNat - 1) (by omega))
  omega
/-- what Indices leaves -/
def IdxPost (w : World) (l : List Int) (e : Ending) (w' : World) : Prop := ∃ A c, e = .returned (.slice A l.length c) ∧ w'.ownsRow w.heap.size 3 1 (.slice A l.length c) l.length (intsC .i64 l) ∧ Below w.heap.size w w'
/-- a layout reads as the runs of l -/
def Ly (w : World) (A : Option Addr) (l : List Int) : Prop := Cl w A (twoC .i64 (runsL l))
theorem Ly.below {w w' : World} {A : Option Addr} {l : List Int} (h : Ly w A l) (k : Below w.heap.size w w') : Ly w' A l := Cl.below h k
theorem Ly.kept {w w' : World} {A : Option Addr} {l : List Int} (h : Ly w A l) (k : Kept w w') : Ly w' A l := Cl.kept h k
theorem runsL_le (l : List Int) : (runsL l).length ≤ l.length := by
  obtain ⟨_, _, t3, t4⟩ := runs_tell l
  have : ∀ s : List (Int × Int), (∀ p ∈ s, 1 ≤ p.2) → (s.length : Int) ≤ lens s := by
    intro s
    induction s with
    | nil => intro _; simp [lens]
    | cons a r ih =>
      intro h
      have h1 := h a (by simp)
      have h2 := ih (fun p hp => h p (by simp [hp]))
      simp only [lens, List.length_cons]
      omega
  have := this _ t4
  omega
theorem runs_sb {l : List Int} (ha : Asc l) (hi : Inb l) (hl : l.length ≤ 100000) : Sb (runsL l) ∧ (runsL l).length ≤ l.length := by
  obtain ⟨t1, t2, t3, t4⟩ := runs_tell l
  have hr := runs_right ha hi (m := 100000) (by omega)
  constructor
  · intro p hp
    obtain ⟨k, hk, rfl⟩ := List.getElem_of_mem hp
    have hk' := List.getElem?_eq_getElem hk
    have hb := reach_bd hi hk'
    have hlen : lens (runsL l) = l.length := t3
    have h1 : (runsL l)[k].2 ≤ lens (runsL l) := by
      have e : runsL l = (runsL l).take k ++ ((runsL l)[k] :: (runsL l).drop (k + 1)) := by rw [← List.drop_eq_getElem_cons hk, List.take_append_drop]
      have e2 : lens (runsL l) = lens ((runsL l).take k) + ((runsL l)[k].2 + lens ((runsL l).drop (k + 1))) := by
        conv => lhs; rw [e]
        rw [lens_append]; rfl
      have g1 := sum_pos (s := (runsL l).take k) (fun p hp => t4 p (List.mem_of_mem_take hp))
      have g2 := sum_pos (s := (runsL l).drop (k + 1)) (fun p hp => t4 p (List.mem_of_mem_drop hp))
      omega
    have h2 : okAt k (runsL l)[k] (100000 - lens ((runsL l).take k)) = true := by
      unfold rightF at hr
      by_cases h0 : runsL l = []
      · rw [h0] at hk; simp at hk
      · rw [if_neg h0, Bool.and_eq_true] at hr
        have e : runsL l = (runsL l).take k ++ ((runsL l)[k] :: (runsL l).drop (k + 1)) := by rw [← List.drop_eq_getElem_cons hk, List.take_append_drop]
        have hr2 := hr.2
        rw [e, rightR_append, Bool.and_eq_true] at hr2
        have hr3 := hr2.2
        simp only [rightR, Bool.and_eq_true, Nat.zero_add] at hr3
        have hkk : ((runsL l).take k).length = k := by rw [List.length_take]; omega
        rw [hkk] at hr3
        exact hr3.1
    unfold okAt offB at h2
    rw [Bool.and_eq_true] at h2
    have h3 := h2.1
    have hbo : 0 ≤ (runsL l)[k].1 ∧ (runsL l)[k].1 ≤ 524288 := by
      by_cases hk0 : (k : Int) = 0
      · rw [if_pos hk0] at h3
        have : (runsL l)[k].1 = 0 := by simpa using h3
        omega
      · rw [if_neg hk0, Bool.and_eq_true, decide_eq_true_eq, decide_eq_true_eq] at h3
        omega
    refine ⟨⟨by omega, by omega⟩, by omega, by omega⟩
  · exact runsL_le l
end Go.Proofs.YtnbjgeamdipkcaaDoor
