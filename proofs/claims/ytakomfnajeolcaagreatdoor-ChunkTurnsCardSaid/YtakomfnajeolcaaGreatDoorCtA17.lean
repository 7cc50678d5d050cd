import Derived.Test.YtakomfnajeolcaaGreatDoorCtA16
set_option linter.unusedVariables false
/- Histograms as plain data, and what merging does with them: no program's text stands here. -/
namespace Go.Proofs.YtakomfnajeolcaaGreatDoor
open Go.RowKit Go.Sort
set_option linter.unusedVariables false

/-- by rising indices, one each -/
def Asc (l : List (Int × Int)) : Prop := l.Pairwise fun a b => a.1 < b.1
theorem asc_unique : ∀ {X Y : List (Int × Int)}, Asc X → Asc Y → (∀ p, p ∈ X ↔ p ∈ Y) → X = Y
  | [], [], _, _, _ => rfl
  | [], b :: s, _, _, h => by have := (h b).2 (by simp); simp at this
  | a :: r, [], _, _, h => by have := (h a).1 (by simp); simp at this
  | a :: r, b :: s, h1, h2, h => by
    obtain ⟨a1, a2⟩ := List.pairwise_cons.1 h1
    obtain ⟨b1, b2⟩ := List.pairwise_cons.1 h2
    have hab : a = b := by
      rcases List.mem_cons.1 ((h a).1 (by simp)) with e | ha
      · exact e
      · rcases List.mem_cons.1 ((h b).2 (by simp)) with e | hb
        · exact e.symm
        · have x1 := a1 b hb
          have x2 := b1 a ha
          omega
    subst hab
    rw [asc_unique a2 b2 (fun p => ⟨fun hp => by
      rcases List.mem_cons.1 ((h p).1 (by simp [hp])) with e | hp'
      · have := a1 p hp
        rw [e] at this
        omega
      · exact hp', fun hp => by
      rcases List.mem_cons.1 ((h p).2 (by simp [hp])) with e | hp'
      · have := b1 p hp
        rw [e] at this
        omega
      · exact hp'⟩)]
/-- an index's count in a rising list -/
theorem atI_none {l : List (Int × Int)} {i : Int} (h : ∀ p ∈ l, p.1 ≠ i) : atI l i = 0 := by
  induction l with
  | nil => rfl
  | cons a r ih =>
    have h1 := h a (by simp)
    simp [atI, h1, ih (fun p hp => h p (by simp [hp]))]
theorem atI_asc {l : List (Int × Int)} (ha : Asc l) {i n : Int} (hm : (i, n) ∈ l) : atI l i = n := by
  induction l with
  | nil => simp at hm
  | cons a r ih =>
    obtain ⟨a1, a2⟩ := List.pairwise_cons.1 ha
    rcases List.mem_cons.1 hm with e | hm'
    · subst e
      rw [atI, if_pos rfl, atI_none (fun p hp => by have := a1 p hp; omega)]
      omega
    · have := a1 _ hm'
      rw [atI, if_neg (by omega), ih a2 hm']
      omega
/-- how many lie in buckets whose indices are asked for -/
def cw (g : Int → Bool) (l : List (Int × Int)) : Int := cnt (l.filter fun p => g p.1)
theorem cw_nil (g : Int → Bool) : cw g [] = 0 := rfl
theorem cw_cons (g : Int → Bool) (p : Int × Int) (l : List (Int × Int)) : cw g (p :: l) = (if g p.1 = true then p.2 else 0) + cw g l := by
  unfold cw
  by_cases h : g p.1 = true
  · rw [List.filter_cons, if_pos h, if_pos h]; simp [cnt]
  · rw [List.filter_cons, if_neg h, if_neg h]; simp
theorem cw_append (g : Int → Bool) (l m : List (Int × Int)) : cw g (l ++ m) = cw g l + cw g m := by
  unfold cw
  rw [List.filter_append, cnt_append]
theorem cw_all (l : List (Int × Int)) : cw (fun _ => true) l = cnt l := by unfold cw; rw [List.filter_eq_self.2 (by simp)]
theorem cw_at (l : List (Int × Int)) (i : Int) : atI l i = cw (fun j => j == i) l := by
  induction l with
  | nil => rfl
  | cons p r ih => rw [cw_cons, ← ih, atI]; simp
theorem cw_map (h : Int → Int) (G : Int → Bool) (l : List (Int × Int)) : cw G (l.map fun p => (h p.1, p.2)) = cw (fun i => G (h i)) l := by
  induction l with
  | nil => rfl
  | cons p r ih => rw [List.map_cons, cw_cons, cw_cons, ih]
theorem cw_filter (G H : Int → Bool) (l : List (Int × Int)) : cw G (l.filter fun p => H p.1) = cw (fun i => H i && G i) l := by
  induction l with
  | nil => rfl
  | cons p r ih =>
    by_cases h : H p.1 = true
    · rw [List.filter_cons, if_pos h, cw_cons, cw_cons, ih, h, Bool.true_and]
    · rw [List.filter_cons, if_neg h, cw_cons, ih, Bool.eq_false_iff.2 h, Bool.false_and]; simp
theorem cw_congr {G H : Int → Bool} {l : List (Int × Int)} (h : ∀ p ∈ l, G p.1 = H p.1) : cw G l = cw H l := by
  induction l with
  | nil => rfl
  | cons p r ih => rw [cw_cons, cw_cons, h p (by simp), ih fun q hq => h q (by simp [hq])]
theorem cw_none {G : Int → Bool} {l : List (Int × Int)} (h : ∀ p ∈ l, G p.1 = false) : cw G l = 0 := by
  rw [cw_congr (H := fun _ => false) h]
  unfold cw
  rw [List.filter_eq_nil_iff.2 (by simp)]; rfl
theorem cw_split (G : Int → Bool) (l : List (Int × Int)) : cw G l + cw (fun i => !G i) l = cnt l := by
  induction l with
  | nil => rfl
  | cons p r ih =>
    rw [cw_cons, cw_cons]
    have : cnt (p :: r) = p.2 + cnt r := by simp [cnt]
    rw [this, ← ih]
    cases G p.1 <;> simp <;> omega
/-- no count is below nought -/
def Nn (l : List (Int × Int)) : Prop := ∀ p ∈ l, 0 ≤ p.2
theorem Nn.cw {l : List (Int × Int)} (h : Nn l) (G : Int → Bool) : 0 ≤ cw G l := by
  induction l with
  | nil => exact Int.le_refl _
  | cons p r ih =>
    rw [cw_cons]
    have h1 := h p (by simp)
    have h2 := ih fun q hq => h q (by simp [hq])
    split <;> omega
theorem Nn.cnt {l : List (Int × Int)} (h : Nn l) : 0 ≤ cnt l := by rw [← cw_all]; exact h.cw _
theorem Nn.at {l : List (Int × Int)} (h : Nn l) (i : Int) : 0 ≤ atI l i ∧ atI l i ≤ Go.Proofs.YtakomfnajeolcaaGreatDoor.cnt l := by
  rw [cw_at, ← cw_split (fun j => j == i) l]
  have := h.cw (fun j => j == i)
  have := h.cw (fun j => !(j == i))
  omega
theorem Nn.append {l m : List (Int × Int)} (h : Nn l) (k : Nn m) : Nn (l ++ m) := fun p hp => (List.mem_append.1 hp).elim (h p) (k p)
theorem Nn.filter {l : List (Int × Int)} (h : Nn l) (f : Int × Int → Bool) : Nn (l.filter f) := fun p hp => h p (List.mem_filter.1 hp).1
theorem Nn.map {l : List (Int × Int)} (h : Nn l) (f : Int → Int) : Nn (l.map fun p => (f p.1, p.2)) := fun p hp => by
  obtain ⟨q, hq, rfl⟩ := List.mem_map.1 hp
  exact h q hq
/-- a bucket put where it belongs -/
def ins (i n : Int) : List (Int × Int) → List (Int × Int)
  | [] => [(i, n)]
  | p :: r => if i < p.1 then (i, n) :: p :: r else if i = p.1 then (p.1, p.2 + n) :: r else p :: ins i n r
/-- by rising indices, one each, empty ones left out -/
def tidy : List (Int × Int) → List (Int × Int)
  | [] => []
  | p :: r => if p.2 = 0 then tidy r else ins p.1 p.2 (tidy r)
theorem cw_ins (G : Int → Bool) (i n : Int) (l : List (Int × Int)) : cw G (ins i n l) = (if G i = true then n else 0) + cw G l := by
  induction l with
  | nil => rw [ins, cw_cons]
  | cons p r ih =>
    unfold ins
    split
    · rw [cw_cons]
    · split
      · rename_i h1 h2
        rw [cw_cons, cw_cons, h2]
        split <;> omega
      · rw [cw_cons, cw_cons, ih]; omega
theorem cw_tidy (G : Int → Bool) (l : List (Int × Int)) : cw G (tidy l) = cw G l := by
  induction l with
  | nil => rfl
  | cons p r ih =>
    unfold tidy
    split
    · rename_i h
      rw [ih, cw_cons, h]; simp
    · rw [cw_ins, ih, cw_cons]
theorem atI_tidy (l : List (Int × Int)) (i : Int) : atI (tidy l) i = atI l i := by rw [cw_at, cw_tidy, ← cw_at]
theorem cnt_tidy (l : List (Int × Int)) : cnt (tidy l) = cnt l := by rw [← cw_all, cw_tidy, cw_all]
theorem mem_ins {i n : Int} {l : List (Int × Int)} {p : Int × Int} (h : p ∈ ins i n l) : p.1 = i ∨ p ∈ l := by
  induction l with
  | nil => simp [ins] at h; exact .inl (by rw [h])
  | cons a r ih =>
    unfold ins at h
    split at h
    · rcases List.mem_cons.1 h with rfl | h
      · exact .inl rfl
      · exact .inr h
    · split at h
      · rename_i h1 h2
        rcases List.mem_cons.1 h with rfl | h
        · exact .inl h2.symm
        · exact .inr (List.mem_cons_of_mem _ h)
      · rcases List.mem_cons.1 h with rfl | h
        · exact .inr (by simp)
        · rcases ih h with h | h
          · exact .inl h
          · exact .inr (List.mem_cons_of_mem _ h)
theorem ins_asc {i n : Int} {l : List (Int × Int)} (h : Asc l) : Asc (ins i n l) := by
  induction l with
  | nil => exact List.pairwise_singleton _ _
  | cons a r ih =>
    obtain ⟨a1, a2⟩ := List.pairwise_cons.1 h
    unfold ins
    split
    · rename_i h1
      refine List.pairwise_cons.2 ⟨fun q hq => ?_, h⟩
      rcases List.mem_cons.1 hq with rfl | hq
      · exact h1
      · have := a1 q hq; show i < q.1; omega
    · split
      · exact List.pairwise_cons.2 ⟨fun q hq => a1 q hq, a2⟩
      · rename_i h1 h2
        refine List.pairwise_cons.2 ⟨fun q hq => ?_, ih a2⟩
        rcases mem_ins hq with e | hq
        · omega
        · exact a1 q hq
theorem tidy_asc (l : List (Int × Int)) : Asc (tidy l) := by
  induction l with
  | nil => exact List.Pairwise.nil
  | cons p r ih =>
    unfold tidy
    split
    · exact ih
    · exact ins_asc ih
/-- every bucket counts something -/
def Pos (l : List (Int × Int)) : Prop := ∀ p ∈ l, 0 < p.2
theorem Pos.nn {l : List (Int × Int)} (h : Pos l) : Nn l := fun p hp => Int.le_of_lt (h p hp)
theorem Pos.filter {l : List (Int × Int)} (h : Pos l) (f : Int × Int → Bool) : Pos (l.filter f) := fun p hp => h p (List.mem_filter.1 hp).1
theorem ins_pos {i n : Int} {l : List (Int × Int)} (hn : 0 < n) (h : Pos l) : Pos (ins i n l) := by
  induction l with
  | nil => intro p hp; simp [ins] at hp; rw [hp]; exact hn
  | cons a r ih =>
    have ha := h a (by simp)
    have hr : Pos r := fun q hq => h q (by simp [hq])
    unfold ins
    split
    · intro p hp
      rcases List.mem_cons.1 hp with rfl | hp
      · exact hn
      · exact h p hp
    · split
      · intro p hp
        rcases List.mem_cons.1 hp with rfl | hp
        · show 0 < a.2 + n; omega
        · exact hr p hp
      · intro p hp
        rcases List.mem_cons.1 hp with rfl | hp
        · exact ha
        · exact ih hr p hp
theorem tidy_pos {l : List (Int × Int)} (h : Nn l) : Pos (tidy l) := by
  induction l with
  | nil => intro p hp; simp [tidy] at hp
  | cons a r ih =>
    have hr : Nn r := fun q hq => h q (by simp [hq])
    have ha := h a (by simp)
    unfold tidy
    split
    · exact ih hr
    · exact ins_pos (by omega) (ih hr)
theorem mem_tidy {l : List (Int × Int)} {p : Int × Int} (h : p ∈ tidy l) : ∃ q ∈ l, q.1 = p.1 := by
  induction l with
  | nil => simp [tidy] at h
  | cons a r ih =>
    unfold tidy at h
    split at h
    · obtain ⟨q, hq, e⟩ := ih h
      exact ⟨q, by simp [hq], e⟩
    · rcases mem_ins h with e | h
      · exact ⟨a, by simp, e.symm⟩
      · obtain ⟨q, hq, e⟩ := ih h
        exact ⟨q, by simp [hq], e⟩
theorem ins_length (i n : Int) (l : List (Int × Int)) : (ins i n l).length ≤ l.length + 1 := by
  induction l with
  | nil => simp [ins]
  | cons a r ih =>
    unfold ins
    split
    · simp
    · split
      · simp
      · simp; exact ih
theorem tidy_length (l : List (Int × Int)) : (tidy l).length ≤ l.length := by
  induction l with
  | nil => simp [tidy]
  | cons a r ih =>
    unfold tidy
    split
    · simp; omega
    · have := ins_length a.1 a.2 (tidy r)
      simp; omega
theorem at_mem {l : List (Int × Int)} {i : Int} (h : atI l i ≠ 0) : ∃ p ∈ l, p.1 = i := by
  refine Classical.byContradiction fun hn => h (atI_none fun p hp e => hn ⟨p, hp, e⟩)
theorem pos_mem {l : List (Int × Int)} (ha : Asc l) (hp : Pos l) (i n : Int) : (i, n) ∈ l ↔ (n = atI l i ∧ n ≠ 0) := by
  constructor
  · intro h
    have := hp _ h
    exact ⟨(atI_asc ha h).symm, by simp only at this; omega⟩
  · rintro ⟨rfl, h⟩
    obtain ⟨p, hp1, rfl⟩ := at_mem h
    have e := atI_asc ha (i := p.1) (n := p.2) hp1
    rw [e]; exact hp1
/-- rising lists without empty buckets are one if all their counts are -/
theorem asc_ext {X Y : List (Int × Int)} (aX : Asc X) (aY : Asc Y) (pX : Pos X) (pY : Pos Y) (h : ∀ i, atI X i = atI Y i) : X = Y := by
  refine asc_unique aX aY fun p => ?_
  obtain ⟨i, n⟩ := p
  rw [pos_mem aX pX, pos_mem aY pY, h]
theorem tidy_self {l : List (Int × Int)} (ha : Asc l) (hp : Pos l) : tidy l = l := asc_ext (tidy_asc l) ha (tidy_pos hp.nn) hp (atI_tidy l)
theorem asc_filter {l : List (Int × Int)} (h : Asc l) (f : Int × Int → Bool) : Asc (l.filter f) := List.Pairwise.filter f h
/-- leaving out by indices, and tidying -/
theorem tidy_filter {l : List (Int × Int)} (h : Nn l) (G : Int → Bool) : tidy (l.filter fun p => G p.1) = (tidy l).filter fun p => G p.1 := by
  refine asc_ext (tidy_asc _) (asc_filter (tidy_asc _) _) (tidy_pos (h.filter _)) ((tidy_pos h).filter _) fun i => ?_
  rw [atI_tidy, cw_at, cw_at, cw_filter, cw_filter, cw_tidy]
end Go.Proofs.YtakomfnajeolcaaGreatDoor
