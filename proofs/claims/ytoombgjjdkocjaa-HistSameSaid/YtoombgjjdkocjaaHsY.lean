/- What all cells together have, key by key: sums over a range. -/
import Derived.Test.YtoombgjjdkocjaaHsW
import Derived.Test.YtoombgjjdkocjaaHsX
import Derived.Test.YtoombgjjdkocjaaHsS
namespace Go.Proofs.Ytoombgjjdkocjaa
open Go.RowKit Go.Sort Go.Maps
set_option linter.unusedVariables false

theorem below_grownBy {w w' : World} (h : Below w.heap.size w w') : w.grownBy w' none := ⟨h.os, h.tape, h.output, h.size, fun k hk _ => h.block k hk⟩
theorem cF_val (s zc : Int) (P Q : List (Int × Int)) (a c i : Int) : cF s zc P Q a c i = if a = 1 then (if c = s then atI P i else 0) else if a = -1 then (if c = s then atI Q i else 0) else if a = 0 ∧ c = 0 ∧ i = 0 then zc else 0 := by
  unfold cF
  by_cases hz : zc = 0
  · rw [if_pos hz]
    unfold gF
    by_cases h1 : a = 1
    · simp [h1]
    · by_cases h2 : a = -1
      · simp [h2]
      · simp [h1, h2, hz]
  · rw [if_neg hz]
    unfold upd gF
    by_cases h1 : a = 1
    · simp [h1]
    · by_cases h2 : a = -1
      · simp [h2]
      · by_cases h3 : a = 0 ∧ c = 0 ∧ i = 0
        · simp [h3]
        · simp [h1, h2, h3]
theorem atI_some {l : List (Int × Int)} {i : Int} (h : atI l i ≠ 0) : ∃ p ∈ l, p.1 = i := by
  by_cases h2 : ∃ p ∈ l, p.1 = i
  · exact h2
  · exact absurd (atI_none (fun p hp e => h2 ⟨p, hp, e⟩)) h
abbrev K3 := Int × Int × Int
/-- where all buckets are -/
def keysF (s zc : Int) (P Q : List (Int × Int)) : List K3 := (if zc = 0 then [] else [(0, 0, 0)]) ++ (P.map (fun p => (1, s, p.1)) ++ Q.map (fun p => (-1, s, p.1)))
/-- what those that are left have -/
def rem (K : List K3) (f : F3) (left : Lit → Bool) : Int := ((K.filter (fun k => left (kL k.1 k.2.1 k.2.2))).map (fun k => f k.1 k.2.1 k.2.2)).sum
def Ins (K : List K3) : Prop := ∀ k ∈ K, I64 k.1 ∧ I64 k.2.1 ∧ I64 k.2.2
theorem rem_same {K : List K3} {f : F3} {l1 l2 : Lit → Bool} (h : ∀ k ∈ K, l1 (kL k.1 k.2.1 k.2.2) = l2 (kL k.1 k.2.1 k.2.2)) : rem K f l1 = rem K f l2 := by
  unfold rem
  rw [List.filter_congr h]
theorem rem_cons (k : K3) (K : List K3) (f : F3) (l : Lit → Bool) : rem (k :: K) f l = (if l (kL k.1 k.2.1 k.2.2) = true then f k.1 k.2.1 k.2.2 else 0) + rem K f l := by
  unfold rem
  rw [List.filter_cons]
  split <;> simp
theorem key_off {k q : K3} (hk : I64 k.1 ∧ I64 k.2.1 ∧ I64 k.2.2) (hq : I64 q.1 ∧ I64 q.2.1 ∧ I64 q.2.2) (h : k ≠ q) : (kL k.1 k.2.1 k.2.2).sameKey (kL q.1 q.2.1 q.2.2) = false := by
  refine sameKey_ne (fun e => h ?_)
  obtain ⟨e1, e2, e3⟩ := kL_inj hk.1 hk.2.1 hk.2.2 hq.1 hq.2.1 hq.2.2 e
  exact Prod.ext e1 (Prod.ext e2 e3)
theorem rem_step {K : List K3} {f : F3} {left : Lit → Bool} {q : K3} (hn : K.Nodup) (hI : Ins K) (hm : q ∈ K) (hl : left (kL q.1 q.2.1 q.2.2) = true) :
    rem K f left = f q.1 q.2.1 q.2.2 + rem K f (fun z => left z && !z.sameKey (kL q.1 q.2.1 q.2.2)) := by
  induction K with
  | nil => cases hm
  | cons a r ih =>
    obtain ⟨n1, n2⟩ := List.nodup_cons.1 hn
    have hq := hI q hm
    rw [rem_cons, rem_cons]
    by_cases ha : a = q
    · subst ha
      rw [if_pos hl, if_neg (by rw [WideAt.sameKey_self (kL_key _ _ _)]; simp)]
      rw [rem_same (K := r) (l1 := left) (l2 := fun z => left z && !z.sameKey (kL a.1 a.2.1 a.2.2)) (fun k hk => by rw [key_off (hI k (by simp [hk])) hq (fun e => n1 (e ▸ hk))]; simp)]
      omega
    · have hmr : q ∈ r := by
        rcases List.mem_cons.1 hm with h | h
        · exact absurd h.symm ha
        · exact h
      rw [ih n2 (fun k hk => hI k (by simp [hk])) hmr]
      rw [key_off (hI a (by simp)) hq ha]
      simp only [Bool.not_false, Bool.and_true]
      omega
theorem rem_nonneg {K : List K3} {f : F3} (left : Lit → Bool) (h : ∀ k ∈ K, 0 ≤ f k.1 k.2.1 k.2.2) : 0 ≤ rem K f left := by
  induction K with
  | nil => simp [rem]
  | cons a r ih =>
    rw [rem_cons]
    have h1 := ih (fun k hk => h k (by simp [hk]))
    have h2 := h a (by simp)
    split <;> omega
theorem rem_none {K : List K3} {f : F3} {left : Lit → Bool} (h : ∀ kl, left kl = false) : rem K f left = 0 := by
  induction K with
  | nil => simp [rem]
  | cons a r ih => rw [rem_cons, ih, if_neg (by rw [h]; simp)]; rfl
theorem rem_all {K : List K3} {f : F3} {left : Lit → Bool} (h : ∀ k ∈ K, left (kL k.1 k.2.1 k.2.2) = true) : rem K f left = (K.map (fun k => f k.1 k.2.1 k.2.2)).sum := by
  induction K with
  | nil => simp [rem]
  | cons a r ih =>
    rw [rem_cons, ih (fun k hk => h k (by simp [hk])), if_pos (h a (by simp))]
    simp
theorem sum_side {l : List (Int × Int)} (ha : Asc l) (g : Int → Int) (hg : ∀ i, g i = atI l i) : (l.map (fun p => g p.1)).sum = cnt l := by
  unfold cnt
  congr 1
  refine List.map_congr_left fun p hp => ?_
  rw [hg]
  exact atI_asc ha hp
theorem keys_sum {s zc : Int} {P Q : List (Int × Int)} (aP : Asc P) (aQ : Asc Q) : ((keysF s zc P Q).map (fun k => cF s zc P Q k.1 k.2.1 k.2.2)).sum = zc + cnt (P ++ Q) := by
  unfold keysF
  simp only [List.map_append, List.sum_append, List.map_map, Function.comp_def, cnt_append]
  have e1 : (List.map (fun p : Int × Int => cF s zc P Q 1 s p.1) P).sum = cnt P := sum_side aP (fun i => cF s zc P Q 1 s i) (fun i => by rw [cF_val]; simp)
  have e2 : (List.map (fun p : Int × Int => cF s zc P Q (-1) s p.1) Q).sum = cnt Q := sum_side aQ (fun i => cF s zc P Q (-1) s i) (fun i => by rw [cF_val]; simp)
  rw [e1, e2]
  by_cases hz : zc = 0
  · simp [hz]
  · simp [hz, cF_val]
theorem asc_nodup {l : List (Int × Int)} (h : Asc l) (g : Int → K3) (hg : ∀ a b, g a = g b → a = b) : (l.map (fun p => g p.1)).Nodup := by
  unfold List.Nodup
  rw [List.pairwise_map]
  refine List.Pairwise.imp ?_ h
  intro a b hab e
  have := hg _ _ e
  omega
theorem keys_nodup {s zc : Int} {P Q : List (Int × Int)} (aP : Asc P) (aQ : Asc Q) : (keysF s zc P Q).Nodup := by
  unfold keysF
  have n1 := asc_nodup aP (fun i => ((1, s, i) : K3)) (fun a b e => by simpa using e)
  have n2 := asc_nodup aQ (fun i => ((-1, s, i) : K3)) (fun a b e => by simpa using e)
  rw [List.nodup_append, List.nodup_append]
  refine ⟨by split <;> simp, ⟨n1, n2, ?_⟩, ?_⟩
  · intro a ha b hb e
    simp only [List.mem_map] at ha hb
    obtain ⟨p, _, rfl⟩ := ha
    obtain ⟨q, _, rfl⟩ := hb
    simp at e
  · intro a ha b hb e
    have h0 : a = (0, 0, 0) := by
      split at ha
      · cases ha
      · simpa using ha
    subst h0
    rcases List.mem_append.1 hb with hb | hb
    · simp only [List.mem_map] at hb
      obtain ⟨p, _, rfl⟩ := hb
      simp at e
    · simp only [List.mem_map] at hb
      obtain ⟨p, _, rfl⟩ := hb
      simp at e
theorem keys_ins {s zc : Int} {P Q : List (Int × Int)} (hs : I64 s) (wP : ∀ p ∈ P, Wb p) (wQ : ∀ p ∈ Q, Wb p) : Ins (keysF s zc P Q) := by
  intro k hk
  unfold keysF at hk
  rcases List.mem_append.1 hk with hk | hk
  · have h0 : k = (0, 0, 0) := by
      split at hk
      · cases hk
      · simpa using hk
    subst h0
    exact ⟨⟨by decide, by decide⟩, ⟨by decide, by decide⟩, ⟨by decide, by decide⟩⟩
  · rcases List.mem_append.1 hk with hk | hk
    · simp only [List.mem_map] at hk
      obtain ⟨p, hp, rfl⟩ := hk
      exact ⟨show I64 1 from ⟨by decide, by decide⟩, hs, (wP p hp).1, (wP p hp).2.1⟩
    · simp only [List.mem_map] at hk
      obtain ⟨p, hp, rfl⟩ := hk
      exact ⟨show I64 (-1) from ⟨by decide, by decide⟩, hs, (wQ p hp).1, (wQ p hp).2.1⟩
/-- where there is something, there is a bucket; and what At has there -/
theorem keys_mem {s zc : Int} {P Q : List (Int × Int)} {a c i : Int} (h : cF s zc P Q a c i ≠ 0) : (a, c, i) ∈ keysF s zc P Q ∧ atV zc a i P Q = cF s zc P Q a c i := by
  rw [cF_val] at h ⊢
  unfold keysF atV
  by_cases h1 : a = 1
  · subst h1
    by_cases hc : c = s
    · subst hc
      simp at h
      obtain ⟨p, hp, rfl⟩ := atI_some h
      exact ⟨List.mem_append_right _ (List.mem_append_left _ (List.mem_map.2 ⟨p, hp, rfl⟩)), by simp⟩
    · simp [hc] at h
  · by_cases h2 : a = -1
    · subst h2
      by_cases hc : c = s
      · subst hc
        simp at h
        obtain ⟨p, hp, rfl⟩ := atI_some h
        exact ⟨List.mem_append_right _ (List.mem_append_right _ (List.mem_map.2 ⟨p, hp, rfl⟩)), by simp⟩
      · simp [hc] at h
    · by_cases h3 : a = 0 ∧ c = 0 ∧ i = 0
      · obtain ⟨rfl, rfl, rfl⟩ := h3
        simp at h
        exact ⟨by simp [h], by simp⟩
      · simp [h1, h2, h3] at h
theorem keys_pos {s zc : Int} {P Q : List (Int × Int)} (aP : Asc P) (aQ : Asc Q) (z0 : 0 ≤ zc) (nP : ∀ p ∈ P, 0 < p.2) (nQ : ∀ p ∈ Q, 0 < p.2) : ∀ k ∈ keysF s zc P Q, 0 < cF s zc P Q k.1 k.2.1 k.2.2 := by
  intro k hk
  unfold keysF at hk
  rcases List.mem_append.1 hk with hk | hk
  · by_cases hz : zc = 0
    · rw [if_pos hz] at hk; cases hk
    · rw [if_neg hz] at hk
      simp at hk
      subst hk
      rw [cF_val]
      simp
      omega
  · rcases List.mem_append.1 hk with hk | hk
    · simp only [List.mem_map] at hk
      obtain ⟨p, hp, rfl⟩ := hk
      rw [cF_val]
      simp
      rw [atI_asc aP hp]
      exact nP p hp
    · simp only [List.mem_map] at hk
      obtain ⟨p, hp, rfl⟩ := hk
      rw [cF_val]
      simp
      rw [atI_asc aQ hp]
      exact nQ p hp
end Go.Proofs.Ytoombgjjdkocjaa
