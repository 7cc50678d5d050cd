/- The document's Make, by plain lists: the least name first, again and again. -/
import Derived.Test.YtnnfoagdgoionabLbKm
namespace Go.Proofs.Ytnnfoagdgoionab
open Go.RowKit
set_option linter.unusedVariables false

def sel : List Bool → List Lab → List Lab
  | u :: us, p :: ps => if u = true then p :: sel us ps else sel us ps
  | [], _ => []
  | _ :: _, [] => []
theorem sel_set : ∀ (U : List Bool) (l : List Lab) (i : Nat) (p : Lab), U[i]? = some false → l[i]? = some p → (sel (U.set i true) l).Perm (p :: sel U l)
  | [], l, i, p, h, _ => by simp at h
  | u :: us, [], i, p, _, h => by simp at h
  | u :: us, q :: ps, 0, p, h, hp => by
    simp at h hp
    subst h hp
    simp [sel]
  | u :: us, q :: ps, i + 1, p, h, hp => by
    have ih := sel_set us ps i p (by simpa using h) (by simpa using hp)
    rw [List.set_cons_succ]
    unfold sel
    split
    · exact (List.Perm.cons q ih).trans (List.Perm.swap p q _)
    · exact ih
theorem sel_end : ∀ (U : List Bool) (l : List Lab), U.length = l.length → (∀ (i : Nat) (p : Lab) (u : Bool), l[i]? = some p → U[i]? = some u → u = hasV p) → sel U l = l.filter hasV
  | [], [], _, _ => rfl
  | [], _ :: _, h, _ => by simp at h
  | _ :: _, [], h, _ => by simp at h
  | u :: us, p :: ps, h, hh => by
    have h0 := hh 0 p u rfl rfl
    have ih := sel_end us ps (by simpa using h) (fun i q v hq hv => hh (i + 1) q v (by simpa using hq) (by simpa using hv))
    unfold sel
    rw [List.filter_cons, ← h0, ih]
theorem sel_none : ∀ (n : Nat) (l : List Lab), sel (List.replicate n false) l = []
  | 0, l => by simp [sel]
  | n + 1, [] => by simp [List.replicate_succ, sel]
  | n + 1, p :: ps => by rw [List.replicate_succ, sel, sel_none n ps]; simp
def Cand (U : List Bool) (l : List Lab) (i : Nat) (p : Lab) : Prop := U[i]? = some false ∧ l[i]? = some p ∧ hasV p = true
def NSorted (O : List Lab) : Prop := O.Pairwise fun a b => ¬ ltS b.1 a.1
structure SInv (U : List Bool) (l O : List Lab) : Prop where
  len : U.length = l.length
  perm : O.Perm (sel U l)
  used : ∀ (i : Nat) (p : Lab), U[i]? = some true → l[i]? = some p → hasV p = true
  srt : NSorted O
  hi : ∀ p ∈ O, ∀ i q, Cand U l i q → ¬ ltS q.1 p.1
theorem sinv_zero (l : List Lab) : SInv (List.replicate l.length false) l [] where
  len := by simp
  perm := by rw [sel_none]
  used i p h := by
    have := List.getElem?_replicate (a := false) (n := l.length) (i := i)
    rw [h] at this
    split at this
    · cases this
    · cases this
  srt := List.Pairwise.nil
  hi p hp := by simp at hp
/-- the least of the labels that are left, among the first k -/
def Least (U : List Bool) (l : List Lab) (k b : Nat) : Prop := b < k ∧ ∃ p, Cand U l b p ∧ ∀ i q, i < k → Cand U l i q → ¬ ltS q.1 p.1
def NoneTill (U : List Bool) (l : List Lab) (k : Nat) : Prop := ∀ i q, i < k → ¬ Cand U l i q
theorem sinv_next {U : List Bool} {l O : List Lab} {b : Nat} {p : Lab} (h : SInv U l O) (hp : l[b]? = some p) (hb : Least U l l.length b) : SInv (U.set b true) l (O ++ [p]) := by
  obtain ⟨hbl, p', hc, hmin⟩ := hb
  obtain rfl : p' = p := by
    have := hc.2.1
    rw [hp] at this
    injection this with this
    exact this.symm
  refine ⟨by rw [List.length_set]; exact h.len, ?_, ?_, ?_, ?_⟩
  · refine List.perm_append_comm.trans ?_
    exact (List.Perm.cons p' h.perm).trans (sel_set U l b p' hc.1 hp).symm
  · intro i q hi hq
    by_cases e : i = b
    · subst e
      rw [hp] at hq
      injection hq with hq
      rw [← hq]; exact hc.2.2
    · rw [List.getElem?_set_ne (fun e' => e e'.symm)] at hi
      exact h.used i q hi hq
  · unfold NSorted
    rw [List.pairwise_append]
    refine ⟨h.srt, List.pairwise_singleton _ _, fun x hx y hy => ?_⟩
    rw [List.mem_singleton.1 hy]
    exact h.hi x hx b p' hc
  · intro x hx i q hq
    have hq' : Cand U l i q := by
      refine ⟨?_, hq.2⟩
      have h1 := hq.1
      by_cases e : b = i
      · subst e
        rw [List.getElem?_set_self (by rw [h.len]; exact hbl)] at h1
        cases h1
      · rwa [List.getElem?_set_ne e] at h1
    rcases List.mem_append.1 hx with hx | hx
    · exact h.hi x hx i q hq'
    · rw [List.mem_singleton.1 hx]
      exact hmin i q (List.getElem?_eq_some_iff.1 hq'.2.1).1 hq'
theorem sinv_end {U : List Bool} {l O : List Lab} (h : SInv U l O) (hn : NoneTill U l l.length) : O.Perm (l.filter hasV) ∧ NSorted O := by
  refine ⟨h.perm.trans ?_, h.srt⟩
  rw [sel_end U l h.len (fun i p u hp hu => ?_)]
  cases u with
  | true => exact (h.used i p hu hp).symm
  | false =>
    cases hv : hasV p with
    | false => rfl
    | true => exact absurd ⟨hu, hp, hv⟩ (hn i p (List.getElem?_eq_some_iff.1 hp).1)
theorem none_next {U : List Bool} {l : List Lab} {k : Nat} (h : NoneTill U l k) (hk : ∀ q, ¬ Cand U l k q) : NoneTill U l (k + 1) := by
  intro i q hi hq
  by_cases e : i = k
  · subst e; exact hk q hq
  · exact h i q (by omega) hq
theorem least_first {U : List Bool} {l : List Lab} {k : Nat} {p : Lab} (h : NoneTill U l k) (hk : Cand U l k p) : Least U l (k + 1) k := by
  refine ⟨by omega, p, hk, fun i q hi hq => ?_⟩
  by_cases e : i = k
  · subst e
    have := hq.2.1
    rw [hk.2.1] at this
    injection this with this
    rw [this]; exact ltS_irr _
  · exact absurd hq (h i q (by omega))
theorem least_keep {U : List Bool} {l : List Lab} {k b : Nat} {pb : Lab} (h : Least U l k b) (hb : l[b]? = some pb) (hk : ∀ q, Cand U l k q → ¬ ltS q.1 pb.1) : Least U l (k + 1) b := by
  obtain ⟨h1, p, hc, hm⟩ := h
  obtain rfl : p = pb := by
    have := hc.2.1
    rw [hb] at this
    injection this with this
    exact this.symm
  refine ⟨by omega, p, hc, fun i q hi hq => ?_⟩
  by_cases e : i = k
  · subst e; exact hk q hq
  · exact hm i q (by omega) hq
theorem least_new {U : List Bool} {l : List Lab} {k b : Nat} {pb p : Lab} (h : Least U l k b) (hb : l[b]? = some pb) (hk : Cand U l k p) (hl : ltS p.1 pb.1) : Least U l (k + 1) k := by
  obtain ⟨h1, p', hc, hm⟩ := h
  obtain rfl : p' = pb := by
    have := hc.2.1
    rw [hb] at this
    injection this with this
    exact this.symm
  refine ⟨by omega, p, hk, fun i q hi hq => ?_⟩
  by_cases e : i = k
  · subst e
    have := hq.2.1
    rw [hk.2.1] at this
    injection this with this
    rw [this]; exact ltS_irr _
  · intro hlt
    exact hm i q (by omega) hq (ltS_trans hlt hl)
/-- labels that may be stand by rising names, all of them -/
theorem good_pairs {l : List Lab} (h : Good l) : l.Pairwise fun a b => ltS a.1 b.1 := by
  have key : ∀ (j i : Nat) (hi : i < j) (hj : j < l.length), ltS (l[i]'(by omega)).1 l[j].1 := by
    intro j
    induction j with
    | zero => intro i hi; omega
    | succ j ih =>
      intro i hi hj
      have h1 := (h (j + 1) l[j + 1] (List.getElem?_eq_getElem hj)).2 (l[j]'(by omega)) (by omega) (by rw [Nat.add_sub_cancel, List.getElem?_eq_getElem (by omega)])
      by_cases e : i = j
      · subst e; exact h1
      · exact ltS_trans (ih i (by omega) (by omega)) h1
  exact List.pairwise_iff_getElem.2 fun i j hi hj hij => key j i hij hj
theorem names_apart {Y O : List Lab} (hY : Y.Pairwise fun a b => ltS a.1 b.1) (hp : O.Perm Y) : O.Pairwise fun a b => a.1 ≠ b.1 := by
  have h1 : (Y.map (·.1)).Nodup := by
    unfold List.Nodup
    rw [List.pairwise_map]
    refine hY.imp fun {a b} h e => ?_
    rw [e] at h
    exact ltS_irr _ h
  have h2 : (O.map (·.1)).Nodup := (hp.map (·.1)).nodup_iff.2 h1
  unfold List.Nodup at h2
  rwa [List.pairwise_map] at h2
theorem sorted_of_names {O : List Lab} (h1 : NSorted O) (h2 : O.Pairwise fun a b => a.1 ≠ b.1) : Sorted O := by
  refine (h1.and h2).imp fun {a b} ⟨h, hne⟩ hc => ?_
  rcases (cmpP_lt b a).1 hc with e | ⟨e, _⟩
  · exact h (lt_data.2 e)
  · exact hne e.symm
theorem sorted_of_good {O : List Lab} (h : Good O) : Sorted O := by
  refine (good_pairs h).imp fun {a b} h hc => ?_
  rcases (cmpP_lt b a).1 hc with e | ⟨e, _⟩
  · exact ltS_irr _ (ltS_trans h (lt_data.2 e))
  · rw [e] at h; exact ltS_irr _ h
theorem chk_same {X Y O : List Lab} (hY : Y.Perm X) (sY : Sorted Y) (hO : O.Perm X) (sO : NSorted O) : chk O = chk Y ∧ (chk Y = 0 → O = Y) := by
  have hp : O.Perm Y := hO.trans hY.symm
  have hl := hp.length_eq
  by_cases h16 : 16 < Y.length
  · rw [chk_9 h16, chk_9 (by omega)]
    exact ⟨rfl, fun h => absurd h (by omega)⟩
  · by_cases hg : Good Y ∨ Good O
    · have e : O = Y := by
        rcases hg with hg | hg
        · exact srt_unique O Y hp (sorted_of_names sO (names_apart (good_pairs hg) hp)) sY
        · exact srt_unique O Y hp (sorted_of_good hg) sY
      exact ⟨by rw [e], fun _ => e⟩
    · have h1 : ¬ Good Y := fun h => hg (.inl h)
      have h2 : ¬ Good O := fun h => hg (.inr h)
      rw [chk_26 (by omega) h1, chk_26 (by omega) h2]
      exact ⟨rfl, fun h => absurd h (by omega)⟩
end Go.Proofs.Ytnnfoagdgoionab
