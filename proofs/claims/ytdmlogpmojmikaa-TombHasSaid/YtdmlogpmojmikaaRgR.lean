/- Rows that a region makes and grows, by its slots: each is what is said of it, and no two lie in one block. -/
import Derived.Test.YtdmlogpmojmikaaRgI
import Derived.Laws.AppendOwn
namespace Go.Proofs.Ytdmlogpmojmikaa.Rg
open Go Go.RowKit
set_option linter.unusedVariables false

/-- a slot that holds nothing yet -/
def Und (a : Act) (s : Tmp) : Prop := a.tmps[s]? = some undef
/-- a slot that holds a row that no other slot has taken over -/
def live (kill : Tmp → Option Tmp) (a : Act) (s : Tmp) : Prop := ¬ Und a s ∧ ∀ k, kill s = some k → Und a k
/-- rows that slots hold: each is what is said of it, and no two lie in one block -/
structure Rws (S : List Tmp) (kill : Tmp → Option Tmp) (ow : Tmp → Value → World → Prop) (a : Act) (w : World) : Prop where
  own : ∀ s ∈ S, live kill a s → ∃ v, a.tmps[s]? = some v ∧ ow s v w
  apart : ∀ s ∈ S, ∀ t ∈ S, s ≠ t → live kill a s → live kill a t → ∀ v u g, a.tmps[s]? = some v → a.tmps[t]? = some u → v.ownBlock = some g → u.ownBlock ≠ some g
/-- what is asked of a row's word -/
structure OwOk (ow : Tmp → Value → World → Prop) : Prop where
  below : ∀ {s v w w'}, ow s v w → Below w.heap.size w w' → ow s v w'
  lt : ∀ {s v w g}, ow s v w → v.ownBlock = some g → g < w.heap.size
  kept : ∀ {s v w w' r}, ow s v w → w.grownBy w' r → (∀ g, v.ownBlock = some g → r ≠ some g) → ow s v w'
section
variable {S : List Tmp} {kill : Tmp → Option Tmp} {ow : Tmp → Value → World → Prop}
theorem put_other {a : Act} {r t : Tmp} {v : Value} (h : r ≠ t) : (a.put (some r) v).tmps[t]? = a.tmps[t]? := by simp [Act.put, h]
theorem put_same {a : Act} {r : Tmp} {v u : Value} (h : (a.put (some r) v).tmps[r]? = some u) : u = v := by
  simp [Act.put, Array.getElem?_setIfInBounds] at h
  exact h.2.symm
theorem Rws.keep {a : Act} {w w' : World} {r : Tmp} {v : Value} (h : Rws S kill ow a w) (ok : OwOk ow) (hb : Below w.heap.size w w') (hr : S.contains r = false) (hk : S.all (fun s => !(kill s == some r)) = true) : Rws S kill ow (a.put (some r) v) w' := by
  have hrs : ∀ s ∈ S, r ≠ s := fun s hs e => by
    subst e
    simp at hr
    exact hr hs
  have hks : ∀ s ∈ S, ∀ k, kill s = some k → r ≠ k := fun s hs k hk' e => by
    subst e
    have := List.all_eq_true.1 hk s hs
    simp [hk'] at this
  have hl : ∀ s ∈ S, live kill (a.put (some r) v) s → live kill a s := fun s hs ⟨h1, h2⟩ => ⟨fun hu => h1 ((put_other (hrs s hs)).trans hu), fun k hk' => (put_other (hks s hs k hk')).symm.trans (h2 k hk')⟩
  refine ⟨fun s hs hv => ?_, fun s hs t ht hst h1 h2 x y g hx hy => ?_⟩
  · obtain ⟨u, hu, ho⟩ := h.own s hs (hl s hs hv)
    exact ⟨u, (put_other (hrs s hs)).trans hu, ok.below ho hb⟩
  · rw [put_other (hrs s hs)] at hx
    rw [put_other (hrs t ht)] at hy
    exact h.apart s hs t ht hst (hl s hs h1) (hl t ht h2) x y g hx hy
/-- a new row -/
theorem Rws.add {a : Act} {w w' : World} {r : Tmp} {v : Value} (h : Rws S kill ow a w) (ok : OwOk ow) (hb : Below w.heap.size w w') (hk : S.all (fun s => !(kill s == some r)) = true) (ho : ow r v w') (hn : ∀ g, v.ownBlock = some g → w.heap.size ≤ g) (hu : Und a r) : Rws S kill ow (a.put (some r) v) w' := by
  have hks : ∀ s ∈ S, ∀ k, kill s = some k → r ≠ k := fun s hs k hk' e => by
    subst e
    have := List.all_eq_true.1 hk s hs
    simp [hk'] at this
  have hl : ∀ s ∈ S, r ≠ s → live kill (a.put (some r) v) s → live kill a s := fun s hs hne ⟨h1, h2⟩ => ⟨fun hu => h1 ((put_other hne).trans hu), fun k hk' => (put_other (hks s hs k hk')).symm.trans (h2 k hk')⟩
  have old : ∀ t ∈ S, r ≠ t → live kill (a.put (some r) v) t → ∀ u g, (a.put (some r) v).tmps[t]? = some u → u.ownBlock = some g → g < w.heap.size := fun t ht hne hv u g hu hg => by
    rw [put_other hne] at hu
    obtain ⟨u', hu', ho'⟩ := h.own t ht (hl t ht hne hv)
    rw [hu] at hu'
    injection hu' with e
    subst e
    exact ok.lt ho' hg
  refine ⟨fun s hs hv => ?_, fun s hs t ht hst h1 h2 x y g hx hy hxg hyg => ?_⟩
  · by_cases hsr : r = s
    · subst hsr
      have hsz : r < a.tmps.size := (Array.getElem?_eq_some_iff.1 hu).1
      exact ⟨v, by simp [Act.put, hsz], ho⟩
    · obtain ⟨u, hu, ho'⟩ := h.own s hs (hl s hs hsr hv)
      exact ⟨u, (put_other hsr).trans hu, ok.below ho' hb⟩
  · by_cases hsr : r = s
    · subst hsr
      have := put_same hx
      subst this
      have h3 := hn g hxg
      have h4 := old t ht hst h2 y g hy hyg
      omega
    · by_cases htr : r = t
      · subst htr
        have := put_same hy
        subst this
        have h3 := hn g hyg
        have h4 := old s hs hsr h1 x g hx hxg
        omega
      · rw [put_other hsr] at hx
        rw [put_other htr] at hy
        exact h.apart s hs t ht hst (hl s hs hsr h1) (hl t ht htr h2) x y g hx hy hxg hyg
/-- a row that takes another one's place: in its block, or in a new one -/
theorem Rws.grow {a : Act} {w w' : World} {q r : Tmp} {vq v : Value} (h : Rws S kill ow a w) (ok : OwOk ow) (hq : kill q = some r) (hqs : q ∈ S) (hk : S.all (fun s => s == q || !(kill s == some r)) = true) (hlq : live kill a q) (hvq : a.tmps[q]? = some vq)
    (hg : w.grownBy w' vq.ownBlock) (ho : ow r v w') (hn : ∀ g, v.ownBlock = some g → vq.ownBlock = some g ∨ w.heap.size ≤ g) (hu : Und a r) (hv0 : v ≠ undef) : Rws S kill ow (a.put (some r) v) w' := by
  have hsz : r < a.tmps.size := (Array.getElem?_eq_some_iff.1 hu).1
  have hqr : q ≠ r := fun e => by
    subst e
    exact hlq.1 hu
  have hks : ∀ s ∈ S, s ≠ q → ∀ k, kill s = some k → r ≠ k := fun s hs hsq k hk' e => by
    subst e
    have := List.all_eq_true.1 hk s hs
    simp [hk', hsq] at this
  have dead : ¬ live kill (a.put (some r) v) q := fun ⟨_, h2⟩ => by
    have := h2 r hq
    unfold Und at this
    simp [Act.put, hsz] at this
    exact hv0 this
  have hl : ∀ s ∈ S, r ≠ s → live kill (a.put (some r) v) s → s ≠ q ∧ live kill a s := fun s hs hne hlv => by
    have hsq : s ≠ q := fun e => by
      subst e
      exact dead hlv
    exact ⟨hsq, fun hu' => hlv.1 ((put_other hne).trans hu'), fun k hk' => (put_other (hks s hs hsq k hk')).symm.trans (hlv.2 k hk')⟩
  have old : ∀ t ∈ S, r ≠ t → live kill (a.put (some r) v) t → ∀ u, (a.put (some r) v).tmps[t]? = some u → ow t u w ∧ ∀ g, u.ownBlock = some g → vq.ownBlock ≠ some g := fun t ht hne hv u hu' => by
    rw [put_other hne] at hu'
    obtain ⟨htq, hlt⟩ := hl t ht hne hv
    obtain ⟨u', h1, h2⟩ := h.own t ht hlt
    rw [hu'] at h1
    injection h1 with e
    subst e
    exact ⟨h2, fun g hg' => h.apart t ht q hqs htq hlt hlq u vq g hu' hvq hg'⟩
  refine ⟨fun s hs hv => ?_, fun s hs t ht hst h1 h2 x y g hx hy hxg hyg => ?_⟩
  · by_cases hsr : r = s
    · subst hsr
      exact ⟨v, by simp [Act.put, hsz], ho⟩
    · obtain ⟨hsq, hls⟩ := hl s hs hsr hv
      obtain ⟨u, hu', ho'⟩ := h.own s hs hls
      have hu2 := (put_other (v := v) hsr).trans hu'
      exact ⟨u, hu2, ok.kept ho' hg (old s hs hsr hv u hu2).2⟩
  · have key : ∀ t ∈ S, r ≠ t → live kill (a.put (some r) v) t → ∀ u, (a.put (some r) v).tmps[t]? = some u → ∀ g, v.ownBlock = some g → u.ownBlock = some g → False := fun t ht hne hv u hu' g hvg hug => by
      obtain ⟨o1, o2⟩ := old t ht hne hv u hu'
      rcases hn g hvg with e | e
      · exact o2 g hug e
      · have := ok.lt o1 hug
        omega
    by_cases hsr : r = s
    · subst hsr
      have := put_same hx
      subst this
      exact key t ht hst h2 y hy g hxg hyg
    · by_cases htr : r = t
      · subst htr
        have := put_same hy
        subst this
        exact key s hs hsr h1 x hx g hyg hxg
      · rw [put_other hsr] at hx
        rw [put_other htr] at hy
        exact h.apart s hs t ht hst (hl s hs hsr h1).2 (hl t ht htr h2).2 x y g hx hy hxg hyg
end
/-- rows that are told slot by slot: the element's type and size, how many, the cells -/
structure Sp where
  e : TypeId
  size : Nat
  n : Nat
  xs : List Value
def rowW (B : Nat) (sp : Tmp → Sp) (s : Tmp) (v : Value) (w : World) : Prop := ∃ A c, v = .slice A (sp s).n c ∧ w.ownsRow B (sp s).e (sp s).size v (sp s).n (sp s).xs
theorem rowW_ok (B : Nat) (sp : Tmp → Sp) : OwOk (rowW B sp) where
  below := by
    rintro s v w w' ⟨A, c, h1, h2⟩ hb
    refine ⟨A, c, h1, h2.kept (row := none) ⟨hb.os, hb.tape, hb.output, hb.size, fun k hk _ => hb.block k hk⟩ ?_⟩
    rcases ho : v.ownBlock with _ | g
    · exact .inl rfl
    · exact .inr (by simp)
  lt := by
    rintro s v w g ⟨A, c, h1, h2⟩ hg
    exact (h2.lt g hg).2
  kept := by
    rintro s v w w' r ⟨A, c, h1, h2⟩ hg hr
    refine ⟨A, c, h1, h2.kept (row := r) hg ?_⟩
    rcases ho : v.ownBlock with _ | g
    · exact .inl rfl
    · exact .inr (fun e => hr g ho e.symm)
theorem wp_region_invK_all {P : Program} {ops : Array Oper} {Q : Exit → Act → World → Prop} {id : Nat} {a0 : Act} {W0 : World} (Kp : World → World → Prop) (R : Tmp → Value → World → Prop) (G : Act → World → Prop) (m : Nat) (D : List Tmp) (n : Nat) (mask : List Bool) (hD : dsts (ops.extract 0 m) = D) (hn : a0.tmps.size = n) (hm : P.follows .mixedOrders = true) (hlex : lexOk ops = true) (hdis : distinctB ops = true)
    (htail : tailOk ops m = true) (hmn : ops.size = m)
    (hsz : (dsts ops).all (fun t => decide (t < n)) = true) (hmask : maskOf (ops.extract 0 m) n = mask)
    (kr : ∀ w, Kp w w) (kb : ∀ w w', Below W0.heap.size W0 w → Kp w w' → Below W0.heap.size W0 w')
    (mono : ∀ t ∈ D, ∀ v w w', Below W0.heap.size W0 w → Kp w w' → R t v w → R t v w')
    (hG : G a0 W0.drew)
    (good : ∀ o ∈ ops.toList.take m, GoodK P ops Q m a0 W0 Kp R G o)
    (hdone : ∀ (u : Nat → Value) (w : World), Below W0.heap.size W0 w → (∀ t ∈ D, R t (u t) w) → G ⟨(fillL u mask a0.tmps.toList 0).toArray, a0.defers⟩ w → Q .normal ⟨(fillL u mask a0.tmps.toList 0).toArray, a0.defers⟩ w) :
    (Code.region id ops true).wp P Q a0 W0 := by
  refine wp_region_invK Kp R G m D n mask hD hn hm hlex hdis htail (by omega) hsz hmask kr kb mono hG good fun u w h1 h2 h3 => ?_
  have e : ops.toList.drop m = [] := by rw [← hmn]; simp
  rw [e]
  exact hdone u w h1 h2 h3
end Go.Proofs.Ytdmlogpmojmikaa.Rg
