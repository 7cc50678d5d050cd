/- As RgI, with whatever word J that is kept on the world, in place of Below. -/
import Derived.Test.YtamhgbkdljggbaaRgI
namespace Go.Proofs.Ytamhgbkdljggbaa.Rg
open Go Go.RowKit
set_option linter.unusedVariables false

structure CxJ (J : World → Prop) (ops : Array Oper) (a0 : Act) (a : Act) (w : World) : Prop where
  defs : a.defers = a0.defers
  size : a.tmps.size = a0.tmps.size
  bel : J w
  old : ∀ t, t ∉ dsts ops → a.tmps[t]? = a0.tmps[t]?
def GoodJ (J : World → Prop) (P : Program) (ops : Array Oper) (Q : Exit → Act → World → Prop) (m : Nat) (a0 : Act) (Kp : World → World → Prop) (R : Tmp → Value → World → Prop) (G : Act → World → Prop) (o : Oper) : Prop :=
  ∀ a w, CxJ J (ops.extract 0 m) a0 a w → G a w → (∀ t, o.dst = some t → a.tmps[t]? = a0.tmps[t]?) → (∀ t ∈ needs ops o, ∃ v, a.tmps[t]? = some v ∧ R t v w) →
    (Region.wanted o (yielded ops a.tmps) = true ∧ ∀ K : Act → World → Prop, (∀ v w', Kp w w' → (∀ t, o.dst = some t → R t v w') → G (a.put o.dst v) w' → K (a.put o.dst v) w') → Oper.wp P o a w K Q) ∨
    (Region.wanted o (yielded ops a.tmps) = false ∧ (∀ t, o.dst = some t → R t undef w) ∧ G (a.put o.dst undef) w)
section
variable {P : Program} {ops : Array Oper} {Q : Exit → Act → World → Prop}
theorem wp_region_invJ {id : Nat} {a0 : Act} {W0 : World} (J : World → Prop) (hJ0 : J W0.drew) (Kp : World → World → Prop) (R : Tmp → Value → World → Prop) (G : Act → World → Prop) (m : Nat) (D : List Tmp) (n : Nat) (mask : List Bool) (hD : dsts (ops.extract 0 m) = D) (hn : a0.tmps.size = n) (hm : P.follows .mixedOrders = true) (hlex : lexOk ops = true) (hdis : distinctB ops = true)
    (htail : tailOk ops m = true) (hmn : m ≤ ops.size)
    (hsz : (dsts ops).all (fun t => decide (t < n)) = true) (hmask : maskOf (ops.extract 0 m) n = mask)
    (kr : ∀ w, Kp w w) (kb : ∀ w w', J w → Kp w w' → J w')
    (mono : ∀ t ∈ D, ∀ v w w', J w → Kp w w' → R t v w → R t v w')
    (hG : G a0 W0.drew)
    (good : ∀ o ∈ ops.toList.take m, GoodJ J P ops Q m a0 Kp R G o)
    (hdone : ∀ (u : Nat → Value) (w : World), J w → (∀ t ∈ D, R t (u t) w) → G ⟨(fillL u mask a0.tmps.toList 0).toArray, a0.defers⟩ w → wpList P ops Q (ops.toList.drop m) ⟨(fillL u mask a0.tmps.toList 0).toArray, a0.defers⟩ w) :
    (Code.region id ops true).wp P Q a0 W0 := by
  subst hn hD
  have hsz' : ∀ t ∈ dsts ops, t < a0.tmps.size := fun t ht => by
    have := List.all_eq_true.1 hsz t ht
    simpa using this
  have hex : ∀ i, i < m → (ops.extract 0 m)[i]? = ops[i]? := fun i hi => by
    rw [Array.getElem?_extract]
    simp only [Nat.zero_add]
    rw [if_pos (by omega)]
  have hdx : ∀ i, i < m → dstOf (ops.extract 0 m) i = dstOf ops i := fun i hi => by unfold dstOf; rw [hex i hi]
  have mem_x : ∀ i t, i < m → dstOf ops i = some t → t ∈ dsts (ops.extract 0 m) := fun i t hi hd => mem_dsts ((hdx i hi).trans hd)
  have x_mem : ∀ t, t ∈ dsts (ops.extract 0 m) → ∃ i, i < m ∧ dstOf ops i = some t := fun t ht => by
    obtain ⟨i, hi⟩ := dsts_at ht
    have him : i < m := by
      unfold dstOf at hi
      cases ho : (ops.extract 0 m)[i]? with
      | none => rw [ho] at hi; cases hi
      | some o =>
        have := (Array.getElem?_eq_some_iff.1 ho).1
        simp at this
        omega
    exact ⟨i, him, (hdx i him).symm.trans hi⟩
  refine wp_region_any hm (wpAny_inv2 (J := fun listed a w => (∀ j, m ≤ j → listed.getD j false = false) ∧ (∀ i o e, listed.getD i false = true → ops[i]? = some o → e ∈ o.after → Region.binds .any e = true → listed.getD e.on false = true) ∧
    CxJ J (ops.extract 0 m) a0 a w ∧ (∀ i t, listed.getD i true = false → dstOf ops i = some t → a.tmps[t]? = a0.tmps[t]?) ∧ G a w ∧ ∀ i t, listed.getD i false = true → dstOf ops i = some t → ∃ v, a.tmps[t]? = some v ∧ R t v w) ?_ ops.size _ a0 _ (by simp) ?_ ?_)
  · intro fuel listed a w hls hf ⟨j1, j2, cx, jn, jg, hval⟩
    by_cases hall : ∀ i, i < m → listed.getD i false = true
    · -- what is left comes in its order
      left
      have hld : ∀ j, listed.getD j false = decide (j < m) := fun j => by
        by_cases h : j < m
        · rw [hall j h, decide_eq_true h]
        · rw [j1 j (by omega), decide_eq_false h]
      have hge := unl_ge hls j1
      refine wpAny_tail hlex htail (ops.size - m) m fuel listed a w (by omega) (Nat.le_refl _) hls (by omega) hld ?_
      have hv : ∀ t ∈ dsts (ops.extract 0 m), ∃ v, a.tmps[t]? = some v ∧ R t v w := fun t ht => by
        obtain ⟨i, him, hi⟩ := x_mem t ht
        exact hval i t (hall i him) hi
      have ha : a = ⟨(fillL (fun t => (a.tmps[t]?).getD undef) mask a0.tmps.toList 0).toArray, a0.defers⟩ := by
        obtain ⟨A, d⟩ := a
        have e1 : d = a0.defers := cx.defs
        subst e1
        congr 1
        have hml : mask.length = a0.tmps.toList.length := by rw [← hmask]; simp [maskOf]
        apply Array.ext_getElem?
        intro t
        have hy : ∀ l : List Value, l.toArray[t]? = l[t]? := fun l => List.getElem?_toArray
        have hz : a0.tmps.toList[t]? = a0.tmps[t]? := Array.getElem?_toList
        refine Eq.trans ?_ (hy _).symm
        rw [fillL_get _ _ _ _ _ hml, hz]
        by_cases ht : t < a0.tmps.size
        · have hmt : mask[t]? = some ((dsts (ops.extract 0 m)).contains t) := by rw [← hmask]; simp [maskOf, ht]
          rw [hmt, Array.getElem?_eq_getElem ht]
          simp only [Option.getD_some, Option.map_some, Nat.zero_add]
          by_cases hd : t ∈ dsts (ops.extract 0 m)
          · obtain ⟨v, hv1, _⟩ := hv t hd
            have : (dsts (ops.extract 0 m)).contains t = true := by simpa using hd
            rw [this, if_pos rfl]
            have hv1' : A[t]? = some v := hv1
            rw [hv1']
            rfl
          · have : (dsts (ops.extract 0 m)).contains t = false := by simpa using hd
            rw [this, if_neg (by simp)]
            have := cx.old t hd
            rw [Array.getElem?_eq_getElem ht] at this
            exact this
        · have h1 : A.size = a0.tmps.size := cx.size
          have x1 : A[t]? = none := Array.getElem?_eq_none (by omega)
          have x2 : a0.tmps[t]? = none := Array.getElem?_eq_none (by omega)
          rw [x1, x2]
          rfl
      have hl : (ops.toList.drop m).length = ops.size - m := by simp
      rw [← hl, wpOps_eq_wpList (ops.toList.drop m) m (fun j => by rw [List.getElem?_drop, Array.getElem?_toList])]
      have hg' := jg
      rw [ha] at hg'
      rw [ha]
      refine hdone _ w cx.bel (fun t ht => ?_) hg'
      obtain ⟨v, hv1, hv2⟩ := hv t ht
      rw [hv1]
      exact hv2
    · right
      -- some of the first ones has not come up: the least of them may
      have hlt_all : ∀ i ∈ Region.ready .any ops listed, i < m := by
        intro i hi
        by_cases him : i < m
        · exact him
        · exfalso
          apply hall
          obtain ⟨h1, o, ho, hdeps⟩ := mem_ready.1 hi
          have hilt : i < ops.size := (Array.getElem?_eq_some_iff.1 ho).1
          intro k hk
          unfold tailOk at htail
          have t1 := List.all_eq_true.1 htail i (List.mem_range.2 hilt)
          rw [show decide (i < m) = false by simp; omega, Bool.false_or] at t1
          have t2 := List.all_eq_true.1 t1 k (List.mem_range.2 (by omega))
          exact ahead_listed (ops := ops) (listed := listed) j2 6 i (fun o2 e2 ho2 he2 hb2 => by
            rw [ho] at ho2
            injection ho2 with ho2
            subst ho2
            exact hdeps e2 he2 hb2) k (by simpa using t2)
      refine ⟨fun hr => absurd ?_ hall, ?_⟩
      · intro i
        induction i using Nat.strongRecOn with
        | ind i ih =>
          intro hi
          have hin : i < ops.size := by omega
          have ho : ops[i]? = some ops[i] := Array.getElem?_eq_getElem hin
          rcases hb : listed.getD i true with _ | _
          · have hmem : i ∈ Region.ready .any ops listed := mem_ready.2 ⟨hb, ops[i], ho, fun e he _ => by
              have h3 := lex_on hlex ho he
              exact ih e.on h3 (by omega)⟩
            rw [hr] at hmem
            cases hmem
          · simp [Array.getD, hls, hin] at hb ⊢
            exact hb
      · intro i hi
        have him := hlt_all i hi
        obtain ⟨h1, o, ho, hdeps⟩ := mem_ready.1 hi
        have hilt : i < ops.size := (Array.getElem?_eq_some_iff.1 ho).1
        have hmem : o ∈ ops.toList.take m := by
          refine List.mem_iff_getElem?.2 ⟨i, ?_⟩
          rw [List.getElem?_take_of_lt him, Array.getElem?_toList]
          exact ho
        have hdi : dstOf ops i = o.dst := by unfold dstOf; rw [ho]; rfl
        have hgood := good o hmem a w cx jg (fun t ht => jn i t h1 (hdi.trans ht)) (fun t ht => by
          obtain ⟨e, he, hte⟩ := List.mem_filterMap.1 ht
          by_cases hb : Region.binds .any e = true
          · rw [if_pos hb] at hte
            exact hval e.on t (hdeps e (Array.mem_toList_iff.1 he) hb) hte
          · rw [if_neg hb] at hte
            cases hte)
        have next : ∀ v w', Kp w w' → (∀ t, o.dst = some t → R t v w') → G (a.put o.dst v) w' →
            (∀ j, m ≤ j → (listed.setIfInBounds i true).getD j false = false) ∧ (∀ i' o e, (listed.setIfInBounds i true).getD i' false = true → ops[i']? = some o → e ∈ o.after → Region.binds .any e = true → (listed.setIfInBounds i true).getD e.on false = true) ∧
            CxJ J (ops.extract 0 m) a0 (a.put o.dst v) w' ∧ (∀ i' t, (listed.setIfInBounds i true).getD i' true = false → dstOf ops i' = some t → (a.put o.dst v).tmps[t]? = a0.tmps[t]?) ∧ G (a.put o.dst v) w' ∧ ∀ j t, (listed.setIfInBounds i true).getD j false = true → dstOf ops j = some t → ∃ v', (a.put o.dst v).tmps[t]? = some v' ∧ R t v' w' := by
          intro v w' hb hR hGn
          have up : ∀ j, listed.getD j false = true → (listed.setIfInBounds i true).getD j false = true := fun j hj => by
            by_cases hji : j = i
            · subst hji
              simp [Array.getD, hls, hilt]
            · rw [getD_set_ne false (Ne.symm hji)]
              exact hj
          refine ⟨fun j hj => ?_, fun i' o' e hi' ho' he' hb' => ?_, ⟨?_, ?_, kb w w' cx.bel hb, fun t ht => ?_⟩, fun j t hj hd => ?_, hGn, fun j t hj hd => ?_⟩
          · rw [getD_set_ne false (by omega)]
            exact j1 j hj
          · by_cases h : i' = i
            · subst h
              rw [ho] at ho'
              injection ho' with ho'
              subst ho'
              exact up _ (hdeps e he' hb')
            · rw [getD_set_ne false (Ne.symm h)] at hi'
              exact up _ (j2 i' o' e hi' ho' he' hb')
          · cases o.dst <;> exact cx.defs
          · cases o.dst with
            | none => exact cx.size
            | some d => simpa [Act.put] using cx.size
          · rw [← cx.old t ht]
            cases hod : o.dst with
            | none => rfl
            | some d =>
              have hne : d ≠ t := fun e => ht (by rw [← e]; exact mem_x i d him (hdi.trans hod))
              simp [Act.put, hne]
          · have hji : j ≠ i := fun e => by
              subst e
              simp [Array.getD, hls, hilt] at hj
            rw [getD_set_ne true (Ne.symm hji)] at hj
            rw [← jn j t hj hd]
            cases hod : o.dst with
            | none => rfl
            | some d =>
              have hne : d ≠ t := fun e => hji (dst_inj hdis hd (hdi.trans (hod.trans (by rw [e]))))
              simp [Act.put, hne]
          · by_cases hji : j = i
            · subst hji
              rw [hdi] at hd
              have hlt : t < a.tmps.size := by rw [cx.size]; exact hsz' t (mem_dsts (hdi.trans hd))
              exact ⟨v, by simp [Act.put, hd, hlt], hR t hd⟩
            · rw [getD_set_ne false (Ne.symm hji)] at hj
              obtain ⟨v', hv', hr'⟩ := hval j t hj hd
              have hjm : j < m := by
                by_cases h : j < m
                · exact h
                · rw [j1 j (by omega)] at hj
                  cases hj
              refine ⟨v', ?_, mono t (mem_x j t hjm hd) v' w w' cx.bel hb hr'⟩
              cases hod : o.dst with
              | none => exact hv'
              | some d =>
                have hne : d ≠ t := fun e => hji (dst_inj hdis hd (hdi.trans (hod.trans (by rw [e]))))
                simpa [Act.put, hne] using hv'
        unfold wpOp
        simp only [ho]
        rcases hgood with ⟨hw, hk⟩ | ⟨hw, hk, hkg⟩
        · rw [if_pos hw]
          exact .inl (hk _ fun v w' hb hR hGn => next v w' hb hR hGn)
        · rw [if_neg (by rw [hw]; simp)]
          exact next undef w (kr w) hk hkg
  · unfold unl
    refine Nat.le_trans List.countP_le_length ?_
    simp
  · refine ⟨fun j _ => ?_, fun i o e hi => ?_, ⟨rfl, rfl, hJ0, fun _ _ => rfl⟩, fun _ _ _ _ => rfl, hG, fun i t h _ => ?_⟩
    · simp [Array.getD]
    · simp [Array.getD] at hi
    · simp [Array.getD] at h
theorem CxJ.at_ {J : World → Prop} {a0 : Act} {a : Act} {w : World} (h : CxJ J ops a0 a w) (t : Tmp) (hd : (dsts ops).contains t = false) {v : Value} (hv : a0.tmps[t]? = some v) : a.tmps[t]? = some v := (h.old t (by simpa using hd)).trans hv
theorem goodJ_nil {J : World → Prop} {m : Nat} {a0 : Act} {Kp : World → World → Prop} {R : Tmp → Value → World → Prop} {G : Act → World → Prop} : ∀ o ∈ ([] : List Oper), GoodJ J P ops Q m a0 Kp R G o := fun o h => by cases h
theorem goodJ_cons {J : World → Prop} {m : Nat} {a0 : Act} {Kp : World → World → Prop} {R : Tmp → Value → World → Prop} {G : Act → World → Prop} {o : Oper} {l : List Oper} (h : GoodJ J P ops Q m a0 Kp R G o) (hl : ∀ o ∈ l, GoodJ J P ops Q m a0 Kp R G o) : ∀ o' ∈ o :: l, GoodJ J P ops Q m a0 Kp R G o' := fun o' ho => by
  rcases List.mem_cons.1 ho with rfl | ho
  · exact h
  · exact hl o' ho
end
end Go.Proofs.Ytamhgbkdljggbaa.Rg
