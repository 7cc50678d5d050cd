/- A region that draws its order, by what is known of each operation's value in whatever world comes: each operation is run once, and no order is walked. Nothing of the program stands here. -/
import Derived.Orders
import Derived.Below
import Derived.WalkKit
namespace Go.Proofs.Ytdmlogpmojmikaa.Rg
open Go Go.RowKit
set_option linter.unusedVariables false

def dstOf (ops : Array Oper) (i : Nat) : Option Tmp := (ops[i]?).bind (·.dst)
/-- the slots that an operation waits for -/
def needs (ops : Array Oper) (o : Oper) : List Tmp := o.after.toList.filterMap fun e => if Region.binds .any e then dstOf ops e.on else none
def dsts (ops : Array Oper) : List Tmp := ops.toList.filterMap (·.dst)
def lexOk (ops : Array Oper) : Bool := (List.range ops.size).all fun i => ((ops[i]?).map fun o => o.after.all fun e => decide (e.on < i)).getD true
def distinctB (ops : Array Oper) : Bool := (List.range ops.size).all fun i => (List.range ops.size).all fun j => (i == j) || (dstOf ops i == none) || !(dstOf ops i == dstOf ops j)
/-- which slots of a frame the region writes -/
def maskOf (ops : Array Oper) (n : Nat) : List Bool := (List.range n).map fun t => (dsts ops).contains t
/-- a frame whose written slots are letters -/
def fillL (u : Nat → Value) : List Bool → List Value → Nat → List Value
  | b :: bs, x :: xs, k => (if b then u k else x) :: fillL u bs xs (k + 1)
  | _, _, _ => []
theorem fillL_cons (u : Nat → Value) (b : Bool) (bs : List Bool) (x : Value) (xs : List Value) (k : Nat) : fillL u (b :: bs) (x :: xs) k = (if b then u k else x) :: fillL u bs xs (k + 1) := rfl
theorem fillL_nil (u : Nat → Value) (k : Nat) : fillL u [] [] k = [] := rfl
theorem fillL_get (u : Nat → Value) : ∀ (bs : List Bool) (xs : List Value) (k j : Nat), bs.length = xs.length → (fillL u bs xs k)[j]? = (xs[j]?).map fun x => if (bs[j]?).getD false then u (k + j) else x
  | [], [], k, j, _ => by simp [fillL]
  | [], x :: xs, k, j, h => by simp at h
  | b :: bs, [], k, j, h => by simp at h
  | b :: bs, x :: xs, k, 0, h => by simp [fillL]
  | b :: bs, x :: xs, k, j + 1, h => by
    rw [fillL_cons, List.getElem?_cons_succ, fillL_get u bs xs (k + 1) j (by simpa using h)]
    simp only [List.getElem?_cons_succ]
    rw [show k + 1 + j = k + (j + 1) by omega]

section
variable {P : Program} {ops : Array Oper} {Q : Exit → Act → World → Prop}

/-- how many have not come up -/
def unl (n : Nat) (listed : Array Bool) : Nat := (List.range n).countP fun j => !listed.getD j true
theorem unl_set {n i : Nat} {listed : Array Bool} (hs : listed.size = n) (hi : listed.getD i true = false) : unl n (listed.setIfInBounds i true) + 1 ≤ unl n listed := by
  have hin : i < n := by
    rcases Nat.lt_or_ge i n with h | h
    · exact h
    · simp [Array.getD, show ¬ i < listed.size by omega] at hi
  unfold unl
  have key : ∀ m, m ≤ n → (List.range m).countP (fun j => !(listed.setIfInBounds i true).getD j true) + (if i < m then 1 else 0) ≤ (List.range m).countP (fun j => !listed.getD j true) := by
    intro m
    induction m with
    | zero => intro _; simp
    | succ m ih =>
      intro hm
      have ih := ih (by omega)
      rw [List.range_succ, List.countP_append, List.countP_append]
      by_cases him : i = m
      · subst him
        have e1 : (listed.setIfInBounds i true).getD i true = true := by
          simp [Array.getD]
        simp only [List.countP_cons, List.countP_nil, e1, hi]
        simp at ih ⊢
        omega
      · have e1 : (listed.setIfInBounds i true).getD m true = listed.getD m true := getD_set_ne true him
        simp only [List.countP_cons, List.countP_nil, e1]
        by_cases hlt : i < m
        · have x1 : (if i < m + 1 then 1 else 0) = 1 := if_pos (by omega)
          have x2 : (if i < m then 1 else 0) = 1 := if_pos hlt
          omega
        · have x1 : (if i < m + 1 then 1 else 0) = 0 := if_neg (by omega)
          have x2 : (if i < m then 1 else 0) = 0 := if_neg hlt
          omega
  have := key n (Nat.le_refl _)
  rw [if_pos hin] at this
  exact this
theorem unl_zero {n : Nat} {listed : Array Bool} (h : unl n listed = 0) (i : Nat) (hi : i < n) : listed.getD i true = true := by
  unfold unl at h
  rw [List.countP_eq_zero] at h
  have := h i (List.mem_range.2 hi)
  simpa using this

theorem wpAny_inv {J : Array Bool → Act → World → Prop}
    (step : ∀ listed a w i, listed.size = ops.size → i ∈ Region.ready .any ops listed → J listed a w → wpOp P ops Q i (fun a' w' => J (listed.setIfInBounds i true) a' w') a w)
    (done : ∀ listed a w, listed.size = ops.size → Region.ready .any ops listed = [] → J listed a w → Q .normal a w) :
    ∀ (fuel : Nat) (listed : Array Bool) (a : Act) (w : World), listed.size = ops.size → unl ops.size listed ≤ fuel → J listed a w → wpAny P .any ops Q fuel listed a w
  | 0, listed, a, w, hs, hf, hJ => by
    have hr : Region.ready .any ops listed = [] := by
      cases h : Region.ready .any ops listed with
      | nil => rfl
      | cons i r =>
        have hi : i ∈ Region.ready .any ops listed := by rw [h]; simp
        obtain ⟨h1, o, ho, _⟩ := mem_ready.1 hi
        have hlt : i < ops.size := (Array.getElem?_eq_some_iff.1 ho).1
        rw [unl_zero (by omega) i hlt] at h1
        cases h1
    exact ⟨hr, done listed a w hs hr hJ⟩
  | fuel + 1, listed, a, w, hs, hf, hJ => by
    refine ⟨fun hr => done listed a w hs hr hJ, fun i hi => ?_⟩
    obtain ⟨h1, _⟩ := mem_ready.1 hi
    have h2 := unl_set hs h1
    exact wpOp_mono (fun a' w' hJ' => wpAny_inv step done fuel _ a' w' (by simp [hs]) (by omega) hJ') (step listed a w i hs hi hJ)

/-- what is known of the frame and of the world while the region runs -/
structure Cx (ops : Array Oper) (a0 : Act) (W0 : World) (a : Act) (w : World) : Prop where
  defs : a.defers = a0.defers
  size : a.tmps.size = a0.tmps.size
  bel : Below W0.heap.size W0 w
  old : ∀ t, t ∉ dsts ops → a.tmps[t]? = a0.tmps[t]?
/-- an operation yields what is said of it, whenever it comes up -/
def Good (P : Program) (ops : Array Oper) (Q : Exit → Act → World → Prop) (a0 : Act) (W0 : World) (R : Tmp → Value → World → Prop) (o : Oper) : Prop :=
  ∀ a w, Cx ops a0 W0 a w → (∀ t ∈ needs ops o, ∃ v, a.tmps[t]? = some v ∧ R t v w) →
    (Region.wanted o (yielded ops a.tmps) = true ∧ ∀ K : Act → World → Prop, (∀ v w', Below w.heap.size w w' → (∀ t, o.dst = some t → R t v w') → K (a.put o.dst v) w') → Oper.wp P o a w K Q) ∨
    (Region.wanted o (yielded ops a.tmps) = false ∧ ∀ t, o.dst = some t → R t undef w)
theorem mem_dsts {i : Nat} {t : Tmp} (h : dstOf ops i = some t) : t ∈ dsts ops := by
  unfold dstOf at h
  cases ho : ops[i]? with
  | none => rw [ho] at h; cases h
  | some o =>
    rw [ho] at h
    exact List.mem_filterMap.2 ⟨o, Array.mem_toList_iff.2 (Array.mem_of_getElem? ho), h⟩
theorem dsts_at {t : Tmp} (h : t ∈ dsts ops) : ∃ i, dstOf ops i = some t := by
  obtain ⟨o, ho, hd⟩ := List.mem_filterMap.1 h
  obtain ⟨i, hi, rfl⟩ := Array.mem_iff_getElem.1 (Array.mem_toList_iff.1 ho)
  exact ⟨i, by unfold dstOf; rw [Array.getElem?_eq_getElem hi]; exact hd⟩
theorem dst_inj (h : distinctB ops = true) {i j : Nat} {t : Tmp} (hi : dstOf ops i = some t) (hj : dstOf ops j = some t) : i = j := by
  have lt : ∀ {k : Nat}, dstOf ops k = some t → k < ops.size := fun {k} hk => by
    unfold dstOf at hk
    cases ho : ops[k]? with
    | none => rw [ho] at hk; cases hk
    | some o => exact (Array.getElem?_eq_some_iff.1 ho).1
  unfold distinctB at h
  have h1 := List.all_eq_true.1 h i (List.mem_range.2 (lt hi))
  have h2 := List.all_eq_true.1 h1 j (List.mem_range.2 (lt hj))
  rw [hi, hj] at h2
  simpa using h2

theorem wp_region_inv {id : Nat} {a0 : Act} {W0 : World} (R : Tmp → Value → World → Prop) (D : List Tmp) (n : Nat) (mask : List Bool) (hD : dsts ops = D) (hn : a0.tmps.size = n) (hm : P.follows .mixedOrders = true) (hlex : lexOk ops = true) (hdis : distinctB ops = true)
    (hsz : (dsts ops).all (fun t => decide (t < n)) = true) (hmask : maskOf ops n = mask)
    (mono : ∀ t ∈ D, ∀ v w w', Below W0.heap.size W0 w → Below w.heap.size w w' → R t v w → R t v w')
    (good : ∀ o ∈ ops.toList, Good P ops Q a0 W0 R o)
    (hdone : ∀ (u : Nat → Value) (w : World), Below W0.heap.size W0 w → (∀ t ∈ D, R t (u t) w) → Q .normal ⟨(fillL u mask a0.tmps.toList 0).toArray, a0.defers⟩ w) :
    (Code.region id ops true).wp P Q a0 W0 := by
  subst hn hD
  have hsz' : ∀ t ∈ dsts ops, t < a0.tmps.size := fun t ht => by
    have := List.all_eq_true.1 hsz t ht
    simpa using this
  refine wp_region_any hm (wpAny_inv (J := fun listed a w => Cx ops a0 W0 a w ∧ ∀ i t, listed.getD i false = true → dstOf ops i = some t → ∃ v, a.tmps[t]? = some v ∧ R t v w) ?_ ?_ ops.size _ a0 _ (by simp) ?_ ?_)
  · intro listed a w i hls hi ⟨cx, hval⟩
    obtain ⟨h1, o, ho, hdeps⟩ := mem_ready.1 hi
    have hmem : o ∈ ops.toList := Array.mem_toList_iff.2 (Array.mem_of_getElem? ho)
    have hdi : dstOf ops i = o.dst := by unfold dstOf; rw [ho]; rfl
    have hgood := good o hmem a w cx (fun t ht => by
      obtain ⟨e, he, hte⟩ := List.mem_filterMap.1 ht
      by_cases hb : Region.binds .any e = true
      · rw [if_pos hb] at hte
        exact hval e.on t (hdeps e (Array.mem_toList_iff.1 he) hb) hte
      · rw [if_neg hb] at hte
        cases hte)
    have hil : i < listed.size := by
      rw [hls]
      exact (Array.getElem?_eq_some_iff.1 ho).1
    have next : ∀ v w', Below w.heap.size w w' → (∀ t, o.dst = some t → R t v w') → Cx ops a0 W0 (a.put o.dst v) w' ∧ ∀ j t, (listed.setIfInBounds i true).getD j false = true → dstOf ops j = some t → ∃ v', (a.put o.dst v).tmps[t]? = some v' ∧ R t v' w' := by
      intro v w' hb hR
      refine ⟨⟨?_, ?_, cx.bel.trans (hb.mono cx.bel.size), fun t ht => ?_⟩, fun j t hj hd => ?_⟩
      · cases o.dst <;> exact cx.defs
      · cases o.dst with
        | none => exact cx.size
        | some d => simpa [Act.put] using cx.size
      · rw [← cx.old t ht]
        cases hod : o.dst with
        | none => rfl
        | some d =>
          have hne : d ≠ t := fun e => ht (by rw [← e]; exact mem_dsts (hdi.trans hod))
          simp [Act.put, hne]
      · by_cases hji : j = i
        · subst hji
          rw [hdi] at hd
          have hlt : t < a.tmps.size := by rw [cx.size]; exact hsz' t (mem_dsts (hdi.trans hd))
          exact ⟨v, by simp [Act.put, hd, hlt], hR t hd⟩
        · rw [getD_set_ne false (Ne.symm hji)] at hj
          obtain ⟨v', hv', hr'⟩ := hval j t hj hd
          refine ⟨v', ?_, mono t (mem_dsts hd) v' w w' cx.bel hb hr'⟩
          cases hod : o.dst with
          | none => exact hv'
          | some d =>
            have hne : d ≠ t := fun e => hji (dst_inj hdis hd (hdi.trans (hod.trans (by rw [e]))))
            simpa [Act.put, hne] using hv'
    unfold wpOp
    simp only [ho]
    rcases hgood with ⟨hw, hk⟩ | ⟨hw, hk⟩
    · rw [if_pos hw]
      exact .inl (hk _ fun v w' hb hR => next v w' hb hR)
    · rw [if_neg (by rw [hw]; simp)]
      exact next undef w (Below.refl _ _) hk
  · intro listed a w hls hr ⟨cx, hval⟩
    have hall : ∀ i, i < ops.size → listed.getD i false = true := by
      intro i
      induction i using Nat.strongRecOn with
      | ind i ih =>
        intro hi
        have ho : ops[i]? = some ops[i] := Array.getElem?_eq_getElem hi
        rcases hb : listed.getD i true with _ | _
        · have hin : i ∈ Region.ready .any ops listed := mem_ready.2 ⟨hb, ops[i], ho, fun e he _ => by
            unfold lexOk at hlex
            have h1 := List.all_eq_true.1 hlex i (List.mem_range.2 hi)
            rw [ho] at h1
            simp only [Option.map_some, Option.getD_some] at h1
            have h2 := Array.all_eq_true'.1 h1 e he
            have h3 : e.on < i := by simpa using h2
            exact ih e.on h3 (by omega)⟩
          rw [hr] at hin
          cases hin
        · have hil : i < listed.size := by omega
          simp [Array.getD, hil] at hb ⊢
          exact hb
    have hv : ∀ t ∈ dsts ops, ∃ v, a.tmps[t]? = some v ∧ R t v w := fun t ht => by
      obtain ⟨i, hi⟩ := dsts_at ht
      refine hval i t (hall i ?_) hi
      unfold dstOf at hi
      cases ho : ops[i]? with
      | none => rw [ho] at hi; cases hi
      | some o => exact (Array.getElem?_eq_some_iff.1 ho).1
    have ha : a = ⟨(fillL (fun t => (a.tmps[t]?).getD undef) mask a0.tmps.toList 0).toArray, a0.defers⟩ := by
      obtain ⟨A, d⟩ := a
      have e1 : d = a0.defers := cx.defs
      subst e1
      congr 1
      have hml : mask.length = a0.tmps.toList.length := by rw [← hmask]; simp [maskOf]
      apply Array.ext_getElem?
      intro t
      have hy : ∀ l : List Value, l.toArray[t]? = l[t]? := fun l => List.getElem?_toArray
      have hz : a0.tmps.toList[t]? = a0.tmps[t]? := Array.getElem?_toList
      refine Eq.trans ?_ (hy _).symm
      rw [fillL_get _ _ _ _ _ hml, hz]
      by_cases ht : t < a0.tmps.size
      · have hmt : mask[t]? = some ((dsts ops).contains t) := by rw [← hmask]; simp [maskOf, ht]
        rw [hmt, Array.getElem?_eq_getElem ht]
        simp only [Option.getD_some, Option.map_some, Nat.zero_add]
        by_cases hd : t ∈ dsts ops
        · obtain ⟨v, hv1, _⟩ := hv t hd
          have : (dsts ops).contains t = true := by simpa using hd
          rw [this, if_pos rfl]
          have hv1' : A[t]? = some v := hv1
          rw [hv1']
          rfl
        · have : (dsts ops).contains t = false := by simpa using hd
          rw [this, if_neg (by simp)]
          have := cx.old t hd
          rw [Array.getElem?_eq_getElem ht] at this
          exact this
      · have h1 : A.size = a0.tmps.size := cx.size
        have x1 : A[t]? = none := Array.getElem?_eq_none (by omega)
        have x2 : a0.tmps[t]? = none := Array.getElem?_eq_none (by omega)
        rw [x1, x2]
        rfl
    rw [ha]
    refine hdone _ w cx.bel fun t ht => ?_
    obtain ⟨v, hv1, hv2⟩ := hv t ht
    rw [hv1]
    exact hv2
  · unfold unl
    refine Nat.le_trans List.countP_le_length ?_
    simp
  · exact ⟨⟨rfl, rfl, (Below.refl _ _).drew, fun _ _ => rfl⟩, fun i t h _ => by
      simp [Array.getD] at h⟩
theorem mem_of {o : Oper} {t : Tmp} (h : (needs ops o).contains t = true) : t ∈ needs ops o := by simpa using h
theorem Cx.at_ {a0 : Act} {W0 : World} {a : Act} {w : World} (h : Cx ops a0 W0 a w) (t : Tmp) (hd : (dsts ops).contains t = false) {v : Value} (hv : a0.tmps[t]? = some v) : a.tmps[t]? = some v := (h.old t (by simpa using hd)).trans hv
theorem good_nil {a0 : Act} {W0 : World} {R : Tmp → Value → World → Prop} : ∀ o ∈ ([] : List Oper), Good P ops Q a0 W0 R o := fun o h => by cases h
theorem good_cons {a0 : Act} {W0 : World} {R : Tmp → Value → World → Prop} {o : Oper} {l : List Oper} (h : Good P ops Q a0 W0 R o) (hl : ∀ o ∈ l, Good P ops Q a0 W0 R o) : ∀ o' ∈ o :: l, Good P ops Q a0 W0 R o' := fun o' ho => by
  rcases List.mem_cons.1 ho with rfl | ho
  · exact h
  · exact hl o' ho
theorem wanted_none {o : Oper} {A : Array Value} (h : o.guard = none) : Region.wanted o (yielded ops A) = true := by
  unfold Region.wanted
  rw [h]
theorem wanted_some {o : Oper} {A : Array Value} {g : Nat} {p b : Bool} {t : Tmp} (h : o.guard = some (g, p)) (ht : dstOf ops g = some t) (hv : A[t]? = some (.bool b)) : Region.wanted o (yielded ops A) = (b == p) := by
  unfold Region.wanted
  rw [h]
  unfold dstOf at ht
  simp only [yielded, ht, Option.bind_some, hv]
  cases b <;> cases p <;> rfl
end
end Go.Proofs.Ytdmlogpmojmikaa.Rg
