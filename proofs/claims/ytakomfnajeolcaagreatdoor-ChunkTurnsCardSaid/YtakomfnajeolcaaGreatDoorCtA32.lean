import Derived.Test.YtakomfnajeolcaaGreatDoorCtA31
import Derived.Orders
set_option linter.unusedVariables false
/- A region that draws its order, by what is known of each operation's value in whatever world comes: each operation is run once, and no order is walked. Nothing of the program stands here. -/
namespace Go.Proofs.YtakomfnajeolcaaGreatDoor.Rg
open Go Go.RowKit
set_option linter.unusedVariables false

def dstOf (ops : Array Oper) (i : Nat) : Option Tmp := (ops[i]?).bind (·.dst)
/-- the slots that an operation waits for -/
def needs (ops : Array Oper) (o : Oper) : List Tmp := o.after.toList.filterMap fun e => if Region.binds .any e then dstOf ops e.on else none
def dsts (ops : Array Oper) : List Tmp := ops.toList.filterMap (·.dst)
def lexOk (ops : Array Oper) : Bool := (List.range ops.size).all fun i => ((ops[i]?).map fun o => o.after.all fun e => decide (e.on < i)).getD true
def distinctB (ops : Array Oper) : Bool := (List.range ops.size).all fun i => (List.range ops.size).all fun j => (i == j) || (dstOf ops i == none) || !(dstOf ops i == dstOf ops j)
/-- which slots of a frame the region writes -/
def maskOf (ops : Array Oper) (n : Nat) : List Bool := (List.range n).map fun t => (dsts ops).contains t
/-- a frame whose written slots are letters -/
def fillL (u : Nat → Value) : List Bool → List Value → Nat → List Value
  | b :: bs, x :: xs, k => (if b then u k else x) :: fillL u bs xs (k + 1)
  | _, _, _ => []
theorem fillL_cons (u : Nat → Value) (b : Bool) (bs : List Bool) (x : Value) (xs : List Value) (k : Nat) : fillL u (b :: bs) (x :: xs) k = (if b then u k else x) :: fillL u bs xs (k + 1) := rfl
theorem fillL_nil (u : Nat → Value) (k : Nat) : fillL u [] [] k = [] := rfl
theorem fillL_get (u : Nat → Value) : ∀ (bs : List Bool) (xs : List Value) (k j : Nat), bs.length = xs.length → (fillL u bs xs k)[j]? = (xs[j]?).map fun x => if (bs[j]?).getD false then u (k + j) else x
  | [], [], k, j, _ => by simp [fillL]
  | [], x :: xs, k, j, h => by simp at h
  | b :: bs, [], k, j, h => by simp at h
  | b :: bs, x :: xs, k, 0, h => by simp [fillL]
  | b :: bs, x :: xs, k, j + 1, h => by
    rw [fillL_cons, List.getElem?_cons_succ, fillL_get u bs xs (k + 1) j (by simpa using h)]
    simp only [List.getElem?_cons_succ]
    rw [show k + 1 + j = k + (j + 1) by omega]

section
variable {P : Program} {ops : Array Oper} {Q : Exit → Act → World → Prop}

/-- how many have not come up -/
def unl (n : Nat) (listed : Array Bool) : Nat := (List.range n).countP fun j => !listed.getD j true
theorem unl_set {n i : Nat} {listed : Array Bool} (hs : listed.size = n) (hi : listed.getD i true = false) : unl n (listed.setIfInBounds i true) + 1 ≤ unl n listed := by
  have hin : i < n := by
    rcases Nat.lt_or_ge i n with h | h
    · exact h
    · simp [Array.getD, show ¬ i < listed.size by omega] at hi
  unfold unl
  have key : ∀ m, m ≤ n → (List.range m).countP (fun j => !(listed.setIfInBounds i true).getD j true) + (if i < m then 1 else 0) ≤ (List.range m).countP (fun j => !listed.getD j true) := by
    intro m
    induction m with
    | zero => intro _; simp
    | succ m ih =>
      intro hm
      have ih := ih (by omega)
      rw [List.range_succ, List.countP_append, List.countP_append]
      by_cases him : i = m
      · subst him
        have e1 : (listed.setIfInBounds i true).getD i true = true := by
          simp [Array.getD]
        simp only [List.countP_cons, List.countP_nil, e1, hi]
        simp at ih ⊢
        omega
      · have e1 : (listed.setIfInBounds i true).getD m true = listed.getD m true := getD_set_ne true him
        simp only [List.countP_cons, List.countP_nil, e1]
        by_cases hlt : i < m
        · have x1 : (if i < m + 1 then 1 else 0) = 1 := if_pos (by omega)
          have x2 : (if i < m then 1 else 0) = 1 := if_pos hlt
          omega
        · have x1 : (if i < m + 1 then 1 else 0) = 0 := if_neg (by omega)
          have x2 : (if i < m then 1 else 0) = 0 := if_neg hlt
          omega
  have := key n (Nat.le_refl _)
  rw [if_pos hin] at this
  exact this
theorem unl_zero {n : Nat} {listed : Array Bool} (h : unl n listed = 0) (i : Nat) (hi : i < n) : listed.getD i true = true := by
  unfold unl at h
  rw [List.countP_eq_zero] at h
  have := h i (List.mem_range.2 hi)
  simpa using this

theorem wpAny_inv {J : Array Bool → Act → World → Prop}
    (step : ∀ listed a w i, listed.size = ops.size → i ∈ Region.ready .any ops listed → J listed a w → wpOp P ops Q i (fun a' w' => J (listed.setIfInBounds i true) a' w') a w)
    (done : ∀ listed a w, listed.size = ops.size → Region.ready .any ops listed = [] → J listed a w → Q .normal a w) :
    ∀ (fuel : Nat) (listed : Array Bool) (a : Act) (w : World), listed.size = ops.size → unl ops.size listed ≤ fuel → J listed a w → wpAny P .any ops Q fuel listed a w
  | 0, listed, a, w, hs, hf, hJ => by
    have hr : Region.ready .any ops listed = [] := by
      cases h : Region.ready .any ops listed with
      | nil => rfl
      | cons i r =>
        have hi : i ∈ Region.ready .any ops listed := by rw [h]; simp
        obtain ⟨h1, o, ho, _⟩ := mem_ready.1 hi
        have hlt : i < ops.size := (Array.getElem?_eq_some_iff.1 ho).1
        rw [unl_zero (by omega) i hlt] at h1
        cases h1
    exact ⟨hr, done listed a w hs hr hJ⟩
  | fuel + 1, listed, a, w, hs, hf, hJ => by
    refine ⟨fun hr => done listed a w hs hr hJ, fun i hi => ?_⟩
    obtain ⟨h1, _⟩ := mem_ready.1 hi
    have h2 := unl_set hs h1
    exact wpOp_mono (fun a' w' hJ' => wpAny_inv step done fuel _ a' w' (by simp [hs]) (by omega) hJ') (step listed a w i hs hi hJ)

/-- what is known of the frame and of the world while the region runs -/
structure Cx (ops : Array Oper) (a0 : Act) (W0 : World) (a : Act) (w : World) : Prop where
  defs : a.defers = a0.defers
  size : a.tmps.size = a0.tmps.size
  bel : Below W0.heap.size W0 w
  old : ∀ t, t ∉ dsts ops → a.tmps[t]? = a0.tmps[t]?
/-- an operation yields what is said of it, whenever it comes up -/
def Good (P : Program) (ops : Array Oper) (Q : Exit → Act → World → Prop) (a0 : Act) (W0 : World) (R : Tmp → Value → World → Prop) (o : Oper) : Prop :=
  ∀ a w, Cx ops a0 W0 a w → (∀ t ∈ needs ops o, ∃ v, a.tmps[t]? = some v ∧ R t v w) →
    (Region.wanted o (yielded ops a.tmps) = true ∧ ∀ K : Act → World → Prop, (∀ v w', Below w.heap.size w w' → (∀ t, o.dst = some t → R t v w') → K (a.put o.dst v) w') → Oper.wp P o a w K Q) ∨
    (Region.wanted o (yielded ops a.tmps) = false ∧ ∀ t, o.dst = some t → R t undef w)
/-- the same, where a word on the whole frame is kept -/
def GoodG (P : Program) (ops : Array Oper) (Q : Exit → Act → World → Prop) (m : Nat) (a0 : Act) (W0 : World) (R : Tmp → Value → World → Prop) (G : Act → World → Prop) (o : Oper) : Prop :=
  ∀ a w, Cx (ops.extract 0 m) a0 W0 a w → G a w → (∀ t ∈ needs ops o, ∃ v, a.tmps[t]? = some v ∧ R t v w) →
    (Region.wanted o (yielded ops a.tmps) = true ∧ ∀ K : Act → World → Prop, (∀ v w', Below w.heap.size w w' → (∀ t, o.dst = some t → R t v w') → G (a.put o.dst v) w' → K (a.put o.dst v) w') → Oper.wp P o a w K Q) ∨
    (Region.wanted o (yielded ops a.tmps) = false ∧ (∀ t, o.dst = some t → R t undef w) ∧ G (a.put o.dst undef) w)
theorem mem_dsts {i : Nat} {t : Tmp} (h : dstOf ops i = some t) : t ∈ dsts ops := by
  unfold dstOf at h
  cases ho : ops[i]? with
  | none => rw [ho] at h; cases h
  | some o =>
    rw [ho] at h
    exact List.mem_filterMap.2 ⟨o, Array.mem_toList_iff.2 (Array.mem_of_getElem? ho), h⟩
theorem dsts_at {t : Tmp} (h : t ∈ dsts ops) : ∃ i, dstOf ops i = some t := by
  obtain ⟨o, ho, hd⟩ := List.mem_filterMap.1 h
  obtain ⟨i, hi, rfl⟩ := Array.mem_iff_getElem.1 (Array.mem_toList_iff.1 ho)
  exact ⟨i, by unfold dstOf; rw [Array.getElem?_eq_getElem hi]; exact hd⟩
theorem dst_inj (h : distinctB ops = true) {i j : Nat} {t : Tmp} (hi : dstOf ops i = some t) (hj : dstOf ops j = some t) : i = j := by
  have lt : ∀ {k : Nat}, dstOf ops k = some t → k < ops.size := fun {k} hk => by
    unfold dstOf at hk
    cases ho : ops[k]? with
    | none => rw [ho] at hk; cases hk
    | some o => exact (Array.getElem?_eq_some_iff.1 ho).1
  unfold distinctB at h
  have h1 := List.all_eq_true.1 h i (List.mem_range.2 (lt hi))
  have h2 := List.all_eq_true.1 h1 j (List.mem_range.2 (lt hj))
  rw [hi, hj] at h2
  simpa using h2

theorem wp_region_inv {id : Nat} {a0 : Act} {W0 : World} (R : Tmp → Value → World → Prop) (D : List Tmp) (n : Nat) (mask : List Bool) (hD : dsts ops = D) (hn : a0.tmps.size = n) (hm : P.follows .mixedOrders = true) (hlex : lexOk ops = true) (hdis : distinctB ops = true)
    (hsz : (dsts ops).all (fun t => decide (t < n)) = true) (hmask : maskOf ops n = mask)
    (mono : ∀ t ∈ D, ∀ v w w', Below W0.heap.size W0 w → Below w.heap.size w w' → R t v w → R t v w')
    (good : ∀ o ∈ ops.toList, Good P ops Q a0 W0 R o)
    (hdone : ∀ (u : Nat → Value) (w : World), Below W0.heap.size W0 w → (∀ t ∈ D, R t (u t) w) → Q .normal ⟨(fillL u mask a0.tmps.toList 0).toArray, a0.defers⟩ w) :
    (Code.region id ops true).wp P Q a0 W0 := by
  subst hn hD
  have hsz' : ∀ t ∈ dsts ops, t < a0.tmps.size := fun t ht => by
    have := List.all_eq_true.1 hsz t ht
    simpa using this
  refine wp_region_any hm (wpAny_inv (J := fun listed a w => Cx ops a0 W0 a w ∧ ∀ i t, listed.getD i false = true → dstOf ops i = some t → ∃ v, a.tmps[t]? = some v ∧ R t v w) ?_ ?_ ops.size _ a0 _ (by simp) ?_ ?_)
  · intro listed a w i hls hi ⟨cx, hval⟩
    obtain ⟨h1, o, ho, hdeps⟩ := mem_ready.1 hi
    have hmem : o ∈ ops.toList := Array.mem_toList_iff.2 (Array.mem_of_getElem? ho)
    have hdi : dstOf ops i = o.dst := by unfold dstOf; rw [ho]; rfl
    have hgood := good o hmem a w cx (fun t ht => by
      obtain ⟨e, he, hte⟩ := List.mem_filterMap.1 ht
      by_cases hb : Region.binds .any e = true
      · rw [if_pos hb] at hte
        exact hval e.on t (hdeps e (Array.mem_toList_iff.1 he) hb) hte
      · rw [if_neg hb] at hte
        cases hte)
    have hil : i < listed.size := by
      rw [hls]
      exact (Array.getElem?_eq_some_iff.1 ho).1
    have next : ∀ v w', Below w.heap.size w w' → (∀ t, o.dst = some t → R t v w') → Cx ops a0 W0 (a.put o.dst v) w' ∧ ∀ j t, (listed.setIfInBounds i true).getD j false = true → dstOf ops j = some t → ∃ v', (a.put o.dst v).tmps[t]? = some v' ∧ R t v' w' := by
      intro v w' hb hR
      refine ⟨⟨?_, ?_, cx.bel.trans (hb.mono cx.bel.size), fun t ht => ?_⟩, fun j t hj hd => ?_⟩
      · cases o.dst <;> exact cx.defs
      · cases o.dst with
        | none => exact cx.size
        | some d => simpa [Act.put] using cx.size
      · rw [← cx.old t ht]
        cases hod : o.dst with
        | none => rfl
        | some d =>
          have hne : d ≠ t := fun e => ht (by rw [← e]; exact mem_dsts (hdi.trans hod))
          simp [Act.put, hne]
      · by_cases hji : j = i
        · subst hji
          rw [hdi] at hd
          have hlt : t < a.tmps.size := by rw [cx.size]; exact hsz' t (mem_dsts (hdi.trans hd))
          exact ⟨v, by simp [Act.put, hd, hlt], hR t hd⟩
        · rw [getD_set_ne false (Ne.symm hji)] at hj
          obtain ⟨v', hv', hr'⟩ := hval j t hj hd
          refine ⟨v', ?_, mono t (mem_dsts hd) v' w w' cx.bel hb hr'⟩
          cases hod : o.dst with
          | none => exact hv'
          | some d =>
            have hne : d ≠ t := fun e => hji (dst_inj hdis hd (hdi.trans (hod.trans (by rw [e]))))
            simpa [Act.put, hne] using hv'
    unfold wpOp
    simp only [ho]
    rcases hgood with ⟨hw, hk⟩ | ⟨hw, hk⟩
    · rw [if_pos hw]
      exact .inl (hk _ fun v w' hb hR => next v w' hb hR)
    · rw [if_neg (by rw [hw]; simp)]
      exact next undef w (Below.refl _ _) hk
  · intro listed a w hls hr ⟨cx, hval⟩
    have hall : ∀ i, i < ops.size → listed.getD i false = true := by
      intro i
      induction i using Nat.strongRecOn with
      | ind i ih =>
        intro hi
        have ho : ops[i]? = some ops[i] := Array.getElem?_eq_getElem hi
        rcases hb : listed.getD i true with _ | _
        · have hin : i ∈ Region.ready .any ops listed := mem_ready.2 ⟨hb, ops[i], ho, fun e he _ => by
            unfold lexOk at hlex
            have h1 := List.all_eq_true.1 hlex i (List.mem_range.2 hi)
            rw [ho] at h1
            simp only [Option.map_some, Option.getD_some] at h1
            have h2 := Array.all_eq_true'.1 h1 e he
            have h3 : e.on < i := by simpa using h2
            exact ih e.on h3 (by omega)⟩
          rw [hr] at hin
          cases hin
        · have hil : i < listed.size := by omega
          simp [Array.getD, hil] at hb ⊢
          exact hb
    have hv : ∀ t ∈ dsts ops, ∃ v, a.tmps[t]? = some v ∧ R t v w := fun t ht => by
      obtain ⟨i, hi⟩ := dsts_at ht
      refine hval i t (hall i ?_) hi
      unfold dstOf at hi
      cases ho : ops[i]? with
      | none => rw [ho] at hi; cases hi
      | some o => exact (Array.getElem?_eq_some_iff.1 ho).1
    have ha : a = ⟨(fillL (fun t => (a.tmps[t]?).getD undef) mask a0.tmps.toList 0).toArray, a0.defers⟩ := by
      obtain ⟨A, d⟩ := a
      have e1 : d = a0.defers := cx.defs
      subst e1
      congr 1
      have hml : mask.length = a0.tmps.toList.length := by rw [← hmask]; simp [maskOf]
      apply Array.ext_getElem?
      intro t
      have hy : ∀ l : List Value, l.toArray[t]? = l[t]? := fun l => List.getElem?_toArray
      have hz : a0.tmps.toList[t]? = a0.tmps[t]? := Array.getElem?_toList
      refine Eq.trans ?_ (hy _).symm
      rw [fillL_get _ _ _ _ _ hml, hz]
      by_cases ht : t < a0.tmps.size
      · have hmt : mask[t]? = some ((dsts ops).contains t) := by rw [← hmask]; simp [maskOf, ht]
        rw [hmt, Array.getElem?_eq_getElem ht]
        simp only [Option.getD_some, Option.map_some, Nat.zero_add]
        by_cases hd : t ∈ dsts ops
        · obtain ⟨v, hv1, _⟩ := hv t hd
          have : (dsts ops).contains t = true := by simpa using hd
          rw [this, if_pos rfl]
          have hv1' : A[t]? = some v := hv1
          rw [hv1']
          rfl
        · have : (dsts ops).contains t = false := by simpa using hd
          rw [this, if_neg (by simp)]
          have := cx.old t hd
          rw [Array.getElem?_eq_getElem ht] at this
          exact this
      · have h1 : A.size = a0.tmps.size := cx.size
        have x1 : A[t]? = none := Array.getElem?_eq_none (by omega)
        have x2 : a0.tmps[t]? = none := Array.getElem?_eq_none (by omega)
        rw [x1, x2]
        rfl
    rw [ha]
    refine hdone _ w cx.bel fun t ht => ?_
    obtain ⟨v, hv1, hv2⟩ := hv t ht
    rw [hv1]
    exact hv2
  · unfold unl
    refine Nat.le_trans List.countP_le_length ?_
    simp
  · exact ⟨⟨rfl, rfl, (Below.refl _ _).drew, fun _ _ => rfl⟩, fun i t h _ => by
      simp [Array.getD] at h⟩
/-- the operations that must have come up ahead of number i, by its own edges and theirs -/
def ahead (ops : Array Oper) : Nat → Nat → List Nat
  | 0, _ => []
  | fuel + 1, i => match ops[i]? with
    | none => []
    | some o => o.after.toList.foldl (fun l e => if Region.binds .any e then (if l.contains e.on then l else e.on :: (ahead ops fuel e.on ++ l)) else l) []
/-- from m on each operation waits for all ahead of it -/
def tailOk (ops : Array Oper) (m : Nat) : Bool := (List.range ops.size).all fun i => decide (i < m) || (List.range i).all fun j => (ahead ops 6 i).contains j
theorem ahead_listed {listed : Array Bool} (hcl : ∀ i o e, listed.getD i false = true → ops[i]? = some o → e ∈ o.after → Region.binds .any e = true → listed.getD e.on false = true) :
    ∀ (fuel i : Nat), (∀ o e, ops[i]? = some o → e ∈ o.after → Region.binds .any e = true → listed.getD e.on false = true) → ∀ j ∈ ahead ops fuel i, listed.getD j false = true
  | 0, i, _ => fun j hj => by simp [ahead] at hj
  | fuel + 1, i, hi => by
    intro j hj
    unfold ahead at hj
    cases ho : ops[i]? with
    | none => simp [ho] at hj
    | some o =>
      simp only [ho] at hj
      have key : ∀ (es : List Edge) (l : List Nat), (∀ e ∈ es, Region.binds .any e = true → listed.getD e.on false = true) → (∀ j ∈ l, listed.getD j false = true) →
          ∀ j ∈ es.foldl (fun l e => if Region.binds .any e then (if l.contains e.on then l else e.on :: (ahead ops fuel e.on ++ l)) else l) l, listed.getD j false = true := by
        intro es
        induction es with
        | nil => intro l _ hl j hj; exact hl j hj
        | cons e r ih =>
          intro l he hl
          rw [List.foldl_cons]
          refine ih _ (fun e' h' => he e' (by simp [h'])) ?_
          by_cases hb : Region.binds .any e = true
          · rw [if_pos hb]
            split
            · exact hl
            · intro j hj
              have h1 := he e (by simp) hb
              rcases List.mem_cons.1 hj with rfl | hj
              · exact h1
              · rcases List.mem_append.1 hj with hj | hj
                · exact ahead_listed hcl fuel e.on (fun o' e' ho' he' hb' => hcl e.on o' e' h1 ho' he' hb') j hj
                · exact hl j hj
          · rw [if_neg hb]
            exact hl
      exact key o.after.toList [] (fun e he hb => hi o e ho (Array.mem_toList_iff.1 he) hb) (fun j hj => by simp at hj) j hj
/-- what is left from m on, in its order -/
theorem wpAny_tail {m : Nat} (hlex : lexOk ops = true) (htail : tailOk ops m = true) : ∀ (d : Nat) (k fuel : Nat) (listed : Array Bool) (a : Act) (w : World), k + d = ops.size → m ≤ k → listed.size = ops.size → d ≤ fuel →
    (∀ j, listed.getD j false = decide (j < k)) → wpOps P ops Q (List.range' k d) a w → wpAny P .any ops Q fuel listed a w := by
  intro d
  induction d with
  | zero =>
    intro k fuel listed a w hk hm hs hf hl h
    have hr : Region.ready .any ops listed = [] := by
      cases hrr : Region.ready .any ops listed with
      | nil => rfl
      | cons i r =>
        have hi : i ∈ Region.ready .any ops listed := by rw [hrr]; simp
        obtain ⟨h1, o, ho, _⟩ := mem_ready.1 hi
        have hlt : i < ops.size := (Array.getElem?_eq_some_iff.1 ho).1
        have h2 := hl i
        rw [show decide (i < k) = true by simp; omega] at h2
        simp [Array.getD, hs, hlt] at h1 h2
        rw [h1] at h2
        cases h2
    have hQ : Q .normal a w := by simpa [wpOps] using h
    cases fuel with
    | zero => exact ⟨hr, hQ⟩
    | succ fuel => exact ⟨fun _ => hQ, fun i hi => by rw [hr] at hi; cases hi⟩
  | succ d ih =>
    intro k fuel listed a w hk hm hs hf hl h
    obtain ⟨fuel, rfl⟩ : ∃ f, fuel = f + 1 := ⟨fuel - 1, by omega⟩
    have hkn : k < ops.size := by omega
    have ho : ops[k]? = some ops[k] := Array.getElem?_eq_getElem hkn
    have hkf : listed.getD k true = false := by
      have := hl k
      simp [Array.getD, hs, hkn] at this ⊢
      exact this
    have hmem : k ∈ Region.ready .any ops listed := mem_ready.2 ⟨hkf, ops[k], ho, fun e he _ => by
      unfold lexOk at hlex
      have h1 := List.all_eq_true.1 hlex k (List.mem_range.2 hkn)
      rw [ho] at h1
      simp only [Option.map_some, Option.getD_some] at h1
      have h2 := Array.all_eq_true'.1 h1 e he
      have h3 : e.on < k := by simpa using h2
      rw [hl]
      simpa using h3⟩
    refine ⟨fun hr => (by rw [hr] at hmem; cases hmem), fun i hi => ?_⟩
    obtain ⟨h1, o, ho', hdeps⟩ := mem_ready.1 hi
    have hilt : i < ops.size := (Array.getElem?_eq_some_iff.1 ho').1
    have hik : ¬ i < k := fun hlt => by
      have h2 := hl i
      rw [show decide (i < k) = true by simp; omega] at h2
      simp [Array.getD, hs, hilt] at h1 h2
      rw [h1] at h2
      cases h2
    obtain rfl : i = k := by
      by_cases he : i = k
      · exact he
      · unfold tailOk at htail
        have t1 := List.all_eq_true.1 htail i (List.mem_range.2 hilt)
        rw [show decide (i < m) = false by simp; omega, Bool.false_or] at t1
        have t2 := List.all_eq_true.1 t1 k (List.mem_range.2 (by omega))
        have t3 := ahead_listed (ops := ops) (listed := listed) (fun i' o' e' hi' ho2 he' hb' => by
          rw [hl] at hi' ⊢
          unfold lexOk at hlex
          have hi2 : i' < ops.size := (Array.getElem?_eq_some_iff.1 ho2).1
          have x1 := List.all_eq_true.1 hlex i' (List.mem_range.2 hi2)
          rw [ho2] at x1
          simp only [Option.map_some, Option.getD_some] at x1
          have x2 := Array.all_eq_true'.1 x1 e' he'
          simp at hi' x2 ⊢
          omega) 6 i (fun o2 e2 ho2 he2 hb2 => by
            rw [ho'] at ho2
            injection ho2 with ho2
            subst ho2
            exact hdeps e2 he2 hb2) k (by simpa using t2)
        rw [hl] at t3
        simp at t3
    rw [List.range'_succ, wpOps_cons] at h
    refine wpOp_mono (fun a' w' h' => ih (i + 1) fuel (listed.setIfInBounds i true) a' w' (by omega) (by omega) (by simp [hs]) (by omega) (fun j => ?_) h') h
    by_cases hj : j = i
    · subst hj
      simp [Array.getD, hs, hkn]
    · rw [getD_set_ne false (Ne.symm hj), hl]
      by_cases hlt : j < i
      · rw [decide_eq_true hlt, decide_eq_true (show j < i + 1 by omega)]
      · rw [decide_eq_false hlt, decide_eq_false (show ¬ j < i + 1 by omega)]

theorem unl_ge {n m : Nat} {listed : Array Bool} (hs : listed.size = n) (h : ∀ j, m ≤ j → listed.getD j false = false) : n - m ≤ unl n listed := by
  unfold unl
  have key : ∀ c, c ≤ n → c - m ≤ (List.range c).countP (fun j => !listed.getD j true) := by
    intro c
    induction c with
    | zero => intro _; simp
    | succ c ih =>
      intro hc
      have ih := ih (by omega)
      rw [List.range_succ, List.countP_append]
      by_cases hm : m ≤ c
      · have h1 := h c hm
        have h2 : listed.getD c true = false := by
          simp [Array.getD, hs, show c < n by omega] at h1 ⊢
          exact h1
        have e2 : [c].countP (fun j => !listed.getD j true) = 1 := by
          simp only [List.countP_cons, List.countP_nil, h2]
          rfl
        omega
      · omega
  exact key n (Nat.le_refl _)
theorem wpAny_inv2 {J : Array Bool → Act → World → Prop}
    (step : ∀ (fuel : Nat) listed a w, listed.size = ops.size → unl ops.size listed ≤ fuel → J listed a w → wpAny P .any ops Q fuel listed a w ∨ ((Region.ready .any ops listed = [] → Q .normal a w) ∧ ∀ i ∈ Region.ready .any ops listed, wpOp P ops Q i (fun a' w' => J (listed.setIfInBounds i true) a' w') a w)) :
    ∀ (fuel : Nat) (listed : Array Bool) (a : Act) (w : World), listed.size = ops.size → unl ops.size listed ≤ fuel → J listed a w → wpAny P .any ops Q fuel listed a w
  | 0, listed, a, w, hs, hf, hJ => by
    rcases step 0 listed a w hs hf hJ with h | ⟨h, _⟩
    · exact h
    · have hr : Region.ready .any ops listed = [] := by
        cases h : Region.ready .any ops listed with
        | nil => rfl
        | cons i r =>
          have hi : i ∈ Region.ready .any ops listed := by rw [h]; simp
          obtain ⟨h1, o, ho, _⟩ := mem_ready.1 hi
          have hlt : i < ops.size := (Array.getElem?_eq_some_iff.1 ho).1
          rw [unl_zero (by omega) i hlt] at h1
          cases h1
      exact ⟨hr, h hr⟩
  | fuel + 1, listed, a, w, hs, hf, hJ => by
    rcases step (fuel + 1) listed a w hs hf hJ with h | ⟨h, h'⟩
    · exact h
    · refine ⟨h, fun i hi => ?_⟩
      obtain ⟨h1, _⟩ := mem_ready.1 hi
      have h2 := unl_set hs h1
      exact wpOp_mono (fun a' w' hJ' => wpAny_inv2 step fuel _ a' w' (by simp [hs]) (by omega) hJ') (h' i hi)
theorem lex_on (hlex : lexOk ops = true) {i : Nat} {o : Oper} {e : Edge} (ho : ops[i]? = some o) (he : e ∈ o.after) : e.on < i := by
  unfold lexOk at hlex
  have hi : i < ops.size := (Array.getElem?_eq_some_iff.1 ho).1
  have h1 := List.all_eq_true.1 hlex i (List.mem_range.2 hi)
  rw [ho] at h1
  simp only [Option.map_some, Option.getD_some] at h1
  have h2 := Array.all_eq_true'.1 h1 e he
  simpa using h2

theorem wp_region_invG {id : Nat} {a0 : Act} {W0 : World} (R : Tmp → Value → World → Prop) (G : Act → World → Prop) (m : Nat) (D : List Tmp) (n : Nat) (mask : List Bool) (hD : dsts (ops.extract 0 m) = D) (hn : a0.tmps.size = n) (hm : P.follows .mixedOrders = true) (hlex : lexOk ops = true) (hdis : distinctB ops = true)
    (htail : tailOk ops m = true) (hmn : m ≤ ops.size)
    (hsz : (dsts ops).all (fun t => decide (t < n)) = true) (hmask : maskOf (ops.extract 0 m) n = mask)
    (mono : ∀ t ∈ D, ∀ v w w', Below W0.heap.size W0 w → Below w.heap.size w w' → R t v w → R t v w')
    (hG : G a0 W0.drew)
    (good : ∀ o ∈ ops.toList.take m, GoodG P ops Q m a0 W0 R G o)
    (hdone : ∀ (u : Nat → Value) (w : World), Below W0.heap.size W0 w → (∀ t ∈ D, R t (u t) w) → G ⟨(fillL u mask a0.tmps.toList 0).toArray, a0.defers⟩ w → wpList P ops Q (ops.toList.drop m) ⟨(fillL u mask a0.tmps.toList 0).toArray, a0.defers⟩ w) :
    (Code.region id ops true).wp P Q a0 W0 := by
  subst hn hD
  have hsz' : ∀ t ∈ dsts ops, t < a0.tmps.size := fun t ht => by
    have := List.all_eq_true.1 hsz t ht
    simpa using this
  have hex : ∀ i, i < m → (ops.extract 0 m)[i]? = ops[i]? := fun i hi => by
    rw [Array.getElem?_extract]
    simp only [Nat.zero_add]
    rw [if_pos (by omega)]
  have hdx : ∀ i, i < m → dstOf (ops.extract 0 m) i = dstOf ops i := fun i hi => by unfold dstOf; rw [hex i hi]
  have mem_x : ∀ i t, i < m → dstOf ops i = some t → t ∈ dsts (ops.extract 0 m) := fun i t hi hd => mem_dsts ((hdx i hi).trans hd)
  have x_mem : ∀ t, t ∈ dsts (ops.extract 0 m) → ∃ i, i < m ∧ dstOf ops i = some t := fun t ht => by
    obtain ⟨i, hi⟩ := dsts_at ht
    have him : i < m := by
      unfold dstOf at hi
      cases ho : (ops.extract 0 m)[i]? with
      | none => rw [ho] at hi; cases hi
      | some o =>
        have := (Array.getElem?_eq_some_iff.1 ho).1
        simp at this
        omega
    exact ⟨i, him, (hdx i him).symm.trans hi⟩
  refine wp_region_any hm (wpAny_inv2 (J := fun listed a w => (∀ j, m ≤ j → listed.getD j false = false) ∧ (∀ i o e, listed.getD i false = true → ops[i]? = some o → e ∈ o.after → Region.binds .any e = true → listed.getD e.on false = true) ∧
    Cx (ops.extract 0 m) a0 W0 a w ∧ G a w ∧ ∀ i t, listed.getD i false = true → dstOf ops i = some t → ∃ v, a.tmps[t]? = some v ∧ R t v w) ?_ ops.size _ a0 _ (by simp) ?_ ?_)
  · intro fuel listed a w hls hf ⟨j1, j2, cx, jg, hval⟩
    by_cases hall : ∀ i, i < m → listed.getD i false = true
    · -- what is left comes in its order
      left
      have hld : ∀ j, listed.getD j false = decide (j < m) := fun j => by
        by_cases h : j < m
        · rw [hall j h, decide_eq_true h]
        · rw [j1 j (by omega), decide_eq_false h]
      have hge := unl_ge hls j1
      refine wpAny_tail hlex htail (ops.size - m) m fuel listed a w (by omega) (Nat.le_refl _) hls (by omega) hld ?_
      have hv : ∀ t ∈ dsts (ops.extract 0 m), ∃ v, a.tmps[t]? = some v ∧ R t v w := fun t ht => by
        obtain ⟨i, him, hi⟩ := x_mem t ht
        exact hval i t (hall i him) hi
      have ha : a = ⟨(fillL (fun t => (a.tmps[t]?).getD undef) mask a0.tmps.toList 0).toArray, a0.defers⟩ := by
        obtain ⟨A, d⟩ := a
        have e1 : d = a0.defers := cx.defs
        subst e1
        congr 1
        have hml : mask.length = a0.tmps.toList.length := by rw [← hmask]; simp [maskOf]
        apply Array.ext_getElem?
        intro t
        have hy : ∀ l : List Value, l.toArray[t]? = l[t]? := fun l => List.getElem?_toArray
        have hz : a0.tmps.toList[t]? = a0.tmps[t]? := Array.getElem?_toList
        refine Eq.trans ?_ (hy _).symm
        rw [fillL_get _ _ _ _ _ hml, hz]
        by_cases ht : t < a0.tmps.size
        · have hmt : mask[t]? = some ((dsts (ops.extract 0 m)).contains t) := by rw [← hmask]; simp [maskOf, ht]
          rw [hmt, Array.getElem?_eq_getElem ht]
          simp only [Option.getD_some, Option.map_some, Nat.zero_add]
          by_cases hd : t ∈ dsts (ops.extract 0 m)
          · obtain ⟨v, hv1, _⟩ := hv t hd
            have : (dsts (ops.extract 0 m)).contains t = true := by simpa using hd
            rw [this, if_pos rfl]
            have hv1' : A[t]? = some v := hv1
            rw [hv1']
            rfl
          · have : (dsts (ops.extract 0 m)).contains t = false := by simpa using hd
            rw [this, if_neg (by simp)]
            have := cx.old t hd
            rw [Array.getElem?_eq_getElem ht] at this
            exact this
        · have h1 : A.size = a0.tmps.size := cx.size
          have x1 : A[t]? = none := Array.getElem?_eq_none (by omega)
          have x2 : a0.tmps[t]? = none := Array.getElem?_eq_none (by omega)
          rw [x1, x2]
          rfl
      have hl : (ops.toList.drop m).length = ops.size - m := by simp
      rw [← hl, wpOps_eq_wpList (ops.toList.drop m) m (fun j => by rw [List.getElem?_drop, Array.getElem?_toList])]
      have hg' := jg
      rw [ha] at hg'
      rw [ha]
      refine hdone _ w cx.bel (fun t ht => ?_) hg'
      obtain ⟨v, hv1, hv2⟩ := hv t ht
      rw [hv1]
      exact hv2
    · right
      -- some of the first ones has not come up: the least of them may
      have hlt_all : ∀ i ∈ Region.ready .any ops listed, i < m := by
        intro i hi
        by_cases him : i < m
        · exact him
        · exfalso
          apply hall
          obtain ⟨h1, o, ho, hdeps⟩ := mem_ready.1 hi
          have hilt : i < ops.size := (Array.getElem?_eq_some_iff.1 ho).1
          intro k hk
          unfold tailOk at htail
          have t1 := List.all_eq_true.1 htail i (List.mem_range.2 hilt)
          rw [show decide (i < m) = false by simp; omega, Bool.false_or] at t1
          have t2 := List.all_eq_true.1 t1 k (List.mem_range.2 (by omega))
          exact ahead_listed (ops := ops) (listed := listed) j2 6 i (fun o2 e2 ho2 he2 hb2 => by
            rw [ho] at ho2
            injection ho2 with ho2
            subst ho2
            exact hdeps e2 he2 hb2) k (by simpa using t2)
      refine ⟨fun hr => absurd ?_ hall, ?_⟩
      · intro i
        induction i using Nat.strongRecOn with
        | ind i ih =>
          intro hi
          have hin : i < ops.size := by omega
          have ho : ops[i]? = some ops[i] := Array.getElem?_eq_getElem hin
          rcases hb : listed.getD i true with _ | _
          · have hmem : i ∈ Region.ready .any ops listed := mem_ready.2 ⟨hb, ops[i], ho, fun e he _ => by
              have h3 := lex_on hlex ho he
              exact ih e.on h3 (by omega)⟩
            rw [hr] at hmem
            cases hmem
          · simp [Array.getD, hls, hin] at hb ⊢
            exact hb
      · intro i hi
        have him := hlt_all i hi
        obtain ⟨h1, o, ho, hdeps⟩ := mem_ready.1 hi
        have hilt : i < ops.size := (Array.getElem?_eq_some_iff.1 ho).1
        have hmem : o ∈ ops.toList.take m := by
          refine List.mem_iff_getElem?.2 ⟨i, ?_⟩
          rw [List.getElem?_take_of_lt him, Array.getElem?_toList]
          exact ho
        have hdi : dstOf ops i = o.dst := by unfold dstOf; rw [ho]; rfl
        have hgood := good o hmem a w cx jg (fun t ht => by
          obtain ⟨e, he, hte⟩ := List.mem_filterMap.1 ht
          by_cases hb : Region.binds .any e = true
          · rw [if_pos hb] at hte
            exact hval e.on t (hdeps e (Array.mem_toList_iff.1 he) hb) hte
          · rw [if_neg hb] at hte
            cases hte)
        have next : ∀ v w', Below w.heap.size w w' → (∀ t, o.dst = some t → R t v w') → G (a.put o.dst v) w' →
            (∀ j, m ≤ j → (listed.setIfInBounds i true).getD j false = false) ∧ (∀ i' o e, (listed.setIfInBounds i true).getD i' false = true → ops[i']? = some o → e ∈ o.after → Region.binds .any e = true → (listed.setIfInBounds i true).getD e.on false = true) ∧
            Cx (ops.extract 0 m) a0 W0 (a.put o.dst v) w' ∧ G (a.put o.dst v) w' ∧ ∀ j t, (listed.setIfInBounds i true).getD j false = true → dstOf ops j = some t → ∃ v', (a.put o.dst v).tmps[t]? = some v' ∧ R t v' w' := by
          intro v w' hb hR hGn
          have up : ∀ j, listed.getD j false = true → (listed.setIfInBounds i true).getD j false = true := fun j hj => by
            by_cases hji : j = i
            · subst hji
              simp [Array.getD, hls, hilt]
            · rw [getD_set_ne false (Ne.symm hji)]
              exact hj
          refine ⟨fun j hj => ?_, fun i' o' e hi' ho' he' hb' => ?_, ⟨?_, ?_, cx.bel.trans (hb.mono cx.bel.size), fun t ht => ?_⟩, hGn, fun j t hj hd => ?_⟩
          · rw [getD_set_ne false (by omega)]
            exact j1 j hj
          · by_cases h : i' = i
            · subst h
              rw [ho] at ho'
              injection ho' with ho'
              subst ho'
              exact up _ (hdeps e he' hb')
            · rw [getD_set_ne false (Ne.symm h)] at hi'
              exact up _ (j2 i' o' e hi' ho' he' hb')
          · cases o.dst <;> exact cx.defs
          · cases o.dst with
            | none => exact cx.size
            | some d => simpa [Act.put] using cx.size
          · rw [← cx.old t ht]
            cases hod : o.dst with
            | none => rfl
            | some d =>
              have hne : d ≠ t := fun e => ht (by rw [← e]; exact mem_x i d him (hdi.trans hod))
              simp [Act.put, hne]
          · by_cases hji : j = i
            · subst hji
              rw [hdi] at hd
              have hlt : t < a.tmps.size := by rw [cx.size]; exact hsz' t (mem_dsts (hdi.trans hd))
              exact ⟨v, by simp [Act.put, hd, hlt], hR t hd⟩
            · rw [getD_set_ne false (Ne.symm hji)] at hj
              obtain ⟨v', hv', hr'⟩ := hval j t hj hd
              have hjm : j < m := by
                by_cases h : j < m
                · exact h
                · rw [j1 j (by omega)] at hj
                  cases hj
              refine ⟨v', ?_, mono t (mem_x j t hjm hd) v' w w' cx.bel hb hr'⟩
              cases hod : o.dst with
              | none => exact hv'
              | some d =>
                have hne : d ≠ t := fun e => hji (dst_inj hdis hd (hdi.trans (hod.trans (by rw [e]))))
                simpa [Act.put, hne] using hv'
        unfold wpOp
        simp only [ho]
        rcases hgood with ⟨hw, hk⟩ | ⟨hw, hk, hkg⟩
        · rw [if_pos hw]
          exact .inl (hk _ fun v w' hb hR hGn => next v w' hb hR hGn)
        · rw [if_neg (by rw [hw]; simp)]
          exact next undef w (Below.refl _ _) hk hkg
  · unfold unl
    refine Nat.le_trans List.countP_le_length ?_
    simp
  · refine ⟨fun j _ => ?_, fun i o e hi => ?_, ⟨rfl, rfl, (Below.refl _ _).drew, fun _ _ => rfl⟩, hG, fun i t h _ => ?_⟩
    · simp [Array.getD]
    · simp [Array.getD] at hi
    · simp [Array.getD] at h
theorem mem_of {o : Oper} {t : Tmp} (h : (needs ops o).contains t = true) : t ∈ needs ops o := by simpa using h
theorem Cx.at_ {a0 : Act} {W0 : World} {a : Act} {w : World} (h : Cx ops a0 W0 a w) (t : Tmp) (hd : (dsts ops).contains t = false) {v : Value} (hv : a0.tmps[t]? = some v) : a.tmps[t]? = some v := (h.old t (by simpa using hd)).trans hv
theorem good_nil {a0 : Act} {W0 : World} {R : Tmp → Value → World → Prop} : ∀ o ∈ ([] : List Oper), Good P ops Q a0 W0 R o := fun o h => by cases h
theorem good_cons {a0 : Act} {W0 : World} {R : Tmp → Value → World → Prop} {o : Oper} {l : List Oper} (h : Good P ops Q a0 W0 R o) (hl : ∀ o ∈ l, Good P ops Q a0 W0 R o) : ∀ o' ∈ o :: l, Good P ops Q a0 W0 R o' := fun o' ho => by
  rcases List.mem_cons.1 ho with rfl | ho
  · exact h
  · exact hl o' ho
theorem goodG_nil {m : Nat} {a0 : Act} {W0 : World} {R : Tmp → Value → World → Prop} {G : Act → World → Prop} : ∀ o ∈ ([] : List Oper), GoodG P ops Q m a0 W0 R G o := fun o h => by cases h
theorem goodG_cons {m : Nat} {a0 : Act} {W0 : World} {R : Tmp → Value → World → Prop} {G : Act → World → Prop} {o : Oper} {l : List Oper} (h : GoodG P ops Q m a0 W0 R G o) (hl : ∀ o ∈ l, GoodG P ops Q m a0 W0 R G o) : ∀ o' ∈ o :: l, GoodG P ops Q m a0 W0 R G o' := fun o' ho => by
  rcases List.mem_cons.1 ho with rfl | ho
  · exact h
  · exact hl o' ho
/-- two slots that point at blocks of the region's own: not at one -/
structure Two (s t : Tmp) (a : Act) (w : World) : Prop where
  lts : ∀ g, a.tmps[s]? = some (.pointer (some ⟨g, 0, none⟩)) → g < w.heap.size
  ltt : ∀ g, a.tmps[t]? = some (.pointer (some ⟨g, 0, none⟩)) → g < w.heap.size
  ne : ∀ g h, a.tmps[s]? = some (.pointer (some ⟨g, 0, none⟩)) → a.tmps[t]? = some (.pointer (some ⟨h, 0, none⟩)) → g ≠ h
theorem Two.keep {s t r : Tmp} {a : Act} {w w' : World} {v : Value} (hg : Two s t a w) (hb : Below w.heap.size w w') (h1 : r ≠ s) (h2 : r ≠ t) : Two s t (a.put (some r) v) w' := by
  have e1 : (a.put (some r) v).tmps[s]? = a.tmps[s]? := by simp [Act.put, h1]
  have e2 : (a.put (some r) v).tmps[t]? = a.tmps[t]? := by simp [Act.put, h2]
  exact ⟨fun g h => Nat.lt_of_lt_of_le (hg.lts g (e1 ▸ h)) hb.size, fun g h => Nat.lt_of_lt_of_le (hg.ltt g (e2 ▸ h)) hb.size, fun g k h1 h2 => hg.ne g k (e1 ▸ h1) (e2 ▸ h2)⟩
theorem Two.first {s t : Tmp} {a : Act} {w : World} {o : Obj} (hg : Two s t a w) (hst : s ≠ t) : Two s t (a.put (some s) (.pointer (some ⟨w.heap.size, 0, none⟩))) (w.alloc o) := by
  have e2 : (a.put (some s) (.pointer (some ⟨w.heap.size, 0, none⟩))).tmps[t]? = a.tmps[t]? := by simp [Act.put, hst]
  have e1 : ∀ g, (a.put (some s) (.pointer (some ⟨w.heap.size, 0, none⟩))).tmps[s]? = some (.pointer (some ⟨g, 0, none⟩)) → g = w.heap.size := fun g h => by
    simp [Act.put, Array.getElem?_setIfInBounds] at h
    exact h.2.symm
  refine ⟨fun g h => by rw [e1 g h]; simp, fun g h => ?_, fun g k h1 h2 => ?_⟩
  · have := hg.ltt g (e2 ▸ h)
    simp
    omega
  · have := hg.ltt k (e2 ▸ h2)
    have := e1 g h1
    omega
theorem Two.second {s t : Tmp} {a : Act} {w : World} {o : Obj} (hg : Two s t a w) (hst : s ≠ t) : Two s t (a.put (some t) (.pointer (some ⟨w.heap.size, 0, none⟩))) (w.alloc o) := by
  have e2 : (a.put (some t) (.pointer (some ⟨w.heap.size, 0, none⟩))).tmps[s]? = a.tmps[s]? := by simp [Act.put, Ne.symm hst]
  have e1 : ∀ g, (a.put (some t) (.pointer (some ⟨w.heap.size, 0, none⟩))).tmps[t]? = some (.pointer (some ⟨g, 0, none⟩)) → g = w.heap.size := fun g h => by
    simp [Act.put, Array.getElem?_setIfInBounds] at h
    exact h.2.symm
  refine ⟨fun g h => ?_, fun g h => by rw [e1 g h]; simp, fun g k h1 h2 => ?_⟩
  · have := hg.lts g (e2 ▸ h)
    simp
    omega
  · have := hg.lts g (e2 ▸ h1)
    have := e1 k h2
    omega
theorem wanted_none {o : Oper} {A : Array Value} (h : o.guard = none) : Region.wanted o (yielded ops A) = true := by
  unfold Region.wanted
  rw [h]
theorem wanted_some {o : Oper} {A : Array Value} {g : Nat} {p b : Bool} {t : Tmp} (h : o.guard = some (g, p)) (ht : dstOf ops g = some t) (hv : A[t]? = some (.bool b)) : Region.wanted o (yielded ops A) = (b == p) := by
  unfold Region.wanted
  rw [h]
  unfold dstOf at ht
  simp only [yielded, ht, Option.bind_some, hv]
  cases b <;> cases p <;> rfl
end
end Go.Proofs.YtakomfnajeolcaaGreatDoor.Rg
