/- Sorting labels: their order, the library's contract at a row of the call's own. -/
import Derived.Test.YtnnfoagdgoionabLbH
import Derived.Test.YtnnfoagdgoionabShelf
import Derived.Shelf.SlSortCmp.NoneTotal
import Derived.Deep.AppendLies
import Derived.Laws.OwnMore
namespace Go.Proofs.Ytnnfoagdgoionab
open Go.RowKit Go.Sort
set_option linter.unusedVariables false

theorem cmpP_neg (p q : Lab) : cmpP q p = - cmpP p q := by
  unfold cmpP or2
  rw [cmp_neg p.1.data.toList, cmp_neg p.2.data.toList]
  by_cases h : Lib.compareBytes p.1.data.toList q.1.data.toList = 0 <;> simp [h]
theorem dat_inj {a b : ByteArray} (h : a.data.toList = b.data.toList) : a = b := toList_inj (by rw [Lib.toList_data, Lib.toList_data]; exact h)
theorem cmpP_zero (p q : Lab) : cmpP p q = 0 ↔ p = q := by
  unfold cmpP or2
  by_cases h : Lib.compareBytes p.1.data.toList q.1.data.toList = 0
  · rw [if_neg (by simp [h]), cmp_zero]
    have h1 := dat_inj ((cmp_zero _ _).1 h)
    constructor
    · intro h2
      exact Prod.ext h1 (dat_inj h2)
    · intro e; rw [e]
  · rw [if_pos h]
    constructor
    · intro h2; exact absurd h2 h
    · intro e; subst e; exact (cmp_zero _ _).2 rfl
theorem cmpP_lt (p q : Lab) : cmpP p q < 0 ↔ (p.1.data.toList < q.1.data.toList ∨ p.1 = q.1 ∧ p.2.data.toList < q.2.data.toList) := by
  unfold cmpP or2
  by_cases h : Lib.compareBytes p.1.data.toList q.1.data.toList = 0
  · rw [if_neg (by simp [h]), cmp_lt]
    have h1 := (cmp_zero _ _).1 h
    constructor
    · intro h2; exact .inr ⟨dat_inj h1, h2⟩
    · rintro (h2 | ⟨_, h2⟩)
      · rw [h1] at h2; exact absurd h2 (lt_irr _)
      · exact h2
  · rw [if_pos h, cmp_lt]
    constructor
    · intro h2; exact .inl h2
    · rintro (h2 | ⟨h2, _⟩)
      · exact h2
      · rw [h2] at h; exact absurd ((cmp_zero _ _).2 rfl) h
theorem cmpP_trans {p q r : Lab} (h1 : cmpP p q < 0) (h2 : cmpP q r < 0) : cmpP p r < 0 := by
  rw [cmpP_lt] at *
  rcases h1 with h1 | ⟨h1, h1'⟩
  · rcases h2 with h2 | ⟨h2, h2'⟩
    · exact .inl (List.lt_trans h1 h2)
    · exact .inl (h2 ▸ h1)
  · rcases h2 with h2 | ⟨h2, h2'⟩
    · exact .inl (h1 ▸ h2)
    · exact .inr ⟨h1.trans h2, List.lt_trans h1' h2'⟩
theorem cmpP_ge {p q : Lab} (h : ¬ cmpP p q < 0) : p = q ∨ cmpP q p < 0 := by
  by_cases h0 : cmpP p q = 0
  · exact .inl ((cmpP_zero p q).1 h0)
  · exact .inr (by rw [cmpP_neg]; omega)
theorem swoL : SWO (Go.Proofs.ltOf cmpP) where
  irrefl x := by unfold Go.Proofs.ltOf; simp [(cmpP_zero x x).2 rfl]
  trans x y z h1 h2 := by
    unfold Go.Proofs.ltOf at *
    simp at *
    exact cmpP_trans h1 h2
  ntrans x y z h1 h2 := by
    unfold Go.Proofs.ltOf at *
    simp only [decide_eq_false_iff_not] at *
    intro h
    rcases cmpP_ge h1 with e1 | e1
    · subst e1; exact h2 h
    · rcases cmpP_ge h2 with e2 | e2
      · subst e2; exact h1 h
      · have := cmpP_trans (cmpP_trans e2 e1) h
        rw [(cmpP_zero z z).2 rfl] at this
        omega
theorem flat_list (d : Array Lab) : (flatK labE 2 d).toList = labC d.toList := by
  apply List.ext_getElem?
  intro t
  by_cases ht : t < d.size * 2
  · have h1 : (flatK labE 2 d).toList[t]? = some ((flatK labE 2 d)[t]!) := by
      rw [Array.getElem?_toList, getElem!_pos _ t (by simpa using ht)]
      simp [ht]
    rw [h1, get_flatK _ _ _ _ ht]
    have hj : t / 2 < d.size := by omega
    obtain ⟨a, b⟩ := labC_at (l := d.toList) (j := t / 2) (p := d[t / 2]!) (by rw [getElem!_pos d (t / 2) hj]; simp [hj])
    rcases (show t = t / 2 * 2 ∨ t = t / 2 * 2 + 1 by omega) with e | e
    · have em : t % 2 = 0 := by omega
      rw [em]
      conv => rhs; rw [e]
      rw [a]; rfl
    · have em : t % 2 = 1 := by omega
      rw [em]
      conv => rhs; rw [e]
      rw [b]; rfl
  · rw [List.getElem?_eq_none (by simp; omega), List.getElem?_eq_none (by rw [labC_length]; simp; omega)]

theorem lessLays (blk off size : Nat) (w : World) : CmpLays Try.prog 31 #[] labE 2 cmpP blk off size w := fun _ _ _ _ x y => compare_any x y _

theorem heap_put {w : World} {g n : Nat} {os : Array Obj} {cur : Array Value} {e : TypeId} {fr : Nat × Nat} (F : Array Value) (hb : w.heap[g]? = some (.cells cur e fr)) :
    (grow (putRow id (Sort.ahead w n) g 0 F) os).heap[g]? = some (.cells (putCells id 0 F cur) e fr) := by
  have hg : g < w.heap.size := (Array.getElem?_eq_some_iff.1 hb).1
  rw [heap_grow_old _ _ (by simpa using hg)]
  simp [putRow, mapBlock, Sort.ahead, Array.getElem?_modify, hb, onCells]
theorem grown_put {w : World} {g n : Nat} {os : Array Obj} (F : Array Value) : w.grownBy (grow (putRow id (Sort.ahead w n) g 0 F) os) (some g) := by
  refine ⟨rfl, rfl, rfl, by simp, fun k hk hne => ?_⟩
  rw [heap_grow_old _ _ (by simpa using hk)]
  have : g ≠ k := fun e => hne (by rw [e])
  simp [putRow, mapBlock, Sort.ahead, Array.getElem?_modify, this]
theorem take_put (cur F : Array Value) (h : F.size ≤ cur.size) : (putCells id 0 F cur).toList.take F.size = F.toList := by
  apply List.ext_getElem?
  intro j
  by_cases hj : j < F.size
  · rw [List.getElem?_take_of_lt hj, Array.getElem?_toList]
    simp [putCells, hj, show j < cur.size by omega]
  · rw [List.getElem?_take_eq_none (by omega), List.getElem?_eq_none (by simp; omega)]

/-- what the sort leaves of a row of buckets -/
def Sorted (l : List Lab) : Prop := l.Pairwise fun a b => ¬ cmpP b a < 0
def SortPost (w : World) (base : Nat) (v : Value) (X : List Lab) (e : Ending) (w' : World) : Prop :=
  e = .returned (.tuple #[]) ∧ ∃ Y, Y.Perm X ∧ Sorted Y ∧ w'.ownsRow base 36 2 v X.length (labC Y) ∧ w.grownBy w' v.ownBlock
theorem sort_some (base g cap : Nat) (cur : Array Value) (X : List Lab) (w : World) (hbase : base ≤ g) (hb : w.heap[g]? = some (.cells cur 36 (0, 0))) (h1 : X.length ≤ cap) (h2 : cap ≤ maxLen) (h3 : cur.size = cap * 2) (h4 : cur.toList.take (X.length * 2) = labC X) (hX : X.length ≤ 4398046511104) :
    Calls Try.prog 34 #[.slice (some ⟨g, 0, none⟩) X.length cap, .func (.func 31) #[] #[]] w (SortPost w base (.slice (some ⟨g, 0, none⟩) X.length cap) X) := by
  have eg : ∀ args w, (callFunc 31 args).run Try.prog w = .ok (.enter 31 args) w := enters_of Try.func31 (by kernel_rfl) rfl
  have hH : HoldsK labE 2 w g 0 X.toArray := by
    intro j hj
    have hj' : j < X.length * 2 := by simpa using hj
    refine ⟨?_, by simp [World.frozen?, hb]⟩
    have e1 : (flatK labE 2 X.toArray)[j]? = (labC X)[j]? := by rw [← Array.getElem?_toList, flat_list]
    have e2 : (labC X)[j]? = cur[j]? := by rw [← h4, List.getElem?_take_of_lt hj', Array.getElem?_toList]
    rw [Nat.zero_add, cell_of_row w g j _ _ _ hb, ← e2, ← e1, getElem!_pos _ j hj]
    simp
  have hcon := AnyQ.slices_SortFunc Try.sortL 2 Try.isAgg36 Try.sizeOf36 labE (fun _ => rfl) (fun x v hv => by simp [labE] at hv; rcases hv with rfl | rfl <;> rfl) cmpP swoL 31 #[] g 0 cap X.toArray w eg (lessLays g 0 _ w) hH (Array.getElem?_eq_some_iff.1 hb).1 (by simp; omega)
  change Calls Try.prog 34 _ _ _ at hcon
  have hs : X.toArray.size = X.length := by simp
  rw [hs] at hcon
  refine hcon.mono ?_
  rintro e w' ⟨rfl, d', n, os, hp, hsd, rfl⟩
  obtain ⟨p1, _, p3⟩ := hp
  rw [hs] at p1
  have hperm : d'.toList.Perm X := by
    have e1 : (d'.extract 0 X.length) = d' := by rw [← p1]; simp
    have e2 : (X.toArray.extract 0 X.length) = X.toArray := by simp
    rw [e1, e2] at p3
    simpa using p3
  refine ⟨rfl, d'.toList, hperm, ?_, ?_, ?_⟩
  · refine List.pairwise_iff_getElem.2 fun i j hi hj hij => ?_
    have := hsd i j (Nat.zero_le _) hij (by simpa [p1] using hj)
    rw [getElem!_pos d' i (by simpa using hi), getElem!_pos d' j (by simpa using hj)] at this
    unfold Go.Proofs.ltOf at this
    simpa using this
  · have hfs : (flatK labE 2 d').size = X.length * 2 := by simp [p1]
    refine ⟨by rw [labC_length]; simp [p1], .inr ⟨g, cap, _, rfl, hbase, heap_put _ hb, h1, h2, by simp [putCells, h3], ?_⟩⟩
    have ht := take_put cur (flatK labE 2 d') (by rw [hfs, h3]; omega)
    rw [hfs, flat_list] at ht
    exact ht
  · exact grown_put _
theorem sort_any (base n cap : Nat) (A : Option Addr) (X : List Lab) (w : World) (hown : w.ownsRow base 36 2 (.slice A n cap) n (labC X)) (hX : X.length ≤ 4398046511104) :
    Calls Try.prog 34 #[.slice A n cap, .func (.func 31) #[] #[]] w (SortPost w base (.slice A n cap) X) := by
  have hn : n = X.length := by
    have := hown.1
    rw [labC_length] at this
    omega
  subst hn
  rcases hown.2 with ⟨hv, h0⟩ | ⟨g, cap', cur, hv, hbase, hb, h1, h2, h3, h4⟩
  · injection hv with e1 e2 e3
    subst e1 e3
    have hX0 : X = [] := List.eq_nil_of_length_eq_zero h0
    subst hX0
    have hcon := AnyF.slices_SortFunc_none Try.sortL none 0 (.func (.func 31) #[] #[]) w
    refine hcon.mono ?_
    rintro e w' ⟨rfl, rfl⟩
    exact ⟨rfl, [], List.Perm.refl _, List.Pairwise.nil, hown, World.grownBy.refl _ _⟩
  · injection hv with e1 e2 e3
    subst e1 e3
    exact sort_some base g cap cur X w hbase hb h1 h2 h3 h4 hX
end Go.Proofs.Ytnnfoagdgoionab
