/- Sorting buckets: the comparison, the library's contract at a row of the call's own. -/
import Derived.Test.YtofaciagkkipbaaHsG
import Derived.Test.YtofaciagkkipbaaShelf
import Derived.Shelf.SlSortCmp.NoneTotal
import Derived.Deep.AppendLies
import Derived.Laws.OwnMore
namespace Go.Proofs.Ytofaciagkkipbaa
open Go.RowKit Go.Sort Go.Maps
set_option linter.unusedVariables false

/-- the two cells of a bucket -/
def encB (x : Int × Int) : List Value := [.int .i64 x.1, .int .u64 x.2]
def cellsL (l : List (Int × Int)) : List Value := l.flatMap encB
theorem cellsL_length (l : List (Int × Int)) : (cellsL l).length = l.length * 2 := by
  induction l with
  | nil => rfl
  | cons a r ih => simp [cellsL, encB] at *; omega
theorem cellsL_append (l m : List (Int × Int)) : cellsL (l ++ m) = cellsL l ++ cellsL m := by simp [cellsL]
theorem cellsL_at : ∀ (l : List (Int × Int)) (j : Nat) (p : Int × Int), l[j]? = some p → (cellsL l)[j * 2]? = some (.int .i64 p.1) ∧ (cellsL l)[j * 2 + 1]? = some (.int .u64 p.2)
  | [], j, p, h => by simp at h
  | a :: r, 0, p, h => by
    simp at h
    subst h
    exact ⟨rfl, rfl⟩
  | a :: r, j + 1, p, h => by
    have ih := cellsL_at r j p (by simpa using h)
    have e : cellsL (a :: r) = .int .i64 a.1 :: .int .u64 a.2 :: cellsL r := rfl
    rw [e, show (j + 1) * 2 = j * 2 + 1 + 1 by omega]
    exact ih
theorem cellsL_inj {l m : List (Int × Int)} (h : cellsL l = cellsL m) : l = m := by
  induction l generalizing m with
  | nil =>
    cases m with
    | nil => rfl
    | cons b s => simp [cellsL, encB] at h
  | cons a r ih =>
    cases m with
    | nil => simp [cellsL, encB] at h
    | cons b s =>
      have e : Value.int .i64 a.1 :: .int .u64 a.2 :: cellsL r = .int .i64 b.1 :: .int .u64 b.2 :: cellsL s := h
      simp at e
      obtain ⟨h1, h2, h3⟩ := e
      rw [ih h3, Prod.ext h1 h2]
theorem cellsL_one (l : List (Int × Int)) : ∀ u ∈ cellsL l, u.oneCell' = true := by
  intro u hu
  obtain ⟨p, _, hp⟩ := List.mem_flatMap.1 hu
  simp [encB] at hp
  rcases hp with rfl | rfl <;> rfl
theorem flat_list (d : Array (Int × Int)) : (flatK encB 2 d).toList = cellsL d.toList := by
  apply List.ext_getElem?
  intro t
  by_cases ht : t < d.size * 2
  · have h1 : (flatK encB 2 d).toList[t]? = some ((flatK encB 2 d)[t]!) := by
      rw [Array.getElem?_toList, getElem!_pos _ t (by simpa using ht)]
      simp [ht]
    rw [h1, get_flatK _ _ _ _ ht]
    have hj : t / 2 < d.size := by omega
    obtain ⟨a, b⟩ := cellsL_at d.toList (t / 2) d[t / 2]! (by rw [getElem!_pos d (t / 2) hj]; simp [hj])
    rcases (show t = t / 2 * 2 ∨ t = t / 2 * 2 + 1 by omega) with e | e
    · have em : t % 2 = 0 := by omega
      rw [em]
      conv => rhs; rw [e]
      rw [a]; rfl
    · have em : t % 2 = 1 := by omega
      rw [em]
      conv => rhs; rw [e]
      rw [b]; rfl
  · rw [List.getElem?_eq_none (by simp; omega), List.getElem?_eq_none (by rw [cellsL_length]; simp; omega)]

theorem nan_any (n : Int) (w : World) : Calls Try.prog 87 #[.int .i64 n] w fun e w' => e = .returned (.bool false) ∧ w = w' := by
  go_enter Try.func87, Try.ntmps87
  go_wp2
  go_ret
  exact ⟨by simp, rfl⟩
def cmpV (a b : Int) : Int := if a < b then -1 else if b < a then 1 else 0
theorem cmp_any (a b : Int) (w : World) : Calls Try.prog 74 #[.int .i64 a, .int .i64 b] w fun e w' => e = .returned (.int .i64 (cmpV a b)) ∧ w = w' := by
  by_cases h1 : a < b
  · have HE := Lib.hid (show (-1 : Int) = cmpV a b by unfold cmpV; rw [if_pos h1])
    go_enter Try.func74, Try.ntmps74
    go_wp2_with (go_at_call 87; refine (nan_any _ _).mono ?_; rintro e w' ⟨rfl, rfl⟩)
    go_ret
    exact ⟨ret_i HE.out, rfl⟩
  · by_cases h2 : b < a
    · have HE := Lib.hid (show (1 : Int) = cmpV a b by unfold cmpV; rw [if_neg h1, if_pos h2])
      go_enter Try.func74, Try.ntmps74
      go_wp2_with (go_at_call 87; refine (nan_any _ _).mono ?_; rintro e w' ⟨rfl, rfl⟩)
      go_ret
      exact ⟨ret_i HE.out, rfl⟩
    · have HE := Lib.hid (show (0 : Int) = cmpV a b by unfold cmpV; rw [if_neg h1, if_neg h2])
      go_enter Try.func74, Try.ntmps74
      go_wp2_with (go_at_call 87; refine (nan_any _ _).mono ?_; rintro e w' ⟨rfl, rfl⟩)
      go_ret
      exact ⟨ret_i HE.out, rfl⟩
theorem cmpV_lt (x y : Int × Int) : Go.Proofs.ltOf (fun x y : Int × Int => cmpV x.1 y.1) x y = decide (x.1 < y.1) := by
  unfold Go.Proofs.ltOf cmpV
  by_cases h1 : x.1 < y.1
  · simp [h1]
  · by_cases h2 : y.1 < x.1 <;> simp [h1, h2]
theorem swoB : SWO (Go.Proofs.ltOf fun x y : Int × Int => cmpV x.1 y.1) where
  irrefl x := by rw [cmpV_lt]; simp
  trans x y z h1 h2 := by rw [cmpV_lt] at *; simp at *; omega
  ntrans x y z h1 h2 := by rw [cmpV_lt] at *; simp at *; omega
theorem less_any (x y : Int × Int) (w : World) : Calls Try.prog 82 #[.agg #[.int .i64 x.1, .int .u64 x.2], .agg #[.int .i64 y.1, .int .u64 y.2]] w fun e w' => e = .returned (.int .i64 (cmpV x.1 y.1)) ∧ ∃ q os', w' = grow (w.drewN q) os' := by
  go_enter Try.func82, Try.ntmps82
  go_wp2_with (go_at_call 74; refine (cmp_any _ _ _).mono ?_; rintro e w' ⟨rfl, rfl⟩)
  go_ret
  exact ⟨rfl, 0, _, by rw [alloc_eq_grow, alloc_eq_grow, grow_grow]; rfl⟩
theorem lessLays (blk off size : Nat) (w : World) : CmpLays Try.prog 82 #[] encB 2 (fun x y => cmpV x.1 y.1) blk off size w := fun _ _ _ _ x y => less_any x y _

theorem heap_put {w : World} {g n : Nat} {os : Array Obj} {cur : Array Value} {e : TypeId} {fr : Nat × Nat} (F : Array Value) (hb : w.heap[g]? = some (.cells cur e fr)) :
    (grow (putRow id (Sort.ahead w n) g 0 F) os).heap[g]? = some (.cells (putCells id 0 F cur) e fr) := by
  have hg : g < w.heap.size := (Array.getElem?_eq_some_iff.1 hb).1
  rw [heap_grow_old _ _ (by simpa using hg)]
  simp [putRow, mapBlock, Sort.ahead, Array.getElem?_modify, hb, onCells]
theorem grown_put {w : World} {g n : Nat} {os : Array Obj} (F : Array Value) : w.grownBy (grow (putRow id (Sort.ahead w n) g 0 F) os) (some g) := by
  refine ⟨rfl, rfl, rfl, by simp, fun k hk hne => ?_⟩
  rw [heap_grow_old _ _ (by simpa using hk)]
  have : g ≠ k := fun e => hne (by rw [e])
  simp [putRow, mapBlock, Sort.ahead, Array.getElem?_modify, this]
theorem take_put (cur F : Array Value) (h : F.size ≤ cur.size) : (putCells id 0 F cur).toList.take F.size = F.toList := by
  apply List.ext_getElem?
  intro j
  by_cases hj : j < F.size
  · rw [List.getElem?_take_of_lt hj, Array.getElem?_toList]
    simp [putCells, hj, show j < cur.size by omega]
  · rw [List.getElem?_take_eq_none (by omega), List.getElem?_eq_none (by simp; omega)]

/-- what the sort leaves of a row of buckets -/
def Sorted (l : List (Int × Int)) : Prop := l.Pairwise fun a b => a.1 ≤ b.1
def SortPost (w : World) (base : Nat) (v : Value) (X : List (Int × Int)) (e : Ending) (w' : World) : Prop :=
  e = .returned (.tuple #[]) ∧ ∃ Y, Y.Perm X ∧ Sorted Y ∧ w'.ownsRow base 54 2 v X.length (cellsL Y) ∧ w.grownBy w' v.ownBlock
theorem sort_some (base g cap : Nat) (cur : Array Value) (X : List (Int × Int)) (w : World) (hbase : base ≤ g) (hb : w.heap[g]? = some (.cells cur 54 (0, 0))) (h1 : X.length ≤ cap) (h2 : cap ≤ maxLen) (h3 : cur.size = cap * 2) (h4 : cur.toList.take (X.length * 2) = cellsL X) (hX : X.length ≤ 1000000) :
    Calls Try.prog 81 #[.slice (some ⟨g, 0, none⟩) X.length cap, .func (.func 82) #[] #[]] w (SortPost w base (.slice (some ⟨g, 0, none⟩) X.length cap) X) := by
  have eg : ∀ args w, (callFunc 82 args).run Try.prog w = .ok (.enter 82 args) w := enters_of Try.func82 (by kernel_rfl) rfl
  have hH : HoldsK encB 2 w g 0 X.toArray := by
    intro j hj
    have hj' : j < X.length * 2 := by simpa using hj
    refine ⟨?_, by simp [World.frozen?, hb]⟩
    have e1 : (flatK encB 2 X.toArray)[j]? = (cellsL X)[j]? := by rw [← Array.getElem?_toList, flat_list]
    have e2 : (cellsL X)[j]? = cur[j]? := by rw [← h4, List.getElem?_take_of_lt hj', Array.getElem?_toList]
    rw [Nat.zero_add, cell_of_row w g j _ _ _ hb, ← e2, ← e1, getElem!_pos _ j hj]
    simp
  have hcon := AnyQ.slices_SortFunc Try.sortB 2 Try.isAgg54 Try.sizeOf54 encB (fun _ => rfl) (fun x v hv => by simp [encB] at hv; rcases hv with rfl | rfl <;> rfl) (fun x y => cmpV x.1 y.1) swoB 82 #[] g 0 cap X.toArray w eg (lessLays g 0 _ w) hH (Array.getElem?_eq_some_iff.1 hb).1 (by simp; omega)
  change Calls Try.prog 81 _ _ _ at hcon
  have hs : X.toArray.size = X.length := by simp
  rw [hs] at hcon
  refine hcon.mono ?_
  rintro e w' ⟨rfl, d', n, os, hp, hsd, rfl⟩
  obtain ⟨p1, _, p3⟩ := hp
  rw [hs] at p1
  have hperm : d'.toList.Perm X := by
    have e1 : (d'.extract 0 X.length) = d' := by rw [← p1]; simp
    have e2 : (X.toArray.extract 0 X.length) = X.toArray := by simp
    rw [e1, e2] at p3
    simpa using p3
  refine ⟨rfl, d'.toList, hperm, ?_, ?_, ?_⟩
  · refine List.pairwise_iff_getElem.2 fun i j hi hj hij => ?_
    have := hsd i j (Nat.zero_le _) hij (by simpa [p1] using hj)
    rw [cmpV_lt, getElem!_pos d' i (by simpa using hi), getElem!_pos d' j (by simpa using hj)] at this
    simp at this
    simpa using this
  · have hfs : (flatK encB 2 d').size = X.length * 2 := by simp [p1]
    refine ⟨by rw [cellsL_length]; simp [p1], .inr ⟨g, cap, _, rfl, hbase, heap_put _ hb, h1, h2, by simp [putCells, h3], ?_⟩⟩
    have ht := take_put cur (flatK encB 2 d') (by rw [hfs, h3]; omega)
    rw [hfs, flat_list] at ht
    exact ht
  · exact grown_put _
theorem sort_any (base n cap : Nat) (A : Option Addr) (X : List (Int × Int)) (w : World) (hown : w.ownsRow base 54 2 (.slice A n cap) n (cellsL X)) (hX : X.length ≤ 1000000) :
    Calls Try.prog 81 #[.slice A n cap, .func (.func 82) #[] #[]] w (SortPost w base (.slice A n cap) X) := by
  have hn : n = X.length := by
    have := hown.1
    rw [cellsL_length] at this
    omega
  subst hn
  rcases hown.2 with ⟨hv, h0⟩ | ⟨g, cap', cur, hv, hbase, hb, h1, h2, h3, h4⟩
  · injection hv with e1 e2 e3
    subst e1 e3
    have hX0 : X = [] := List.eq_nil_of_length_eq_zero h0
    subst hX0
    have hcon := AnyF.slices_SortFunc_none Try.sortB none 0 (.func (.func 82) #[] #[]) w
    refine hcon.mono ?_
    rintro e w' ⟨rfl, rfl⟩
    exact ⟨rfl, [], List.Perm.refl _, List.Pairwise.nil, hown, World.grownBy.refl _ _⟩
  · injection hv with e1 e2 e3
    subst e1 e3
    exact sort_some base g cap cur X w hbase hb h1 h2 h3 h4 hX
end Go.Proofs.Ytofaciagkkipbaa
