/- Sorting items: the comparison, the library's contract at a row of the call's own; byLow. -/
import Derived.Test.YtpfceebmiolpeaaPlD
import Derived.Test.YtpfceebmiolpeaaShelf
import Derived.Shelf.SlSortCmp.NoneTotal
import Derived.Deep.AppendLies
import Derived.Laws.OwnMore
namespace Go.Proofs.Ytpfceebmiolpeaa.Pl
open Go.RowKit Go.Sort
set_option linter.unusedVariables false

def itE (x : It) : List Value := (itA x).toList
instance : Inhabited It := ⟨⟨0, 0, 0, 0⟩⟩
theorem flat_list (d : Array It) : (flatK itE 4 d).toList = fC itA d.toList := by
  apply List.ext_getElem?
  intro t
  by_cases ht : t < d.size * 4
  · have h1 : (flatK itE 4 d).toList[t]? = some ((flatK itE 4 d)[t]!) := by
      rw [Array.getElem?_toList, getElem!_pos _ t (by simpa using ht)]
      simp [ht]
    rw [h1, get_flatK _ _ _ _ ht]
    have hj : t / 4 < d.size := by omega
    have hq : d.toList[t / 4]? = some (d[t / 4]!) := by rw [getElem!_pos d (t / 4) hj]; simp [hj]
    have h2 := fC_at fourI (j := t % 4) hq (by omega)
    rw [show t / 4 * 4 + t % 4 = t by omega] at h2
    rw [h2]
    obtain ⟨y, hy⟩ : ∃ y, d[t / 4]! = y := ⟨_, rfl⟩
    rw [hy]
    rcases (show t % 4 = 0 ∨ t % 4 = 1 ∨ t % 4 = 2 ∨ t % 4 = 3 by omega) with e | e | e | e <;> rw [e] <;> rfl
  · rw [List.getElem?_eq_none (by simp; omega), List.getElem?_eq_none (by rw [fC_length fourI]; simp; omega)]

theorem nan_any (n : Int) (w : World) : Calls Try.prog 59 #[.int .i64 n] w fun e w' => e = .returned (.bool false) ∧ w = w' := by
  go_enter Try.func59, Try.ntmps59
  go_wp2
  go_ret
  exact ⟨by simp, rfl⟩
def cmpV (a b : Int) : Int := if a < b then -1 else if b < a then 1 else 0
theorem cmp_any (a b : Int) (w : World) : Calls Try.prog 47 #[.int .i64 a, .int .i64 b] w fun e w' => e = .returned (.int .i64 (cmpV a b)) ∧ w = w' := by
  by_cases h1 : a < b
  · have HE := Lib.hid (show (-1 : Int) = cmpV a b by unfold cmpV; rw [if_pos h1])
    go_enter Try.func47, Try.ntmps47
    go_wp2_with (go_at_call 59; refine (nan_any _ _).mono ?_; rintro e w' ⟨rfl, rfl⟩)
    go_ret
    exact ⟨ret_int HE.out, rfl⟩
  · by_cases h2 : b < a
    · have HE := Lib.hid (show (1 : Int) = cmpV a b by unfold cmpV; rw [if_neg h1, if_pos h2])
      go_enter Try.func47, Try.ntmps47
      go_wp2_with (go_at_call 59; refine (nan_any _ _).mono ?_; rintro e w' ⟨rfl, rfl⟩)
      go_ret
      exact ⟨ret_int HE.out, rfl⟩
    · have HE := Lib.hid (show (0 : Int) = cmpV a b by unfold cmpV; rw [if_neg h1, if_neg h2])
      go_enter Try.func47, Try.ntmps47
      go_wp2_with (go_at_call 59; refine (nan_any _ _).mono ?_; rintro e w' ⟨rfl, rfl⟩)
      go_ret
      exact ⟨ret_int HE.out, rfl⟩
theorem cmpV_lt (x y : It) : Go.Proofs.ltOf (fun x y : It => cmpV x.lo y.lo) x y = decide (x.lo < y.lo) := by
  unfold Go.Proofs.ltOf cmpV
  by_cases h1 : x.lo < y.lo
  · simp [h1]
  · by_cases h2 : y.lo < x.lo <;> simp [h1, h2]
theorem swoB : SWO (Go.Proofs.ltOf fun x y : It => cmpV x.lo y.lo) where
  irrefl x := by rw [cmpV_lt]; simp
  trans x y z h1 h2 := by rw [cmpV_lt] at *; simp at *; omega
  ntrans x y z h1 h2 := by rw [cmpV_lt] at *; simp at *; omega
theorem less_any (x y : It) (w : World) : Calls Try.prog 46 #[.agg (itA x), .agg (itA y)] w fun e w' => e = .returned (.int .i64 (cmpV x.lo y.lo)) ∧ ∃ q os', w' = grow (w.drewN q) os' := by
  unfold itA
  go_enter Try.func46, Try.ntmps46
  go_wp2_with (go_at_call 47; refine (cmp_any _ _ _).mono ?_; rintro e w' ⟨rfl, rfl⟩)
  go_ret
  exact ⟨rfl, 0, _, by rw [alloc_eq_grow, alloc_eq_grow, grow_grow]; rfl⟩
theorem lessLays (blk off size : Nat) (w : World) : CmpLays Try.prog 46 #[] itE 4 (fun x y => cmpV x.lo y.lo) blk off size w := fun _ _ _ _ x y => less_any x y _

theorem heap_put {w : World} {g n : Nat} {os : Array Obj} {cur : Array Value} {e : TypeId} {fr : Nat × Nat} (F : Array Value) (hb : w.heap[g]? = some (.cells cur e fr)) :
    (grow (putRow id (Sort.ahead w n) g 0 F) os).heap[g]? = some (.cells (putCells id 0 F cur) e fr) := by
  have hg : g < w.heap.size := (Array.getElem?_eq_some_iff.1 hb).1
  rw [heap_grow_old _ _ (by simpa using hg)]
  simp [putRow, mapBlock, Sort.ahead, Array.getElem?_modify, hb, onCells]
theorem grown_put {w : World} {g n : Nat} {os : Array Obj} (F : Array Value) : w.grownBy (grow (putRow id (Sort.ahead w n) g 0 F) os) (some g) := by
  refine ⟨rfl, rfl, rfl, by simp, fun k hk hne => ?_⟩
  rw [heap_grow_old _ _ (by simpa using hk)]
  have : g ≠ k := fun e => hne (by rw [e])
  simp [putRow, mapBlock, Sort.ahead, Array.getElem?_modify, this]
theorem take_put (cur F : Array Value) (h : F.size ≤ cur.size) : (putCells id 0 F cur).toList.take F.size = F.toList := by
  apply List.ext_getElem?
  intro j
  by_cases hj : j < F.size
  · rw [List.getElem?_take_of_lt hj, Array.getElem?_toList]
    simp [putCells, hj, show j < cur.size by omega]
  · rw [List.getElem?_take_eq_none (by omega), List.getElem?_eq_none (by simp; omega)]

/-- what the sort leaves of a row of ranges -/
def SortPost (w : World) (base : Nat) (v : Value) (X : List It) (e : Ending) (w' : World) : Prop :=
  e = .returned (.tuple #[]) ∧ ∃ Y, Y.Perm X ∧ SortedLo Y ∧ w'.ownsRow base 78 4 v X.length (fC itA Y) ∧ w.grownBy w' v.ownBlock
theorem sort_some (base g cap : Nat) (cur : Array Value) (X : List It) (w : World) (hbase : base ≤ g) (hb : w.heap[g]? = some (.cells cur 78 (0, 0))) (h1 : X.length ≤ cap) (h2 : cap ≤ maxLen) (h3 : cur.size = cap * 4) (h4 : cur.toList.take (X.length * 4) = fC itA X) (hX : X.length ≤ 1000000) :
    Calls Try.prog 57 #[.slice (some ⟨g, 0, none⟩) X.length cap, .func (.func 46) #[] #[]] w (SortPost w base (.slice (some ⟨g, 0, none⟩) X.length cap) X) := by
  have eg : ∀ args w, (callFunc 46 args).run Try.prog w = .ok (.enter 46 args) w := enters_of Try.func46 (by kernel_rfl) rfl
  have hH : HoldsK itE 4 w g 0 X.toArray := by
    intro j hj
    have hj' : j < X.length * 4 := by simpa using hj
    refine ⟨?_, by simp [World.frozen?, hb]⟩
    have e1 : (flatK itE 4 X.toArray)[j]? = (fC itA X)[j]? := by rw [← Array.getElem?_toList, flat_list]
    have e2 : (fC itA X)[j]? = cur[j]? := by rw [← h4, List.getElem?_take_of_lt hj', Array.getElem?_toList]
    rw [Nat.zero_add, cell_of_row w g j _ _ _ hb, ← e2, ← e1, getElem!_pos _ j hj]
    simp
  have hcon := AnyQ.slices_SortFunc Try.sortT 4 Try.isAgg78 Try.sizeOf78 itE (fun _ => rfl) (fun x v hv => by exact fourI.one x v hv) (fun x y => cmpV x.lo y.lo) swoB 46 #[] g 0 cap X.toArray w eg (lessLays g 0 _ w) hH (Array.getElem?_eq_some_iff.1 hb).1 (by simp; omega)
  change Calls Try.prog 57 _ _ _ at hcon
  have hs : X.toArray.size = X.length := by simp
  rw [hs] at hcon
  refine hcon.mono ?_
  rintro e w' ⟨rfl, d', n, os, hp, hsd, rfl⟩
  obtain ⟨p1, _, p3⟩ := hp
  rw [hs] at p1
  have hperm : d'.toList.Perm X := by
    have e1 : (d'.extract 0 X.length) = d' := by rw [← p1]; simp
    have e2 : (X.toArray.extract 0 X.length) = X.toArray := by simp
    rw [e1, e2] at p3
    simpa using p3
  refine ⟨rfl, d'.toList, hperm, ?_, ?_, ?_⟩
  · refine List.pairwise_iff_getElem.2 fun i j hi hj hij => ?_
    have := hsd i j (Nat.zero_le _) hij (by simpa [p1] using hj)
    rw [cmpV_lt, getElem!_pos d' i (by simpa using hi), getElem!_pos d' j (by simpa using hj)] at this
    simp at this
    simpa using this
  · have hfs : (flatK itE 4 d').size = X.length * 4 := by simp [p1]
    refine ⟨by rw [fC_length fourI]; simp [p1], .inr ⟨g, cap, _, rfl, hbase, heap_put _ hb, h1, h2, by simp [putCells, h3], ?_⟩⟩
    have ht := take_put cur (flatK itE 4 d') (by rw [hfs, h3]; omega)
    rw [hfs, flat_list] at ht
    exact ht
  · exact grown_put _
theorem sort_any (base n cap : Nat) (A : Option Addr) (X : List It) (w : World) (hown : w.ownsRow base 78 4 (.slice A n cap) n (fC itA X)) (hX : X.length ≤ 1000000) :
    Calls Try.prog 57 #[.slice A n cap, .func (.func 46) #[] #[]] w (SortPost w base (.slice A n cap) X) := by
  have hn : n = X.length := by
    have := hown.1
    rw [fC_length fourI] at this
    omega
  subst hn
  rcases hown.2 with ⟨hv, h0⟩ | ⟨g, cap', cur, hv, hbase, hb, h1, h2, h3, h4⟩
  · injection hv with e1 e2 e3
    subst e1 e3
    have hX0 : X = [] := List.eq_nil_of_length_eq_zero h0
    subst hX0
    have hcon := AnyF.slices_SortFunc_none Try.sortT none 0 (.func (.func 46) #[] #[]) w
    refine hcon.mono ?_
    rintro e w' ⟨rfl, rfl⟩
    exact ⟨rfl, [], List.Perm.refl _, List.Pairwise.nil, hown, World.grownBy.refl _ _⟩
  · injection hv with e1 e2 e3
    subst e1 e3
    exact sort_some base g cap cur X w hbase hb h1 h2 h3 h4 hX
theorem collect_any (B : Option Addr) (d Bs : Nat) (L : List It) (hL : L.length ≤ 1000) (w : World) (hBs : Bs < w.heap.size) (hc : w.cell? ⟨Bs, 0, none⟩ = some (.slice B L.length d)) (hI : Cl w B (fC itA L)) :
    Calls Try.prog 56 #[.func (.func 58) #[] #[.pointer (some ⟨Bs, 0, none⟩)]] w fun e w' => ∃ v, e = .returned v ∧ RowP 78 itA w L v w' := by
  have HS := Lib.hid (seq_any B d Bs L hL w hBs hc hI)
  clear hBs hc hI
  go_enter Try.func56, Try.ntmps56
  go_wp2_with (go_at_call 72; refine HS.out.mono ?_; rintro e w2 ⟨v, rfl, hr⟩)
  go_ret
  exact ⟨_, rfl, hr⟩
/-- items by where they begin -/
def ByP (w : World) (l : List It) (e : Ending) (w' : World) : Prop := ∃ v Y, e = .returned v ∧ Y.Perm l ∧ SortedLo Y ∧ RowP 78 itA w Y v w'
theorem sorted_any (B : Option Addr) (d Bs : Nat) (L : List It) (hL : L.length ≤ 1000) (w : World) (hBs : Bs < w.heap.size) (hc : w.cell? ⟨Bs, 0, none⟩ = some (.slice B L.length d)) (hI : Cl w B (fC itA L)) :
    Calls Try.prog 44 #[.func (.func 58) #[] #[.pointer (some ⟨Bs, 0, none⟩)], .func (.func 46) #[] #[]] w (ByP w L) := by
  have HS := Lib.hid (collect_any B d Bs L hL w hBs hc hI)
  clear hBs hc hI
  go_enter Try.func44, Try.ntmps44
  go_wp2_with (go_at_call 56; refine HS.out.mono ?_; rintro e w2 ⟨v, rfl, A, c, rfl, hown, hb⟩; have HB := Lib.hid hb; have HO := Lib.hid hown; have HZ := Lib.hid (sort_any w.heap.size L.length c A L w2 hown (by omega)); clear hown hb)
  refine HZ.out.mono ?_
  rintro e w3 ⟨rfl, Y, hp, hs, ho3, hg3⟩
  have HP := Lib.hid (show ByP w L (.returned (.slice A L.length c)) w3 from ⟨_, Y, rfl, hp, hs, A, c, by rw [hp.length_eq], by rw [hp.length_eq]; exact ho3, HB.out.grown hg3 HB.out.size (fun k hk => (HO.out.lt k hk).1)⟩)
  clear ho3 hg3 hp hs
  go_wp2_with fail
  go_ret
  exact HP.out
theorem RowP.from_ {e : TypeId} {f : It → Array Value} {w w1 w' : World} {X : List It} {v : Value} (h : RowP e f w1 X v w') (hb : Below w.heap.size w w1) : RowP e f w X v w' := by
  obtain ⟨A, c, rfl, h1, h2⟩ := h
  exact ⟨A, c, rfl, own_base h1 hb.size, hb.trans (h2.mono hb.size)⟩
theorem byLow_any (A : Option Addr) (n c : Nat) (l : List It) (w : World) (hn : n = l.length) (h : Cl w A (fC itA l)) (hl : l.length ≤ 1000) :
    Calls Try.prog 32 #[.slice A n c] w (ByP w l) := by
  subst hn
  obtain ⟨W1, hW1⟩ : ∃ W1, w.alloc (.cells #[.slice A l.length c] 32) = W1 := ⟨_, rfl⟩
  have hb1 : Below w.heap.size w W1 := hW1 ▸ (Below.refl _ _).alloc (Nat.le_refl _) _
  have hx : W1.heap[w.heap.size]? = some (.cells #[.slice A l.length c] 32 (0, 0)) := hW1 ▸ heap_alloc_new w _
  have HS := Lib.hid (sorted_any A c w.heap.size l hl W1 (Array.getElem?_eq_some_iff.1 hx).1 (box1 hx).1 (h.below hb1))
  have HB := Lib.hid hb1
  clear hx hb1 h
  go_enter Try.func32, Try.ntmps32
  go_wp2_with (first
    | (go_at_call 45; refine (val_any _ _ _ _).mono ?_; rintro e w2 ⟨rfl, hw2⟩; rw [hW1] at hw2; subst hw2)
    | (go_at_call 44; refine HS.out.mono ?_; rintro e w3 ⟨v, Y, rfl, hp, hs, hr⟩; have HP := Lib.hid (show ByP w l (.returned v) w3 from ⟨v, Y, rfl, hp, hs, hr.from_ HB.out⟩); clear hp hs hr))
  go_ret
  exact HP.out
end Go.Proofs.Ytpfceebmiolpeaa.Pl
