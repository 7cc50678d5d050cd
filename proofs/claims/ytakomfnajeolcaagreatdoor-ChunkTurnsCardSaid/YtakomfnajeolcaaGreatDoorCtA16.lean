import Derived.Test.YtakomfnajeolcaaGreatDoorCtA15
import Derived.Test.YtakomfnajeolcaaGreatDoorShelf
import Derived.Shelf.SlSortCmp.NoneTotal
set_option linter.unusedVariables false
/- What spread has collected while it ranges over a map of counts. -/
/-! Sorting buckets: the comparison, the library's contract at a row of the call's own. -/
namespace Go.Proofs.YtakomfnajeolcaaGreatDoor
open Go.RowKit Go.Sort Go.Maps
set_option linter.unusedVariables false

/-- the two cells of a bucket -/
def encB (x : Int × Int) : List Value := [.int .i64 x.1, .int .u64 x.2]
def cellsL (l : List (Int × Int)) : List Value := l.flatMap encB
theorem cellsL_length (l : List (Int × Int)) : (cellsL l).length = l.length * 2 := by
  induction l with
  | nil => rfl
  | cons a r ih => simp [cellsL, encB] at *; omega
theorem cellsL_append (l m : List (Int × Int)) : cellsL (l ++ m) = cellsL l ++ cellsL m := by simp [cellsL]
theorem cellsL_at : ∀ (l : List (Int × Int)) (j : Nat) (p : Int × Int), l[j]? = some p → (cellsL l)[j * 2]? = some (.int .i64 p.1) ∧ (cellsL l)[j * 2 + 1]? = some (.int .u64 p.2)
  | [], j, p, h => by simp at h
  | a :: r, 0, p, h => by
    simp at h
    subst h
    exact ⟨rfl, rfl⟩
  | a :: r, j + 1, p, h => by
    have ih := cellsL_at r j p (by simpa using h)
    have e : cellsL (a :: r) = .int .i64 a.1 :: .int .u64 a.2 :: cellsL r := rfl
    rw [e, show (j + 1) * 2 = j * 2 + 1 + 1 by omega]
    exact ih
theorem cellsL_one (l : List (Int × Int)) : ∀ u ∈ cellsL l, u.oneCell' = true := by
  intro u hu
  obtain ⟨p, _, hp⟩ := List.mem_flatMap.1 hu
  simp [encB] at hp
  rcases hp with rfl | rfl <;> rfl
theorem flat_list (d : Array (Int × Int)) : (flatK encB 2 d).toList = cellsL d.toList := by
  apply List.ext_getElem?
  intro t
  by_cases ht : t < d.size * 2
  · have h1 : (flatK encB 2 d).toList[t]? = some ((flatK encB 2 d)[t]!) := by
      rw [Array.getElem?_toList, getElem!_pos _ t (by simpa using ht)]
      simp [ht]
    rw [h1, get_flatK _ _ _ _ ht]
    have hj : t / 2 < d.size := by omega
    obtain ⟨a, b⟩ := cellsL_at d.toList (t / 2) d[t / 2]! (by rw [getElem!_pos d (t / 2) hj]; simp [hj])
    rcases (show t = t / 2 * 2 ∨ t = t / 2 * 2 + 1 by omega) with e | e
    · have em : t % 2 = 0 := by omega
      rw [em]
      conv => rhs; rw [e]
      rw [a]; rfl
    · have em : t % 2 = 1 := by omega
      rw [em]
      conv => rhs; rw [e]
      rw [b]; rfl
  · rw [List.getElem?_eq_none (by simp; omega), List.getElem?_eq_none (by rw [cellsL_length]; simp; omega)]

theorem nan_any (n : Int) (w : World) : Calls Tryz.prog 140 #[.int .i64 n] w fun e w' => e = .returned (.bool false) ∧ w = w' := by
  go_enter Tryz.func140, Tryz.ntmps140
  go_wp2
  go_ret
  exact ⟨by simp, rfl⟩
def cmpV (a b : Int) : Int := if a < b then -1 else if b < a then 1 else 0
theorem cmp_any (a b : Int) (w : World) : Calls Tryz.prog 129 #[.int .i64 a, .int .i64 b] w fun e w' => e = .returned (.int .i64 (cmpV a b)) ∧ w = w' := by
  by_cases h1 : a < b
  · have HE := Lib.hid (show (-1 : Int) = cmpV a b by unfold cmpV; rw [if_pos h1])
    go_enter Tryz.func129, Tryz.ntmps129
    go_wp2_with (go_at_call 140; refine (nan_any _ _).mono ?_; rintro e w' ⟨rfl, rfl⟩)
    go_ret
    exact ⟨ret_i HE.out, rfl⟩
  · by_cases h2 : b < a
    · have HE := Lib.hid (show (1 : Int) = cmpV a b by unfold cmpV; rw [if_neg h1, if_pos h2])
      go_enter Tryz.func129, Tryz.ntmps129
      go_wp2_with (go_at_call 140; refine (nan_any _ _).mono ?_; rintro e w' ⟨rfl, rfl⟩)
      go_ret
      exact ⟨ret_i HE.out, rfl⟩
    · have HE := Lib.hid (show (0 : Int) = cmpV a b by unfold cmpV; rw [if_neg h1, if_neg h2])
      go_enter Tryz.func129, Tryz.ntmps129
      go_wp2_with (go_at_call 140; refine (nan_any _ _).mono ?_; rintro e w' ⟨rfl, rfl⟩)
      go_ret
      exact ⟨ret_i HE.out, rfl⟩
theorem cmpV_lt (x y : Int × Int) : Go.Proofs.ltOf (fun x y : Int × Int => cmpV x.1 y.1) x y = decide (x.1 < y.1) := by
  unfold Go.Proofs.ltOf cmpV
  by_cases h1 : x.1 < y.1
  · simp [h1]
  · by_cases h2 : y.1 < x.1 <;> simp [h1, h2]
theorem swoB : SWO (Go.Proofs.ltOf fun x y : Int × Int => cmpV x.1 y.1) where
  irrefl x := by rw [cmpV_lt]; simp
  trans x y z h1 h2 := by rw [cmpV_lt] at *; simp at *; omega
  ntrans x y z h1 h2 := by rw [cmpV_lt] at *; simp at *; omega
theorem less_any (x y : Int × Int) (w : World) : Calls Tryz.prog 128 #[.agg #[.int .i64 x.1, .int .u64 x.2], .agg #[.int .i64 y.1, .int .u64 y.2]] w fun e w' => e = .returned (.int .i64 (cmpV x.1 y.1)) ∧ ∃ q os', w' = grow (w.drewN q) os' := by
  go_enter Tryz.func128, Tryz.ntmps128
  go_wp2_with (go_at_call 129; refine (cmp_any _ _ _).mono ?_; rintro e w' ⟨rfl, rfl⟩)
  go_ret
  exact ⟨rfl, 0, _, by rw [alloc_eq_grow, alloc_eq_grow, grow_grow]; rfl⟩
theorem lessLays (blk off size : Nat) (w : World) : CmpLays Tryz.prog 128 #[] encB 2 (fun x y => cmpV x.1 y.1) blk off size w := fun _ _ _ _ x y => less_any x y _

theorem heap_put {w : World} {g n : Nat} {os : Array Obj} {cur : Array Value} {e : TypeId} {fr : Nat × Nat} (F : Array Value) (hb : w.heap[g]? = some (.cells cur e fr)) :
    (grow (putRow id (Sort.ahead w n) g 0 F) os).heap[g]? = some (.cells (putCells id 0 F cur) e fr) := by
  have hg : g < w.heap.size := (Array.getElem?_eq_some_iff.1 hb).1
  rw [heap_grow_old _ _ (by simpa using hg)]
  simp [putRow, mapBlock, Sort.ahead, Array.getElem?_modify, hb, onCells]
theorem grown_put {w : World} {g n : Nat} {os : Array Obj} (F : Array Value) : w.grownBy (grow (putRow id (Sort.ahead w n) g 0 F) os) (some g) := by
  refine ⟨rfl, rfl, rfl, by simp, fun k hk hne => ?_⟩
  rw [heap_grow_old _ _ (by simpa using hk)]
  have : g ≠ k := fun e => hne (by rw [e])
  simp [putRow, mapBlock, Sort.ahead, Array.getElem?_modify, this]
theorem take_put (cur F : Array Value) (h : F.size ≤ cur.size) : (putCells id 0 F cur).toList.take F.size = F.toList := by
  apply List.ext_getElem?
  intro j
  by_cases hj : j < F.size
  · rw [List.getElem?_take_of_lt hj, Array.getElem?_toList]
    simp [putCells, hj, show j < cur.size by omega]
  · rw [List.getElem?_take_eq_none (by omega), List.getElem?_eq_none (by simp; omega)]

/-- what the sort leaves of a row of buckets -/
def Sorted (l : List (Int × Int)) : Prop := l.Pairwise fun a b => a.1 ≤ b.1
def SortPost (w : World) (base : Nat) (v : Value) (X : List (Int × Int)) (e : Ending) (w' : World) : Prop :=
  e = .returned (.tuple #[]) ∧ ∃ Y, Y.Perm X ∧ Sorted Y ∧ w'.ownsRow base 86 2 v X.length (cellsL Y) ∧ w.grownBy w' v.ownBlock
theorem sort_some (base g cap : Nat) (cur : Array Value) (X : List (Int × Int)) (w : World) (hbase : base ≤ g) (hb : w.heap[g]? = some (.cells cur 86 (0, 0))) (h1 : X.length ≤ cap) (h2 : cap ≤ maxLen) (h3 : cur.size = cap * 2) (h4 : cur.toList.take (X.length * 2) = cellsL X) (hX : X.length ≤ 1000000) :
    Calls Tryz.prog 127 #[.slice (some ⟨g, 0, none⟩) X.length cap, .func (.func 128) #[] #[]] w (SortPost w base (.slice (some ⟨g, 0, none⟩) X.length cap) X) := by
  have eg : ∀ args w, (callFunc 128 args).run Tryz.prog w = .ok (.enter 128 args) w := enters_of Tryz.func128 (by kernel_rfl) rfl
  have hH : HoldsK encB 2 w g 0 X.toArray := by
    intro j hj
    have hj' : j < X.length * 2 := by simpa using hj
    refine ⟨?_, by simp [World.frozen?, hb]⟩
    have e1 : (flatK encB 2 X.toArray)[j]? = (cellsL X)[j]? := by rw [← Array.getElem?_toList, flat_list]
    have e2 : (cellsL X)[j]? = cur[j]? := by rw [← h4, List.getElem?_take_of_lt hj', Array.getElem?_toList]
    rw [Nat.zero_add, cell_of_row w g j _ _ _ hb, ← e2, ← e1, getElem!_pos _ j hj]
    simp
  have hcon := AnyQ.slices_SortFunc Tryz.sortB 2 Tryz.isAgg86 Tryz.sizeOf86 encB (fun _ => rfl) (fun x v hv => by simp [encB] at hv; rcases hv with rfl | rfl <;> rfl) (fun x y => cmpV x.1 y.1) swoB 128 #[] g 0 cap X.toArray w eg (lessLays g 0 _ w) hH (Array.getElem?_eq_some_iff.1 hb).1 (by simp; omega)
  change Calls Tryz.prog 127 _ _ _ at hcon
  have hs : X.toArray.size = X.length := by simp
  rw [hs] at hcon
  refine hcon.mono ?_
  rintro e w' ⟨rfl, d', n, os, hp, hsd, rfl⟩
  obtain ⟨p1, _, p3⟩ := hp
  rw [hs] at p1
  have hperm : d'.toList.Perm X := by
    have e1 : (d'.extract 0 X.length) = d' := by rw [← p1]; simp
    have e2 : (X.toArray.extract 0 X.length) = X.toArray := by simp
    rw [e1, e2] at p3
    simpa using p3
  refine ⟨rfl, d'.toList, hperm, ?_, ?_, ?_⟩
  · refine List.pairwise_iff_getElem.2 fun i j hi hj hij => ?_
    have := hsd i j (Nat.zero_le _) hij (by simpa [p1] using hj)
    rw [cmpV_lt, getElem!_pos d' i (by simpa using hi), getElem!_pos d' j (by simpa using hj)] at this
    simp at this
    simpa using this
  · have hfs : (flatK encB 2 d').size = X.length * 2 := by simp [p1]
    refine ⟨by rw [cellsL_length]; simp [p1], .inr ⟨g, cap, _, rfl, hbase, heap_put _ hb, h1, h2, by simp [putCells, h3], ?_⟩⟩
    have ht := take_put cur (flatK encB 2 d') (by rw [hfs, h3]; omega)
    rw [hfs, flat_list] at ht
    exact ht
  · exact grown_put _
theorem sort_any (base n cap : Nat) (A : Option Addr) (X : List (Int × Int)) (w : World) (hown : w.ownsRow base 86 2 (.slice A n cap) n (cellsL X)) (hX : X.length ≤ 1000000) :
    Calls Tryz.prog 127 #[.slice A n cap, .func (.func 128) #[] #[]] w (SortPost w base (.slice A n cap) X) := by
  have hn : n = X.length := by
    have := hown.1
    rw [cellsL_length] at this
    omega
  subst hn
  rcases hown.2 with ⟨hv, h0⟩ | ⟨g, cap', cur, hv, hbase, hb, h1, h2, h3, h4⟩
  · injection hv with e1 e2 e3
    subst e1 e3
    have hX0 : X = [] := List.eq_nil_of_length_eq_zero h0
    subst hX0
    have hcon := AnyF.slices_SortFunc_none Tryz.sortB none 0 (.func (.func 128) #[] #[]) w
    refine hcon.mono ?_
    rintro e w' ⟨rfl, rfl⟩
    exact ⟨rfl, [], List.Perm.refl _, List.Pairwise.nil, hown, World.grownBy.refl _ _⟩
  · injection hv with e1 e2 e3
    subst e1 e3
    exact sort_some base g cap cur X w hbase hb h1 h2 h3 h4 hX
end Go.Proofs.YtakomfnajeolcaaGreatDoor

/-! What spread has collected while it ranges over a map of counts. -/
namespace Go.Proofs.YtakomfnajeolcaaGreatDoor
open Go.RowKit Go.Sort Go.Maps
set_option linter.unusedVariables false

theorem grown_set (w : World) (a : Addr) (u : Value) : w.grownBy (w.setCell a u) (some a.block) :=
  ⟨rfl, rfl, rfl, by simp [World.setCell], fun k hk hne => Below.heap_setCell w a u k (fun e => hne (by rw [e]))⟩
theorem grown_drewN {w w' : World} {row : Option Nat} (h : w.grownBy w' row) (n : Nat) : w.grownBy (w'.drewN n) row := ⟨h.os, h.tape, h.output, h.size, h.block⟩
theorem heap_set_at {w : World} {g i : Nat} {cs : Array Value} {t : TypeId} {fr : Nat × Nat} (h : w.heap[g]? = some (.cells cs t fr)) (u : Value) : (w.setCell ⟨g, i, none⟩ u).heap[g]? = some (.cells (cs.setIfInBounds i u) t fr) := by
  simp [World.setCell, Array.getElem?_modify, h]

/-- the buckets of a side that have come -/
def Col (f : F3) (sc s : Int) (left : Lit → Bool) (X : List (Int × Int)) : Prop := (X.map (·.1)).Nodup ∧ (∀ p ∈ X, I64 p.1) ∧ ∀ i n, I64 i → ((i, n) ∈ X ↔ (n = f s sc i ∧ n ≠ 0 ∧ left (kL s sc i) = false))
theorem Col.start {f : F3} {sc s : Int} {D : DataW Unit} (h : Rd D f) (hs : I64 s) (hc : I64 sc) : Col f sc s (has D) [] := by
  refine ⟨by simp, by simp, fun i n hi => ?_⟩
  constructor
  · intro h; cases h
  · rintro ⟨rfl, h1, h2⟩
    rw [(h.2.1 s sc i hs hc hi).2.2 h1] at h2
    cases h2
/-- an entry of this side has come -/
theorem Col.here {f : F3} {sc s : Int} {left : Lit → Bool} {X : List (Int × Int)} (h : Col f sc s left X) (hs : I64 s) (hc : I64 sc) {i : Int} (hi : I64 i) (hl : left (kL s sc i) = true) (h0 : f s sc i ≠ 0) : Col f sc s (fun x => left x && !x.sameKey (kL s sc i)) (X ++ [(i, f s sc i)]) := by
  obtain ⟨h1, h2, h3⟩ := h
  have hni : ∀ n, (i, n) ∉ X := fun n hm => by
    have := ((h3 i n hi).1 hm).2.2
    rw [hl] at this
    cases this
  refine ⟨?_, ?_, fun j n hj => ?_⟩
  · rw [List.map_append, List.nodup_append]
    refine ⟨h1, by simp, fun a ha b hb => ?_⟩
    simp at hb
    obtain ⟨q, hq, rfl⟩ := List.mem_map.1 ha
    rintro rfl
    subst hb
    exact hni q.2 hq
  · intro p hp
    rcases List.mem_append.1 hp with hp | hp
    · exact h2 p hp
    · simp at hp
      rw [hp]; exact hi
  · by_cases e : j = i
    · subst e
      simp only [List.mem_append, List.mem_singleton, Prod.mk.injEq, true_and, WideAt.sameKey_self (kL_key s sc j)]
      constructor
      · rintro (hm | rfl)
        · exact absurd hm (hni n)
        · exact ⟨rfl, h0, by simp⟩
      · rintro ⟨rfl, _, _⟩
        exact .inr rfl
    · have hne : kL s sc j ≠ kL s sc i := fun e' => e (kL_inj hs hc hj hs hc hi e').2.2
      have hk : (kL s sc j).sameKey (kL s sc i) = false := sameKey_ne hne
      simp only [List.mem_append, List.mem_singleton, Prod.mk.injEq, e, false_and, or_false, hk]
      simpa using h3 j n hj
/-- an entry of another side has come -/
theorem Col.there {f : F3} {sc s : Int} {left : Lit → Bool} {X : List (Int × Int)} (h : Col f sc s left X) (hs : I64 s) (hc : I64 sc) {s' c' i : Int} (hs' : I64 s') (hc' : I64 c') (hi : I64 i) (hne : s' ≠ s) : Col f sc s (fun x => left x && !x.sameKey (kL s' c' i)) X := by
  obtain ⟨h1, h2, h3⟩ := h
  refine ⟨h1, h2, fun j n hj => ?_⟩
  have hne : kL s sc j ≠ kL s' c' i := fun e' => hne (kL_inj hs hc hj hs' hc' hi e').1.symm
  have hk : (kL s sc j).sameKey (kL s' c' i) = false := sameKey_ne hne
  simp only [hk]
  simpa using h3 j n hj
/-- all have come -/
def Side (f : F3) (sc s : Int) (X : List (Int × Int)) : Prop := (X.map (·.1)).Nodup ∧ (∀ p ∈ X, I64 p.1) ∧ ∀ i n, I64 i → ((i, n) ∈ X ↔ (n = f s sc i ∧ n ≠ 0))
theorem Col.all {f : F3} {sc s : Int} {left : Lit → Bool} {X : List (Int × Int)} (h : Col f sc s left X) (hl : ∀ kl, left kl = false) : Side f sc s X :=
  ⟨h.1, h.2.1, fun i n hi => by rw [h.2.2 i n hi, hl]; simp⟩

/-- how a value with its own row stands beside another one -/
def Apart (u v : Value) : Prop := ∀ g, u.ownBlock = some g → v.ownBlock ≠ some g
structure SpSt (w wr : World) (B1 r b n : Nat) (D : DataW Unit) (f : F3) (sc : Int) (left : Lit → Bool) (cnt : Nat) (A C : Option Addr) (c d : Nat) (X Y : List (Int × Int)) : Prop where
  rng : wr.ranges Tryz.prog 175 (plainElem Tryz.prog 36) b r n D left cnt
  sub : ∀ kl, left kl = true → has D kl = true
  arr : wr.heap[B1]? = some (.cells #[.slice A X.length c, .slice C Y.length d] 99 (0, 0))
  ownX : wr.ownsRow (r + 1) 86 2 (.slice A X.length c) X.length (cellsL X)
  ownY : wr.ownsRow (r + 1) 86 2 (.slice C Y.length d) Y.length (cellsL Y)
  apart : Apart (.slice A X.length c) (.slice C Y.length d)
  colX : Col f sc 1 left X
  colY : Col f sc (-1) left Y
  bel : Below w.heap.size w wr
  room : X.length + Y.length + cnt ≤ size D
  lo : w.heap.size ≤ B1
  mid : B1 < r
  low : b < w.heap.size
/-- an entry of the side 0 is appended and laid -/
theorem SpSt.put0 {w w0 w1 w2 : World} {B1 r b n : Nat} {D : DataW Unit} {f : F3} {sc : Int} {left : Lit → Bool} {cnt cnt' : Nat} {A C : Option Addr} {c d : Nat} {X Y : List (Int × Int)} (h : SpSt w w0 B1 r b n D f sc left cnt A C c d X Y)
    (hsc : I64 sc) {i : Int} (hi : I64 i) (hl : left (kL 1 sc i) = true) (h0 : f 1 sc i ≠ 0) (hcnt : cnt' < cnt)
    (hr1 : w1.ranges Tryz.prog 175 (plainElem Tryz.prog 36) b r n D (fun x => left x && !x.sameKey (kL 1 sc i)) cnt') (hg1 : w0.grownBy w1 (some r))
    (o1 o2 : Obj) (q : Nat) {g cap : Nat}
    (hg2 : (((w1.alloc o1).drewN q).alloc o2).grownBy w2 (Value.slice A X.length c).ownBlock) (hown : w2.ownsRow (r + 1) 86 2 (.slice (some ⟨g, 0, none⟩) (X.length + 1) cap) (X.length + 1) (cellsL X ++ encB (i, f 1 sc i)))
    (hat : (Value.slice A X.length c).ownBlock = some g ∨ g = (((w1.alloc o1).drewN q).alloc o2).heap.size) :
    SpSt w (w2.setCell ⟨B1, 0, none⟩ (.slice (some ⟨g, 0, none⟩) (X.length + 1) cap)) B1 r b n D f sc (fun x => left x && !x.sameKey (kL 1 sc i)) cnt' (some ⟨g, 0, none⟩) C cap d (X ++ [(i, f 1 sc i)]) (Y) := by
  have hs : I64 1 := ⟨by decide, by decide⟩
  have hs' : I64 (-1) := ⟨by decide, by decide⟩
  have hlr := h.rng.lt
  have hsz := hg1.size
  have hlt : ∀ gg, (Value.slice A X.length c).ownBlock = some gg → r + 1 ≤ gg ∧ gg < w0.heap.size := h.ownX.lt
  have hltO := h.ownY.lt
  have gA : w1.grownBy (((w1.alloc o1).drewN q).alloc o2) none := by
    have a1 := World.grownBy_alloc w1 o1 none
    have a2 := grown_drewN a1 q
    exact a2.andThen (World.grownBy_alloc _ o2 none) (fun j hj => by cases hj)
  have own0 := (h.ownX.kept hg1 (by
    rcases ho : (Value.slice A X.length c).ownBlock with _ | gg
    · exact .inl rfl
    · refine .inr (fun e => ?_)
      injection e with e
      have := (hlt gg ho).1
      omega))
  have ownO := ((h.ownY.kept hg1 (by
    rcases ho : (Value.slice C Y.length d).ownBlock with _ | gg
    · exact .inl rfl
    · refine .inr (fun e => ?_)
      injection e with e
      have := (hltO gg ho).1
      omega)).kept gA (by
    rcases ho : (Value.slice C Y.length d).ownBlock with _ | gg
    · exact .inl rfl
    · exact .inr (by simp))).kept hg2 (by
    rcases ho : (Value.slice C Y.length d).ownBlock with _ | gg
    · exact .inl rfl
    · refine .inr (fun e => ?_)
      exact h.apart gg e.symm ho)
  have hszA := gA.size
  have hb1 : B1 < w0.heap.size := by have := h.mid; omega
  have hrow : ∀ gg, (Value.slice A X.length c).ownBlock = some gg → r + 1 ≤ gg := fun gg hg => (hlt gg hg).1
  have arr1 : w2.heap[B1]? = some (.cells #[.slice A X.length c, .slice C Y.length d] 99 (0, 0)) := by
    have e1 := hg1.block B1 hb1 (by have := h.mid; intro e; injection e with e; omega)
    have e2 := gA.block B1 (by omega) (by simp)
    have e3 := hg2.block B1 (by omega) (fun e => by have := hrow B1 e.symm; have := h.mid; omega)
    rw [e3, e2, e1]
    exact h.arr
  have rng2 := (hr1.kept gA (by simp) (by simp)).kept hg2 (fun e => by have := hrow b e.symm; have := h.lo; have := h.mid; have := h.low; omega) (fun e => by have := hrow r e.symm; omega)
  have rng3 := rng2.kept (grown_set w2 ⟨B1, 0, none⟩ (.slice (some ⟨g, 0, none⟩) (X.length + 1) cap)) (by have := h.lo; have := h.low; intro e; injection e with e; simp at e; omega) (by have := h.mid; intro e; injection e with e; simp at e; omega)
  have hlen : (X ++ [(i, f 1 sc i)]).length = X.length + 1 := by simp
  have hce : cellsL (X ++ [(i, f 1 sc i)]) = cellsL X ++ encB (i, f 1 sc i) := by simp [cellsL]
  have hbase : B1 < r + 1 := by have := h.mid; omega
  have hgsz : w0.heap.size ≤ (((w1.alloc o1).drewN q).alloc o2).heap.size := Nat.le_trans hsz hszA
  refine ⟨rng3, fun kl hkl => h.sub kl (by simp at hkl; exact hkl.1), ?_, ?_, ?_, ?_, ?_, ?_, ?_, ?_, h.lo, h.mid, h.low⟩

  · rw [heap_set_at arr1, hlen]; rfl
  · rw [hlen, hce]; exact ownsRow_setCell_below hown hbase _
  · exact ownsRow_setCell_below ownO hbase _
  · intro gg hgg e
    simp [Value.ownBlock] at hgg
    subst hgg
    rcases hat with hat | hat
    · exact h.apart g hat e
    · have := (hltO g e).2; omega
  · exact h.colX.here hs hsc hi hl h0
  · exact h.colY.there hs' hsc hs hsc hi (by decide)
  · have hr0 : w.heap.size ≤ r := by have := h.lo; have := h.mid; omega
    have h0r := h.bel.size
    have b1 := h.bel.grown hg1 h0r (fun k hk => by cases hk; exact hr0)
    have b2 := b1.grown gA (by omega) (fun k hk => by cases hk)
    have b3 := b2.grown hg2 (by omega) (fun k hk => by have := hrow k hk; omega)
    exact b3.setCell h.lo _
  · have := h.room
    rw [hlen]; omega

/-- an entry of the side 1 is appended and laid -/
theorem SpSt.put1 {w w0 w1 w2 : World} {B1 r b n : Nat} {D : DataW Unit} {f : F3} {sc : Int} {left : Lit → Bool} {cnt cnt' : Nat} {A C : Option Addr} {c d : Nat} {X Y : List (Int × Int)} (h : SpSt w w0 B1 r b n D f sc left cnt A C c d X Y)
    (hsc : I64 sc) {i : Int} (hi : I64 i) (hl : left (kL (-1) sc i) = true) (h0 : f (-1) sc i ≠ 0) (hcnt : cnt' < cnt)
    (hr1 : w1.ranges Tryz.prog 175 (plainElem Tryz.prog 36) b r n D (fun x => left x && !x.sameKey (kL (-1) sc i)) cnt') (hg1 : w0.grownBy w1 (some r))
    (o1 o2 : Obj) (q : Nat) {g cap : Nat}
    (hg2 : (((w1.alloc o1).drewN q).alloc o2).grownBy w2 (Value.slice C Y.length d).ownBlock) (hown : w2.ownsRow (r + 1) 86 2 (.slice (some ⟨g, 0, none⟩) (Y.length + 1) cap) (Y.length + 1) (cellsL Y ++ encB (i, f (-1) sc i)))
    (hat : (Value.slice C Y.length d).ownBlock = some g ∨ g = (((w1.alloc o1).drewN q).alloc o2).heap.size) :
    SpSt w (w2.setCell ⟨B1, 1, none⟩ (.slice (some ⟨g, 0, none⟩) (Y.length + 1) cap)) B1 r b n D f sc (fun x => left x && !x.sameKey (kL (-1) sc i)) cnt' A (some ⟨g, 0, none⟩) c cap (X) (Y ++ [(i, f (-1) sc i)]) := by
  have hs : I64 (-1) := ⟨by decide, by decide⟩
  have hs' : I64 1 := ⟨by decide, by decide⟩
  have hlr := h.rng.lt
  have hsz := hg1.size
  have hlt : ∀ gg, (Value.slice C Y.length d).ownBlock = some gg → r + 1 ≤ gg ∧ gg < w0.heap.size := h.ownY.lt
  have hltO := h.ownX.lt
  have gA : w1.grownBy (((w1.alloc o1).drewN q).alloc o2) none := by
    have a1 := World.grownBy_alloc w1 o1 none
    have a2 := grown_drewN a1 q
    exact a2.andThen (World.grownBy_alloc _ o2 none) (fun j hj => by cases hj)
  have own0 := (h.ownY.kept hg1 (by
    rcases ho : (Value.slice C Y.length d).ownBlock with _ | gg
    · exact .inl rfl
    · refine .inr (fun e => ?_)
      injection e with e
      have := (hlt gg ho).1
      omega))
  have ownO := ((h.ownX.kept hg1 (by
    rcases ho : (Value.slice A X.length c).ownBlock with _ | gg
    · exact .inl rfl
    · refine .inr (fun e => ?_)
      injection e with e
      have := (hltO gg ho).1
      omega)).kept gA (by
    rcases ho : (Value.slice A X.length c).ownBlock with _ | gg
    · exact .inl rfl
    · exact .inr (by simp))).kept hg2 (by
    rcases ho : (Value.slice A X.length c).ownBlock with _ | gg
    · exact .inl rfl
    · refine .inr (fun e => ?_)
      exact h.apart gg ho e.symm)
  have hszA := gA.size
  have hb1 : B1 < w0.heap.size := by have := h.mid; omega
  have hrow : ∀ gg, (Value.slice C Y.length d).ownBlock = some gg → r + 1 ≤ gg := fun gg hg => (hlt gg hg).1
  have arr1 : w2.heap[B1]? = some (.cells #[.slice A X.length c, .slice C Y.length d] 99 (0, 0)) := by
    have e1 := hg1.block B1 hb1 (by have := h.mid; intro e; injection e with e; omega)
    have e2 := gA.block B1 (by omega) (by simp)
    have e3 := hg2.block B1 (by omega) (fun e => by have := hrow B1 e.symm; have := h.mid; omega)
    rw [e3, e2, e1]
    exact h.arr
  have rng2 := (hr1.kept gA (by simp) (by simp)).kept hg2 (fun e => by have := hrow b e.symm; have := h.lo; have := h.mid; have := h.low; omega) (fun e => by have := hrow r e.symm; omega)
  have rng3 := rng2.kept (grown_set w2 ⟨B1, 1, none⟩ (.slice (some ⟨g, 0, none⟩) (Y.length + 1) cap)) (by have := h.lo; have := h.low; intro e; injection e with e; simp at e; omega) (by have := h.mid; intro e; injection e with e; simp at e; omega)
  have hlen : (Y ++ [(i, f (-1) sc i)]).length = Y.length + 1 := by simp
  have hce : cellsL (Y ++ [(i, f (-1) sc i)]) = cellsL Y ++ encB (i, f (-1) sc i) := by simp [cellsL]
  have hbase : B1 < r + 1 := by have := h.mid; omega
  have hgsz : w0.heap.size ≤ (((w1.alloc o1).drewN q).alloc o2).heap.size := Nat.le_trans hsz hszA
  refine ⟨rng3, fun kl hkl => h.sub kl (by simp at hkl; exact hkl.1), ?_, ?_, ?_, ?_, ?_, ?_, ?_, ?_, h.lo, h.mid, h.low⟩

  · rw [heap_set_at arr1, hlen]; rfl
  · exact ownsRow_setCell_below ownO hbase _
  · rw [hlen, hce]; exact ownsRow_setCell_below hown hbase _
  · intro gg hgg e
    simp [Value.ownBlock] at e
    subst e
    rcases hat with hat | hat
    · exact h.apart g hgg hat
    · have := (hltO g hgg).2; omega
  · exact h.colX.there hs' hsc hs hsc hi (by decide)
  · exact h.colY.here hs hsc hi hl h0
  · have hr0 : w.heap.size ≤ r := by have := h.lo; have := h.mid; omega
    have h0r := h.bel.size
    have b1 := h.bel.grown hg1 h0r (fun k hk => by cases hk; exact hr0)
    have b2 := b1.grown gA (by omega) (fun k hk => by cases hk)
    have b3 := b2.grown hg2 (by omega) (fun k hk => by have := hrow k hk; omega)
    exact b3.setCell h.lo _
  · have := h.room
    rw [hlen]; omega

end Go.Proofs.YtakomfnajeolcaaGreatDoor


/- Contracts of To, of whole numbers' sums and differences, and of the document's own: what each returns, and that it leaves memory as it is. -/
namespace Go.Proofs.YtakomfnajeolcaaGreatDoor
open Go.RowKit Go.Sort
set_option linter.unusedVariables false

theorem up_any (n k : Int) (w : World) (h0 : 0 ≤ k) (h1 : k ≤ 60) (h2 : -4611686018427387904 ≤ n) (h3 : n ≤ 4611686018427387904) :
    Calls Tryz.prog 181 #[.int .i64 n, .int .u64 k] w fun e w' => e = .returned (.int .i64 (upv n k.toNat)) ∧ w = w' := by
  have hb := back_bounds n k.toNat
  have hp := pow_le_60 (k := k.toNat) (by omega)
  have hd := div_bounds n k.toNat 4611686018427387904 (by omega) (by omega)
  by_cases h : n / 2 ^ k.toNat * 2 ^ k.toNat = n
  · have e1 := upv_exact h
    have hE := Lib.hid e1
    have ht : (n / 2 ^ k.toNat * 2 ^ k.toNat != n) = false := by simpa using h
    clear h e1
    go_enter Tryz.func181, Tryz.ntmps181
    go_wp2_with (go_at_call 124; refine (down_any _ _ _ (by omega) (by omega)).mono ?_; rintro e w' ⟨rfl, rfl⟩)
    go_ret
    exact ⟨ret_int hE.out, rfl⟩
  · have e1 := upv_more h
    have hE := Lib.hid e1
    have ht : (n / 2 ^ k.toNat * 2 ^ k.toNat != n) = true := by simpa using h
    clear h e1
    go_enter Tryz.func181, Tryz.ntmps181
    go_wp2_with (go_at_call 124; refine (down_any _ _ _ (by omega) (by omega)).mono ?_; rintro e w' ⟨rfl, rfl⟩)
    go_ret
    exact ⟨ret_int hE.out, rfl⟩
theorem ok_parts {f t : Int} (h : okTo f t = true) : rightB f = true ∧ rightB t = true ∧ t ≤ f := by
  unfold okTo at h
  simpa using h
theorem to_yes (f t i : Int) (w : World) (h : okTo f t = true) (hi : inB f i = true) :
    Calls Tryz.prog 176 #[.int .i64 f, .int .i64 t, .int .i64 i] w fun e w' => e = .returned (.tuple #[.int .i64 (toV f t i), .int .i64 0]) ∧ w = w' := by
  obtain ⟨hF, hT, h1⟩ := ok_parts h
  obtain ⟨bf1, bf2⟩ := right_yes hF
  obtain ⟨bt1, bt2⟩ := right_yes hT
  obtain ⟨bi1, bi2⟩ := in_bd hi
  have h2 : decide (f < t) = false := by simp; omega
  have hE := Lib.hid (show upv i (f - t).toNat = toV f t i from rfl)
  clear h
  go_enter Tryz.func176, Tryz.ntmps176
  go_wp2_with (first | (go_at_call 83; refine (right_any _ _).mono ?_; rintro e w' ⟨rfl, rfl⟩) | (go_at_call 84; refine (in_any _ _ _).mono ?_; rintro e w' ⟨rfl, rfl⟩) | (go_at_call 181; refine (up_any _ _ _ (by omega) (by omega) (by omega) (by omega)).mono ?_; rintro e w' ⟨rfl, rfl⟩))
  go_ret2
  exact ⟨rfl, rfl⟩
theorem un_lt {s : Int} (h : rightB s = true) {i u : Int} : un s i < u ↔ i < cl s u := by
  have c := cl_bounds h u
  unfold un at c ⊢
  rcases uw_cases h with e | e | e | e | e | e | e | e | e | e | e | e | e <;> rw [e] at c ⊢ <;> omega
def subV (a b : Int) : Int := if a < b then 0 else a - b
def subE (a b : Int) : Int := if a < b then 5 else 0
theorem sub_any (a b : Int) (w : World) (a1 : a ≤ 18446744073709551615) (b0 : 0 ≤ b) :
    Calls Tryz.prog 132 #[.int .u64 a, .int .u64 b] w fun e w' => e = .returned (.tuple #[.int .u64 (subV a b), .int .i64 (subE a b)]) ∧ w = w' := by
  by_cases h : a < b
  · have E1 : Hid (subV a b = 0) := if_pos h
    have E2 : Hid (subE a b = 5) := if_pos h
    go_enter Tryz.func132, Tryz.ntmps132
    go_wp2
    go_ret2
    exact ⟨ret_pair E1.out.symm E2.out.symm, rfl⟩
  · have E1 : Hid (subV a b = a - b) := if_neg h
    have E2 : Hid (subE a b = 0) := if_neg h
    go_enter Tryz.func132, Tryz.ntmps132
    go_wp2
    go_ret2
    exact ⟨ret_pair E1.out.symm E2.out.symm, rfl⟩
theorem subint_any (a b : Int) (w : World) (a0 : -9223372036854775808 ≤ a) (a1 : a ≤ 9223372036854775807) (b0 : -9223372036854775808 ≤ b) (b1 : b ≤ 9223372036854775807) :
    Calls Tryz.prog 134 #[.int .i64 a, .int .i64 b] w fun e w' => e = .returned (.tuple #[.int .i64 (intV (a - b)), .int .i64 (intE (a - b))]) ∧ w = w' := by
  by_cases hp : 0 < b
  · by_cases h : a < -9223372036854775808 + b
    · obtain ⟨e1, e2⟩ := int_over (s := a - b) (by unfold inI64; omega)
      have E1 := Lib.hid e1
      have E2 := Lib.hid e2
      clear e1 e2
      go_enter Tryz.func134, Tryz.ntmps134
      go_wp2
      go_ret2
      exact ⟨ret_pair E1.out.symm E2.out.symm, rfl⟩
    · obtain ⟨e1, e2⟩ := int_fits (s := a - b) (by unfold inI64; omega)
      have E1 := Lib.hid e1
      have E2 := Lib.hid e2
      clear e1 e2
      go_enter Tryz.func134, Tryz.ntmps134
      go_wp2
      go_ret2
      exact ⟨ret_pair E1.out.symm E2.out.symm, rfl⟩
  · by_cases hn : b < 0
    · by_cases h : 9223372036854775807 + b < a
      · obtain ⟨e1, e2⟩ := int_over (s := a - b) (by unfold inI64; omega)
        have E1 := Lib.hid e1
        have E2 := Lib.hid e2
        clear e1 e2
        go_enter Tryz.func134, Tryz.ntmps134
        go_wp2
        go_ret2
        exact ⟨ret_pair E1.out.symm E2.out.symm, rfl⟩
      · obtain ⟨e1, e2⟩ := int_fits (s := a - b) (by unfold inI64; omega)
        have E1 := Lib.hid e1
        have E2 := Lib.hid e2
        clear e1 e2
        go_enter Tryz.func134, Tryz.ntmps134
        go_wp2
        go_ret2
        exact ⟨ret_pair E1.out.symm E2.out.symm, rfl⟩
    · obtain ⟨e1, e2⟩ := int_fits (s := a - b) (by unfold inI64; omega)
      have E1 := Lib.hid e1
      have E2 := Lib.hid e2
      clear e1 e2
      have hz : (0 : Int) ≤ b := by omega
      go_enter Tryz.func134, Tryz.ntmps134
      go_wp2
      go_ret2
      exact ⟨ret_pair E1.out.symm E2.out.symm, rfl⟩
end Go.Proofs.YtakomfnajeolcaaGreatDoor
