/- What spread has collected while it ranges over a map of counts. -/
import Derived.Test.YtofaciagkkipbaaHsH
namespace Go.Proofs.Ytofaciagkkipbaa
open Go.RowKit Go.Sort Go.Maps
set_option linter.unusedVariables false

theorem grown_set (w : World) (a : Addr) (u : Value) : w.grownBy (w.setCell a u) (some a.block) :=
  ⟨rfl, rfl, rfl, by simp [World.setCell], fun k hk hne => Below.heap_setCell w a u k (fun e => hne (by rw [e]))⟩
theorem grown_drewN {w w' : World} {row : Option Nat} (h : w.grownBy w' row) (n : Nat) : w.grownBy (w'.drewN n) row := ⟨h.os, h.tape, h.output, h.size, h.block⟩
theorem heap_set_at {w : World} {g i : Nat} {cs : Array Value} {t : TypeId} {fr : Nat × Nat} (h : w.heap[g]? = some (.cells cs t fr)) (u : Value) : (w.setCell ⟨g, i, none⟩ u).heap[g]? = some (.cells (cs.setIfInBounds i u) t fr) := by
  simp [World.setCell, Array.getElem?_modify, h]

/-- the buckets of a side that have come -/
def Col (f : F3) (sc s : Int) (left : Lit → Bool) (X : List (Int × Int)) : Prop := (X.map (·.1)).Nodup ∧ (∀ p ∈ X, I64 p.1) ∧ ∀ i n, I64 i → ((i, n) ∈ X ↔ (n = f s sc i ∧ n ≠ 0 ∧ left (kL s sc i) = false))
theorem Col.start {f : F3} {sc s : Int} {D : DataW Unit} (h : Rd D f) (hs : I64 s) (hc : I64 sc) : Col f sc s (has D) [] := by
  refine ⟨by simp, by simp, fun i n hi => ?_⟩
  constructor
  · intro h; cases h
  · rintro ⟨rfl, h1, h2⟩
    rw [(h.2.1 s sc i hs hc hi).2.2 h1] at h2
    cases h2
/-- an entry of this side has come -/
theorem Col.here {f : F3} {sc s : Int} {left : Lit → Bool} {X : List (Int × Int)} (h : Col f sc s left X) (hs : I64 s) (hc : I64 sc) {i : Int} (hi : I64 i) (hl : left (kL s sc i) = true) (h0 : f s sc i ≠ 0) : Col f sc s (fun x => left x && !x.sameKey (kL s sc i)) (X ++ [(i, f s sc i)]) := by
  obtain ⟨h1, h2, h3⟩ := h
  have hni : ∀ n, (i, n) ∉ X := fun n hm => by
    have := ((h3 i n hi).1 hm).2.2
    rw [hl] at this
    cases this
  refine ⟨?_, ?_, fun j n hj => ?_⟩
  · rw [List.map_append, List.nodup_append]
    refine ⟨h1, by simp, fun a ha b hb => ?_⟩
    simp at hb
    obtain ⟨q, hq, rfl⟩ := List.mem_map.1 ha
    rintro rfl
    subst hb
    exact hni q.2 hq
  · intro p hp
    rcases List.mem_append.1 hp with hp | hp
    · exact h2 p hp
    · simp at hp
      rw [hp]; exact hi
  · by_cases e : j = i
    · subst e
      simp only [List.mem_append, List.mem_singleton, Prod.mk.injEq, true_and, WideAt.sameKey_self (kL_key s sc j)]
      constructor
      · rintro (hm | rfl)
        · exact absurd hm (hni n)
        · exact ⟨rfl, h0, by simp⟩
      · rintro ⟨rfl, _, _⟩
        exact .inr rfl
    · have hne : kL s sc j ≠ kL s sc i := fun e' => e (kL_inj hs hc hj hs hc hi e').2.2
      have hk : (kL s sc j).sameKey (kL s sc i) = false := sameKey_ne hne
      simp only [List.mem_append, List.mem_singleton, Prod.mk.injEq, e, false_and, or_false, hk]
      simpa using h3 j n hj
/-- an entry of another side has come -/
theorem Col.there {f : F3} {sc s : Int} {left : Lit → Bool} {X : List (Int × Int)} (h : Col f sc s left X) (hs : I64 s) (hc : I64 sc) {s' c' i : Int} (hs' : I64 s') (hc' : I64 c') (hi : I64 i) (hne : s' ≠ s) : Col f sc s (fun x => left x && !x.sameKey (kL s' c' i)) X := by
  obtain ⟨h1, h2, h3⟩ := h
  refine ⟨h1, h2, fun j n hj => ?_⟩
  have hne : kL s sc j ≠ kL s' c' i := fun e' => hne (kL_inj hs hc hj hs' hc' hi e').1.symm
  have hk : (kL s sc j).sameKey (kL s' c' i) = false := sameKey_ne hne
  simp only [hk]
  simpa using h3 j n hj
/-- all have come -/
def Side (f : F3) (sc s : Int) (X : List (Int × Int)) : Prop := (X.map (·.1)).Nodup ∧ (∀ p ∈ X, I64 p.1) ∧ ∀ i n, I64 i → ((i, n) ∈ X ↔ (n = f s sc i ∧ n ≠ 0))
theorem Col.all {f : F3} {sc s : Int} {left : Lit → Bool} {X : List (Int × Int)} (h : Col f sc s left X) (hl : ∀ kl, left kl = false) : Side f sc s X :=
  ⟨h.1, h.2.1, fun i n hi => by rw [h.2.2 i n hi, hl]; simp⟩

/-- how a value with its own row stands beside another one -/
def Apart (u v : Value) : Prop := ∀ g, u.ownBlock = some g → v.ownBlock ≠ some g
structure SpSt (w wr : World) (B1 r b n : Nat) (D : DataW Unit) (f : F3) (sc : Int) (left : Lit → Bool) (cnt : Nat) (A C : Option Addr) (c d : Nat) (X Y : List (Int × Int)) : Prop where
  rng : wr.ranges Try.prog 110 (plainElem Try.prog 22) b r n D left cnt
  sub : ∀ kl, left kl = true → has D kl = true
  arr : wr.heap[B1]? = some (.cells #[.slice A X.length c, .slice C Y.length d] 79 (0, 0))
  ownX : wr.ownsRow (r + 1) 54 2 (.slice A X.length c) X.length (cellsL X)
  ownY : wr.ownsRow (r + 1) 54 2 (.slice C Y.length d) Y.length (cellsL Y)
  apart : Apart (.slice A X.length c) (.slice C Y.length d)
  colX : Col f sc 1 left X
  colY : Col f sc (-1) left Y
  bel : Below w.heap.size w wr
  room : X.length + Y.length + cnt ≤ size D
  lo : w.heap.size ≤ B1
  mid : B1 < r
  low : b < w.heap.size
/-- an entry of the side 0 is appended and laid -/
theorem SpSt.put0 {w w0 w1 w2 : World} {B1 r b n : Nat} {D : DataW Unit} {f : F3} {sc : Int} {left : Lit → Bool} {cnt cnt' : Nat} {A C : Option Addr} {c d : Nat} {X Y : List (Int × Int)} (h : SpSt w w0 B1 r b n D f sc left cnt A C c d X Y)
    (hsc : I64 sc) {i : Int} (hi : I64 i) (hl : left (kL 1 sc i) = true) (h0 : f 1 sc i ≠ 0) (hcnt : cnt' < cnt)
    (hr1 : w1.ranges Try.prog 110 (plainElem Try.prog 22) b r n D (fun x => left x && !x.sameKey (kL 1 sc i)) cnt') (hg1 : w0.grownBy w1 (some r))
    (o1 o2 : Obj) (q : Nat) {g cap : Nat}
    (hg2 : (((w1.alloc o1).drewN q).alloc o2).grownBy w2 (Value.slice A X.length c).ownBlock) (hown : w2.ownsRow (r + 1) 54 2 (.slice (some ⟨g, 0, none⟩) (X.length + 1) cap) (X.length + 1) (cellsL X ++ encB (i, f 1 sc i)))
    (hat : (Value.slice A X.length c).ownBlock = some g ∨ g = (((w1.alloc o1).drewN q).alloc o2).heap.size) :
    SpSt w (w2.setCell ⟨B1, 0, none⟩ (.slice (some ⟨g, 0, none⟩) (X.length + 1) cap)) B1 r b n D f sc (fun x => left x && !x.sameKey (kL 1 sc i)) cnt' (some ⟨g, 0, none⟩) C cap d (X ++ [(i, f 1 sc i)]) (Y) := by
  have hs : I64 1 := ⟨by decide, by decide⟩
  have hs' : I64 (-1) := ⟨by decide, by decide⟩
  have hlr := h.rng.lt
  have hsz := hg1.size
  have hlt : ∀ gg, (Value.slice A X.length c).ownBlock = some gg → r + 1 ≤ gg ∧ gg < w0.heap.size := h.ownX.lt
  have hltO := h.ownY.lt
  have gA : w1.grownBy (((w1.alloc o1).drewN q).alloc o2) none := by
    have a1 := World.grownBy_alloc w1 o1 none
    have a2 := grown_drewN a1 q
    exact a2.andThen (World.grownBy_alloc _ o2 none) (fun j hj => by cases hj)
  have own0 := (h.ownX.kept hg1 (by
    rcases ho : (Value.slice A X.length c).ownBlock with _ | gg
    · exact .inl rfl
    · refine .inr (fun e => ?_)
      injection e with e
      have := (hlt gg ho).1
      omega))
  have ownO := ((h.ownY.kept hg1 (by
    rcases ho : (Value.slice C Y.length d).ownBlock with _ | gg
    · exact .inl rfl
    · refine .inr (fun e => ?_)
      injection e with e
      have := (hltO gg ho).1
      omega)).kept gA (by
    rcases ho : (Value.slice C Y.length d).ownBlock with _ | gg
    · exact .inl rfl
    · exact .inr (by simp))).kept hg2 (by
    rcases ho : (Value.slice C Y.length d).ownBlock with _ | gg
    · exact .inl rfl
    · refine .inr (fun e => ?_)
      exact h.apart gg e.symm ho)
  have hszA := gA.size
  have hb1 : B1 < w0.heap.size := by have := h.mid; omega
  have hrow : ∀ gg, (Value.slice A X.length c).ownBlock = some gg → r + 1 ≤ gg := fun gg hg => (hlt gg hg).1
  have arr1 : w2.heap[B1]? = some (.cells #[.slice A X.length c, .slice C Y.length d] 79 (0, 0)) := by
    have e1 := hg1.block B1 hb1 (by have := h.mid; intro e; injection e with e; omega)
    have e2 := gA.block B1 (by omega) (by simp)
    have e3 := hg2.block B1 (by omega) (fun e => by have := hrow B1 e.symm; have := h.mid; omega)
    rw [e3, e2, e1]
    exact h.arr
  have rng2 := (hr1.kept gA (by simp) (by simp)).kept hg2 (fun e => by have := hrow b e.symm; have := h.lo; have := h.mid; have := h.low; omega) (fun e => by have := hrow r e.symm; omega)
  have rng3 := rng2.kept (grown_set w2 ⟨B1, 0, none⟩ (.slice (some ⟨g, 0, none⟩) (X.length + 1) cap)) (by have := h.lo; have := h.low; intro e; injection e with e; simp at e; omega) (by have := h.mid; intro e; injection e with e; simp at e; omega)
  have hlen : (X ++ [(i, f 1 sc i)]).length = X.length + 1 := by simp
  have hce : cellsL (X ++ [(i, f 1 sc i)]) = cellsL X ++ encB (i, f 1 sc i) := by simp [cellsL]
  have hbase : B1 < r + 1 := by have := h.mid; omega
  have hgsz : w0.heap.size ≤ (((w1.alloc o1).drewN q).alloc o2).heap.size := Nat.le_trans hsz hszA
  refine ⟨rng3, fun kl hkl => h.sub kl (by simp at hkl; exact hkl.1), ?_, ?_, ?_, ?_, ?_, ?_, ?_, ?_, h.lo, h.mid, h.low⟩

  · rw [heap_set_at arr1, hlen]; rfl
  · rw [hlen, hce]; exact ownsRow_setCell_below hown hbase _
  · exact ownsRow_setCell_below ownO hbase _
  · intro gg hgg e
    simp [Value.ownBlock] at hgg
    subst hgg
    rcases hat with hat | hat
    · exact h.apart g hat e
    · have := (hltO g e).2; omega
  · exact h.colX.here hs hsc hi hl h0
  · exact h.colY.there hs' hsc hs hsc hi (by decide)
  · have hr0 : w.heap.size ≤ r := by have := h.lo; have := h.mid; omega
    have h0r := h.bel.size
    have b1 := h.bel.grown hg1 h0r (fun k hk => by cases hk; exact hr0)
    have b2 := b1.grown gA (by omega) (fun k hk => by cases hk)
    have b3 := b2.grown hg2 (by omega) (fun k hk => by have := hrow k hk; omega)
    exact b3.setCell h.lo _
  · have := h.room
    rw [hlen]; omega

/-- an entry of the side 1 is appended and laid -/
theorem SpSt.put1 {w w0 w1 w2 : World} {B1 r b n : Nat} {D : DataW Unit} {f : F3} {sc : Int} {left : Lit → Bool} {cnt cnt' : Nat} {A C : Option Addr} {c d : Nat} {X Y : List (Int × Int)} (h : SpSt w w0 B1 r b n D f sc left cnt A C c d X Y)
    (hsc : I64 sc) {i : Int} (hi : I64 i) (hl : left (kL (-1) sc i) = true) (h0 : f (-1) sc i ≠ 0) (hcnt : cnt' < cnt)
    (hr1 : w1.ranges Try.prog 110 (plainElem Try.prog 22) b r n D (fun x => left x && !x.sameKey (kL (-1) sc i)) cnt') (hg1 : w0.grownBy w1 (some r))
    (o1 o2 : Obj) (q : Nat) {g cap : Nat}
    (hg2 : (((w1.alloc o1).drewN q).alloc o2).grownBy w2 (Value.slice C Y.length d).ownBlock) (hown : w2.ownsRow (r + 1) 54 2 (.slice (some ⟨g, 0, none⟩) (Y.length + 1) cap) (Y.length + 1) (cellsL Y ++ encB (i, f (-1) sc i)))
    (hat : (Value.slice C Y.length d).ownBlock = some g ∨ g = (((w1.alloc o1).drewN q).alloc o2).heap.size) :
    SpSt w (w2.setCell ⟨B1, 1, none⟩ (.slice (some ⟨g, 0, none⟩) (Y.length + 1) cap)) B1 r b n D f sc (fun x => left x && !x.sameKey (kL (-1) sc i)) cnt' A (some ⟨g, 0, none⟩) c cap (X) (Y ++ [(i, f (-1) sc i)]) := by
  have hs : I64 (-1) := ⟨by decide, by decide⟩
  have hs' : I64 1 := ⟨by decide, by decide⟩
  have hlr := h.rng.lt
  have hsz := hg1.size
  have hlt : ∀ gg, (Value.slice C Y.length d).ownBlock = some gg → r + 1 ≤ gg ∧ gg < w0.heap.size := h.ownY.lt
  have hltO := h.ownX.lt
  have gA : w1.grownBy (((w1.alloc o1).drewN q).alloc o2) none := by
    have a1 := World.grownBy_alloc w1 o1 none
    have a2 := grown_drewN a1 q
    exact a2.andThen (World.grownBy_alloc _ o2 none) (fun j hj => by cases hj)
  have own0 := (h.ownY.kept hg1 (by
    rcases ho : (Value.slice C Y.length d).ownBlock with _ | gg
    · exact .inl rfl
    · refine .inr (fun e => ?_)
      injection e with e
      have := (hlt gg ho).1
      omega))
  have ownO := ((h.ownX.kept hg1 (by
    rcases ho : (Value.slice A X.length c).ownBlock with _ | gg
    · exact .inl rfl
    · refine .inr (fun e => ?_)
      injection e with e
      have := (hltO gg ho).1
      omega)).kept gA (by
    rcases ho : (Value.slice A X.length c).ownBlock with _ | gg
    · exact .inl rfl
    · exact .inr (by simp))).kept hg2 (by
    rcases ho : (Value.slice A X.length c).ownBlock with _ | gg
    · exact .inl rfl
    · refine .inr (fun e => ?_)
      exact h.apart gg ho e.symm)
  have hszA := gA.size
  have hb1 : B1 < w0.heap.size := by have := h.mid; omega
  have hrow : ∀ gg, (Value.slice C Y.length d).ownBlock = some gg → r + 1 ≤ gg := fun gg hg => (hlt gg hg).1
  have arr1 : w2.heap[B1]? = some (.cells #[.slice A X.length c, .slice C Y.length d] 79 (0, 0)) := by
    have e1 := hg1.block B1 hb1 (by have := h.mid; intro e; injection e with e; omega)
    have e2 := gA.block B1 (by omega) (by simp)
    have e3 := hg2.block B1 (by omega) (fun e => by have := hrow B1 e.symm; have := h.mid; omega)
    rw [e3, e2, e1]
    exact h.arr
  have rng2 := (hr1.kept gA (by simp) (by simp)).kept hg2 (fun e => by have := hrow b e.symm; have := h.lo; have := h.mid; have := h.low; omega) (fun e => by have := hrow r e.symm; omega)
  have rng3 := rng2.kept (grown_set w2 ⟨B1, 1, none⟩ (.slice (some ⟨g, 0, none⟩) (Y.length + 1) cap)) (by have := h.lo; have := h.low; intro e; injection e with e; simp at e; omega) (by have := h.mid; intro e; injection e with e; simp at e; omega)
  have hlen : (Y ++ [(i, f (-1) sc i)]).length = Y.length + 1 := by simp
  have hce : cellsL (Y ++ [(i, f (-1) sc i)]) = cellsL Y ++ encB (i, f (-1) sc i) := by simp [cellsL]
  have hbase : B1 < r + 1 := by have := h.mid; omega
  have hgsz : w0.heap.size ≤ (((w1.alloc o1).drewN q).alloc o2).heap.size := Nat.le_trans hsz hszA
  refine ⟨rng3, fun kl hkl => h.sub kl (by simp at hkl; exact hkl.1), ?_, ?_, ?_, ?_, ?_, ?_, ?_, ?_, h.lo, h.mid, h.low⟩

  · rw [heap_set_at arr1, hlen]; rfl
  · exact ownsRow_setCell_below ownO hbase _
  · rw [hlen, hce]; exact ownsRow_setCell_below hown hbase _
  · intro gg hgg e
    simp [Value.ownBlock] at e
    subst e
    rcases hat with hat | hat
    · exact h.apart g hgg hat
    · have := (hltO g hgg).2; omega
  · exact h.colX.there hs' hsc hs hsc hi (by decide)
  · exact h.colY.here hs hsc hi hl h0
  · have hr0 : w.heap.size ≤ r := by have := h.lo; have := h.mid; omega
    have h0r := h.bel.size
    have b1 := h.bel.grown hg1 h0r (fun k hk => by cases hk; exact hr0)
    have b2 := b1.grown gA (by omega) (fun k hk => by cases hk)
    have b3 := b2.grown hg2 (by omega) (fun k hk => by have := hrow k hk; omega)
    exact b3.setCell h.lo _
  · have := h.room
    rw [hlen]; omega

end Go.Proofs.Ytofaciagkkipbaa
