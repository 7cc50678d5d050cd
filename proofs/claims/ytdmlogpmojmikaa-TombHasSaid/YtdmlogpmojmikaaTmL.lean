/- Sets by their times: And, Without, Of, Ranges, same. -/
import Derived.Test.YtdmlogpmojmikaaTmK
import Derived.Test.YtdmlogpmojmikaaRgI
namespace Go.Proofs.Ytdmlogpmojmikaa.Tm
open Go.RowKit Go.Sort
set_option linter.unusedVariables false

/-- a set that has just these times, of no more than n ranges -/
def TS (H : Int → Prop) (n : Nat) (v : Value) (w : World) : Prop := ∃ Z, Can Z ∧ (∀ t, HasP Z t ↔ H t) ∧ Z.length ≤ n ∧ St w v Z
theorem TS.below {H : Int → Prop} {n : Nat} {v : Value} {w w' : World} (h : TS H n v w) (hb : Below w.heap.size w w') : TS H n v w' := by
  obtain ⟨Z, h1, h2, h3, h4⟩ := h
  exact ⟨Z, h1, h2, h3, h4.below hb⟩
/-- a slice that reads as one range -/
def OneS (p : Rg) (v : Value) (w : World) : Prop := ∃ A c, v = .slice A 1 c ∧ Cl w A (twoC .i64 [p])
theorem OneS.below {p : Rg} {v : Value} {w w' : World} (h : OneS p v w) (hb : Below w.heap.size w w') : OneS p v w' := by
  obtain ⟨A, c, h1, h2⟩ := h
  exact ⟨A, c, h1, h2.below hb⟩
/-- a slice that reads as ranges -/
def RL (X : List Rg) (v : Value) (w : World) : Prop := ∃ A c, v = .slice A X.length c ∧ Cl w A (twoC .i64 X)
theorem RL.below {X : List Rg} {v : Value} {w w' : World} (h : RL X v w) (hb : Below w.heap.size w w') : RL X v w' := by
  obtain ⟨A, c, h1, h2⟩ := h
  exact ⟨A, c, h1, h2.below hb⟩
theorem andT {H G : Int → Prop} {n m : Nat} {v u : Value} {w : World} (h : TS H n v w) (k : TS G m u w) (hn : n ≤ 1000) (hm : m ≤ 1000) :
    Calls Try.prog 9 #[v, u] w fun e w' => ∃ z, e = .returned z ∧ TS (fun t => H t ∨ G t) (n + m) z w' ∧ Below w.heap.size w w' := by
  obtain ⟨X, h1, h2, h3, h4⟩ := h
  obtain ⟨Y, k1, k2, k3, k4⟩ := k
  refine (andS_any v u X Y w h4 k4 (by omega) (by omega)).mono ?_
  rintro e w' ⟨z, Z, rfl, hz, hzl, hs, hb⟩
  refine ⟨z, rfl, ⟨Z, hz.1, fun t => ?_, by rw [List.length_append] at hzl; omega, hs⟩, hb⟩
  rw [hz.2, hasR_append, hasR_can h1.1, hasR_can k1.1, h2, k2]
theorem withoutT {H : Int → Prop} {n : Nat} {v : Value} {w : World} (h : TS H n v w) (a b : Int) (hr : RightP (a, b)) (hn : n ≤ 1000) :
    Calls Try.prog 10 #[v, .agg #[.int .i64 a, .int .i64 b]] w fun e w' => ∃ z, e = .returned z ∧ TS (fun t => H t ∧ ¬ InR (a, b) t) (2 * n) z w' ∧ Below w.heap.size w w' := by
  obtain ⟨X, h1, h2, h3, h4⟩ := h
  refine (without_ok v X a b w h4 h1 hr (by omega)).mono ?_
  rintro e w' ⟨z, Z, rfl, hz, hzt, hzl, hs, hb⟩
  exact ⟨z, rfl, ⟨Z, hz, fun t => by rw [hzt, h2], by omega, hs⟩, hb⟩
theorem withoutN {H : Int → Prop} {n : Nat} {v : Value} {w : World} (h : TS H n v w) (a b : Int) (hr : ¬ RightP (a, b)) :
    Calls Try.prog 10 #[v, .agg #[.int .i64 a, .int .i64 b]] w fun e w' => ∃ z, e = .returned z ∧ TS H n z w' ∧ Below w.heap.size w w' := by
  have h' := h
  obtain ⟨X, h1, h2, h3, h4⟩ := h
  refine (without_bad v X a b w h4 hr).mono ?_
  rintro e w' ⟨rfl, hb⟩
  exact ⟨v, rfl, h'.below hb, hb⟩
theorem ofT {v : Value} {l : List Rg} {w : World} (h : RL l v w) (hl : l.length ≤ 1000) :
    Calls Try.prog 7 #[v] w fun e w' => ∃ z, e = .returned z ∧ TS (HasR l) l.length z w' ∧ Below w.heap.size w w' := by
  obtain ⟨A, c, rfl, h⟩ := h
  refine (of_any A l.length c l w rfl h (by omega)).mono ?_
  rintro e w' ⟨z, Z, rfl, hz, hzl, hs, hb⟩
  exact ⟨z, rfl, ⟨Z, hz.1, hz.2, hzl, hs⟩, hb⟩
theorem ofOne {v : Value} {p : Rg} {w : World} (h : OneS p v w) :
    Calls Try.prog 7 #[v] w fun e w' => ∃ z, e = .returned z ∧ TS (HasR [p]) 1 z w' ∧ Below w.heap.size w w' := ofT (l := [p]) h (by simp)
theorem sameT {H G : Int → Prop} {n m : Nat} {v u : Value} {w : World} (h : TS H n v w) (k : TS G m u w) (hn : n ≤ 10000) (hm : m ≤ 10000) (he : ∀ t, H t ↔ G t) :
    Calls Try.prog 21 #[v, u] w fun e w' => e = .returned (.bool true) ∧ Below w.heap.size w w' := by
  obtain ⟨X, h1, h2, h3, h4⟩ := h
  obtain ⟨Y, k1, k2, k3, k4⟩ := k
  obtain rfl : X = Y := can_one h1 k1 fun t => by rw [h2, k2, he]
  have := same_any v u X X w h4 k4 (by omega) (by omega)
  rwa [eqL_self] at this
theorem rangesRL {v : Value} {X : List Rg} {w : World} (h : St w v X) (hl : X.length ≤ 10000) :
    Calls Try.prog 12 #[v] w fun e w' => ∃ z, e = .returned z ∧ RL X z w' ∧ Below w.heap.size w w' := by
  refine (ranges_any v X w h hl).mono ?_
  rintro e w' ⟨A, c, rfl, ho, hb⟩
  exact ⟨_, rfl, ⟨A, c, rfl, own_cl ho⟩, hb⟩
/-- a set without times has no ranges -/
theorem rangesNone {H : Int → Prop} {n : Nat} {v : Value} {w : World} (h : TS H n v w) (he : ∀ t, ¬ H t) :
    Calls Try.prog 12 #[v] w fun e w' => ∃ A c, e = .returned (.slice A 0 c) ∧ Below w.heap.size w w' := by
  obtain ⟨X, h1, h2, h3, h4⟩ := h
  obtain rfl : X = [] := can_one h1 can_nil fun t => by rw [h2]; exact ⟨fun h => absurd h (he t), fun h => absurd h (hasP_nil t)⟩
  refine (ranges_any v [] w h4 (by simp)).mono ?_
  rintro e w' ⟨A, c, rfl, ho, hb⟩
  exact ⟨A, c, rfl, hb⟩
end Go.Proofs.Ytdmlogpmojmikaa.Tm
