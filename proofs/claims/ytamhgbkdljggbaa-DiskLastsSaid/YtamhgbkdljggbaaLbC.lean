/- Rows of bytes, of labels, of texts that a call makes itself: append, and bytes as a text. -/
import Derived.Lib.Bytealg
import Derived.Lib.Hide
import Derived.Sort.Walk0
import Derived.Test.YtamhgbkdljggbaaRows
import Derived.WalkKit
import Derived.WalkLawsBesides
import Derived.WalkSpells
import Derived.OpenShut
import Derived.LoopTactic
import Derived.Below
import Derived.Lib.QuietBelow
import Derived.Deep.QuietTactic
import Derived.BigQuiet
import Derived.Deep.RegionWith
import Derived.Deep.RegionHeld3
import Derived.Outline
import Derived.Deep.AppendLies
import Derived.Laws.OwnMore
import Derived.Laws.AppendOwnNone
import Derived.IntWalk
import Derived.Laws.IdiomStrings
import Derived.Lib.Strings
/-! Labels as lists: names, values, what is wrong with them; plain facts. -/
namespace Go.Proofs.Ytamhgbkdljggbaa.Lb
set_option linter.unusedVariables false

abbrev Lab := ByteArray × ByteArray
def dgB (c : Int) : Bool := decide (48 ≤ c) && decide (c ≤ 57)
def ltB (c : Int) : Bool := (decide (97 ≤ c) && decide (c ≤ 122)) || (decide (65 ≤ c) && decide (c ≤ 90))
def valB (s : ByteArray) : Bool := decide (1 ≤ s.size) && decide (s.size ≤ 64)
/-- may this byte stand in a name? -/
def nmC (c : UInt8) : Bool := (c.toNat == 95) || dgB c.toNat || ltB c.toNat
/-- may it stand there, as the place says? -/
def nmAt (s : ByteArray) (i : Nat) : Prop := ∀ h : i < s.size, nmC s[i] = true
/-- a name -/
def NameP (s : ByteArray) : Prop := valB s = true ∧ (∀ h : 0 < s.size, dgB s[0].toNat = false) ∧ ∀ i, nmAt s i
open Classical in
noncomputable def nameB (s : ByteArray) : Bool := decide (NameP s)
theorem nameB_iff (s : ByteArray) : nameB s = true ↔ NameP s := by unfold nameB; simp
theorem nameB_false (s : ByteArray) : nameB s = false ↔ ¬ NameP s := by unfold nameB; simp
/-- byte by byte: is one ahead of the other? -/
def ltS (a b : ByteArray) : Prop := a.toList < b.toList
/-- a label that may be -/
def OkL (p : Lab) : Prop := NameP p.1 ∧ valB p.2 = true
def GoodAt (l : List Lab) (k : Nat) : Prop := ∀ p, l[k]? = some p → OkL p ∧ ∀ q, 0 < k → l[k - 1]? = some q → ltS q.1 p.1
def Good (l : List Lab) : Prop := ∀ k, GoodAt l k
open Classical in
noncomputable def chk (l : List Lab) : Int := if 16 < l.length then 9 else if Good l then 0 else 26
theorem chk_9 {l : List Lab} (h : 16 < l.length) : chk l = 9 := by unfold chk; rw [if_pos h]
theorem chk_0 {l : List Lab} (h : l.length ≤ 16) (hg : Good l) : chk l = 0 := by unfold chk; rw [if_neg (by omega), if_pos hg]
theorem chk_26 {l : List Lab} (h : l.length ≤ 16) (hg : ¬ Good l) : chk l = 26 := by unfold chk; rw [if_neg (by omega), if_neg hg]
theorem chk_ok {l : List Lab} (h : chk l = 0) : l.length ≤ 16 ∧ Good l := by
  unfold chk at h
  split at h
  · omega
  · split at h
    · exact ⟨by omega, by assumption⟩
    · omega
theorem chk_cases (l : List Lab) : chk l = 0 ∨ chk l = 9 ∨ chk l = 26 := by
  unfold chk
  split
  · simp
  · split <;> simp
theorem good_all {l : List Lab} (h : ∀ i, i < l.length → GoodAt l i) : Good l := by
  intro k p hp
  exact h k (List.getElem?_eq_some_iff.1 hp).1 p hp
theorem bad_at {l : List Lab} {k : Nat} (h : ¬ GoodAt l k) : ¬ Good l := fun hg => h (hg k)
theorem getElem?_lt {α : Type} {l : List α} {k : Nat} (h : k < l.length) : ∃ x, l[k]? = some x := ⟨l[k], List.getElem?_eq_getElem h⟩
theorem take_snoc {α : Type} (l : List α) (k : Nat) (x : α) (h : l[k]? = some x) : l.take (k + 1) = l.take k ++ [x] := by
  rw [List.take_add_one, h]; rfl
theorem mem_of_at {α : Type} {l : List α} {k : Nat} {x : α} (h : l[k]? = some x) : x ∈ l := List.mem_of_getElem? h
theorem less_iff (a b : ByteArray) : Op.bytesLess a.toList b.toList = true ↔ ltS a b := by
  rw [bytesLess_eq]; simp [ltS]
theorem valB_pos {s : ByteArray} (h : valB s = true) : 0 < s.size := by
  unfold valB at h; simp at h; omega
theorem valB_le {s : ByteArray} (h : valB s = true) : s.size ≤ 64 := by
  unfold valB at h; simp at h; omega
theorem byte_lt (c : UInt8) : c.toNat < 256 := c.toNat_lt
end Go.Proofs.Ytamhgbkdljggbaa.Lb

/-! The order of texts, byte by byte; labels compared. -/
namespace Go.Proofs.Ytamhgbkdljggbaa.Lb
set_option linter.unusedVariables false

theorem cmp_lt : ∀ a b : List UInt8, Lib.compareBytes a b < 0 ↔ a < b
  | [], [] => by simp [Lib.compareBytes]
  | [], _ :: _ => by simp [Lib.compareBytes]
  | _ :: _, [] => by simp [Lib.compareBytes]
  | x :: a, y :: b => by
    have ih := cmp_lt a b
    rw [List.cons_lt_cons_iff]
    unfold Lib.compareBytes
    by_cases h1 : x < y
    · simp [h1]
    · by_cases h2 : y < x
      · have hne : x ≠ y := fun e => UInt8.lt_irrefl y (e ▸ h2)
        simp [h1, h2, hne]
      · have he : x = y := UInt8.le_antisymm (UInt8.not_lt.1 h2) (UInt8.not_lt.1 h1)
        subst he
        simp [h1, ih]
theorem cmp_neg : ∀ a b : List UInt8, Lib.compareBytes b a = - Lib.compareBytes a b
  | [], [] => by simp [Lib.compareBytes]
  | [], _ :: _ => by simp [Lib.compareBytes]
  | _ :: _, [] => by simp [Lib.compareBytes]
  | x :: a, y :: b => by
    have ih := cmp_neg a b
    unfold Lib.compareBytes
    by_cases h1 : x < y
    · have h2 : ¬ y < x := fun h => UInt8.lt_irrefl x (UInt8.lt_trans h1 h)
      simp [h1, h2]
    · by_cases h2 : y < x
      · simp [h1, h2]
      · simp [h1, h2, ih]
theorem cmp_zero : ∀ a b : List UInt8, Lib.compareBytes a b = 0 ↔ a = b
  | [], [] => by simp [Lib.compareBytes]
  | [], _ :: _ => by simp [Lib.compareBytes]
  | _ :: _, [] => by simp [Lib.compareBytes]
  | x :: a, y :: b => by
    have ih := cmp_zero a b
    unfold Lib.compareBytes
    by_cases h1 : x < y
    · have hne : x ≠ y := fun e => UInt8.lt_irrefl y (e ▸ h1)
      simp [h1, hne]
    · by_cases h2 : y < x
      · have hne : x ≠ y := fun e => UInt8.lt_irrefl y (e ▸ h2)
        simp [h1, h2, hne]
      · have he : x = y := UInt8.le_antisymm (UInt8.not_lt.1 h2) (UInt8.not_lt.1 h1)
        subst he
        simp [h1, ih]
theorem cmp_three (a b : List UInt8) : Lib.compareBytes a b = -1 ∨ Lib.compareBytes a b = 0 ∨ Lib.compareBytes a b = 1 := by
  induction a generalizing b with
  | nil => cases b <;> simp [Lib.compareBytes]
  | cons x a ih =>
    cases b with
    | nil => simp [Lib.compareBytes]
    | cons y b =>
      unfold Lib.compareBytes
      split
      · simp
      · split
        · simp
        · exact ih b
theorem cmp_trans {a b c : List UInt8} (h1 : a < b) (h2 : b < c) : a < c := List.lt_trans h1 h2
theorem lt_irr (a : List UInt8) : ¬ a < a := List.lt_irrefl a
theorem lt_tri (a b : List UInt8) : a < b ∨ a = b ∨ b < a := by
  rcases cmp_three a b with h | h | h
  · exact .inl ((cmp_lt a b).1 (by omega))
  · exact .inr (.inl ((cmp_zero a b).1 h))
  · exact .inr (.inr ((cmp_lt b a).1 (by rw [cmp_neg]; omega)))
theorem ltS_irr (a : ByteArray) : ¬ ltS a a := lt_irr _
theorem ltS_trans {a b c : ByteArray} (h1 : ltS a b) (h2 : ltS b c) : ltS a c := List.lt_trans h1 h2
theorem toList_inj {a b : ByteArray} (h : a.toList = b.toList) : a = b := by
  rw [Lib.toList_data, Lib.toList_data] at h
  apply ByteArray.ext
  exact Array.toList_inj.1 h
theorem ltS_tri (a b : ByteArray) : ltS a b ∨ a = b ∨ ltS b a := by
  rcases lt_tri a.toList b.toList with h | h | h
  · exact .inl h
  · exact .inr (.inl (toList_inj h))
  · exact .inr (.inr h)
/-- at most, as Go asks it -/
theorem leq_false {a b : ByteArray} (h : ltS b a) : (Op.bytesLess a.toList b.toList || a.toList == b.toList) = false := by
  rw [bytesLess_eq]
  have h1 : ¬ a.toList < b.toList := fun h' => lt_irr _ (List.lt_trans h h')
  have h2 : a.toList ≠ b.toList := fun e => by unfold ltS at h; rw [e] at h; exact lt_irr _ h
  simp [h1, h2]
theorem leq_true {a b : ByteArray} (h : ¬ ltS b a) : (Op.bytesLess a.toList b.toList || a.toList == b.toList) = true := by
  rw [bytesLess_eq]
  rcases lt_tri a.toList b.toList with h1 | h1 | h1
  · simp [h1]
  · simp [h1]
  · exact absurd h1 h
theorem less_true {a b : ByteArray} (h : ltS a b) : Op.bytesLess a.toList b.toList = true := (less_iff a b).2 h
theorem less_false {a b : ByteArray} (h : ¬ ltS a b) : Op.bytesLess a.toList b.toList = false := by
  cases hb : Op.bytesLess a.toList b.toList with
  | false => rfl
  | true => exact absurd ((less_iff a b).1 hb) h
end Go.Proofs.Ytamhgbkdljggbaa.Lb

/-! Words for slices that read as lists, cell by cell, and for rows of a call's own; small functions of labels. -/
namespace Go.Proofs.Ytamhgbkdljggbaa.Lb
open Go.RowKit
set_option linter.unusedVariables false

theorem ret_int {k : IntKind} {a b : Int} (h : a = b) : Ending.returned (.int k a) = .returned (.int k b) := by rw [h]
theorem ret_val {k : IntKind} {a b : Int} (h : a = b) : Value.int k a = .int k b := by rw [h]
theorem ret_bool {a b : Bool} (h : a = b) : Ending.returned (.bool a) = .returned (.bool b) := by rw [h]

/-- what an int, a uint64 can be -/
def I64 (n : Int) : Prop := -9223372036854775808 ≤ n ∧ n ≤ 9223372036854775807
def U64 (n : Int) : Prop := 0 ≤ n ∧ n ≤ 18446744073709551615
/-- all cells that there are are kept -/
def Kept (w w' : World) : Prop := ∀ (p : Addr) (v : Value), w.cell? p = some v → w'.cell? p = some v
theorem Kept.of_below {w w' : World} (h : Below w.heap.size w w') : Kept w w' := fun p v hp => (h.cell (block_lt_of_cell hp)).trans hp
theorem Kept.trans {a b c : World} (h : Kept a b) (k : Kept b c) : Kept a c := fun p v hp => k p v (h p v hp)
theorem Kept.refl (w : World) : Kept w w := fun _ _ h => h
theorem Kept.drewN {w w' : World} (h : Kept w w') (n : Nat) : Kept w (w'.drewN n) := h
theorem Kept.drew {w w' : World} (h : Kept w w') : Kept w w'.drew := h
theorem Kept.alloc {w w' : World} (h : Kept w w') (o : Obj) : Kept w (w'.alloc o) := h.trans (Kept.of_below ((Below.refl _ _).alloc (Nat.le_refl _) _))
theorem below_drewN {B : Nat} {a w : World} (h : Below B a w) (n : Nat) : Below B a (w.drewN n) := ⟨h.os, h.tape, h.output, h.size, h.block⟩

/-- the cells xs lie at A -/
def Cl (w : World) (A : Option Addr) (xs : List Value) : Prop := xs = [] ∨ ∃ b off, A = some ⟨b, off, none⟩ ∧ ∀ j v, xs[j]? = some v → w.cell? ⟨b, off + j, none⟩ = some v
theorem Cl.kept {w w' : World} {A : Option Addr} {xs : List Value} (h : Cl w A xs) (k : Kept w w') : Cl w' A xs := by
  rcases h with h | ⟨b, off, e, hc⟩
  · exact .inl h
  · exact .inr ⟨b, off, e, fun j v hj => k _ _ (hc j v hj)⟩
theorem Cl.below {w w' : World} {A : Option Addr} {xs : List Value} (h : Cl w A xs) (k : Below w.heap.size w w') : Cl w' A xs := h.kept (Kept.of_below k)
theorem Cl.nil (w : World) (A : Option Addr) : Cl w A [] := .inl rfl
theorem Cl.some_ {w : World} {A : Option Addr} {xs : List Value} (h : Cl w A xs) (h0 : 0 < xs.length) : ∃ b off, A = some ⟨b, off, none⟩ ∧ ∀ j v, xs[j]? = some v → w.cell? ⟨b, off + j, none⟩ = some v := by
  rcases h with h | h
  · rw [h] at h0; simp at h0
  · exact h
/-- a store elsewhere leaves the cells -/
theorem Cl.set {w : World} {A : Option Addr} {xs : List Value} (h : Cl w A xs) {p : Addr} (hp : ∀ a, A = some a → a.block ≠ p.block) (v : Value) : Cl (w.setCell p v) A xs := by
  rcases h with h | ⟨b, off, e, hc⟩
  · exact .inl h
  · refine .inr ⟨b, off, e, fun j v hj => ?_⟩
    have hne : p ≠ ⟨b, off + j, none⟩ := fun e' => hp _ e (by rw [e'])
    rw [World.cell?_setCell_other _ _ _ _ hne]
    exact hc j v hj
theorem own_shape {w : World} {base : Nat} {e : TypeId} {size n : Nat} {v : Value} {xs : List Value} (h : w.ownsRow base e size v n xs) : ∃ A c, v = .slice A n c := by
  rcases h.2 with ⟨rfl, h0⟩ | ⟨g, cap, _, rfl, _⟩
  · exact ⟨none, 0, by rw [h0]⟩
  · exact ⟨_, cap, rfl⟩
theorem own_cl {w : World} {base : Nat} {e : TypeId} {size n c : Nat} {A : Option Addr} {xs : List Value} (h : w.ownsRow base e size (.slice A n c) n xs) : Cl w A xs := by
  by_cases h0 : n = 0
  · have := h.1
    rw [h0, Nat.zero_mul] at this
    exact .inl (List.eq_nil_of_length_eq_zero this)
  · obtain ⟨g, cap', hv, _, _⟩ := h.form (by omega)
    injection hv with e1 e2 e3
    subst e1
    refine .inr ⟨g, 0, rfl, fun j v hj => ?_⟩
    have hj' : j < n * size := by rw [← h.1]; exact (List.getElem?_eq_some_iff.1 hj).1
    rw [Nat.zero_add, h.cellAt j hj', hj]
theorem own_base {w : World} {B B' : Nat} {e : TypeId} {size n : Nat} {v : Value} {xs : List Value} (h : w.ownsRow B e size v n xs) (hB : B' ≤ B) : w.ownsRow B' e size v n xs := by
  obtain ⟨h1, h2⟩ := h
  refine ⟨h1, ?_⟩
  rcases h2 with h2 | ⟨g, cap, cur, hv, hb, r⟩
  · exact .inl h2
  · exact .inr ⟨g, cap, cur, hv, Nat.le_trans hB hb, r⟩
theorem own_below {w w' : World} {B : Nat} {e : TypeId} {size n : Nat} {v : Value} {xs : List Value} (h : w.ownsRow B e size v n xs) (hb : Below w.heap.size w w') : w'.ownsRow B e size v n xs :=
  h.kept (row := none) ⟨hb.os, hb.tape, hb.output, hb.size, fun k hk _ => hb.block k hk⟩ (by
    rcases ho : v.ownBlock with _ | g
    · exact .inl rfl
    · exact .inr (by simp))
theorem own_drewN {w : World} {B : Nat} {e : TypeId} {size n : Nat} {v : Value} {xs : List Value} (h : w.ownsRow B e size v n xs) (q : Nat) : (w.drewN q).ownsRow B e size v n xs := h
theorem below_own {W w w' : World} {B B' : Nat} {v : Value} {e : TypeId} {size n : Nat} {xs : List Value} (h : Below B W w) (hB : B ≤ w.heap.size) (hown : w.ownsRow B' e size v n xs) (hBB : B ≤ B') (hg : w.grownBy w' v.ownBlock) : Below B W w' :=
  h.grown hg hB (fun k hk => Nat.le_trans hBB (hown.lt k hk).1)
theorem heap_set_at {w : World} {g i : Nat} {cs : Array Value} {t : TypeId} {fr : Nat × Nat} (h : w.heap[g]? = some (.cells cs t fr)) (u : Value) : (w.setCell ⟨g, i, none⟩ u).heap[g]? = some (.cells (cs.setIfInBounds i u) t fr) := by
  simp [World.setCell, Array.getElem?_modify, h]
theorem addr_at (b o k : Nat) : (⟨b, o, none⟩ : Addr).add k = ⟨b, o + k, none⟩ := by
  unfold Addr.add
  split
  · subst_vars; rfl
  · rfl
/-- what append asks of its source -/
theorem Cl.src {w : World} {ad : Addr} {xs : List Value} (h : Cl w (some ad) xs) (j : Nat) (u : Value) (hu : xs[j]? = some u) : w.cell? (ad.add j) = some u := by
  obtain ⟨b, off, e, hc⟩ := h.some_ (by have := (List.getElem?_eq_some_iff.1 hu).1; omega)
  obtain rfl : ad = ⟨b, off, none⟩ := by simpa using e
  rw [addr_at]
  exact hc j u hu

/-- the cells of numbers -/
def intsC (k : IntKind) (l : List Int) : List Value := l.map (Value.int k)
theorem intsC_length (k : IntKind) (l : List Int) : (intsC k l).length = l.length := by simp [intsC]
theorem intsC_append (k : IntKind) (l m : List Int) : intsC k (l ++ m) = intsC k l ++ intsC k m := by simp [intsC]
theorem intsC_at {k : IntKind} {l : List Int} {j : Nat} {x : Int} (h : l[j]? = some x) : (intsC k l)[j]? = some (.int k x) := by simp [intsC, h]
theorem intsC_one (k : IntKind) (l : List Int) : ∀ u ∈ intsC k l, u.oneCell' = true := by
  intro u hu
  obtain ⟨p, _, rfl⟩ := List.mem_map.1 hu
  rfl

/-- the two cells of a label -/
def labE (p : Lab) : List Value := [.string p.1, .string p.2]
def labC (l : List Lab) : List Value := l.flatMap labE
theorem labC_length (l : List Lab) : (labC l).length = l.length * 2 := by
  induction l with
  | nil => rfl
  | cons a r ih => simp [labC, labE] at *; omega
theorem labC_append (l m : List Lab) : labC (l ++ m) = labC l ++ labC m := by simp [labC]
theorem labC_at : ∀ {l : List Lab} {j : Nat} {p : Lab}, l[j]? = some p → (labC l)[j * 2]? = some (.string p.1) ∧ (labC l)[j * 2 + 1]? = some (.string p.2)
  | [], j, p, h => by simp at h
  | a :: r, 0, p, h => by
    simp at h
    subst h
    exact ⟨rfl, rfl⟩
  | a :: r, j + 1, p, h => by
    have ih := labC_at (l := r) (j := j) (p := p) (by simpa using h)
    have e : labC (a :: r) = .string a.1 :: .string a.2 :: labC r := rfl
    rw [e, show (j + 1) * 2 = j * 2 + 1 + 1 by omega]
    exact ih
theorem labC_one (l : List Lab) : ∀ u ∈ labC l, u.oneCell' = true := by
  intro u hu
  obtain ⟨p, _, hp⟩ := List.mem_flatMap.1 hu
  simp [labE] at hp
  rcases hp with rfl | rfl <;> rfl
theorem labC_inj {l m : List Lab} (h : labC l = labC m) : l = m := by
  induction l generalizing m with
  | nil =>
    cases m with
    | nil => rfl
    | cons b s => simp [labC, labE] at h
  | cons a r ih =>
    cases m with
    | nil => simp [labC, labE] at h
    | cons b s =>
      have e : Value.string a.1 :: .string a.2 :: labC r = .string b.1 :: .string b.2 :: labC s := h
      simp at e
      obtain ⟨h1, h2, h3⟩ := e
      rw [ih h3, Prod.ext h1 h2]
/-- strings that Go can hold -/
def Ws (s : ByteArray) : Prop := s.size ≤ 9223372036854775807
def Wl (l : List Lab) : Prop := ∀ p ∈ l, Ws p.1 ∧ Ws p.2
/-- a slice of labels whose address is A reads as l -/
def Lw (w : World) (A : Option Addr) (l : List Lab) : Prop := l.length ≤ 9223372036854775807 ∧ Wl l ∧ Cl w A (labC l)
theorem Lw.kept {w w' : World} {A : Option Addr} {l : List Lab} (h : Lw w A l) (k : Kept w w') : Lw w' A l := ⟨h.1, h.2.1, h.2.2.kept k⟩
theorem Lw.below {w w' : World} {A : Option Addr} {l : List Lab} (h : Lw w A l) (k : Below w.heap.size w w') : Lw w' A l := h.kept (Kept.of_below k)
theorem Lw.nil (w : World) (A : Option Addr) : Lw w A [] := ⟨by simp, fun p hp => by simp at hp, Cl.nil _ _⟩
theorem Lw.some_ {w : World} {A : Option Addr} {l : List Lab} (h : Lw w A l) (h0 : 0 < l.length) : ∃ b off, A = some ⟨b, off, none⟩ ∧ ∀ (j : Nat) (p : Lab), l[j]? = some p → w.cell? ⟨b, off + j * 2, none⟩ = some (.string p.1) ∧ w.cell? ⟨b, off + j * 2 + 1, none⟩ = some (.string p.2) := by
  obtain ⟨b, off, e, hc⟩ := h.2.2.some_ (by rw [labC_length]; omega)
  exact ⟨b, off, e, fun j p hj => ⟨hc _ _ (labC_at hj).1, by rw [Nat.add_assoc]; exact hc _ _ (labC_at hj).2⟩⟩
theorem box2 {W : World} {g : Nat} {t : TypeId} {v0 v1 : Value} (h : W.heap[g]? = some (.cells #[v0, v1] t (0, 0))) : W.cell? ⟨g, 0, none⟩ = some v0 ∧ W.cell? ⟨g, 1, none⟩ = some v1 ∧ ∀ i, W.frozen? ⟨g, i, none⟩ = false :=
  ⟨by rw [cell_of_row _ _ _ _ _ _ h]; rfl, by rw [cell_of_row _ _ _ _ _ _ h]; rfl, fun i => by simp [World.frozen?, h]⟩
/-- a block of two cells in whatever world keeps all below w0 -/
theorem box2b {w0 : World} {g : Nat} {t : TypeId} {v0 v1 : Value} (h : w0.heap[g]? = some (.cells #[v0, v1] t (0, 0))) (W : World) (hb : Below w0.heap.size w0 W) : W.cell? ⟨g, 0, none⟩ = some v0 ∧ W.cell? ⟨g, 1, none⟩ = some v1 :=
  let ⟨a, b, _⟩ := box2 ((hb.block g (Array.getElem?_eq_some_iff.1 h).1).trans h)
  ⟨a, b⟩
theorem infoU : (Try.prog.info? 5).map (fun i => (i.zero, i.size, i.bytes)) = some (some (.int .u8 0), 1, 1) := by kernel_rfl
end Go.Proofs.Ytamhgbkdljggbaa.Lb

/-! What is a name, the program's and the document's. -/
namespace Go.Proofs.Ytamhgbkdljggbaa.Lb
open Go.RowKit
set_option linter.unusedVariables false

end Go.Proofs.Ytamhgbkdljggbaa.Lb

/-! Rows of bytes, of labels, of texts that a call makes itself: append, and bytes as a text. -/
namespace Go.Proofs.Ytamhgbkdljggbaa.Lb
open Go.RowKit
set_option linter.unusedVariables false

theorem ret_str {a b : List UInt8} (h : a = b) : Ending.returned (.string ⟨a.toArray⟩) = .returned (.string ⟨b.toArray⟩) := by rw [h]
/-- the cells of bytes -/
def byC (l : List UInt8) : List Value := l.map fun b => .int .u8 (b.toNat : Int)
theorem byC_length (l : List UInt8) : (byC l).length = l.length := by simp [byC]
theorem byC_append (l m : List UInt8) : byC (l ++ m) = byC l ++ byC m := by simp [byC]
theorem byC_one (l : List UInt8) : ∀ u ∈ byC l, u.oneCell' = true := by
  intro u hu
  obtain ⟨p, _, rfl⟩ := List.mem_map.1 hu
  rfl
/-- the cells of texts -/
def stC (l : List ByteArray) : List Value := l.map Value.string
theorem stC_length (l : List ByteArray) : (stC l).length = l.length := by simp [stC]
theorem stC_append (l m : List ByteArray) : stC (l ++ m) = stC l ++ stC m := by simp [stC]
theorem stC_at {l : List ByteArray} {j : Nat} {x : ByteArray} (h : l[j]? = some x) : (stC l)[j]? = some (.string x) := by simp [stC, h]
theorem infoT : (Try.prog.info? 9).map (fun i => (i.zero, i.size, i.bytes)) = some (some (.string ⟨#[]⟩), 1, 16) := by kernel_rfl

/-- append(x, y) at []byte -/
theorem app_byte {ops : Array Oper} {rest : List Oper} {o : Oper} {a : Act} {w : World} {Q : Exit → Act → World → Prop} (hgd : o.guard = none) (s x : Operand)
    (ho : o.op = .call { callee := .builtin .append, args := #[s, x], argTypes := #[31, 31] })
    (base : Nat) (A : Option Addr) (n c : Nat) (l : List UInt8) (hs : a.eval s = .slice A n c) (hown : w.ownsRow base 5 1 (.slice A n c) n (byC l))
    (g : Nat) (hx : a.eval x = .slice (some ⟨g, 0, none⟩) 1 1) (y : UInt8) (hy : w.cell? ⟨g, 0, none⟩ = some (.int .u8 (y.toNat : Int))) (hl : n + 1 ≤ 1000000) (hbase : base ≤ w.heap.size)
    (h : ∀ A' c' w', w'.ownsRow base 5 1 (.slice A' (n + 1) c') (n + 1) (byC (l ++ [y])) → w.grownBy w' (Value.slice A n c).ownBlock → wpList Try.prog ops Q rest (a.put o.dst (.slice A' (n + 1) c')) w') : wpList Try.prog ops Q (o :: rest) a w := by
  obtain ⟨i0, hi, hz0, hz1, hz2⟩ := info_parts infoU
  refine wpList_append_own w hgd s x 31 ho base 5 i0 (.int .u8 0) 1 1 Try.underlying31 hi hz0 hz1 hz2 rfl (by decide) _ n (byC l) hs hown ⟨g, 0, none⟩ 1 1 [.int .u8 (y.toNat : Int)] hx rfl ?_ (by simp [Value.oneCell']) (by unfold maxLen; omega) (by omega) hbase ?_
  · intro j u hu
    have hj : j < 1 := (List.getElem?_eq_some_iff.1 hu).1
    obtain rfl : j = 0 := by omega
    rw [addr_at]
    simp at hu
    subst hu
    exact hy
  · intro v' w' h1 h2 _
    obtain ⟨A', c', rfl⟩ := own_shape h1
    have e : byC l ++ [.int .u8 (y.toNat : Int)] = byC (l ++ [y]) := by simp [byC]
    rw [e] at h1
    exact h A' c' w' h1 h2
/-- append(x, y) at []string -/
theorem app_str {ops : Array Oper} {rest : List Oper} {o : Oper} {a : Act} {w : World} {Q : Exit → Act → World → Prop} (hgd : o.guard = none) (s x : Operand)
    (ho : o.op = .call { callee := .builtin .append, args := #[s, x], argTypes := #[47, 47] })
    (base : Nat) (A : Option Addr) (n c : Nat) (l : List ByteArray) (hs : a.eval s = .slice A n c) (hown : w.ownsRow base 9 1 (.slice A n c) n (stC l))
    (g : Nat) (hx : a.eval x = .slice (some ⟨g, 0, none⟩) 1 1) (y : ByteArray) (hy : w.cell? ⟨g, 0, none⟩ = some (.string y)) (hl : n + 1 ≤ 4398046511104) (hbase : base ≤ w.heap.size)
    (h : ∀ A' c' w', w'.ownsRow base 9 1 (.slice A' (n + 1) c') (n + 1) (stC (l ++ [y])) → w.grownBy w' (Value.slice A n c).ownBlock → wpList Try.prog ops Q rest (a.put o.dst (.slice A' (n + 1) c')) w') : wpList Try.prog ops Q (o :: rest) a w := by
  obtain ⟨i0, hi, hz0, hz1, hz2⟩ := info_parts infoT
  refine wpList_append_own w hgd s x 47 ho base 9 i0 (.string ⟨#[]⟩) 1 16 Try.underlying47 hi hz0 hz1 hz2 rfl (by decide) _ n (stC l) hs hown ⟨g, 0, none⟩ 1 1 [.string y] hx rfl ?_ (by simp [Value.oneCell']) (by unfold maxLen; omega) (by omega) hbase ?_
  · intro j u hu
    have hj : j < 1 := (List.getElem?_eq_some_iff.1 hu).1
    obtain rfl : j = 0 := by omega
    rw [addr_at]
    simp at hu
    subst hu
    exact hy
  · intro v' w' h1 h2 _
    obtain ⟨A', c', rfl⟩ := own_shape h1
    have e : stC l ++ [.string y] = stC (l ++ [y]) := by simp [stC]
    rw [e] at h1
    exact h A' c' w' h1 h2
/-- a new row of cells that append reads -/
theorem new_one (w : World) (v : Value) (t : TypeId) : (w.alloc (.cells #[v] t)).cell? ⟨w.heap.size, 0, none⟩ = some v := by simp [go_sem]
theorem new_two (w : World) (u v : Value) (t : TypeId) : (w.alloc (.cells #[u, v] t)).cell? ⟨w.heap.size, 0, none⟩ = some u ∧ (w.alloc (.cells #[u, v] t)).cell? ⟨w.heap.size, 1, none⟩ = some v := by simp [go_sem]
/-- what lies below B stays: a row from B on is grown behind a new block -/
theorem below_app {W w w' : World} {B B' : Nat} {o : Obj} {e : TypeId} {size n c : Nat} {A : Option Addr} {xs : List Value} (h : Below B W w) (hB : B ≤ w.heap.size) (hown : w.ownsRow B' e size (.slice A n c) n xs) (hBB : B ≤ B') (hg : (w.alloc o).grownBy w' (Value.slice A n c).ownBlock) : Below B W w' :=
  (h.alloc hB o).grown hg (by simp; omega) (fun k hk => Nat.le_trans hBB (hown.lt k hk).1)
theorem own_nil (w : World) (B e size : Nat) : w.ownsRow B e size (.slice none 0 0) 0 [] := ⟨by simp, .inl ⟨rfl, rfl⟩⟩
/-- bytes as a text -/
theorem conv_own {w : World} {B n c : Nat} {A : Option Addr} {l : List UInt8} (h : w.ownsRow B 5 1 (.slice A n c) n (byC l)) :
    (convert 31 9 (.slice A n c)).run Try.prog w = .ok (.string ⟨l.toArray⟩) w := by
  have hn : n = l.length := by have := h.1; rw [byC_length] at this; omega
  subst hn
  cases A with
  | none =>
    have h0 : l = [] := by
      rcases h.2 with ⟨_, h0⟩ | ⟨g, cap, cur, hv, _⟩
      · exact List.eq_nil_of_length_eq_zero h0
      · injection hv with e1; cases e1
    subst h0
    exact run_convert_bytes_nil w _ _ Try.underlying31 Try.underlying5 0 c _ Try.underlying9
  | some ad =>
    refine run_convert_bytes_back w _ _ _ ad c l Try.underlying31 Try.underlying5 Try.underlying9 fun j hj => ?_
    exact (own_cl h).src j _ (by simp [byC, hj])
/-- append(x, y) at []byte behind the block of y, in one go -/
theorem put_byte {ops : Array Oper} {rest : List Oper} {o : Oper} {a : Act} {W w : World} {Q : Exit → Act → World → Prop} (hgd : o.guard = none) (s x : Operand)
    (ho : o.op = .call { callee := .builtin .append, args := #[s, x], argTypes := #[31, 31] })
    (base : Nat) (A : Option Addr) (n c : Nat) (l : List UInt8) (hs : a.eval s = .slice A n c) (hown : w.ownsRow base 5 1 (.slice A n c) n (byC l)) (hb : Below base W w) (hbase : base ≤ w.heap.size) (hl : n + 1 ≤ 1000000)
    (yi : Int) (hx : a.eval x = .slice (some ⟨w.heap.size, 0, none⟩) 1 1) (y : UInt8) (hy : (y.toNat : Int) = yi)
    (h : ∀ A' c' w', w'.ownsRow base 5 1 (.slice A' (n + 1) c') (n + 1) (byC (l ++ [y])) → Below base W w' → base ≤ w'.heap.size → wpList Try.prog ops Q rest (a.put o.dst (.slice A' (n + 1) c')) w') :
    wpList Try.prog ops Q (o :: rest) a (w.alloc (.cells #[.int .u8 yi] 5)) := by
  refine app_byte hgd s x ho base A n c l hs (own_below hown ((Below.refl _ _).alloc (Nat.le_refl _) _)) w.heap.size hx y (by rw [hy]; exact new_one _ _ _) hl (by simp; omega) ?_
  intro A' c' w' h1 h2
  have hb' := below_app hb hbase hown (Nat.le_refl _) h2
  have hz := h2.size
  refine h A' c' w' h1 hb' ?_
  simp at hz
  omega
/-- append(x, y) at []string behind the block of y -/
theorem put_str {ops : Array Oper} {rest : List Oper} {o : Oper} {a : Act} {W w : World} {Q : Exit → Act → World → Prop} (hgd : o.guard = none) (s x : Operand)
    (ho : o.op = .call { callee := .builtin .append, args := #[s, x], argTypes := #[47, 47] })
    (base : Nat) (A : Option Addr) (n c : Nat) (l : List ByteArray) (hs : a.eval s = .slice A n c) (hown : w.ownsRow base 9 1 (.slice A n c) n (stC l)) (hb : Below base W w) (hbase : base ≤ w.heap.size) (hl : n + 1 ≤ 4398046511104)
    (b : Nat) (hbz : w.heap.size = b) (hx : a.eval x = .slice (some ⟨b, 0, none⟩) 1 1) (y : ByteArray)
    (h : ∀ A' c' w', w'.ownsRow base 9 1 (.slice A' (n + 1) c') (n + 1) (stC (l ++ [y])) → Below base W w' → base ≤ w'.heap.size → wpList Try.prog ops Q rest (a.put o.dst (.slice A' (n + 1) c')) w') :
    wpList Try.prog ops Q (o :: rest) a (w.alloc (.cells #[.string y] 9)) := by
  subst hbz
  refine app_str hgd s x ho base A n c l hs (own_below hown ((Below.refl _ _).alloc (Nat.le_refl _) _)) w.heap.size hx y (new_one _ _ _) hl (by simp; omega) ?_
  intro A' c' w' h1 h2
  have hb' := below_app hb hbase hown (Nat.le_refl _) h2
  have hz := h2.size
  refine h A' c' w' h1 hb' ?_
  simp at hz
  omega
end Go.Proofs.Ytamhgbkdljggbaa.Lb
