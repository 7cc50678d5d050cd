/- Labels as lists: names, values, what is wrong with them; plain facts. -/
import Derived.Lib.Bytealg
import Derived.Lib.Hide
import Derived.Sort.Walk0
namespace Go.Proofs.Ytnnfoagdgoionab
set_option linter.unusedVariables false

abbrev Lab := ByteArray × ByteArray
def dgB (c : Int) : Bool := decide (48 ≤ c) && decide (c ≤ 57)
def ltB (c : Int) : Bool := (decide (97 ≤ c) && decide (c ≤ 122)) || (decide (65 ≤ c) && decide (c ≤ 90))
def valB (s : ByteArray) : Bool := decide (1 ≤ s.size) && decide (s.size ≤ 64)
/-- may this byte stand in a name? -/
def nmC (c : UInt8) : Bool := (c.toNat == 95) || dgB c.toNat || ltB c.toNat
/-- may it stand there, as the place says? -/
def nmAt (s : ByteArray) (i : Nat) : Prop := ∀ h : i < s.size, nmC s[i] = true
/-- a name -/
def NameP (s : ByteArray) : Prop := valB s = true ∧ (∀ h : 0 < s.size, dgB s[0].toNat = false) ∧ ∀ i, nmAt s i
open Classical in
noncomputable def nameB (s : ByteArray) : Bool := decide (NameP s)
theorem nameB_iff (s : ByteArray) : nameB s = true ↔ NameP s := by unfold nameB; simp
theorem nameB_false (s : ByteArray) : nameB s = false ↔ ¬ NameP s := by unfold nameB; simp
/-- byte by byte: is one ahead of the other? -/
def ltS (a b : ByteArray) : Prop := a.toList < b.toList
/-- a label that may be -/
def OkL (p : Lab) : Prop := NameP p.1 ∧ valB p.2 = true
def GoodAt (l : List Lab) (k : Nat) : Prop := ∀ p, l[k]? = some p → OkL p ∧ ∀ q, 0 < k → l[k - 1]? = some q → ltS q.1 p.1
def Good (l : List Lab) : Prop := ∀ k, GoodAt l k
open Classical in
noncomputable def chk (l : List Lab) : Int := if 16 < l.length then 9 else if Good l then 0 else 26
theorem chk_9 {l : List Lab} (h : 16 < l.length) : chk l = 9 := by unfold chk; rw [if_pos h]
theorem chk_0 {l : List Lab} (h : l.length ≤ 16) (hg : Good l) : chk l = 0 := by unfold chk; rw [if_neg (by omega), if_pos hg]
theorem chk_26 {l : List Lab} (h : l.length ≤ 16) (hg : ¬ Good l) : chk l = 26 := by unfold chk; rw [if_neg (by omega), if_neg hg]
theorem chk_ok {l : List Lab} (h : chk l = 0) : l.length ≤ 16 ∧ Good l := by
  unfold chk at h
  split at h
  · omega
  · split at h
    · exact ⟨by omega, by assumption⟩
    · omega
theorem chk_cases (l : List Lab) : chk l = 0 ∨ chk l = 9 ∨ chk l = 26 := by
  unfold chk
  split
  · simp
  · split <;> simp
theorem good_all {l : List Lab} (h : ∀ i, i < l.length → GoodAt l i) : Good l := by
  intro k p hp
  exact h k (List.getElem?_eq_some_iff.1 hp).1 p hp
theorem bad_at {l : List Lab} {k : Nat} (h : ¬ GoodAt l k) : ¬ Good l := fun hg => h (hg k)
theorem getElem?_lt {α : Type} {l : List α} {k : Nat} (h : k < l.length) : ∃ x, l[k]? = some x := ⟨l[k], List.getElem?_eq_getElem h⟩
theorem take_snoc {α : Type} (l : List α) (k : Nat) (x : α) (h : l[k]? = some x) : l.take (k + 1) = l.take k ++ [x] := by
  rw [List.take_add_one, h]; rfl
theorem mem_of_at {α : Type} {l : List α} {k : Nat} {x : α} (h : l[k]? = some x) : x ∈ l := List.mem_of_getElem? h
theorem less_iff (a b : ByteArray) : Op.bytesLess a.toList b.toList = true ↔ ltS a b := by
  rw [bytesLess_eq]; simp [ltS]
theorem valB_pos {s : ByteArray} (h : valB s = true) : 0 < s.size := by
  unfold valB at h; simp at h; omega
theorem valB_le {s : ByteArray} (h : valB s = true) : s.size ≤ 64 := by
  unfold valB at h; simp at h; omega
theorem byte_lt (c : UInt8) : c.toNat < 256 := c.toNat_lt
end Go.Proofs.Ytnnfoagdgoionab
