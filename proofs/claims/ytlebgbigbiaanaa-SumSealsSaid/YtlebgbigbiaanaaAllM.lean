/- Sealed bytes one behind the other, by plain lists; rows of slices of bytes of a call's own. -/
import Derived.Test.YtlebgbigbiaanaaOpenA
import Derived.Maps.AppendAt
namespace Go.Proofs.Ytlebgbigbiaanaa
open Go.RowKit Go.Sort
set_option linter.unusedVariables false

/-- where the k-th sealed bytes begin, if all before can be opened -/
def posF (bs : List Nat) : Nat → Nat
  | 0 => 0
  | k + 1 => posF bs k + (8 + numL (bs.drop (posF bs k)))
def okF (bs : List Nat) (k : Nat) : Prop := ∀ j, j < k → posF bs j < bs.length ∧ errF (bs.drop (posF bs j)) = 0
def itemF (bs : List Nat) (k : Nat) : List Nat := inF (bs.drop (posF bs k))
def itemsF (bs : List Nat) (k : Nat) : List (List Nat) := (List.range k).map (itemF bs)
theorem okF_zero (bs : List Nat) : okF bs 0 := fun j h => by omega
theorem okF_succ {bs : List Nat} {k : Nat} (h : okF bs k) (h1 : posF bs k < bs.length) (h2 : errF (bs.drop (posF bs k)) = 0) : okF bs (k + 1) := by
  intro j hj
  by_cases e : j = k
  · subst e; exact ⟨h1, h2⟩
  · exact h j (by omega)
theorem posF_step {bs : List Nat} {k : Nat} (h1 : posF bs k < bs.length) (h2 : errF (bs.drop (posF bs k)) = 0) : posF bs (k + 1) ≤ bs.length := by
  obtain ⟨_, z, _, _⟩ := errF_zero h2
  rw [List.length_drop] at z
  show posF bs k + (8 + numL (bs.drop (posF bs k))) ≤ _
  omega
theorem posF_le {bs : List Nat} {k : Nat} (h : okF bs k) : posF bs k ≤ bs.length := by
  cases k with
  | zero => exact Nat.zero_le _
  | succ k => exact posF_step (h k (by omega)).1 (h k (by omega)).2
theorem posF_ge (bs : List Nat) (k : Nat) : 8 * k ≤ posF bs k := by
  induction k with
  | zero => exact Nat.zero_le _
  | succ k ih => show _ ≤ posF bs k + _; omega
theorem okF_len {bs : List Nat} {k : Nat} (h : okF bs k) : k ≤ bs.length := by
  have := posF_le h
  have := posF_ge bs k
  omega
theorem itemsF_length (bs : List Nat) (k : Nat) : (itemsF bs k).length = k := by unfold itemsF; simp
theorem itemsF_at {bs : List Nat} {k j : Nat} (h : j < k) : (itemsF bs k)[j]? = some (itemF bs j) := by unfold itemsF; simp [h]

theorem Try.info22 : (Try.prog.info? 22).map (fun i => (i.zero, i.size, i.bytes)) = some (some (.slice none 0 0), 1, 24) := by kernel_rfl

/-- a slice of bytes whose bytes lie apart from the row that holds it -/
def Item (w : World) (own : Option Nat) (u : Value) (l : List Nat) : Prop := ∃ A c, u = .slice A l.length c ∧ Sl w A c l ∧ (0 < l.length → ∀ b off, A = some ⟨b, off, none⟩ → some b ≠ own)
theorem Bt.lt {w : World} {b off : Nat} {l : List Nat} (h : Bt w (some ⟨b, off, none⟩) l) (h0 : 0 < l.length) : b < w.heap.size := by
  obtain ⟨b', off', e, hc⟩ := h.some_ h0
  obtain ⟨rfl, rfl⟩ : b = b' ∧ off = off' := by simpa using e
  have := hc 0 l[0] (List.getElem?_eq_getElem h0)
  exact block_lt_of_cell this
theorem Item.kept {w w' : World} {own : Option Nat} {u : Value} {l : List Nat} (h : Item w own u l) (k : Kept w w') : Item w' own u l := by
  obtain ⟨A, c, h1, h2, h3⟩ := h
  exact ⟨A, c, h1, h2.kept k, h3⟩
theorem Item.grown {w w' : World} {own own' : Option Nat} {u : Value} {l : List Nat} (h : Item w own u l) (hg : w.grownBy w' own) (ho : own' = own ∨ own' = some w.heap.size) : Item w' own' u l := by
  obtain ⟨A, c, h1, ⟨s1, s2, s3, s4⟩, h3⟩ := h
  by_cases h0 : 0 < l.length
  · obtain ⟨b, off, rfl, hc⟩ := s4.some_ h0
    have hb := s4.lt h0
    have hne := h3 h0 b off rfl
    refine ⟨_, c, h1, ⟨s1, s2, s3, s4.1, s4.2.1, .inr ⟨b, off, rfl, fun j x hj => ?_⟩⟩, fun _ b' off' e => ?_⟩
    · exact (World.cell?_of_block (w := w) (a := ⟨b, off + j, none⟩) (hg.block b hb hne)).trans (hc j x hj)
    · obtain ⟨rfl, rfl⟩ : b = b' ∧ off = off' := by simpa using e
      rcases ho with rfl | rfl
      · exact hne
      · intro q; have : b = w.heap.size := by simpa using q
        omega
  · have hl : l = [] := List.eq_nil_of_length_eq_zero (by omega)
    subst hl
    exact ⟨A, c, h1, ⟨s1, s2, s3, Bt.nil _ _⟩, fun h => by simp at h⟩

/-- the row that All has made when k are opened -/
def AllSt (w0 w : World) (v : Value) (k : Nat) (bs : List Nat) : Prop :=
  ∃ xs : List Value, w.ownsRow w0.heap.size 22 1 v k xs ∧ (∀ u ∈ xs, u.oneCell' = true) ∧ ∀ j, j < k → ∃ u, xs[j]? = some u ∧ Item w v.ownBlock u (itemF bs j)
theorem AllSt.zero (w0 : World) (bs : List Nat) : AllSt w0 w0 (.slice none 0 0) 0 bs := ⟨[], World.ownsRow_nil _ _ _ _, by simp, fun j h => by omega⟩
theorem AllSt.len {w0 w : World} {v : Value} {k : Nat} {bs : List Nat} {xs : List Value} (h : w.ownsRow w0.heap.size 22 1 v k xs) : xs.length = k := by have := h.1; omega
theorem AllSt.ls {w0 w : World} {v : Value} {k : Nat} {bs : List Nat} (h : AllSt w0 w v k bs) (hk : k ≤ 1000000) : ∃ P c, v = .slice P k c ∧ Ls w P (itemsF bs k) := by
  obtain ⟨xs, hown, _, hit⟩ := h
  rcases hown.2 with ⟨rfl, rfl⟩ | ⟨g, c, cur, rfl, hb, hh, hc, hm, hsz, htk⟩
  · exact ⟨none, 0, rfl, by rw [itemsF_length]; omega, .inl (itemsF_length _ _)⟩
  · refine ⟨_, c, rfl, by rw [itemsF_length]; omega, .inr ⟨g, 0, rfl, fun j l hj => ?_⟩⟩
    have hjk : j < k := by
      obtain ⟨h, _⟩ := List.getElem?_eq_some_iff.1 hj
      rw [itemsF_length] at h
      exact h
    rw [itemsF_at hjk] at hj
    obtain rfl : itemF bs j = l := by simpa using hj
    obtain ⟨u, hu, A, cc, rfl, hS, _⟩ := hit j hjk
    refine ⟨A, cc, ?_, hS⟩
    have := hown.cells (g := g) rfl j _ hu
    rw [addr_add] at this
    exact this
end Go.Proofs.Ytlebgbigbiaanaa
