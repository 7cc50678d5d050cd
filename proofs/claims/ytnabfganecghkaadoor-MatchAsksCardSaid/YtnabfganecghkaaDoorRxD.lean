/- Sets of bytes: with, others, has. -/
import Derived.Test.YtnabfganecghkaaDoorRxC
import Derived.BigRegion
namespace Go.Proofs.YtnabfganecghkaaDoor
open Go.RowKit
set_option linter.unusedVariables false

/-- the cells of a set -/
def stA (X : Nat → Bool) : Array Value := #[.int .u64 (wd X 0 : Nat), .int .u64 (wd X 1 : Nat), .int .u64 (wd X 2 : Nat), .int .u64 (wd X 3 : Nat)]
/-- a set in a block -/
structure Sx (w : World) (h : Nat) (X : Nat → Bool) : Prop where
  hw : h < w.heap.size
  blk : w.heap[h]? = some (.cells (stA X) 102 (0, 0))
theorem Sx.cell {w : World} {h : Nat} {X : Nat → Bool} (s : Sx w h X) (i : Nat) (hi : i < 4) : w.cell? ⟨h, i, none⟩ = some (.int .u64 (wd X i : Nat)) ∧ w.frozen? ⟨h, i, none⟩ = false := by
  have hb := s.blk
  refine ⟨?_, by simp [World.frozen?, hb]⟩
  rw [cell_of_row _ _ _ _ _ _ hb]
  rcases (show i = 0 ∨ i = 1 ∨ i = 2 ∨ i = 3 by omega) with rfl | rfl | rfl | rfl <;> rfl
theorem Sx.cells {w : World} {h : Nat} {X : Nat → Bool} (s : Sx w h X) : w.cell? ⟨h, 0, none⟩ = some (.int .u64 (wd X 0 : Nat)) ∧ w.cell? ⟨h, 1, none⟩ = some (.int .u64 (wd X 1 : Nat)) ∧ w.cell? ⟨h, 2, none⟩ = some (.int .u64 (wd X 2 : Nat)) ∧ w.cell? ⟨h, 3, none⟩ = some (.int .u64 (wd X 3 : Nat)) :=
  ⟨(s.cell 0 (by decide)).1, (s.cell 1 (by decide)).1, (s.cell 2 (by decide)).1, (s.cell 3 (by decide)).1⟩
theorem Sx.below {w w' : World} {h : Nat} {X : Nat → Bool} (s : Sx w h X) (b : Below w.heap.size w w') : Sx w' h X :=
  ⟨Nat.lt_of_lt_of_le s.hw b.size, (b.block h s.hw).trans s.blk⟩
theorem Sx.other {w : World} {h : Nat} {X : Nat → Bool} (s : Sx w h X) {a : Addr} (ha : h ≠ a.block) (u : Value) : Sx (w.setCell a u) h X :=
  ⟨by simpa using s.hw, (Below.heap_setCell w a u h ha).trans s.blk⟩
theorem Sx.new (w : World) (X : Nat → Bool) : Sx (w.alloc (.cells (stA X) 102 (0, 0))) w.heap.size X := ⟨by simp, heap_alloc_new w _⟩
theorem Sx.drewN {w : World} {h : Nat} {X : Nat → Bool} (s : Sx w h X) (n : Nat) : Sx (w.drewN n) h X := ⟨s.hw, s.blk⟩
/-- a word of it set -/
theorem Sx.put {w : World} {h i : Nat} {X Y : Nat → Bool} (s : Sx w h X) (hi : i < 4) (hY : ∀ j, j < 4 → j ≠ i → wd Y j = wd X j) (u : Value) (hu : u = .int .u64 (wd Y i : Nat)) : Sx (w.setCell ⟨h, i, none⟩ u) h Y := by
  refine ⟨by simpa using s.hw, ?_⟩
  rw [heap_set_at s.blk, hu]
  rcases (show i = 0 ∨ i = 1 ∨ i = 2 ∨ i = 3 by omega) with rfl | rfl | rfl | rfl
  · have h1 := hY 1 (by decide) (by decide)
    have h2 := hY 2 (by decide) (by decide)
    have h3 := hY 3 (by decide) (by decide)
    simp [stA, h1, h2, h3]
  · have h1 := hY 0 (by decide) (by decide)
    have h2 := hY 2 (by decide) (by decide)
    have h3 := hY 3 (by decide) (by decide)
    simp [stA, h1, h2, h3]
  · have h1 := hY 0 (by decide) (by decide)
    have h2 := hY 1 (by decide) (by decide)
    have h3 := hY 3 (by decide) (by decide)
    simp [stA, h1, h2, h3]
  · have h1 := hY 0 (by decide) (by decide)
    have h2 := hY 1 (by decide) (by decide)
    have h3 := hY 2 (by decide) (by decide)
    simp [stA, h1, h2, h3]
/-- the set of so many bytes more -/
def upX (X : Nat → Bool) (a k : Nat) : Nat → Bool := fun j => X j || (decide (a ≤ j) && decide (j < k))
theorem upX_first (X : Nat → Bool) (a : Nat) : upX X a a = X := by
  funext j
  unfold upX
  by_cases h : a ≤ j
  · have : ¬ j < a := by omega
    simp [this]
  · simp [h]
theorem upX_last (X : Nat → Bool) (a b : Nat) : upX X a (b + 1) = withX X a b := by
  funext j
  unfold upX withX
  congr 2
  exact decide_eq_decide.2 (by omega)
theorem upX_other (X : Nat → Bool) (a k j : Nat) (h : j ≠ k / 64) : wd (upX X a (k + 1)) j = wd (upX X a k) j := by
  apply Nat.eq_of_testBit_eq
  intro i
  rw [wd_test, wd_test]
  by_cases hi : i < 64
  · simp only [hi, decide_true, Bool.true_and]
    unfold upX
    congr 2
    exact decide_eq_decide.2 (by omega)
  · simp [hi]
theorem upX_or (X : Nat → Bool) (a k : Nat) (h : a ≤ k) : wd (upX X a (k + 1)) (k / 64) = wd (upX X a k) (k / 64) ||| 2 ^ (k % 64) := by
  apply Nat.eq_of_testBit_eq
  intro i
  rw [Nat.testBit_or, wd_test, wd_test, Nat.testBit_two_pow]
  by_cases hi : i < 64
  · simp only [hi, decide_true, Bool.true_and]
    unfold upX
    by_cases hk : k % 64 = i
    · have e : 64 * (k / 64) + i = k := by omega
      simp [e, hk, h]
    · simp only [hk, decide_false, Bool.or_false]
      congr 2
      exact decide_eq_decide.2 (by omega)
  · have : ¬ k % 64 = i := by omega
    simp [hi, this]
def WRel (X : Nat → Bool) (a b h : Nat) (w : World) (c : Value) (wr : World) : Prop :=
  ∃ k : Nat, c = .int .i64 (k : Int) ∧ a ≤ k ∧ k ≤ 256 ∧ (k ≤ b + 1 ∨ k = a) ∧ Sx wr h (upX X a k) ∧ Sx wr (h + 1) noX ∧ Below w.heap.size w wr
set_option maxHeartbeats 1000000 in
theorem with_any (X : Nat → Bool) (a b : UInt8) (w : World) : Calls Tryd.prog 85 #[setV X, .int .u8 (a.toNat : Int), .int .u8 (b.toNat : Int)] w fun y w' => y = .returned (setV (withX X a.toNat b.toNat)) ∧ Below w.heap.size w w' := by
  have ha : a.toNat < 256 := a.toNat_lt
  have hb : b.toNat < 256 := b.toNat_lt
  generalize a.toNat = p at *
  generalize b.toNat = q at *
  obtain ⟨V, hV⟩ : ∃ V, setV (withX X p q) = V := ⟨_, rfl⟩
  have HV := Lib.hid hV
  rw [hV]
  clear hV
  unfold setV
  go_enter Tryd.func85, Tryd.ntmps85
  go_wp2_with fail
  obtain ⟨h, hh⟩ : ∃ h, w.heap.size = h := ⟨_, rfl⟩
  have S0 : Hid (WRel X p q h w (.int .i64 (p : Int)) ((w.alloc (.cells (stA X) 102 (0, 0))).alloc (.cells (stA noX) 102 (0, 0)))) := by
    have n1 := Sx.new w X
    have n2 := Sx.new (w.alloc (.cells (stA X) 102 (0, 0))) noX
    have hs : (w.alloc (.cells (stA X) 102 (0, 0))).heap.size = h + 1 := by simp [hh]
    rw [hh] at n1
    rw [hs] at n2
    exact ⟨p, rfl, Nat.le_refl _, by omega, .inr rfl, by rw [upX_first]; exact n1.below ((Below.refl _ _).alloc (Nat.le_refl _) _), n2, ((Below.refl _ _).alloc (Nat.le_refl _) _).alloc (by simp) _⟩
  rw [hh]
  have HH := Lib.hid hh
  clear hh
  go_loopw [7] (fun c wr => Hid (WRel X p q h w c wr)) (fun c _ => 257 - (intOf c).toNat)
  case atStart => exact S0
  case round =>
    obtain ⟨k, rfl, hk1, hk2, hk3, s1, s2, hb1⟩ := hrel.out
    clear S0
    by_cases hkq : k ≤ q
    · have hki : (k : Int) ≤ (q : Int) := by omega
      have hi4 : k / 64 < 4 := by omega
      have hi4i : (k : Int) / 64 < 4 := by omega
      obtain ⟨c1, c2⟩ := s1.cell (k / 64) hi4
      have h2k : 2 ^ (k % 64) < 18446744073709551616 := by
        have : 2 ^ (k % 64) ≤ 2 ^ 63 := Nat.pow_le_pow_right (by decide) (by omega)
        omega
      have hm : IntKind.u64.wrap ((2 : Int) ^ (k % 64)) = ((2 ^ (k % 64) : Nat) : Int) := by
        rw [show (2 : Int) ^ (k % 64) = ((2 ^ (k % 64) : Nat) : Int) by simp]
        generalize 2 ^ (k % 64) = m at *
        exact IntWalk.u64_in _ (by omega)
      have hor := u64_or_nat _ _ (wd_lt (upX X p k) (k / 64)) h2k
      rw [← upX_or X p k hk1] at hor
      have h2p : ((2 ^ (k % 64) : Nat) : Int) = (2 : Int) ^ (k % 64) := by simp
      have HS1 := Lib.hid s1
      have HS2 := Lib.hid s2
      have HB1 := Lib.hid hb1
      obtain ⟨W0, hW0⟩ : ∃ W0, wd (upX X p k) (k / 64) = W0 := ⟨_, rfl⟩
      obtain ⟨W1, hW1⟩ : ∃ W1, wd (upX X p (k + 1)) (k / 64) = W1 := ⟨_, rfl⟩
      rw [hW0] at c1 hor
      rw [hW1] at hor
      have HW1 := Lib.hid hW1
      rw [h2p] at hor hm
      clear h2p
      clear s1 s2 hb1 hrel hW0 hW1
      go_wp2_with fail
      go_region
      all_goals
        go_wp2_with fail
        refine ⟨Lib.hid ⟨k + 1, by simp, by omega, by omega, .inl (by omega), ?_, ?_, ?_⟩, by simp [intOf]; omega⟩
        · exact (HS1.out.put hi4 (fun j _ hj => upX_other X p k j hj) _ (by rw [HW1.out])).drewN 1
        · exact ((HS2.out.other (by simp)) _).drewN 1
        · have hg : w.heap.size ≤ h := by rw [HH.out]; exact Nat.le_refl _
          exact below_drewN (HB1.out.setCell (p := ⟨h, k / 64, none⟩) hg _) 1
    · have hki : ¬ (k : Int) ≤ (q : Int) := by omega
      have HE := Lib.hid (show V = setV (upX X p k) by
        rw [← HV.out]
        rcases hk3 with h3 | h3
        · obtain rfl : k = q + 1 := by omega
          rw [upX_last]
        · subst h3
          rw [upX_first]
          congr 1
          funext j
          unfold withX
          have : ¬ (k ≤ j ∧ j ≤ q) := by omega
          by_cases h1 : k ≤ j
          · have h2 : ¬ j ≤ q := by omega
            simp [h2]
          · simp [h1])
      obtain ⟨q0, q1, q2, q3⟩ := s1.cells
      obtain ⟨r0, r1, r2, r3⟩ := s2.cells
      obtain ⟨_, f0⟩ := s2.cell 0 (by decide)
      obtain ⟨_, f1⟩ := s2.cell 1 (by decide)
      obtain ⟨_, f2⟩ := s2.cell 2 (by decide)
      obtain ⟨_, f3⟩ := s2.cell 3 (by decide)
      have HB1 := Lib.hid hb1
      have hg : w.heap.size ≤ h + 1 := by rw [HH.out]; exact Nat.le_succ _
      have HG := Lib.hid hg
      clear s1 s2 hb1 hrel hg
      go_wp2_with fail
      refine bodyPost_ret (v := setV (upX X p k)) (by simp [results, Tryd.results85, go_sem, r0, r1, r2, r3, setV]) rfl ⟨by rw [HE.out], (((HB1.out.setCell (p := ⟨h + 1, 0, none⟩) HG.out _).setCell (p := ⟨h + 1, 1, none⟩) HG.out _).setCell (p := ⟨h + 1, 2, none⟩) HG.out _).setCell (p := ⟨h + 1, 3, none⟩) HG.out _⟩
end Go.Proofs.YtnabfganecghkaaDoor
