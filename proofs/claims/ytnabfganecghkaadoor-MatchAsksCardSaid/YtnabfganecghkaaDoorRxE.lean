/- Sets of bytes: others, has; either. -/
import Derived.Test.YtnabfganecghkaaDoorRxD
namespace Go.Proofs.YtnabfganecghkaaDoor
open Go.RowKit
set_option linter.unusedVariables false

/-- the first k words turned -/
def tuX (X : Nat → Bool) (k : Nat) : Nat → Bool := fun c => if c / 64 < k then !X c else X c
theorem tuX_zero (X : Nat → Bool) : tuX X 0 = X := by funext c; simp [tuX]
theorem tuX_four (X : Nat → Bool) (j : Nat) (hj : j < 4) : wd (tuX X 4) j = wd (notX X) j := by
  apply Nat.eq_of_testBit_eq
  intro i
  rw [wd_test, wd_test]
  by_cases hi : i < 64
  · have : (64 * j + i) / 64 < 4 := by omega
    simp [hi, tuX, notX, this]
  · simp [hi]
theorem tuX_set (X : Nat → Bool) : setV (tuX X 4) = setV (notX X) := by
  unfold setV
  rw [tuX_four X 0 (by decide), tuX_four X 1 (by decide), tuX_four X 2 (by decide), tuX_four X 3 (by decide)]
theorem tuX_other (X : Nat → Bool) (k j : Nat) (h : j ≠ k) : wd (tuX X (k + 1)) j = wd (tuX X k) j := by
  apply Nat.eq_of_testBit_eq
  intro i
  rw [wd_test, wd_test]
  by_cases hi : i < 64
  · have e : (64 * j + i) / 64 = j := by omega
    have e2 : (j < k + 1) = (j < k) := by apply propext; omega
    simp only [tuX, e, e2]
  · simp [hi]
theorem tuX_turn (X : Nat → Bool) (k : Nat) : wd (tuX X (k + 1)) k = 18446744073709551615 - wd (tuX X k) k := by
  apply Nat.eq_of_testBit_eq
  intro i
  have hl := wd_lt (tuX X k) k
  rw [show 18446744073709551615 - wd (tuX X k) k = 2 ^ 64 - (wd (tuX X k) k + 1) by omega, Nat.testBit_two_pow_sub_succ hl, wd_test, wd_test]
  by_cases hi : i < 64
  · have e : (64 * k + i) / 64 = k := by omega
    simp [tuX, e, hi]
  · simp [hi]
theorem xor_all (x : Nat) (h : x < 18446744073709551616) : 18446744073709551615 ^^^ x = 18446744073709551615 - x := by
  apply Nat.eq_of_testBit_eq
  intro i
  rw [Nat.testBit_xor, show 18446744073709551615 - x = 2 ^ 64 - (x + 1) by omega, Nat.testBit_two_pow_sub_succ h, show 18446744073709551615 = 2 ^ 64 - 1 from rfl, Nat.testBit_two_pow_sub_one]
  by_cases hi : i < 64
  · simp [hi]
  · have : x.testBit i = false := Nat.testBit_lt_two_pow (Nat.lt_of_lt_of_le h (Nat.pow_le_pow_right (n := 2) (by decide) (show 64 ≤ i by omega)))
    simp [hi, this]
theorem not_u64 (x : Nat) (h : x < 18446744073709551616) : bits BinOp.xor IntKind.u64 (if IntKind.u64.signed = true then -1 else IntKind.u64.max) (x : Int) = ((18446744073709551615 - x : Nat) : Int) := by
  rw [show (if IntKind.u64.signed = true then -1 else IntKind.u64.max) = ((18446744073709551615 : Nat) : Int) from rfl, u64_xor_nat _ _ (by decide) h, xor_all x h]
def ORel (X : Nat → Bool) (h : Nat) (w : World) (c : Value) (wr : World) : Prop :=
  ∃ k : Nat, c = .int .i64 (k : Int) ∧ k ≤ 4 ∧ Sx wr h (tuX X k) ∧ Sx wr (h + 1) noX ∧ Below w.heap.size w wr
set_option maxHeartbeats 1000000 in
theorem others_any (X : Nat → Bool) (w : World) : Calls Tryd.prog 86 #[setV X] w fun y w' => y = .returned (setV (notX X)) ∧ Below w.heap.size w w' := by
  obtain ⟨V, hV⟩ : ∃ V, setV (notX X) = V := ⟨_, rfl⟩
  have HV := Lib.hid hV
  rw [hV]
  clear hV
  unfold setV
  go_enter Tryd.func86, Tryd.ntmps86
  go_wp2_with fail
  obtain ⟨h, hh⟩ : ∃ h, w.heap.size = h := ⟨_, rfl⟩
  have S0 : Hid (ORel X h w (.int .i64 ((0 : Nat) : Int)) ((w.alloc (.cells (stA X) 102 (0, 0))).alloc (.cells (stA noX) 102 (0, 0)))) := by
    have n1 := Sx.new w X
    have n2 := Sx.new (w.alloc (.cells (stA X) 102 (0, 0))) noX
    have hs : (w.alloc (.cells (stA X) 102 (0, 0))).heap.size = h + 1 := by simp [hh]
    rw [hh] at n1
    rw [hs] at n2
    exact ⟨0, rfl, by omega, by rw [tuX_zero]; exact n1.below ((Below.refl _ _).alloc (Nat.le_refl _) _), n2, ((Below.refl _ _).alloc (Nat.le_refl _) _).alloc (by simp) _⟩
  rw [hh]
  have HH := Lib.hid hh
  clear hh
  go_loopw [4] (fun c wr => Hid (ORel X h w c wr)) (fun c _ => 4 - (intOf c).toNat)
  case atStart => exact S0
  case round =>
    obtain ⟨k, rfl, hk, s1, s2, hb1⟩ := hrel.out
    clear S0
    by_cases hk4 : k < 4
    · have hki : (k : Int) < 4 := by omega
      obtain ⟨c1, c2⟩ := s1.cell k hk4
      have hwl := wd_lt (tuX X k) k
      have htn := tuX_turn X k
      have HS1 := Lib.hid s1
      have HS2 := Lib.hid s2
      have HB1 := Lib.hid hb1
      obtain ⟨W0, hW0⟩ : ∃ W0, wd (tuX X k) k = W0 := ⟨_, rfl⟩
      rw [hW0] at c1 hwl htn
      have HT := Lib.hid htn
      clear s1 s2 hb1 hrel hW0 htn
      go_wp2_with fail
      go_roundw
      case rel =>
        refine Lib.hid ⟨k + 1, by go_num, by omega, ?_, ?_, ?_⟩
        · exact HS1.out.put hk4 (fun j _ hj => tuX_other X k j hj) _ (by rw [HT.out, not_u64 W0 (by omega)])
        · exact HS2.out.other (by simp) _
        · have hg : w.heap.size ≤ h := by rw [HH.out]; exact Nat.le_refl _
          exact HB1.out.setCell (p := ⟨h, k, none⟩) hg _
      case measure => simp [intOf]; omega
    · have hki : ¬ (k : Int) < 4 := by omega
      obtain rfl : k = 4 := by omega
      have HE := Lib.hid (show V = setV (tuX X 4) by rw [← HV.out, tuX_set])
      obtain ⟨q0, q1, q2, q3⟩ := s1.cells
      obtain ⟨r0, r1, r2, r3⟩ := s2.cells
      obtain ⟨_, f0⟩ := s2.cell 0 (by decide)
      obtain ⟨_, f1⟩ := s2.cell 1 (by decide)
      obtain ⟨_, f2⟩ := s2.cell 2 (by decide)
      obtain ⟨_, f3⟩ := s2.cell 3 (by decide)
      have HB1 := Lib.hid hb1
      have hg : w.heap.size ≤ h + 1 := by rw [HH.out]; exact Nat.le_succ _
      have HG := Lib.hid hg
      clear s1 s2 hb1 hrel hg
      go_wp2_with fail
      refine bodyPost_ret (v := setV (tuX X 4)) (by simp [results, Tryd.results86, go_sem, r0, r1, r2, r3, setV]) rfl ⟨by rw [HE.out], (((HB1.out.setCell (p := ⟨h + 1, 0, none⟩) HG.out _).setCell (p := ⟨h + 1, 1, none⟩) HG.out _).setCell (p := ⟨h + 1, 2, none⟩) HG.out _).setCell (p := ⟨h + 1, 3, none⟩) HG.out _⟩

theorem wd_has (X : Nat → Bool) (k : Nat) : wd X (k / 64) / 2 ^ (k % 64) % 2 = if X k = true then 1 else 0 := by
  have h := wd_test X (k / 64) (k % 64)
  rw [Nat.testBit_eq_decide_div_mod_eq] at h
  have e : 64 * (k / 64) + k % 64 = k := by omega
  have e2 : k % 64 < 64 := by omega
  rw [e] at h
  simp only [e2, decide_true, Bool.true_and] at h
  by_cases hx : X k = true
  · rw [hx] at h
    rw [if_pos hx]
    simpa using h
  · rw [if_neg hx]
    have hx2 : X k = false := by simpa using hx
    rw [hx2] at h
    have : ¬ wd X (k / 64) / 2 ^ (k % 64) % 2 = 1 := by simpa using h
    omega
theorem has_any (X : Nat → Bool) (c : UInt8) (w : World) : Calls Tryd.prog 45 #[setV X, .int .u8 (c.toNat : Int)] w fun y w' => y = .returned (.bool (X c.toNat)) ∧ Below w.heap.size w w' := by
  have ha : c.toNat < 256 := c.toNat_lt
  generalize c.toNat = k at *
  have s1 := Sx.new w X
  have hi4 : k / 64 < 4 := by omega
  have hi4i : (k : Int) / 64 < 4 := by omega
  obtain ⟨c1, c2⟩ := s1.cell (k / 64) hi4
  have hz : bits BinOp.and IntKind.u64 ((wd X (k / 64) : Int) / 2 ^ (k % 64)) 1 = if X k = true then 1 else 0 := by
    have hl := wd_lt X (k / 64)
    have hh := wd_has X k
    have e : ((wd X (k / 64) : Int) / 2 ^ (k % 64)) = ((wd X (k / 64) / 2 ^ (k % 64) : Nat) : Int) := by simp
    have hd : wd X (k / 64) / 2 ^ (k % 64) ≤ wd X (k / 64) := Nat.div_le_self _ _
    rw [e]
    generalize wd X (k / 64) / 2 ^ (k % 64) = y at *
    rw [and_one_u64 _ (by omega) (by omega)]
    split at hh <;> simp [*] <;> omega
  obtain ⟨z, hzz⟩ : ∃ z, X k = z := ⟨_, rfl⟩
  rw [hzz] at hz ⊢
  unfold setV
  obtain ⟨W0, hW0⟩ : ∃ W0, wd X (k / 64) = W0 := ⟨_, rfl⟩
  rw [hW0] at c1 hz
  unfold stA at c1 c2
  clear s1 hW0 hzz
  have HB := Lib.hid ((Below.refl w.heap.size w).alloc (Nat.le_refl _) (.cells #[.int .u64 (wd X 0 : Nat), .int .u64 (wd X 1 : Nat), .int .u64 (wd X 2 : Nat), .int .u64 (wd X 3 : Nat)] 102 (0, 0)))
  cases z with
  | true =>
    simp only [if_true] at hz
    go_enter Tryd.func45, Tryd.ntmps45
    go_wp2_with fail
    go_ret
    exact ⟨rfl, HB.out⟩
  | false =>
    simp only [Bool.false_eq_true, if_false] at hz
    go_enter Tryd.func45, Tryd.ntmps45
    go_wp2_with fail
    go_ret
    exact ⟨rfl, HB.out⟩

theorem either_any (a b : Pc) (w : World) (ha : PcOk a) (hb : PcOk b) : Calls Tryd.prog 57 #[pcV a, pcV b] w fun y w' => y = .returned (pcV (eithP a b)) ∧ Below w.heap.size w w' := by
  obtain ⟨af, al, ae⟩ := a
  obtain ⟨bf, bl, be⟩ := b
  have h1 := u64_or_nat af bf ha.1 hb.1
  have h2 := u64_or_nat al bl ha.2 hb.2
  unfold eithP
  obtain ⟨F, hF⟩ : ∃ F, af ||| bf = F := ⟨_, rfl⟩
  obtain ⟨L, hL⟩ : ∃ L, al ||| bl = L := ⟨_, rfl⟩
  rw [hF] at h1
  rw [hL] at h2
  simp only [hF, hL]
  unfold pcV
  clear ha hb hF hL
  have HB := Lib.hid (fun (o1 o2 o3 : Obj) => (((Below.refl w.heap.size w).alloc (Nat.le_refl _) o1).alloc (by simp) o2).alloc (by simp; omega) o3)
  cases ae <;> cases be
  all_goals
    go_enter Tryd.func57, Tryd.ntmps57
    go_wp2_with fail
    refine bodyPost_ret (by simp [results, Tryd.results57, go_sem]; rfl) rfl ⟨by simp, ?_⟩
    exact HB.out _ _ _
end Go.Proofs.YtnabfganecghkaaDoor
