/- How wide a step is, where it begins. -/
import Derived.Test.YtpfceebmiolpeaaPlP
import Derived.Laws.BitsAllLaws
import Derived.LoopNIn
namespace Go.Proofs.Ytpfceebmiolpeaa.Pl
open Go.RowKit Go.Sort
set_option linter.unusedVariables false

theorem wrap_small (n : Nat) (h : n < 9223372036854775808) : IntKind.i64.wrap (n : Int) = (n : Int) := by
  have e : (n : Int) % 2 ^ 64 = n := Int.emod_eq_of_lt (by omega) (by omega)
  simp only [IntKind.wrap, IntKind.bits, IntKind.signed, e]
  rw [if_neg]
  simp
  omega
theorem andNot_nat (x s : Nat) (hs : s ≤ 20) (hx : x < 9223372036854775808) : (BitVec.ofNat 64 x &&& ~~~BitVec.ofNat 64 (2 ^ s - 1)).toNat = x / 2 ^ s * 2 ^ s := by
  apply Nat.eq_of_testBit_eq
  intro i
  rw [BitVec.testBit_toNat, BitVec.getLsbD_and, BitVec.getLsbD_not, BitVec.getLsbD_ofNat, BitVec.getLsbD_ofNat, Nat.testBit_two_pow_sub_one, Nat.testBit_mul_two_pow, Nat.testBit_div_two_pow]
  by_cases hi : i < 64
  · by_cases his : i < s
    · simp [hi, his, show ¬ s ≤ i by omega]
    · simp [hi, his, show s ≤ i by omega]
  · have : x.testBit i = false := Nat.testBit_lt_two_pow (Nat.lt_of_lt_of_le hx (Nat.le_trans (by decide : 9223372036854775808 ≤ 2 ^ 64) (Nat.pow_le_pow_right (by omega) (by omega))))
    by_cases his : s ≤ i
    · simp [hi, his, this]
    · simp [hi, his]
theorem andNot_low (x s : Nat) (hs : s ≤ 20) (hx : x < 9223372036854775808) : bits .andNot .i64 (x : Int) ((2 ^ s - 1 : Nat) : Int) = ((x / 2 ^ s * 2 ^ s : Nat) : Int) := by
  show IntKind.i64.wrap ((BitVec.ofInt 64 (x : Int) &&& ~~~BitVec.ofInt 64 ((2 ^ s - 1 : Nat) : Int)).toNat : Int) = _
  rw [BitVec.ofInt_natCast, BitVec.ofInt_natCast, andNot_nat x s hs hx]
  have : x / 2 ^ s * 2 ^ s ≤ x := Nat.div_mul_le_self _ _
  exact wrap_small _ (by omega)
theorem andNot_wd (k t : Int) (h0 : 0 ≤ t) (h1 : t < 9223372036854775808) : bits .andNot .i64 t (wd k - 1) = lowF k t := by
  obtain ⟨n, rfl⟩ := Int.eq_ofNat_of_zero_le h0
  have hn : n < 9223372036854775808 := by omega
  unfold lowF
  rcases wd_cases k with ⟨_, e⟩ | ⟨_, e⟩ | ⟨_, e⟩ | ⟨_, e⟩ | ⟨_, e⟩ <;> rw [e]
  · exact (andNot_low n 6 (by omega) hn).trans (by omega)
  · exact (andNot_low n 8 (by omega) hn).trans (by omega)
  · exact (andNot_low n 10 (by omega) hn).trans (by omega)
  · exact (andNot_low n 12 (by omega) hn).trans (by omega)
  · exact (andNot_low n 14 (by omega) hn).trans (by omega)
set_option maxRecDepth 100000 in
theorem width_any (k : Int) (hk : I64 k) (w : World) : Calls Try.prog 11 #[.int .i64 k] w fun e w' => e = .returned (.int .i64 (wd k)) ∧ w = w' := by
  obtain ⟨k1, k2⟩ := hk
  have hc : k < 0 ∨ k = 0 ∨ k = 1 ∨ k = 2 ∨ k = 3 ∨ k = 4 ∨ 4 < k := by omega
  rcases hc with c | c | c | c | c | c | c
  · have HE := Lib.hid (show (64 : Int) = wd k by unfold wd; rw [if_pos (by omega)])
    go_enter Try.func11, Try.ntmps11
    go_wp2_with fail
    all_goals first
      | (exfalso; omega)
      | (go_ret; exact ⟨ret_int HE.out, rfl⟩)
  · subst c
    go_enter Try.func11, Try.ntmps11
    go_wp2_with fail
    go_ret
    exact ⟨rfl, rfl⟩
  · subst c
    go_enter Try.func11, Try.ntmps11
    go_wp2_with fail
    go_ret
    exact ⟨rfl, rfl⟩
  · subst c
    go_enter Try.func11, Try.ntmps11
    go_wp2_with fail
    go_ret
    exact ⟨rfl, rfl⟩
  · subst c
    go_enter Try.func11, Try.ntmps11
    go_wp2_with fail
    go_ret
    exact ⟨rfl, rfl⟩
  · subst c
    go_enter Try.func11, Try.ntmps11
    go_wp2_with fail
    go_ret
    exact ⟨rfl, rfl⟩
  · have HE := Lib.hid (show (16384 : Int) = wd k by rcases wd_cases k with ⟨_, e⟩ | ⟨_, e⟩ | ⟨_, e⟩ | ⟨_, e⟩ | ⟨_, e⟩ <;> omega)
    go_enter Try.func11, Try.ntmps11
    go_wp2_with fail
    all_goals first
      | (exfalso; omega)
      | (go_ret; exact ⟨ret_int HE.out, rfl⟩)
/-- Low, of a time from 0 on -/
theorem low_any (k t : Int) (hk : I64 k) (h0 : 0 ≤ t) (h1 : t < 9223372036854775808) (w : World) : Calls Try.prog 9 #[.int .i64 k, .int .i64 t] w fun e w' => e = .returned (.int .i64 (lowF k t)) ∧ w = w' := by
  have HW := Lib.hid (fun w => width_any k hk w)
  have HE := Lib.hid (andNot_wd k t h0 h1)
  obtain ⟨d, hd⟩ : ∃ d, wd k = d := ⟨_, rfl⟩
  have hp := wd_pos k
  rw [hd] at hp
  simp only [hd] at HW HE
  clear h0 h1 hk hd
  go_enter Try.func9, Try.ntmps9
  go_wp2_with (go_at_call 11; refine (HW.out _).mono ?_; rintro e w' ⟨rfl, rfl⟩)
  go_ret
  exact ⟨ret_int HE.out, rfl⟩
theorem rwidth_any (k : Int) (hk : I64 k) (w : World) : Calls Try.prog 26 #[.int .i64 k] w fun e w' => e = .returned (.int .i64 (wd k)) ∧ w = w' := by
  obtain ⟨k1, k2⟩ := hk
  have hc : k ≤ 0 ∨ k = 1 ∨ k = 2 ∨ k = 3 ∨ 4 ≤ k := by omega
  rcases hc with c | c | c | c | c
  · have HE := Lib.hid (show (64 : Int) = wd k by unfold wd; rw [if_pos c])
    go_enter Try.func26, Try.ntmps26
    go_wp2_with fail
    refine wp_loop_rounds 1 ?_
    rw [rounds_succ]
    go_wp2_with fail
    go_ret
    exact ⟨ret_int HE.out, rfl⟩
  · subst c
    go_enter Try.func26, Try.ntmps26
    go_wp2_with fail
    refine wp_loop_rounds 2 ?_
    rw [rounds_succ]
    go_wp2_with fail
    rw [rounds_succ]
    go_wp2_with fail
    go_ret
    exact ⟨rfl, rfl⟩
  · subst c
    go_enter Try.func26, Try.ntmps26
    go_wp2_with fail
    refine wp_loop_rounds 3 ?_
    rw [rounds_succ]
    go_wp2_with fail
    rw [rounds_succ]
    go_wp2_with fail
    rw [rounds_succ]
    go_wp2_with fail
    go_ret
    exact ⟨rfl, rfl⟩
  · subst c
    go_enter Try.func26, Try.ntmps26
    go_wp2_with fail
    refine wp_loop_rounds 4 ?_
    rw [rounds_succ]
    go_wp2_with fail
    rw [rounds_succ]
    go_wp2_with fail
    rw [rounds_succ]
    go_wp2_with fail
    rw [rounds_succ]
    go_wp2_with fail
    go_ret
    exact ⟨rfl, rfl⟩
  · have HE := Lib.hid (show (16384 : Int) = wd k by rcases wd_cases k with ⟨_, e⟩ | ⟨_, e⟩ | ⟨_, e⟩ | ⟨_, e⟩ | ⟨_, e⟩ <;> omega)
    go_enter Try.func26, Try.ntmps26
    go_wp2_with fail
    refine wp_loop_rounds 5 ?_
    rw [rounds_succ]
    go_wp2_with fail
    rw [rounds_succ]
    go_wp2_with fail
    rw [rounds_succ]
    go_wp2_with fail
    rw [rounds_succ]
    go_wp2_with fail
    rw [rounds_succ]
    go_wp2_with fail
    all_goals first
      | (exfalso; omega)
      | (go_ret; exact ⟨ret_int HE.out, rfl⟩)
end Go.Proofs.Ytpfceebmiolpeaa.Pl
