/- The program's and the document's products of 128 bits, and one divided, rounded up. -/
import Derived.Test.YtbibhjcmdehdbaaRkN
namespace Go.Proofs.Ytbibhjcmdehdbaa
open Go.RowKit

theorem mul64_any (a b : Int) (w : World) (a0 : 0 ≤ a) (a1 : a ≤ 18446744073709551615) (b0 : 0 ≤ b) (b1 : b ≤ 18446744073709551615) :
    Calls Try.prog 99 #[.int .u64 a, .int .u64 b] w fun e w' => e = .returned (.tuple #[.int .u64 (mulh a b), .int .u64 (mull a b)]) ∧ w = w' := by
  obtain ⟨x, rfl⟩ := Int.eq_ofNat_of_zero_le a0
  obtain ⟨y, rfl⟩ := Int.eq_ofNat_of_zero_le b0
  refine (Try.bits_Mul64 x y (by omega) (by omega) w).mono fun e w' ⟨he, hw⟩ => ⟨?_, hw.symm⟩
  rw [he]
  unfold mulh mull two64
  simp only [Int.natCast_ediv, Int.natCast_emod, Int.natCast_mul]
  rfl

theorem mul_any (a b : Int) (w : World) (a0 : 0 ≤ a) (a1 : a ≤ 18446744073709551615) (b0 : 0 ≤ b) (b1 : b ≤ 18446744073709551615) :
    Calls Try.prog 63 #[.int .u64 a, .int .u64 b] w fun e w' => e = .returned (.agg #[.int .u64 (mulh a b), .int .u64 (mull a b)]) ∧ Below w.heap.size w w' := by
  go_enter Try.func63, Try.ntmps63
  go_wp2_with (go_at_call 99; refine (mul64_any _ _ _ (by omega) (by omega) (by omega) (by omega)).mono ?_; rintro e w' ⟨rfl, rfl⟩)
  exact bodyPost_ret (v := .agg #[.int .u64 (mulh a b), .int .u64 (mull a b)]) (by simp [results, Try.results63, go_sem]) rfl ⟨rfl, (Below.refl _ _).alloc (Nat.le_refl _) _⟩

theorem refless_any (ah al bh bl : Int) (w : World) (l1 : 0 ≤ al) (l2 : al ≤ 18446744073709551615) (l3 : 0 ≤ bl) (l4 : bl ≤ 18446744073709551615) :
    Calls Try.prog 66 #[.int .u64 ah, .int .u64 al, .int .u64 bh, .int .u64 bl] w fun e w' => e = .returned (.bool (lessW ah al bh bl)) ∧ w = w' := by
  by_cases h : ah = bh
  · have t : (ah != bh) = false := by simpa using h
    have HE := Lib.hid (less_low (al := al) (bl := bl) h)
    clear h
    go_enter Try.func66, Try.ntmps66
    go_wp2
    go_ret
    exact ⟨ret_bool HE.out, rfl⟩
  · have t : (ah != bh) = true := by simpa using h
    have HE := Lib.hid (less_high h l1 l2 l3 l4)
    clear h
    go_enter Try.func66, Try.ntmps66
    go_wp2
    go_ret
    exact ⟨ret_bool HE.out, rfl⟩


/-- two numbers by their place -/
def two (x y : Int) : Nat → Int := fun i => if i = 0 then x else y
theorem two_sum (x y : Int) : sumTo (two x y) 2 = x + y := by
  show 0 + x + y = x + y
  omega

theorem div_bd {h l y : Int} (h0 : 0 ≤ h) (h1 : h < y) (l0 : 0 ≤ l) (l1 : l ≤ 18446744073709551615) : 0 ≤ divq h l y ∧ divq h l y ≤ 18446744073709551615 ∧ 0 ≤ divr h l y := by
  unfold divq divr two64
  refine ⟨Int.ediv_nonneg (by omega) (by omega), ?_, Int.emod_nonneg _ (by omega)⟩
  have : (h * 18446744073709551616 + l) / y < 18446744073709551616 := by
    rw [Int.ediv_lt_iff_lt_mul (by omega)]
    omega
  omega

theorem ceil_any (h l y : Int) (w : World) (h0 : 0 ≤ h) (l0 : 0 ≤ l) (l1 : l ≤ 18446744073709551615) (y1 : y ≤ 18446744073709551615) :
    Calls Try.prog 64 #[.agg #[.int .u64 h, .int .u64 l], .int .u64 y] w fun e w' => e = .returned (.tuple #[.int .u64 (ceilV h l y), .int .i64 (ceilE h l y)]) ∧ Below w.heap.size w w' := by
  by_cases hh : y ≤ h
  · obtain ⟨e1, e2⟩ := ceil_high (l := l) (show ¬ h < y by omega)
    have E1 := Lib.hid e1
    have E2 := Lib.hid e2
    clear e1 e2
    go_enter Try.func64, Try.ntmps64
    go_wp2
    go_ret2
    exact ⟨ret_pair E1.out.symm E2.out.symm, (Below.refl _ _).alloc (Nat.le_refl _) _⟩
  · obtain ⟨q0, q1, r0⟩ := div_bd h0 (show h < y by omega) l0 l1
    by_cases hr : divr h l y = 0
    · have ec : ceilN h l y = divq h l y := by unfold ceilN divq; exact ceil_whole (by omega) hr
      obtain ⟨e1, e2⟩ := ceil_fits (show h < y by omega) (show ceilN h l y ≤ 18446744073709551615 by omega)
      have E1 := Lib.hid (e1.trans ec)
      have E2 := Lib.hid e2
      have ht : (divr h l y == 0) = true := by rw [hr]; rfl
      clear e1 e2 ec hr
      go_enter Try.func64, Try.ntmps64
      go_wp2_with (go_at_call 100; refine (div_any _ _ _ _ (by omega) (by omega) (by omega) (by omega) (by omega)).mono ?_; rintro e w' ⟨rfl, n, rfl⟩)
      go_ret2
      exact ⟨ret_pair E1.out.symm E2.out.symm, below_drewN ((Below.refl _ _).alloc (Nat.le_refl _) _) _⟩
    · have ec : ceilN h l y = divq h l y + 1 := by unfold ceilN divq; exact ceil_rest (by omega) hr
      have ht : (divr h l y == 0) = false := by simpa using hr
      have hE : addV (two (divq h l y) 1) 2 = ceilV h l y ∧ addE (two (divq h l y) 1) 2 = ceilE h l y := by
        unfold addV addE maxU
        rw [two_sum]
        by_cases hm : divq h l y + 1 ≤ 18446744073709551615
        · obtain ⟨e1, e2⟩ := ceil_fits (show h < y by omega) (show ceilN h l y ≤ 18446744073709551615 by omega)
          rw [if_pos hm, if_pos hm, e1, e2, ec]; exact ⟨rfl, rfl⟩
        · obtain ⟨e1, e2⟩ := ceil_over (show ¬ ceilN h l y ≤ 18446744073709551615 by omega)
          rw [if_neg hm, if_neg hm, e1, e2]; exact ⟨rfl, rfl⟩
      have HE := Lib.hid hE
      clear hE ec hr
      go_enter Try.func64, Try.ntmps64
      go_wp2_with (go_at_call 100; refine (div_any _ _ _ _ (by omega) (by omega) (by omega) (by omega) (by omega)).mono ?_; rintro e w' ⟨rfl, n, rfl⟩)
      refine (add_row _ 0 2 2 (two (divq h l y) 1) _ ⟨by decide, fun i hi => ?_⟩).mono ?_
      · obtain rfl | rfl : i = 0 ∨ i = 1 := by omega
        · exact ⟨by simp [two, go_sem], q0, q1⟩
        · exact ⟨by simp [two, go_sem], by show (0 : Int) ≤ 1; decide, by show (1 : Int) ≤ _; decide⟩
      · rintro e w' ⟨rfl, rfl⟩
        go_wp2
        go_ret2
        refine ⟨ret_pair HE.out.1 HE.out.2, ?_⟩
        repeat (first | exact Below.refl _ _ | apply below_drewN | (refine Below.alloc ?_ (by first | (simp; done) | (simp; omega)) _))

end Go.Proofs.Ytbibhjcmdehdbaa

namespace Go.Proofs.Ytbibhjcmdehdbaa
open Go.RowKit

/-- a store behind draws is a store, and draws: so a block's literal takes it -/
@[go_sem] theorem setCell_drewN (w : World) (n : Nat) (a : Addr) (v : Value) : (w.drewN n).setCell a v = (w.setCell a v).drewN n := rfl

theorem refmul_any (a b : Int) (w : World) (a0 : 0 ≤ a) (a1 : a ≤ 18446744073709551615) (b0 : 0 ≤ b) (b1 : b ≤ 18446744073709551615) :
    Calls Try.prog 65 #[.int .u64 a, .int .u64 b] w fun e w' => e = .returned (.tuple #[.int .u64 (mulh a b), .int .u64 (mull a b)]) ∧ Below w.heap.size w w' := by
  obtain ⟨x0, e0⟩ : ∃ x, a % 4294967296 = x := ⟨_, rfl⟩
  obtain ⟨x1, e1⟩ : ∃ x, a / 4294967296 = x := ⟨_, rfl⟩
  obtain ⟨y0, f0⟩ : ∃ x, b % 4294967296 = x := ⟨_, rfl⟩
  obtain ⟨y1, f1⟩ : ∃ x, b / 4294967296 = x := ⟨_, rfl⟩
  have p0 := prod_bound x0 y0 (by omega) (by omega) (by omega) (by omega)
  have p1 := prod_bound x0 y1 (by omega) (by omega) (by omega) (by omega)
  have p2 := prod_bound x1 y0 (by omega) (by omega) (by omega) (by omega)
  have p3 := prod_bound x1 y1 (by omega) (by omega) (by omega) (by omega)
  obtain ⟨z0, g0⟩ : ∃ x, x0 * y0 = x := ⟨_, rfl⟩
  obtain ⟨z1, g1⟩ : ∃ x, x0 * y1 = x := ⟨_, rfl⟩
  obtain ⟨z2, g2⟩ : ∃ x, x1 * y0 = x := ⟨_, rfl⟩
  obtain ⟨z3, g3⟩ : ∃ x, x1 * y1 = x := ⟨_, rfl⟩
  have hs := split_mul x1 x0 y1 y0
  rw [g0, g1, g2, g3] at hs
  rw [g0] at p0
  rw [g1] at p1
  rw [g2] at p2
  rw [g3] at p3
  have HS := Lib.hid hs
  clear hs
  go_enter Try.func65, Try.ntmps65
  go_wp2
  refine wp_loop_rounds 3 ?_
  rw [rounds_succ]
  go_wp2
  refine wp_loop_rounds 3 ?_
  rw [rounds_succ]
  go_wp2
  go_quiet (fail)
  go_wp2
  rw [rounds_succ]
  go_wp2
  go_quiet (fail)
  go_wp2
  rw [rounds_succ]
  go_wp2
  rw [rounds_succ]
  go_wp2
  refine wp_loop_rounds 3 ?_
  rw [rounds_succ]
  go_wp2
  go_quiet (fail)
  go_wp2
  rw [rounds_succ]
  go_wp2
  go_quiet (fail)
  go_wp2
  rw [rounds_succ]
  go_wp2
  rw [rounds_succ]
  go_wp2
  go_quiet (fail)
  go_wp2
  go_ret2
  have hab : a * b = z3 * 18446744073709551616 + (z2 + z1) * 4294967296 + z0 := by rw [← HS.out]; congr 1 <;> omega
  refine ⟨ret_pair (by unfold mulh two64; omega) (by unfold mull two64; omega), ?_⟩
  repeat (first | exact Below.refl _ _ | apply below_drewN | (refine Below.alloc ?_ (by first | (simp; done) | (simp; omega)) _))
end Go.Proofs.Ytbibhjcmdehdbaa
