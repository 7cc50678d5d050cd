/- The contract of the document's own product of two counts (pluvialref01.Mul): the two halves of the product; of what was in memory nothing turns. -/
import Derived.Test.YtdnihkmdigmnoaaNumB
namespace Go.Proofs.Ytdnihkmdigmnoaa
open Go.RowKit

/-- a store behind draws is a store, and draws: so a block's literal takes it -/
@[go_sem] theorem setCell_drewN (w : World) (n : Nat) (a : Addr) (v : Value) : (w.drewN n).setCell a v = (w.setCell a v).drewN n := rfl

theorem refmul_any (a b : Int) (w : World) (a0 : 0 ≤ a) (a1 : a ≤ 18446744073709551615) (b0 : 0 ≤ b) (b1 : b ≤ 18446744073709551615) :
    Calls Try.prog 17 #[.int .u64 a, .int .u64 b] w fun e w' => e = .returned (.tuple #[.int .u64 (mulh a b), .int .u64 (mull a b)]) ∧ Below w.heap.size w w' := by
  obtain ⟨x0, e0⟩ : ∃ x, a % 4294967296 = x := ⟨_, rfl⟩
  obtain ⟨x1, e1⟩ : ∃ x, a / 4294967296 = x := ⟨_, rfl⟩
  obtain ⟨y0, f0⟩ : ∃ x, b % 4294967296 = x := ⟨_, rfl⟩
  obtain ⟨y1, f1⟩ : ∃ x, b / 4294967296 = x := ⟨_, rfl⟩
  have p0 := prod_bound x0 y0 (by omega) (by omega) (by omega) (by omega)
  have p1 := prod_bound x0 y1 (by omega) (by omega) (by omega) (by omega)
  have p2 := prod_bound x1 y0 (by omega) (by omega) (by omega) (by omega)
  have p3 := prod_bound x1 y1 (by omega) (by omega) (by omega) (by omega)
  obtain ⟨z0, g0⟩ : ∃ x, x0 * y0 = x := ⟨_, rfl⟩
  obtain ⟨z1, g1⟩ : ∃ x, x0 * y1 = x := ⟨_, rfl⟩
  obtain ⟨z2, g2⟩ : ∃ x, x1 * y0 = x := ⟨_, rfl⟩
  obtain ⟨z3, g3⟩ : ∃ x, x1 * y1 = x := ⟨_, rfl⟩
  have hs := split_mul x1 x0 y1 y0
  rw [g0, g1, g2, g3] at hs
  rw [g0] at p0
  rw [g1] at p1
  rw [g2] at p2
  rw [g3] at p3
  have HS := Lib.hid hs
  clear hs
  go_enter Try.func17, Try.ntmps17
  go_wp2
  refine wp_loop_rounds 3 ?_
  rw [rounds_succ]
  go_wp2
  refine wp_loop_rounds 3 ?_
  rw [rounds_succ]
  go_wp2
  go_quiet (fail)
  go_wp2
  rw [rounds_succ]
  go_wp2
  go_quiet (fail)
  go_wp2
  rw [rounds_succ]
  go_wp2
  rw [rounds_succ]
  go_wp2
  refine wp_loop_rounds 3 ?_
  rw [rounds_succ]
  go_wp2
  go_quiet (fail)
  go_wp2
  rw [rounds_succ]
  go_wp2
  go_quiet (fail)
  go_wp2
  rw [rounds_succ]
  go_wp2
  rw [rounds_succ]
  go_wp2
  go_quiet (fail)
  go_wp2
  go_ret2
  have hab : a * b = z3 * 18446744073709551616 + (z2 + z1) * 4294967296 + z0 := by rw [← HS.out]; congr 1 <;> omega
  refine ⟨ret_pair (by unfold mulh two64; omega) (by unfold mull two64; omega), ?_⟩
  repeat (first | exact Below.refl _ _ | apply below_drewN | (refine Below.alloc ?_ (by first | (simp; done) | (simp; omega)) _))
end Go.Proofs.Ytdnihkmdigmnoaa
