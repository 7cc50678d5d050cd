/- The law NumTurns' walk: for all uint64 a, b, c and int64 m, n it returns true; of what was in memory nothing turns. -/
import Derived.Test.YtdnihkmdigmnoaaSumsW
import Derived.Test.YtdnihkmdigmnoaaNumR
import Derived.Test.YtdnihkmdigmnoaaCeilsW
import Derived.Laws.StructEq
namespace Go.Proofs.Ytdnihkmdigmnoaa
open Go.RowKit

/-- three numbers by their place -/
def three (x y z : Int) : Nat → Int := fun i => if i = 0 then x else if i = 1 then y else z
theorem three_sum (x y z : Int) : sumTo (three x y z) 3 = x + y + z := by
  show 0 + x + y + z = x + y + z
  omega

theorem rowU_two {W : World} {b : Nat} {x y : Int} (h0 : W.cell? ⟨b, 0, none⟩ = some (.int .u64 x)) (h1 : W.cell? ⟨b, 1, none⟩ = some (.int .u64 y))
    (x0 : 0 ≤ x) (x1 : x ≤ 18446744073709551615) (y0 : 0 ≤ y) (y1 : y ≤ 18446744073709551615) : RowU W b 0 2 (two x y) := by
  refine ⟨by decide, fun i hi => ?_⟩
  obtain rfl | rfl : i = 0 ∨ i = 1 := by omega
  · exact ⟨h0, x0, x1⟩
  · exact ⟨h1, y0, y1⟩
theorem rowU_three {W : World} {b : Nat} {x y z : Int} (h0 : W.cell? ⟨b, 0, none⟩ = some (.int .u64 x)) (h1 : W.cell? ⟨b, 1, none⟩ = some (.int .u64 y)) (h2 : W.cell? ⟨b, 2, none⟩ = some (.int .u64 z))
    (x0 : 0 ≤ x) (x1 : x ≤ 18446744073709551615) (y0 : 0 ≤ y) (y1 : y ≤ 18446744073709551615) (z0 : 0 ≤ z) (z1 : z ≤ 18446744073709551615) : RowU W b 0 3 (three x y z) := by
  refine ⟨by decide, fun i hi => ?_⟩
  obtain rfl | rfl | rfl : i = 0 ∨ i = 1 ∨ i = 2 := by omega
  · exact ⟨h0, x0, x1⟩
  · exact ⟨h1, y0, y1⟩
  · exact ⟨h2, z0, z1⟩
theorem rowI_two {W : World} {b : Nat} {x y : Int} (h0 : W.cell? ⟨b, 0, none⟩ = some (.int .i64 x)) (h1 : W.cell? ⟨b, 1, none⟩ = some (.int .i64 y))
    (x0 : -9223372036854775808 ≤ x) (x1 : x ≤ 9223372036854775807) (y0 : -9223372036854775808 ≤ y) (y1 : y ≤ 9223372036854775807) : RowI W b 0 2 (two x y) := by
  refine ⟨by decide, fun i hi => ?_⟩
  obtain rfl | rfl : i = 0 ∨ i = 1 := by omega
  · exact ⟨h0, x0, x1⟩
  · exact ⟨h1, y0, y1⟩
theorem rowI_three {W : World} {b : Nat} {x y z : Int} (h0 : W.cell? ⟨b, 0, none⟩ = some (.int .i64 x)) (h1 : W.cell? ⟨b, 1, none⟩ = some (.int .i64 y)) (h2 : W.cell? ⟨b, 2, none⟩ = some (.int .i64 z))
    (x0 : -9223372036854775808 ≤ x) (x1 : x ≤ 9223372036854775807) (y0 : -9223372036854775808 ≤ y) (y1 : y ≤ 9223372036854775807) (z0 : -9223372036854775808 ≤ z) (z1 : z ≤ 9223372036854775807) : RowI W b 0 3 (three x y z) := by
  refine ⟨by decide, fun i hi => ?_⟩
  obtain rfl | rfl | rfl : i = 0 ∨ i = 1 ∨ i = 2 := by omega
  · exact ⟨h0, x0, x1⟩
  · exact ⟨h1, y0, y1⟩
  · exact ⟨h2, z0, z1⟩

theorem addV_congr {f g : Nat → Int} {n : Nat} (h : sumTo f n = sumTo g n) : addV f n = addV g n ∧ addE f n = addE g n := by
  unfold addV addE; rw [h]; exact ⟨rfl, rfl⟩

theorem ratio_eq (a b c d : Int) : ratioV a b c d = if a * d < c * b then -1 else if c * b < a * d then 1 else 0 := by
  unfold ratioV
  simp only [less_mul, decide_eq_true_eq]
theorem ratio_bd (a b c d : Int) : -1 ≤ ratioV a b c d ∧ ratioV a b c d ≤ 1 := by
  rw [ratio_eq]
  split
  · omega
  · split <;> omega
theorem ratio_turn (a b c d : Int) : ratioV a b c d = -ratioV c d a b := by
  rw [ratio_eq, ratio_eq]
  by_cases h1 : a * d < c * b
  · rw [if_pos h1, if_neg (by omega), if_pos h1]
  · by_cases h2 : c * b < a * d
    · rw [if_neg h1, if_pos h2, if_pos h2]; rfl
    · rw [if_neg h1, if_neg h2, if_neg h2, if_neg h1]; rfl

set_option maxHeartbeats 400000 in
theorem numTurns_walk (a b c m n : Int) (w0 : (Lit.int .u64 a).wf = true) (w1 : (Lit.int .u64 b).wf = true) (w2 : (Lit.int .u64 c).wf = true) (w3 : (Lit.int .i64 m).wf = true) (w4 : (Lit.int .i64 n).wf = true) (w : World) :
    Calls Try.prog 6 #[.int .u64 a, .int .u64 b, .int .u64 c, .int .i64 m, .int .i64 n] w fun e w' => e = .returned (.bool true) ∧ Below w.heap.size w w' := by
  obtain ⟨a0, a1⟩ := bounds_u64 w0
  obtain ⟨b0, b1⟩ := bounds_u64 w1
  obtain ⟨c0, c1⟩ := bounds_u64 w2
  obtain ⟨m0, m1⟩ := bounds_i64 w3
  obtain ⟨n0, n1⟩ := bounds_i64 w4
  clear w0 w1 w2 w3 w4
  obtain ⟨eV, eE⟩ := addV_congr (f := three c a b) (g := three a b c) (n := 3) (by rw [three_sum, three_sum]; omega)
  have eM : sumTo (three m m n) 3 = sumTo (three m n m) 3 := by rw [three_sum, three_sum]; omega
  have hmh : mulh b a = mulh a b := by unfold mulh; rw [Int.mul_comm]
  have hml : mull b a = mull a b := by unfold mull; rw [Int.mul_comm]
  obtain ⟨r0, r1⟩ := ratio_bd c c a b
  have hr : (ratioV a b c c == -ratioV c c a b) = true := by rw [ratio_turn a b c c]; simp
  have im : intV m = m ∧ intE m = 0 := int_fits ⟨m0, m1⟩
  by_cases ha : a + b ≤ 18446744073709551615
  · obtain ⟨EV, EE⟩ := add_fits (f := two a b) (n := 2) (by rw [two_sum]; unfold maxU; omega)
    rw [two_sum] at EV
    have dV : subV (a + b) b = a := by rw [show subV (a + b) b = a + b - b from if_neg (by omega)]; omega
    have dE : subE (a + b) b = 0 := if_neg (by omega)
    by_cases hi : inI64 (m + n)
    · obtain ⟨IV, IE⟩ := int_fits (s := sumTo (two m n) 2) (by rw [two_sum]; exact hi)
      have IV' : intV (sumTo (two m n) 2) = m + n := by rw [IV, two_sum]
      clear IV
      obtain ⟨hi0, hi1⟩ := hi
      have dm : m + n - n = m := by omega
      obtain ⟨jV, jE⟩ := im
      go_enter Try.func6, Try.ntmps6
      go_wp2_with fail
      refine (add_row _ 0 3 3 (three a b c) _ (rowU_three (by simp [go_sem]) (by simp [go_sem]) (by simp [go_sem]) a0 a1 b0 b1 c0 c1)).mono ?_
      rintro e w' ⟨rfl, rfl⟩
      go_wp2_with fail
      refine (add_row _ 0 3 3 (three c a b) _ (rowU_three (by simp [go_sem]) (by simp [go_sem]) (by simp [go_sem]) c0 c1 a0 a1 b0 b1)).mono ?_
      rintro e w' ⟨rfl, rfl⟩
      go_wp2_with fail
      refine (mul_any _ _ _ (by omega) (by omega) (by omega) (by omega)).mono ?_
      rintro e w1 ⟨rfl, hb1⟩
      go_wp2_with fail
      refine (mul_any _ _ _ (by omega) (by omega) (by omega) (by omega)).mono ?_
      rintro e w2 ⟨rfl, hb2⟩
      have hbb : Below w.heap.size w w2 := by
        have s1 := hb1.size
        have s2 := hb2.size
        exact ((((Below.refl _ _).alloc (Nat.le_refl _) _).alloc (by simp) _).trans (hb1.mono (by simp; omega))).trans (hb2.mono (by simp at s1; omega))
      have hz := hbb.size
      clear hb1 hb2
      go_wp2_with fail
      refine (add_row _ 0 2 2 (two a b) _ (rowU_two (by simp [go_sem]) (by simp [go_sem]) a0 a1 b0 b1)).mono ?_
      rintro e w' ⟨rfl, rfl⟩
      go_wp2_with fail
      refine (sub_any _ _ _ (by omega) (by omega)).mono ?_
      rintro e w' ⟨rfl, rfl⟩
      go_wp2_with fail
      refine (addint_row _ 0 2 2 (two m n) _ (rowI_two (by simp [go_sem]) (by simp [go_sem]) m0 m1 n0 n1)).mono ?_
      rintro e w' ⟨rfl, rfl⟩
      go_wp2_with fail
      refine (subint_any _ _ _ (by omega) (by omega) (by omega) (by omega)).mono ?_
      rintro e w' ⟨rfl, rfl⟩
      go_wp2_with fail
      refine (addint_row _ 0 3 3 (three m n m) _ (rowI_three (by simp [go_sem]) (by simp [go_sem]) (by simp [go_sem]) m0 m1 n0 n1 m0 m1)).mono ?_
      rintro e w' ⟨rfl, rfl⟩
      go_wp2_with fail
      refine (addint_row _ 0 3 3 (three m m n) _ (rowI_three (by simp [go_sem]) (by simp [go_sem]) (by simp [go_sem]) m0 m1 m0 m1 n0 n1)).mono ?_
      rintro e w' ⟨rfl, rfl⟩
      go_wp2_with fail
      refine (awake01 _).mono ?_
      rintro e w' ⟨rfl, rfl⟩
      go_wp2_with fail
      refine (ratio_any _ _ _ _ _ (by omega) (by omega) (by omega) (by omega) (by omega) (by omega) (by omega) (by omega)).mono ?_
      rintro e w3 ⟨rfl, hb3⟩
      go_wp2_with fail
      refine (ratio_any _ _ _ _ _ (by omega) (by omega) (by omega) (by omega) (by omega) (by omega) (by omega) (by omega)).mono ?_
      rintro e w4 ⟨rfl, hb4⟩
      go_wp2_with fail
      go_ret
      have s3 := hb3.size
      have s4 := hb4.size
      refine ⟨rfl, (Below.trans ?_ (hb3.mono (by simp; omega))).trans (hb4.mono (by simp at s3; omega))⟩
      repeat (first | exact hbb | (refine Below.alloc ?_ (by first | exact hz | (simp; done) | (simp; omega)) _))
    · have IE := (int_over (s := sumTo (two m n) 2) (by rw [two_sum]; exact hi)).2
      clear hi
      go_enter Try.func6, Try.ntmps6
      go_wp2_with fail
      refine (add_row _ 0 3 3 (three a b c) _ (rowU_three (by simp [go_sem]) (by simp [go_sem]) (by simp [go_sem]) a0 a1 b0 b1 c0 c1)).mono ?_
      rintro e w' ⟨rfl, rfl⟩
      go_wp2_with fail
      refine (add_row _ 0 3 3 (three c a b) _ (rowU_three (by simp [go_sem]) (by simp [go_sem]) (by simp [go_sem]) c0 c1 a0 a1 b0 b1)).mono ?_
      rintro e w' ⟨rfl, rfl⟩
      go_wp2_with fail
      refine (mul_any _ _ _ (by omega) (by omega) (by omega) (by omega)).mono ?_
      rintro e w1 ⟨rfl, hb1⟩
      go_wp2_with fail
      refine (mul_any _ _ _ (by omega) (by omega) (by omega) (by omega)).mono ?_
      rintro e w2 ⟨rfl, hb2⟩
      have hbb : Below w.heap.size w w2 := by
        have s1 := hb1.size
        have s2 := hb2.size
        exact ((((Below.refl _ _).alloc (Nat.le_refl _) _).alloc (by simp) _).trans (hb1.mono (by simp; omega))).trans (hb2.mono (by simp at s1; omega))
      have hz := hbb.size
      clear hb1 hb2
      go_wp2_with fail
      refine (add_row _ 0 2 2 (two a b) _ (rowU_two (by simp [go_sem]) (by simp [go_sem]) a0 a1 b0 b1)).mono ?_
      rintro e w' ⟨rfl, rfl⟩
      go_wp2_with fail
      refine (sub_any _ _ _ (by omega) (by omega)).mono ?_
      rintro e w' ⟨rfl, rfl⟩
      go_wp2_with fail
      refine (addint_row _ 0 2 2 (two m n) _ (rowI_two (by simp [go_sem]) (by simp [go_sem]) m0 m1 n0 n1)).mono ?_
      rintro e w' ⟨rfl, rfl⟩
      go_wp2_with fail
      refine (addint_row _ 0 3 3 (three m n m) _ (rowI_three (by simp [go_sem]) (by simp [go_sem]) (by simp [go_sem]) m0 m1 n0 n1 m0 m1)).mono ?_
      rintro e w' ⟨rfl, rfl⟩
      go_wp2_with fail
      refine (addint_row _ 0 3 3 (three m m n) _ (rowI_three (by simp [go_sem]) (by simp [go_sem]) (by simp [go_sem]) m0 m1 m0 m1 n0 n1)).mono ?_
      rintro e w' ⟨rfl, rfl⟩
      go_wp2_with fail
      refine (awake01 _).mono ?_
      rintro e w' ⟨rfl, rfl⟩
      go_wp2_with fail
      refine (ratio_any _ _ _ _ _ (by omega) (by omega) (by omega) (by omega) (by omega) (by omega) (by omega) (by omega)).mono ?_
      rintro e w3 ⟨rfl, hb3⟩
      go_wp2_with fail
      refine (ratio_any _ _ _ _ _ (by omega) (by omega) (by omega) (by omega) (by omega) (by omega) (by omega) (by omega)).mono ?_
      rintro e w4 ⟨rfl, hb4⟩
      go_wp2_with fail
      go_ret
      have s3 := hb3.size
      have s4 := hb4.size
      refine ⟨rfl, (Below.trans ?_ (hb3.mono (by simp; omega))).trans (hb4.mono (by simp at s3; omega))⟩
      repeat (first | exact hbb | (refine Below.alloc ?_ (by first | exact hz | (simp; done) | (simp; omega)) _))
  · obtain ⟨EV, EE⟩ := (show addV (two a b) 2 = 0 ∧ addE (two a b) 2 = 5 by unfold addV addE; rw [two_sum, if_neg (by unfold maxU; omega), if_neg (by unfold maxU; omega)]; exact ⟨rfl, rfl⟩)
    by_cases hi : inI64 (m + n)
    · obtain ⟨IV, IE⟩ := int_fits (s := sumTo (two m n) 2) (by rw [two_sum]; exact hi)
      have IV' : intV (sumTo (two m n) 2) = m + n := by rw [IV, two_sum]
      clear IV
      obtain ⟨hi0, hi1⟩ := hi
      have dm : m + n - n = m := by omega
      obtain ⟨jV, jE⟩ := im
      go_enter Try.func6, Try.ntmps6
      go_wp2_with fail
      refine (add_row _ 0 3 3 (three a b c) _ (rowU_three (by simp [go_sem]) (by simp [go_sem]) (by simp [go_sem]) a0 a1 b0 b1 c0 c1)).mono ?_
      rintro e w' ⟨rfl, rfl⟩
      go_wp2_with fail
      refine (add_row _ 0 3 3 (three c a b) _ (rowU_three (by simp [go_sem]) (by simp [go_sem]) (by simp [go_sem]) c0 c1 a0 a1 b0 b1)).mono ?_
      rintro e w' ⟨rfl, rfl⟩
      go_wp2_with fail
      refine (mul_any _ _ _ (by omega) (by omega) (by omega) (by omega)).mono ?_
      rintro e w1 ⟨rfl, hb1⟩
      go_wp2_with fail
      refine (mul_any _ _ _ (by omega) (by omega) (by omega) (by omega)).mono ?_
      rintro e w2 ⟨rfl, hb2⟩
      have hbb : Below w.heap.size w w2 := by
        have s1 := hb1.size
        have s2 := hb2.size
        exact ((((Below.refl _ _).alloc (Nat.le_refl _) _).alloc (by simp) _).trans (hb1.mono (by simp; omega))).trans (hb2.mono (by simp at s1; omega))
      have hz := hbb.size
      clear hb1 hb2
      go_wp2_with fail
      refine (add_row _ 0 2 2 (two a b) _ (rowU_two (by simp [go_sem]) (by simp [go_sem]) a0 a1 b0 b1)).mono ?_
      rintro e w' ⟨rfl, rfl⟩
      go_wp2_with fail
      refine (addint_row _ 0 2 2 (two m n) _ (rowI_two (by simp [go_sem]) (by simp [go_sem]) m0 m1 n0 n1)).mono ?_
      rintro e w' ⟨rfl, rfl⟩
      go_wp2_with fail
      refine (subint_any _ _ _ (by omega) (by omega) (by omega) (by omega)).mono ?_
      rintro e w' ⟨rfl, rfl⟩
      go_wp2_with fail
      refine (addint_row _ 0 3 3 (three m n m) _ (rowI_three (by simp [go_sem]) (by simp [go_sem]) (by simp [go_sem]) m0 m1 n0 n1 m0 m1)).mono ?_
      rintro e w' ⟨rfl, rfl⟩
      go_wp2_with fail
      refine (addint_row _ 0 3 3 (three m m n) _ (rowI_three (by simp [go_sem]) (by simp [go_sem]) (by simp [go_sem]) m0 m1 m0 m1 n0 n1)).mono ?_
      rintro e w' ⟨rfl, rfl⟩
      go_wp2_with fail
      refine (awake01 _).mono ?_
      rintro e w' ⟨rfl, rfl⟩
      go_wp2_with fail
      refine (ratio_any _ _ _ _ _ (by omega) (by omega) (by omega) (by omega) (by omega) (by omega) (by omega) (by omega)).mono ?_
      rintro e w3 ⟨rfl, hb3⟩
      go_wp2_with fail
      refine (ratio_any _ _ _ _ _ (by omega) (by omega) (by omega) (by omega) (by omega) (by omega) (by omega) (by omega)).mono ?_
      rintro e w4 ⟨rfl, hb4⟩
      go_wp2_with fail
      go_ret
      have s3 := hb3.size
      have s4 := hb4.size
      refine ⟨rfl, (Below.trans ?_ (hb3.mono (by simp; omega))).trans (hb4.mono (by simp at s3; omega))⟩
      repeat (first | exact hbb | (refine Below.alloc ?_ (by first | exact hz | (simp; done) | (simp; omega)) _))
    · have IE := (int_over (s := sumTo (two m n) 2) (by rw [two_sum]; exact hi)).2
      clear hi
      go_enter Try.func6, Try.ntmps6
      go_wp2_with fail
      refine (add_row _ 0 3 3 (three a b c) _ (rowU_three (by simp [go_sem]) (by simp [go_sem]) (by simp [go_sem]) a0 a1 b0 b1 c0 c1)).mono ?_
      rintro e w' ⟨rfl, rfl⟩
      go_wp2_with fail
      refine (add_row _ 0 3 3 (three c a b) _ (rowU_three (by simp [go_sem]) (by simp [go_sem]) (by simp [go_sem]) c0 c1 a0 a1 b0 b1)).mono ?_
      rintro e w' ⟨rfl, rfl⟩
      go_wp2_with fail
      refine (mul_any _ _ _ (by omega) (by omega) (by omega) (by omega)).mono ?_
      rintro e w1 ⟨rfl, hb1⟩
      go_wp2_with fail
      refine (mul_any _ _ _ (by omega) (by omega) (by omega) (by omega)).mono ?_
      rintro e w2 ⟨rfl, hb2⟩
      have hbb : Below w.heap.size w w2 := by
        have s1 := hb1.size
        have s2 := hb2.size
        exact ((((Below.refl _ _).alloc (Nat.le_refl _) _).alloc (by simp) _).trans (hb1.mono (by simp; omega))).trans (hb2.mono (by simp at s1; omega))
      have hz := hbb.size
      clear hb1 hb2
      go_wp2_with fail
      refine (add_row _ 0 2 2 (two a b) _ (rowU_two (by simp [go_sem]) (by simp [go_sem]) a0 a1 b0 b1)).mono ?_
      rintro e w' ⟨rfl, rfl⟩
      go_wp2_with fail
      refine (addint_row _ 0 2 2 (two m n) _ (rowI_two (by simp [go_sem]) (by simp [go_sem]) m0 m1 n0 n1)).mono ?_
      rintro e w' ⟨rfl, rfl⟩
      go_wp2_with fail
      refine (addint_row _ 0 3 3 (three m n m) _ (rowI_three (by simp [go_sem]) (by simp [go_sem]) (by simp [go_sem]) m0 m1 n0 n1 m0 m1)).mono ?_
      rintro e w' ⟨rfl, rfl⟩
      go_wp2_with fail
      refine (addint_row _ 0 3 3 (three m m n) _ (rowI_three (by simp [go_sem]) (by simp [go_sem]) (by simp [go_sem]) m0 m1 m0 m1 n0 n1)).mono ?_
      rintro e w' ⟨rfl, rfl⟩
      go_wp2_with fail
      refine (awake01 _).mono ?_
      rintro e w' ⟨rfl, rfl⟩
      go_wp2_with fail
      refine (ratio_any _ _ _ _ _ (by omega) (by omega) (by omega) (by omega) (by omega) (by omega) (by omega) (by omega)).mono ?_
      rintro e w3 ⟨rfl, hb3⟩
      go_wp2_with fail
      refine (ratio_any _ _ _ _ _ (by omega) (by omega) (by omega) (by omega) (by omega) (by omega) (by omega) (by omega)).mono ?_
      rintro e w4 ⟨rfl, hb4⟩
      go_wp2_with fail
      go_ret
      have s3 := hb3.size
      have s4 := hb4.size
      refine ⟨rfl, (Below.trans ?_ (hb3.mono (by simp; omega))).trans (hb4.mono (by simp at s3; omega))⟩
      repeat (first | exact hbb | (refine Below.alloc ?_ (by first | exact hz | (simp; done) | (simp; omega)) _))
end Go.Proofs.Ytdnihkmdigmnoaa
