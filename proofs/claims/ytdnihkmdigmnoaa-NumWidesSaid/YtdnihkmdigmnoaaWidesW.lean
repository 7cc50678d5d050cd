/- The law NumWides' walk: for all uint64 a, b, c, d and by it returns true; of what was in memory nothing turns. -/
import Derived.Test.YtdnihkmdigmnoaaTurnsW
import Derived.Test.YtdnihkmdigmnoaaNumM
namespace Go.Proofs.Ytdnihkmdigmnoaa
open Go.RowKit

/-- two wide numbers' cells, one block behind the other, and that nothing old has turned -/
def Held4 (B : Nat) (h l p q : Int) (w W : World) : Prop :=
  W.cell? ⟨B, 0, none⟩ = some (.int .u64 h) ∧ W.cell? ⟨B, 1, none⟩ = some (.int .u64 l) ∧ W.cell? ⟨B + 1, 0, none⟩ = some (.int .u64 p) ∧ W.cell? ⟨B + 1, 1, none⟩ = some (.int .u64 q) ∧
    B + 1 < W.heap.size ∧ Below w.heap.size w W
theorem Held4.step {B : Nat} {h l p q : Int} {w W W' : World} (s : Held4 B h l p q w W) (hb : Below W.heap.size W W') : Held4 B h l p q w W' := by
  obtain ⟨s1, s2, s3, s4, s5, s6⟩ := s
  obtain ⟨c1, c2⟩ := bcell hb
  have s5' : B < W.heap.size := by omega
  exact ⟨(c1 _ _ s5').trans s1, (c1 _ _ s5').trans s2, (c1 _ _ s5).trans s3, (c1 _ _ s5).trans s4, Nat.lt_of_lt_of_le s5 hb.size, s6.trans (hb.mono s6.size)⟩
theorem Held4.start {h l p q : Int} {T : TypeId} {w w1 w2 : World} (h1 : Below w.heap.size w w1) (h2 : Below w1.heap.size w1 w2) :
    Held4 w2.heap.size h l p q w ((w2.alloc (.cells #[.int .u64 h, .int .u64 l] T)).alloc (.cells #[.int .u64 p, .int .u64 q] T)) := by
  have s1 := h1.size
  have s2 := h2.size
  refine ⟨by simp [go_sem], by simp [go_sem], by simp [go_sem], by simp [go_sem], by simp, ?_⟩
  exact (((h1.trans (h2.mono s1)).alloc (by omega) _).alloc (by simp; omega) _)

theorem over_less {a b y : Int} (y0 : 0 < y) (hh : ¬ (mulh a b < y ∧ ceilN (mulh a b) (mull a b) y ≤ 18446744073709551615)) :
    lessB (mulh 18446744073709551615 y) (mull 18446744073709551615 y) (mulh a b) (mull a b) = true := by
  rw [less_mul, decide_eq_true_eq]
  have e := mul_whole a b
  have l := mull_bd a b
  unfold two64 at e
  by_cases hy : mulh a b < y
  · have hn : 18446744073709551616 ≤ ceilN (mulh a b) (mull a b) y := by
      by_cases h : ceilN (mulh a b) (mull a b) y ≤ 18446744073709551615
      · exact absurd ⟨hy, h⟩ hh
      · omega
    rw [ceil_mul] at hn
    obtain ⟨_, g2⟩ := ceil_least (n := a * b) (y := y) y0
    have g3 : 18446744073709551615 * y ≤ (-(-(a * b) / y) - 1) * y := Int.mul_le_mul_of_nonneg_right (by omega) (by omega)
    omega
  · omega

set_option maxRecDepth 100000 in
set_option maxHeartbeats 1000000 in
theorem wides_below (a b c d y : Int) (a0 : 0 ≤ a) (a1 : a ≤ 18446744073709551615) (b0 : 0 ≤ b) (b1 : b ≤ 18446744073709551615) (c0 : 0 ≤ c) (c1 : c ≤ 18446744073709551615) (d0 : 0 ≤ d) (d1 : d ≤ 18446744073709551615) (y0 : 0 ≤ y) (y1 : y ≤ 18446744073709551615) (w : World)
    (hR1 : lessB (mulh a d) (mull a d) (mulh c b) (mull c b) = true) (hR2 : lessB (mulh c b) (mull c b) (mulh a d) (mull a d) = false) (hR3 : ratioV a b c d = -1) :
    Calls Try.prog 4 #[.int .u64 a, .int .u64 b, .int .u64 c, .int .u64 d, .int .u64 y] w fun e w' => e = .returned (.bool true) ∧ Below w.heap.size w w' := by
  obtain ⟨h0, h1⟩ := mulh_bd a0 a1 b0 b1
  obtain ⟨l0, l1⟩ := mull_bd a b
  obtain ⟨l2, l3⟩ := mull_bd c d
  obtain ⟨l4, l5⟩ := mull_bd a d
  obtain ⟨l6, l7⟩ := mull_bd c b
  by_cases hy : y ≤ 0
  · obtain rfl : y = 0 := by omega
    have hE : ceilE (mulh a b) (mull a b) 0 = 5 := (ceil_high (by omega)).2
    go_enter Try.func4, Try.ntmps4
    go_wp2_with fail
    refine (mul_any _ _ _ (by omega) (by omega) (by omega) (by omega)).mono ?_
    rintro e w1 ⟨rfl, hb1⟩
    go_wp2_with fail
    refine (mul_any _ _ _ (by omega) (by omega) (by omega) (by omega)).mono ?_
    rintro e w2 ⟨rfl, hb2⟩
    have H0 := Held4.start (h := mulh a b) (l := mull a b) (p := mulh c d) (q := mull c d) (T := 39) hb1 hb2
    clear hb1 hb2
    go_wp2_with fail
    refine (refmul_any _ _ _ (by omega) (by omega) (by omega) (by omega)).mono ?_
    rintro e w3 ⟨rfl, hb3⟩
    have H3 := H0.step hb3
    clear hb3 H0
    go_wp2_with fail
    refine (refmul_any _ _ _ (by omega) (by omega) (by omega) (by omega)).mono ?_
    rintro e w4 ⟨rfl, hb4⟩
    have H4 := H3.step hb4
    clear hb4 H3
    obtain ⟨k1, k2, k3, k4, k5, k6⟩ := H4
    have HH4 : Hid (Held4 w2.heap.size (mulh a b) (mull a b) (mulh c d) (mull c d) w w4) := ⟨k1, k2, k3, k4, k5, k6⟩
    clear k6
    go_wp2_with fail
    refine (less_any _ _ _ _ _ (by omega) (by omega) (by omega) (by omega)).mono ?_
    rintro e w5 ⟨rfl, hb5⟩
    have H5 := HH4.out.step hb5
    clear hb5 HH4 k1 k2 k3 k4 k5
    go_wp2_with fail
    refine (refless_any _ _ _ _ _ (by omega) (by omega) (by omega) (by omega)).mono ?_
    rintro e w6 ⟨rfl, rfl⟩
    go_wp2_with fail
    refine (refmul_any _ _ _ (by omega) (by omega) (by omega) (by omega)).mono ?_
    rintro e w6 ⟨rfl, hb6⟩
    have H6 := H5.step hb6
    clear hb6 H5
    go_wp2_with fail
    refine (refmul_any _ _ _ (by omega) (by omega) (by omega) (by omega)).mono ?_
    rintro e w7 ⟨rfl, hb7⟩
    have H7 := H6.step hb7
    clear hb7 H6
    go_wp2_with fail
    refine (refless_any _ _ _ _ _ (by omega) (by omega) (by omega) (by omega)).mono ?_
    rintro e w8 ⟨rfl, rfl⟩
    go_wp2_with fail
    refine (refless_any _ _ _ _ _ (by omega) (by omega) (by omega) (by omega)).mono ?_
    rintro e w8 ⟨rfl, rfl⟩
    go_wp2_with fail
    refine (ratio_any _ _ _ _ _ (by omega) (by omega) (by omega) (by omega) (by omega) (by omega) (by omega) (by omega)).mono ?_
    rintro e w8 ⟨rfl, hb8⟩
    have H8 := H7.step hb8
    clear hb8 H7
    obtain ⟨k1, k2, k3, k4, k5, k6⟩ := H8
    go_wp2_with fail
    refine (ceil_any _ _ _ _ (by omega) (by omega) (by omega) (by omega)).mono ?_
    rintro e w9 ⟨rfl, hb9⟩
    have B9 := k6.trans (hb9.mono k6.size)
    clear hb9 k1 k2 k3 k4 k5 k6
    go_wp2_with fail
    refine (awake01 _).mono ?_
    rintro e w10 ⟨rfl, rfl⟩
    go_wp2_with fail
    go_ret
    exact ⟨rfl, B9⟩
  by_cases hh : mulh a b < y ∧ ceilN (mulh a b) (mull a b) y ≤ 18446744073709551615
  · obtain ⟨hy', hn⟩ := hh
    obtain ⟨EV, EE⟩ := ceil_fits hy' hn
    have EN : ceilN (mulh a b) (mull a b) y = -(-(a * b) / y) := ceil_mul
    obtain ⟨N, hN⟩ : ∃ N, ceilN (mulh a b) (mull a b) y = N := ⟨_, rfl⟩
    rw [hN] at hn EN EV
    have hp : 0 ≤ a * b := Int.mul_nonneg a0 b0
    obtain ⟨g1, g2⟩ := ceil_least (n := a * b) (y := y) (by omega)
    rw [← EN] at g1 g2
    have N0 : 0 ≤ N := by
      rw [EN]
      have : (-(a * b)) / y ≤ 0 / y := Int.ediv_le_ediv (by omega) (by omega)
      rw [Int.zero_ediv] at this
      omega
    have L1 : lessB (mulh N y) (mull N y) (mulh a b) (mull a b) = false := by rw [less_mul]; simp; omega
    obtain ⟨n00, n01⟩ := mull_bd N y
    by_cases hz : N = 0
    · have Z : mulh a b = 0 ∧ mull a b = 0 := by
        subst hz
        have e := mul_whole a b
        unfold two64 at e
        omega
      have HZ := Lib.hid Z
      clear Z
      subst hz
      clear g1 g2 EN hN hp hn N0
      go_enter Try.func4, Try.ntmps4
      go_wp2_with fail
      refine (mul_any _ _ _ (by omega) (by omega) (by omega) (by omega)).mono ?_
      rintro e w1 ⟨rfl, hb1⟩
      go_wp2_with fail
      refine (mul_any _ _ _ (by omega) (by omega) (by omega) (by omega)).mono ?_
      rintro e w2 ⟨rfl, hb2⟩
      have H0 := Held4.start (h := mulh a b) (l := mull a b) (p := mulh c d) (q := mull c d) (T := 39) hb1 hb2
      clear hb1 hb2
      go_wp2_with fail
      refine (refmul_any _ _ _ (by omega) (by omega) (by omega) (by omega)).mono ?_
      rintro e w3 ⟨rfl, hb3⟩
      have H3 := H0.step hb3
      clear hb3 H0
      go_wp2_with fail
      refine (refmul_any _ _ _ (by omega) (by omega) (by omega) (by omega)).mono ?_
      rintro e w4 ⟨rfl, hb4⟩
      have H4 := H3.step hb4
      clear hb4 H3
      obtain ⟨k1, k2, k3, k4, k5, k6⟩ := H4
      have HH4 : Hid (Held4 w2.heap.size (mulh a b) (mull a b) (mulh c d) (mull c d) w w4) := ⟨k1, k2, k3, k4, k5, k6⟩
      clear k6
      go_wp2_with fail
      refine (less_any _ _ _ _ _ (by omega) (by omega) (by omega) (by omega)).mono ?_
      rintro e w5 ⟨rfl, hb5⟩
      have H5 := HH4.out.step hb5
      clear hb5 HH4 k1 k2 k3 k4 k5
      go_wp2_with fail
      refine (refless_any _ _ _ _ _ (by omega) (by omega) (by omega) (by omega)).mono ?_
      rintro e w6 ⟨rfl, rfl⟩
      go_wp2_with fail
      refine (refmul_any _ _ _ (by omega) (by omega) (by omega) (by omega)).mono ?_
      rintro e w6 ⟨rfl, hb6⟩
      have H6 := H5.step hb6
      clear hb6 H5
      go_wp2_with fail
      refine (refmul_any _ _ _ (by omega) (by omega) (by omega) (by omega)).mono ?_
      rintro e w7 ⟨rfl, hb7⟩
      have H7 := H6.step hb7
      clear hb7 H6
      go_wp2_with fail
      refine (refless_any _ _ _ _ _ (by omega) (by omega) (by omega) (by omega)).mono ?_
      rintro e w8 ⟨rfl, rfl⟩
      go_wp2_with fail
      refine (refless_any _ _ _ _ _ (by omega) (by omega) (by omega) (by omega)).mono ?_
      rintro e w8 ⟨rfl, rfl⟩
      go_wp2_with fail
      refine (ratio_any _ _ _ _ _ (by omega) (by omega) (by omega) (by omega) (by omega) (by omega) (by omega) (by omega)).mono ?_
      rintro e w8 ⟨rfl, hb8⟩
      have H8 := H7.step hb8
      clear hb8 H7
      obtain ⟨k1, k2, k3, k4, k5, k6⟩ := H8
      go_wp2_with fail
      refine (ceil_any _ _ _ _ (by omega) (by omega) (by omega) (by omega)).mono ?_
      rintro e w9 ⟨rfl, hb9⟩
      have B9 := k6.trans (hb9.mono k6.size)
      clear hb9 k1 k2 k3 k4 k5 k6
      go_wp2_with fail
      refine (refmul_any _ _ _ (by omega) (by omega) (by omega) (by omega)).mono ?_
      rintro e w10 ⟨rfl, hb10⟩
      have B10 := B9.trans (hb10.mono B9.size)
      clear hb10
      go_wp2_with fail
      refine (refless_any _ _ _ _ _ (by omega) (by omega) (by omega) (by omega)).mono ?_
      rintro e w11 ⟨rfl, rfl⟩
      go_wp2_with fail
      refine (awake01 _).mono ?_
      rintro e w12 ⟨rfl, rfl⟩
      obtain ⟨Z1, Z2⟩ := HZ.out
      go_wp2_with fail
      go_ret
      exact ⟨rfl, B10⟩
    · obtain ⟨M, hM⟩ : ∃ M, N - 1 = M := ⟨_, rfl⟩
      have L2 : lessB (mulh M y) (mull M y) (mulh a b) (mull a b) = true := by rw [less_mul, ← hM]; simpa using g2
      obtain ⟨n10, n11⟩ := mull_bd M y
      have hz' : 1 ≤ N := by omega
      have M0 : 0 ≤ M := by omega
      have M1 : M ≤ 18446744073709551615 := by omega
      clear hz g1 g2 EN hN hp
      go_enter Try.func4, Try.ntmps4
      go_wp2_with fail
      refine (mul_any _ _ _ (by omega) (by omega) (by omega) (by omega)).mono ?_
      rintro e w1 ⟨rfl, hb1⟩
      go_wp2_with fail
      refine (mul_any _ _ _ (by omega) (by omega) (by omega) (by omega)).mono ?_
      rintro e w2 ⟨rfl, hb2⟩
      have H0 := Held4.start (h := mulh a b) (l := mull a b) (p := mulh c d) (q := mull c d) (T := 39) hb1 hb2
      clear hb1 hb2
      go_wp2_with fail
      refine (refmul_any _ _ _ (by omega) (by omega) (by omega) (by omega)).mono ?_
      rintro e w3 ⟨rfl, hb3⟩
      have H3 := H0.step hb3
      clear hb3 H0
      go_wp2_with fail
      refine (refmul_any _ _ _ (by omega) (by omega) (by omega) (by omega)).mono ?_
      rintro e w4 ⟨rfl, hb4⟩
      have H4 := H3.step hb4
      clear hb4 H3
      obtain ⟨k1, k2, k3, k4, k5, k6⟩ := H4
      have HH4 : Hid (Held4 w2.heap.size (mulh a b) (mull a b) (mulh c d) (mull c d) w w4) := ⟨k1, k2, k3, k4, k5, k6⟩
      clear k6
      go_wp2_with fail
      refine (less_any _ _ _ _ _ (by omega) (by omega) (by omega) (by omega)).mono ?_
      rintro e w5 ⟨rfl, hb5⟩
      have H5 := HH4.out.step hb5
      clear hb5 HH4 k1 k2 k3 k4 k5
      go_wp2_with fail
      refine (refless_any _ _ _ _ _ (by omega) (by omega) (by omega) (by omega)).mono ?_
      rintro e w6 ⟨rfl, rfl⟩
      go_wp2_with fail
      refine (refmul_any _ _ _ (by omega) (by omega) (by omega) (by omega)).mono ?_
      rintro e w6 ⟨rfl, hb6⟩
      have H6 := H5.step hb6
      clear hb6 H5
      go_wp2_with fail
      refine (refmul_any _ _ _ (by omega) (by omega) (by omega) (by omega)).mono ?_
      rintro e w7 ⟨rfl, hb7⟩
      have H7 := H6.step hb7
      clear hb7 H6
      go_wp2_with fail
      refine (refless_any _ _ _ _ _ (by omega) (by omega) (by omega) (by omega)).mono ?_
      rintro e w8 ⟨rfl, rfl⟩
      go_wp2_with fail
      refine (refless_any _ _ _ _ _ (by omega) (by omega) (by omega) (by omega)).mono ?_
      rintro e w8 ⟨rfl, rfl⟩
      go_wp2_with fail
      refine (ratio_any _ _ _ _ _ (by omega) (by omega) (by omega) (by omega) (by omega) (by omega) (by omega) (by omega)).mono ?_
      rintro e w8 ⟨rfl, hb8⟩
      have H8 := H7.step hb8
      clear hb8 H7
      obtain ⟨k1, k2, k3, k4, k5, k6⟩ := H8
      go_wp2_with fail
      refine (ceil_any _ _ _ _ (by omega) (by omega) (by omega) (by omega)).mono ?_
      rintro e w9 ⟨rfl, hb9⟩
      have B9 := k6.trans (hb9.mono k6.size)
      clear hb9 k1 k2 k3 k4 k5 k6
      go_wp2_with fail
      refine (refmul_any _ _ _ (by omega) (by omega) (by omega) (by omega)).mono ?_
      rintro e w10 ⟨rfl, hb10⟩
      have B10 := B9.trans (hb10.mono B9.size)
      clear hb10
      go_wp2_with fail
      refine (refless_any _ _ _ _ _ (by omega) (by omega) (by omega) (by omega)).mono ?_
      rintro e w11 ⟨rfl, rfl⟩
      go_wp2_with fail
      refine (refmul_any _ _ _ (by omega) (by omega) (by omega) (by omega)).mono ?_
      rintro e w12 ⟨rfl, hb12⟩
      have B12 := B10.trans (hb12.mono B10.size)
      clear hb12
      go_wp2_with fail
      refine (awake01 _).mono ?_
      rintro e w13 ⟨rfl, rfl⟩
      go_wp2_with fail
      refine (refless_any _ _ _ _ _ (by omega) (by omega) (by omega) (by omega)).mono ?_
      rintro e w14 ⟨rfl, rfl⟩
      go_wp2_with fail
      go_ret
      exact ⟨rfl, B12⟩
  · have L := over_less (by omega) hh
    have hE : ceilE (mulh a b) (mull a b) y = 5 := by
      by_cases hy' : mulh a b < y
      · exact (ceil_over (fun h => hh ⟨hy', h⟩)).2
      · exact (ceil_high hy').2
    obtain ⟨x0, x1⟩ := mull_bd 18446744073709551615 y
    clear hh
    go_enter Try.func4, Try.ntmps4
    go_wp2_with fail
    refine (mul_any _ _ _ (by omega) (by omega) (by omega) (by omega)).mono ?_
    rintro e w1 ⟨rfl, hb1⟩
    go_wp2_with fail
    refine (mul_any _ _ _ (by omega) (by omega) (by omega) (by omega)).mono ?_
    rintro e w2 ⟨rfl, hb2⟩
    have H0 := Held4.start (h := mulh a b) (l := mull a b) (p := mulh c d) (q := mull c d) (T := 39) hb1 hb2
    clear hb1 hb2
    go_wp2_with fail
    refine (refmul_any _ _ _ (by omega) (by omega) (by omega) (by omega)).mono ?_
    rintro e w3 ⟨rfl, hb3⟩
    have H3 := H0.step hb3
    clear hb3 H0
    go_wp2_with fail
    refine (refmul_any _ _ _ (by omega) (by omega) (by omega) (by omega)).mono ?_
    rintro e w4 ⟨rfl, hb4⟩
    have H4 := H3.step hb4
    clear hb4 H3
    obtain ⟨k1, k2, k3, k4, k5, k6⟩ := H4
    have HH4 : Hid (Held4 w2.heap.size (mulh a b) (mull a b) (mulh c d) (mull c d) w w4) := ⟨k1, k2, k3, k4, k5, k6⟩
    clear k6
    go_wp2_with fail
    refine (less_any _ _ _ _ _ (by omega) (by omega) (by omega) (by omega)).mono ?_
    rintro e w5 ⟨rfl, hb5⟩
    have H5 := HH4.out.step hb5
    clear hb5 HH4 k1 k2 k3 k4 k5
    go_wp2_with fail
    refine (refless_any _ _ _ _ _ (by omega) (by omega) (by omega) (by omega)).mono ?_
    rintro e w6 ⟨rfl, rfl⟩
    go_wp2_with fail
    refine (refmul_any _ _ _ (by omega) (by omega) (by omega) (by omega)).mono ?_
    rintro e w6 ⟨rfl, hb6⟩
    have H6 := H5.step hb6
    clear hb6 H5
    go_wp2_with fail
    refine (refmul_any _ _ _ (by omega) (by omega) (by omega) (by omega)).mono ?_
    rintro e w7 ⟨rfl, hb7⟩
    have H7 := H6.step hb7
    clear hb7 H6
    go_wp2_with fail
    refine (refless_any _ _ _ _ _ (by omega) (by omega) (by omega) (by omega)).mono ?_
    rintro e w8 ⟨rfl, rfl⟩
    go_wp2_with fail
    refine (refless_any _ _ _ _ _ (by omega) (by omega) (by omega) (by omega)).mono ?_
    rintro e w8 ⟨rfl, rfl⟩
    go_wp2_with fail
    refine (ratio_any _ _ _ _ _ (by omega) (by omega) (by omega) (by omega) (by omega) (by omega) (by omega) (by omega)).mono ?_
    rintro e w8 ⟨rfl, hb8⟩
    have H8 := H7.step hb8
    clear hb8 H7
    obtain ⟨k1, k2, k3, k4, k5, k6⟩ := H8
    go_wp2_with fail
    refine (ceil_any _ _ _ _ (by omega) (by omega) (by omega) (by omega)).mono ?_
    rintro e w9 ⟨rfl, hb9⟩
    have B9 := k6.trans (hb9.mono k6.size)
    clear hb9 k1 k2 k3 k4 k5 k6
    go_wp2_with fail
    refine (refmul_any _ _ _ (by omega) (by omega) (by omega) (by omega)).mono ?_
    rintro e w10 ⟨rfl, hb10⟩
    have B10 := B9.trans (hb10.mono B9.size)
    clear hb10
    go_wp2_with fail
    refine (awake01 _).mono ?_
    rintro e w11 ⟨rfl, rfl⟩
    go_wp2_with fail
    refine (refless_any _ _ _ _ _ (by omega) (by omega) (by omega) (by omega)).mono ?_
    rintro e w12 ⟨rfl, rfl⟩
    go_wp2_with fail
    go_ret
    exact ⟨rfl, B10⟩

set_option maxRecDepth 100000 in
set_option maxHeartbeats 1000000 in
theorem wides_above (a b c d y : Int) (a0 : 0 ≤ a) (a1 : a ≤ 18446744073709551615) (b0 : 0 ≤ b) (b1 : b ≤ 18446744073709551615) (c0 : 0 ≤ c) (c1 : c ≤ 18446744073709551615) (d0 : 0 ≤ d) (d1 : d ≤ 18446744073709551615) (y0 : 0 ≤ y) (y1 : y ≤ 18446744073709551615) (w : World)
    (hR1 : lessB (mulh a d) (mull a d) (mulh c b) (mull c b) = false) (hR2 : lessB (mulh c b) (mull c b) (mulh a d) (mull a d) = true) (hR3 : ratioV a b c d = 1) :
    Calls Try.prog 4 #[.int .u64 a, .int .u64 b, .int .u64 c, .int .u64 d, .int .u64 y] w fun e w' => e = .returned (.bool true) ∧ Below w.heap.size w w' := by
  obtain ⟨h0, h1⟩ := mulh_bd a0 a1 b0 b1
  obtain ⟨l0, l1⟩ := mull_bd a b
  obtain ⟨l2, l3⟩ := mull_bd c d
  obtain ⟨l4, l5⟩ := mull_bd a d
  obtain ⟨l6, l7⟩ := mull_bd c b
  by_cases hy : y ≤ 0
  · obtain rfl : y = 0 := by omega
    have hE : ceilE (mulh a b) (mull a b) 0 = 5 := (ceil_high (by omega)).2
    go_enter Try.func4, Try.ntmps4
    go_wp2_with fail
    refine (mul_any _ _ _ (by omega) (by omega) (by omega) (by omega)).mono ?_
    rintro e w1 ⟨rfl, hb1⟩
    go_wp2_with fail
    refine (mul_any _ _ _ (by omega) (by omega) (by omega) (by omega)).mono ?_
    rintro e w2 ⟨rfl, hb2⟩
    have H0 := Held4.start (h := mulh a b) (l := mull a b) (p := mulh c d) (q := mull c d) (T := 39) hb1 hb2
    clear hb1 hb2
    go_wp2_with fail
    refine (refmul_any _ _ _ (by omega) (by omega) (by omega) (by omega)).mono ?_
    rintro e w3 ⟨rfl, hb3⟩
    have H3 := H0.step hb3
    clear hb3 H0
    go_wp2_with fail
    refine (refmul_any _ _ _ (by omega) (by omega) (by omega) (by omega)).mono ?_
    rintro e w4 ⟨rfl, hb4⟩
    have H4 := H3.step hb4
    clear hb4 H3
    obtain ⟨k1, k2, k3, k4, k5, k6⟩ := H4
    have HH4 : Hid (Held4 w2.heap.size (mulh a b) (mull a b) (mulh c d) (mull c d) w w4) := ⟨k1, k2, k3, k4, k5, k6⟩
    clear k6
    go_wp2_with fail
    refine (less_any _ _ _ _ _ (by omega) (by omega) (by omega) (by omega)).mono ?_
    rintro e w5 ⟨rfl, hb5⟩
    have H5 := HH4.out.step hb5
    clear hb5 HH4 k1 k2 k3 k4 k5
    go_wp2_with fail
    refine (refless_any _ _ _ _ _ (by omega) (by omega) (by omega) (by omega)).mono ?_
    rintro e w6 ⟨rfl, rfl⟩
    go_wp2_with fail
    refine (refmul_any _ _ _ (by omega) (by omega) (by omega) (by omega)).mono ?_
    rintro e w6 ⟨rfl, hb6⟩
    have H6 := H5.step hb6
    clear hb6 H5
    go_wp2_with fail
    refine (refmul_any _ _ _ (by omega) (by omega) (by omega) (by omega)).mono ?_
    rintro e w7 ⟨rfl, hb7⟩
    have H7 := H6.step hb7
    clear hb7 H6
    go_wp2_with fail
    refine (refless_any _ _ _ _ _ (by omega) (by omega) (by omega) (by omega)).mono ?_
    rintro e w8 ⟨rfl, rfl⟩
    go_wp2_with fail
    refine (refless_any _ _ _ _ _ (by omega) (by omega) (by omega) (by omega)).mono ?_
    rintro e w8 ⟨rfl, rfl⟩
    go_wp2_with fail
    refine (ratio_any _ _ _ _ _ (by omega) (by omega) (by omega) (by omega) (by omega) (by omega) (by omega) (by omega)).mono ?_
    rintro e w8 ⟨rfl, hb8⟩
    have H8 := H7.step hb8
    clear hb8 H7
    obtain ⟨k1, k2, k3, k4, k5, k6⟩ := H8
    go_wp2_with fail
    refine (ceil_any _ _ _ _ (by omega) (by omega) (by omega) (by omega)).mono ?_
    rintro e w9 ⟨rfl, hb9⟩
    have B9 := k6.trans (hb9.mono k6.size)
    clear hb9 k1 k2 k3 k4 k5 k6
    go_wp2_with fail
    refine (awake01 _).mono ?_
    rintro e w10 ⟨rfl, rfl⟩
    go_wp2_with fail
    go_ret
    exact ⟨rfl, B9⟩
  by_cases hh : mulh a b < y ∧ ceilN (mulh a b) (mull a b) y ≤ 18446744073709551615
  · obtain ⟨hy', hn⟩ := hh
    obtain ⟨EV, EE⟩ := ceil_fits hy' hn
    have EN : ceilN (mulh a b) (mull a b) y = -(-(a * b) / y) := ceil_mul
    obtain ⟨N, hN⟩ : ∃ N, ceilN (mulh a b) (mull a b) y = N := ⟨_, rfl⟩
    rw [hN] at hn EN EV
    have hp : 0 ≤ a * b := Int.mul_nonneg a0 b0
    obtain ⟨g1, g2⟩ := ceil_least (n := a * b) (y := y) (by omega)
    rw [← EN] at g1 g2
    have N0 : 0 ≤ N := by
      rw [EN]
      have : (-(a * b)) / y ≤ 0 / y := Int.ediv_le_ediv (by omega) (by omega)
      rw [Int.zero_ediv] at this
      omega
    have L1 : lessB (mulh N y) (mull N y) (mulh a b) (mull a b) = false := by rw [less_mul]; simp; omega
    obtain ⟨n00, n01⟩ := mull_bd N y
    by_cases hz : N = 0
    · have Z : mulh a b = 0 ∧ mull a b = 0 := by
        subst hz
        have e := mul_whole a b
        unfold two64 at e
        omega
      have HZ := Lib.hid Z
      clear Z
      subst hz
      clear g1 g2 EN hN hp hn N0
      go_enter Try.func4, Try.ntmps4
      go_wp2_with fail
      refine (mul_any _ _ _ (by omega) (by omega) (by omega) (by omega)).mono ?_
      rintro e w1 ⟨rfl, hb1⟩
      go_wp2_with fail
      refine (mul_any _ _ _ (by omega) (by omega) (by omega) (by omega)).mono ?_
      rintro e w2 ⟨rfl, hb2⟩
      have H0 := Held4.start (h := mulh a b) (l := mull a b) (p := mulh c d) (q := mull c d) (T := 39) hb1 hb2
      clear hb1 hb2
      go_wp2_with fail
      refine (refmul_any _ _ _ (by omega) (by omega) (by omega) (by omega)).mono ?_
      rintro e w3 ⟨rfl, hb3⟩
      have H3 := H0.step hb3
      clear hb3 H0
      go_wp2_with fail
      refine (refmul_any _ _ _ (by omega) (by omega) (by omega) (by omega)).mono ?_
      rintro e w4 ⟨rfl, hb4⟩
      have H4 := H3.step hb4
      clear hb4 H3
      obtain ⟨k1, k2, k3, k4, k5, k6⟩ := H4
      have HH4 : Hid (Held4 w2.heap.size (mulh a b) (mull a b) (mulh c d) (mull c d) w w4) := ⟨k1, k2, k3, k4, k5, k6⟩
      clear k6
      go_wp2_with fail
      refine (less_any _ _ _ _ _ (by omega) (by omega) (by omega) (by omega)).mono ?_
      rintro e w5 ⟨rfl, hb5⟩
      have H5 := HH4.out.step hb5
      clear hb5 HH4 k1 k2 k3 k4 k5
      go_wp2_with fail
      refine (refless_any _ _ _ _ _ (by omega) (by omega) (by omega) (by omega)).mono ?_
      rintro e w6 ⟨rfl, rfl⟩
      go_wp2_with fail
      refine (refmul_any _ _ _ (by omega) (by omega) (by omega) (by omega)).mono ?_
      rintro e w6 ⟨rfl, hb6⟩
      have H6 := H5.step hb6
      clear hb6 H5
      go_wp2_with fail
      refine (refmul_any _ _ _ (by omega) (by omega) (by omega) (by omega)).mono ?_
      rintro e w7 ⟨rfl, hb7⟩
      have H7 := H6.step hb7
      clear hb7 H6
      go_wp2_with fail
      refine (refless_any _ _ _ _ _ (by omega) (by omega) (by omega) (by omega)).mono ?_
      rintro e w8 ⟨rfl, rfl⟩
      go_wp2_with fail
      refine (refless_any _ _ _ _ _ (by omega) (by omega) (by omega) (by omega)).mono ?_
      rintro e w8 ⟨rfl, rfl⟩
      go_wp2_with fail
      refine (ratio_any _ _ _ _ _ (by omega) (by omega) (by omega) (by omega) (by omega) (by omega) (by omega) (by omega)).mono ?_
      rintro e w8 ⟨rfl, hb8⟩
      have H8 := H7.step hb8
      clear hb8 H7
      obtain ⟨k1, k2, k3, k4, k5, k6⟩ := H8
      go_wp2_with fail
      refine (ceil_any _ _ _ _ (by omega) (by omega) (by omega) (by omega)).mono ?_
      rintro e w9 ⟨rfl, hb9⟩
      have B9 := k6.trans (hb9.mono k6.size)
      clear hb9 k1 k2 k3 k4 k5 k6
      go_wp2_with fail
      refine (refmul_any _ _ _ (by omega) (by omega) (by omega) (by omega)).mono ?_
      rintro e w10 ⟨rfl, hb10⟩
      have B10 := B9.trans (hb10.mono B9.size)
      clear hb10
      go_wp2_with fail
      refine (refless_any _ _ _ _ _ (by omega) (by omega) (by omega) (by omega)).mono ?_
      rintro e w11 ⟨rfl, rfl⟩
      go_wp2_with fail
      refine (awake01 _).mono ?_
      rintro e w12 ⟨rfl, rfl⟩
      obtain ⟨Z1, Z2⟩ := HZ.out
      go_wp2_with fail
      go_ret
      exact ⟨rfl, B10⟩
    · obtain ⟨M, hM⟩ : ∃ M, N - 1 = M := ⟨_, rfl⟩
      have L2 : lessB (mulh M y) (mull M y) (mulh a b) (mull a b) = true := by rw [less_mul, ← hM]; simpa using g2
      obtain ⟨n10, n11⟩ := mull_bd M y
      have hz' : 1 ≤ N := by omega
      have M0 : 0 ≤ M := by omega
      have M1 : M ≤ 18446744073709551615 := by omega
      clear hz g1 g2 EN hN hp
      go_enter Try.func4, Try.ntmps4
      go_wp2_with fail
      refine (mul_any _ _ _ (by omega) (by omega) (by omega) (by omega)).mono ?_
      rintro e w1 ⟨rfl, hb1⟩
      go_wp2_with fail
      refine (mul_any _ _ _ (by omega) (by omega) (by omega) (by omega)).mono ?_
      rintro e w2 ⟨rfl, hb2⟩
      have H0 := Held4.start (h := mulh a b) (l := mull a b) (p := mulh c d) (q := mull c d) (T := 39) hb1 hb2
      clear hb1 hb2
      go_wp2_with fail
      refine (refmul_any _ _ _ (by omega) (by omega) (by omega) (by omega)).mono ?_
      rintro e w3 ⟨rfl, hb3⟩
      have H3 := H0.step hb3
      clear hb3 H0
      go_wp2_with fail
      refine (refmul_any _ _ _ (by omega) (by omega) (by omega) (by omega)).mono ?_
      rintro e w4 ⟨rfl, hb4⟩
      have H4 := H3.step hb4
      clear hb4 H3
      obtain ⟨k1, k2, k3, k4, k5, k6⟩ := H4
      have HH4 : Hid (Held4 w2.heap.size (mulh a b) (mull a b) (mulh c d) (mull c d) w w4) := ⟨k1, k2, k3, k4, k5, k6⟩
      clear k6
      go_wp2_with fail
      refine (less_any _ _ _ _ _ (by omega) (by omega) (by omega) (by omega)).mono ?_
      rintro e w5 ⟨rfl, hb5⟩
      have H5 := HH4.out.step hb5
      clear hb5 HH4 k1 k2 k3 k4 k5
      go_wp2_with fail
      refine (refless_any _ _ _ _ _ (by omega) (by omega) (by omega) (by omega)).mono ?_
      rintro e w6 ⟨rfl, rfl⟩
      go_wp2_with fail
      refine (refmul_any _ _ _ (by omega) (by omega) (by omega) (by omega)).mono ?_
      rintro e w6 ⟨rfl, hb6⟩
      have H6 := H5.step hb6
      clear hb6 H5
      go_wp2_with fail
      refine (refmul_any _ _ _ (by omega) (by omega) (by omega) (by omega)).mono ?_
      rintro e w7 ⟨rfl, hb7⟩
      have H7 := H6.step hb7
      clear hb7 H6
      go_wp2_with fail
      refine (refless_any _ _ _ _ _ (by omega) (by omega) (by omega) (by omega)).mono ?_
      rintro e w8 ⟨rfl, rfl⟩
      go_wp2_with fail
      refine (refless_any _ _ _ _ _ (by omega) (by omega) (by omega) (by omega)).mono ?_
      rintro e w8 ⟨rfl, rfl⟩
      go_wp2_with fail
      refine (ratio_any _ _ _ _ _ (by omega) (by omega) (by omega) (by omega) (by omega) (by omega) (by omega) (by omega)).mono ?_
      rintro e w8 ⟨rfl, hb8⟩
      have H8 := H7.step hb8
      clear hb8 H7
      obtain ⟨k1, k2, k3, k4, k5, k6⟩ := H8
      go_wp2_with fail
      refine (ceil_any _ _ _ _ (by omega) (by omega) (by omega) (by omega)).mono ?_
      rintro e w9 ⟨rfl, hb9⟩
      have B9 := k6.trans (hb9.mono k6.size)
      clear hb9 k1 k2 k3 k4 k5 k6
      go_wp2_with fail
      refine (refmul_any _ _ _ (by omega) (by omega) (by omega) (by omega)).mono ?_
      rintro e w10 ⟨rfl, hb10⟩
      have B10 := B9.trans (hb10.mono B9.size)
      clear hb10
      go_wp2_with fail
      refine (refless_any _ _ _ _ _ (by omega) (by omega) (by omega) (by omega)).mono ?_
      rintro e w11 ⟨rfl, rfl⟩
      go_wp2_with fail
      refine (refmul_any _ _ _ (by omega) (by omega) (by omega) (by omega)).mono ?_
      rintro e w12 ⟨rfl, hb12⟩
      have B12 := B10.trans (hb12.mono B10.size)
      clear hb12
      go_wp2_with fail
      refine (awake01 _).mono ?_
      rintro e w13 ⟨rfl, rfl⟩
      go_wp2_with fail
      refine (refless_any _ _ _ _ _ (by omega) (by omega) (by omega) (by omega)).mono ?_
      rintro e w14 ⟨rfl, rfl⟩
      go_wp2_with fail
      go_ret
      exact ⟨rfl, B12⟩
  · have L := over_less (by omega) hh
    have hE : ceilE (mulh a b) (mull a b) y = 5 := by
      by_cases hy' : mulh a b < y
      · exact (ceil_over (fun h => hh ⟨hy', h⟩)).2
      · exact (ceil_high hy').2
    obtain ⟨x0, x1⟩ := mull_bd 18446744073709551615 y
    clear hh
    go_enter Try.func4, Try.ntmps4
    go_wp2_with fail
    refine (mul_any _ _ _ (by omega) (by omega) (by omega) (by omega)).mono ?_
    rintro e w1 ⟨rfl, hb1⟩
    go_wp2_with fail
    refine (mul_any _ _ _ (by omega) (by omega) (by omega) (by omega)).mono ?_
    rintro e w2 ⟨rfl, hb2⟩
    have H0 := Held4.start (h := mulh a b) (l := mull a b) (p := mulh c d) (q := mull c d) (T := 39) hb1 hb2
    clear hb1 hb2
    go_wp2_with fail
    refine (refmul_any _ _ _ (by omega) (by omega) (by omega) (by omega)).mono ?_
    rintro e w3 ⟨rfl, hb3⟩
    have H3 := H0.step hb3
    clear hb3 H0
    go_wp2_with fail
    refine (refmul_any _ _ _ (by omega) (by omega) (by omega) (by omega)).mono ?_
    rintro e w4 ⟨rfl, hb4⟩
    have H4 := H3.step hb4
    clear hb4 H3
    obtain ⟨k1, k2, k3, k4, k5, k6⟩ := H4
    have HH4 : Hid (Held4 w2.heap.size (mulh a b) (mull a b) (mulh c d) (mull c d) w w4) := ⟨k1, k2, k3, k4, k5, k6⟩
    clear k6
    go_wp2_with fail
    refine (less_any _ _ _ _ _ (by omega) (by omega) (by omega) (by omega)).mono ?_
    rintro e w5 ⟨rfl, hb5⟩
    have H5 := HH4.out.step hb5
    clear hb5 HH4 k1 k2 k3 k4 k5
    go_wp2_with fail
    refine (refless_any _ _ _ _ _ (by omega) (by omega) (by omega) (by omega)).mono ?_
    rintro e w6 ⟨rfl, rfl⟩
    go_wp2_with fail
    refine (refmul_any _ _ _ (by omega) (by omega) (by omega) (by omega)).mono ?_
    rintro e w6 ⟨rfl, hb6⟩
    have H6 := H5.step hb6
    clear hb6 H5
    go_wp2_with fail
    refine (refmul_any _ _ _ (by omega) (by omega) (by omega) (by omega)).mono ?_
    rintro e w7 ⟨rfl, hb7⟩
    have H7 := H6.step hb7
    clear hb7 H6
    go_wp2_with fail
    refine (refless_any _ _ _ _ _ (by omega) (by omega) (by omega) (by omega)).mono ?_
    rintro e w8 ⟨rfl, rfl⟩
    go_wp2_with fail
    refine (refless_any _ _ _ _ _ (by omega) (by omega) (by omega) (by omega)).mono ?_
    rintro e w8 ⟨rfl, rfl⟩
    go_wp2_with fail
    refine (ratio_any _ _ _ _ _ (by omega) (by omega) (by omega) (by omega) (by omega) (by omega) (by omega) (by omega)).mono ?_
    rintro e w8 ⟨rfl, hb8⟩
    have H8 := H7.step hb8
    clear hb8 H7
    obtain ⟨k1, k2, k3, k4, k5, k6⟩ := H8
    go_wp2_with fail
    refine (ceil_any _ _ _ _ (by omega) (by omega) (by omega) (by omega)).mono ?_
    rintro e w9 ⟨rfl, hb9⟩
    have B9 := k6.trans (hb9.mono k6.size)
    clear hb9 k1 k2 k3 k4 k5 k6
    go_wp2_with fail
    refine (refmul_any _ _ _ (by omega) (by omega) (by omega) (by omega)).mono ?_
    rintro e w10 ⟨rfl, hb10⟩
    have B10 := B9.trans (hb10.mono B9.size)
    clear hb10
    go_wp2_with fail
    refine (awake01 _).mono ?_
    rintro e w11 ⟨rfl, rfl⟩
    go_wp2_with fail
    refine (refless_any _ _ _ _ _ (by omega) (by omega) (by omega) (by omega)).mono ?_
    rintro e w12 ⟨rfl, rfl⟩
    go_wp2_with fail
    go_ret
    exact ⟨rfl, B10⟩

set_option maxRecDepth 100000 in
set_option maxHeartbeats 1000000 in
theorem wides_same (a b c d y : Int) (a0 : 0 ≤ a) (a1 : a ≤ 18446744073709551615) (b0 : 0 ≤ b) (b1 : b ≤ 18446744073709551615) (c0 : 0 ≤ c) (c1 : c ≤ 18446744073709551615) (d0 : 0 ≤ d) (d1 : d ≤ 18446744073709551615) (y0 : 0 ≤ y) (y1 : y ≤ 18446744073709551615) (w : World)
    (hR1 : lessB (mulh a d) (mull a d) (mulh c b) (mull c b) = false) (hR2 : lessB (mulh c b) (mull c b) (mulh a d) (mull a d) = false) (hR3 : ratioV a b c d = 0) :
    Calls Try.prog 4 #[.int .u64 a, .int .u64 b, .int .u64 c, .int .u64 d, .int .u64 y] w fun e w' => e = .returned (.bool true) ∧ Below w.heap.size w w' := by
  obtain ⟨h0, h1⟩ := mulh_bd a0 a1 b0 b1
  obtain ⟨l0, l1⟩ := mull_bd a b
  obtain ⟨l2, l3⟩ := mull_bd c d
  obtain ⟨l4, l5⟩ := mull_bd a d
  obtain ⟨l6, l7⟩ := mull_bd c b
  by_cases hy : y ≤ 0
  · obtain rfl : y = 0 := by omega
    have hE : ceilE (mulh a b) (mull a b) 0 = 5 := (ceil_high (by omega)).2
    go_enter Try.func4, Try.ntmps4
    go_wp2_with fail
    refine (mul_any _ _ _ (by omega) (by omega) (by omega) (by omega)).mono ?_
    rintro e w1 ⟨rfl, hb1⟩
    go_wp2_with fail
    refine (mul_any _ _ _ (by omega) (by omega) (by omega) (by omega)).mono ?_
    rintro e w2 ⟨rfl, hb2⟩
    have H0 := Held4.start (h := mulh a b) (l := mull a b) (p := mulh c d) (q := mull c d) (T := 39) hb1 hb2
    clear hb1 hb2
    go_wp2_with fail
    refine (refmul_any _ _ _ (by omega) (by omega) (by omega) (by omega)).mono ?_
    rintro e w3 ⟨rfl, hb3⟩
    have H3 := H0.step hb3
    clear hb3 H0
    go_wp2_with fail
    refine (refmul_any _ _ _ (by omega) (by omega) (by omega) (by omega)).mono ?_
    rintro e w4 ⟨rfl, hb4⟩
    have H4 := H3.step hb4
    clear hb4 H3
    obtain ⟨k1, k2, k3, k4, k5, k6⟩ := H4
    have HH4 : Hid (Held4 w2.heap.size (mulh a b) (mull a b) (mulh c d) (mull c d) w w4) := ⟨k1, k2, k3, k4, k5, k6⟩
    clear k6
    go_wp2_with fail
    refine (less_any _ _ _ _ _ (by omega) (by omega) (by omega) (by omega)).mono ?_
    rintro e w5 ⟨rfl, hb5⟩
    have H5 := HH4.out.step hb5
    clear hb5 HH4 k1 k2 k3 k4 k5
    go_wp2_with fail
    refine (refless_any _ _ _ _ _ (by omega) (by omega) (by omega) (by omega)).mono ?_
    rintro e w6 ⟨rfl, rfl⟩
    go_wp2_with fail
    refine (refmul_any _ _ _ (by omega) (by omega) (by omega) (by omega)).mono ?_
    rintro e w6 ⟨rfl, hb6⟩
    have H6 := H5.step hb6
    clear hb6 H5
    go_wp2_with fail
    refine (refmul_any _ _ _ (by omega) (by omega) (by omega) (by omega)).mono ?_
    rintro e w7 ⟨rfl, hb7⟩
    have H7 := H6.step hb7
    clear hb7 H6
    go_wp2_with fail
    refine (refless_any _ _ _ _ _ (by omega) (by omega) (by omega) (by omega)).mono ?_
    rintro e w8 ⟨rfl, rfl⟩
    go_wp2_with fail
    refine (refless_any _ _ _ _ _ (by omega) (by omega) (by omega) (by omega)).mono ?_
    rintro e w8 ⟨rfl, rfl⟩
    go_wp2_with fail
    refine (ratio_any _ _ _ _ _ (by omega) (by omega) (by omega) (by omega) (by omega) (by omega) (by omega) (by omega)).mono ?_
    rintro e w8 ⟨rfl, hb8⟩
    have H8 := H7.step hb8
    clear hb8 H7
    obtain ⟨k1, k2, k3, k4, k5, k6⟩ := H8
    go_wp2_with fail
    refine (ceil_any _ _ _ _ (by omega) (by omega) (by omega) (by omega)).mono ?_
    rintro e w9 ⟨rfl, hb9⟩
    have B9 := k6.trans (hb9.mono k6.size)
    clear hb9 k1 k2 k3 k4 k5 k6
    go_wp2_with fail
    refine (awake01 _).mono ?_
    rintro e w10 ⟨rfl, rfl⟩
    go_wp2_with fail
    go_ret
    exact ⟨rfl, B9⟩
  by_cases hh : mulh a b < y ∧ ceilN (mulh a b) (mull a b) y ≤ 18446744073709551615
  · obtain ⟨hy', hn⟩ := hh
    obtain ⟨EV, EE⟩ := ceil_fits hy' hn
    have EN : ceilN (mulh a b) (mull a b) y = -(-(a * b) / y) := ceil_mul
    obtain ⟨N, hN⟩ : ∃ N, ceilN (mulh a b) (mull a b) y = N := ⟨_, rfl⟩
    rw [hN] at hn EN EV
    have hp : 0 ≤ a * b := Int.mul_nonneg a0 b0
    obtain ⟨g1, g2⟩ := ceil_least (n := a * b) (y := y) (by omega)
    rw [← EN] at g1 g2
    have N0 : 0 ≤ N := by
      rw [EN]
      have : (-(a * b)) / y ≤ 0 / y := Int.ediv_le_ediv (by omega) (by omega)
      rw [Int.zero_ediv] at this
      omega
    have L1 : lessB (mulh N y) (mull N y) (mulh a b) (mull a b) = false := by rw [less_mul]; simp; omega
    obtain ⟨n00, n01⟩ := mull_bd N y
    by_cases hz : N = 0
    · have Z : mulh a b = 0 ∧ mull a b = 0 := by
        subst hz
        have e := mul_whole a b
        unfold two64 at e
        omega
      have HZ := Lib.hid Z
      clear Z
      subst hz
      clear g1 g2 EN hN hp hn N0
      go_enter Try.func4, Try.ntmps4
      go_wp2_with fail
      refine (mul_any _ _ _ (by omega) (by omega) (by omega) (by omega)).mono ?_
      rintro e w1 ⟨rfl, hb1⟩
      go_wp2_with fail
      refine (mul_any _ _ _ (by omega) (by omega) (by omega) (by omega)).mono ?_
      rintro e w2 ⟨rfl, hb2⟩
      have H0 := Held4.start (h := mulh a b) (l := mull a b) (p := mulh c d) (q := mull c d) (T := 39) hb1 hb2
      clear hb1 hb2
      go_wp2_with fail
      refine (refmul_any _ _ _ (by omega) (by omega) (by omega) (by omega)).mono ?_
      rintro e w3 ⟨rfl, hb3⟩
      have H3 := H0.step hb3
      clear hb3 H0
      go_wp2_with fail
      refine (refmul_any _ _ _ (by omega) (by omega) (by omega) (by omega)).mono ?_
      rintro e w4 ⟨rfl, hb4⟩
      have H4 := H3.step hb4
      clear hb4 H3
      obtain ⟨k1, k2, k3, k4, k5, k6⟩ := H4
      have HH4 : Hid (Held4 w2.heap.size (mulh a b) (mull a b) (mulh c d) (mull c d) w w4) := ⟨k1, k2, k3, k4, k5, k6⟩
      clear k6
      go_wp2_with fail
      refine (less_any _ _ _ _ _ (by omega) (by omega) (by omega) (by omega)).mono ?_
      rintro e w5 ⟨rfl, hb5⟩
      have H5 := HH4.out.step hb5
      clear hb5 HH4 k1 k2 k3 k4 k5
      go_wp2_with fail
      refine (refless_any _ _ _ _ _ (by omega) (by omega) (by omega) (by omega)).mono ?_
      rintro e w6 ⟨rfl, rfl⟩
      go_wp2_with fail
      refine (refmul_any _ _ _ (by omega) (by omega) (by omega) (by omega)).mono ?_
      rintro e w6 ⟨rfl, hb6⟩
      have H6 := H5.step hb6
      clear hb6 H5
      go_wp2_with fail
      refine (refmul_any _ _ _ (by omega) (by omega) (by omega) (by omega)).mono ?_
      rintro e w7 ⟨rfl, hb7⟩
      have H7 := H6.step hb7
      clear hb7 H6
      go_wp2_with fail
      refine (refless_any _ _ _ _ _ (by omega) (by omega) (by omega) (by omega)).mono ?_
      rintro e w8 ⟨rfl, rfl⟩
      go_wp2_with fail
      refine (refless_any _ _ _ _ _ (by omega) (by omega) (by omega) (by omega)).mono ?_
      rintro e w8 ⟨rfl, rfl⟩
      go_wp2_with fail
      refine (ratio_any _ _ _ _ _ (by omega) (by omega) (by omega) (by omega) (by omega) (by omega) (by omega) (by omega)).mono ?_
      rintro e w8 ⟨rfl, hb8⟩
      have H8 := H7.step hb8
      clear hb8 H7
      obtain ⟨k1, k2, k3, k4, k5, k6⟩ := H8
      go_wp2_with fail
      refine (ceil_any _ _ _ _ (by omega) (by omega) (by omega) (by omega)).mono ?_
      rintro e w9 ⟨rfl, hb9⟩
      have B9 := k6.trans (hb9.mono k6.size)
      clear hb9 k1 k2 k3 k4 k5 k6
      go_wp2_with fail
      refine (refmul_any _ _ _ (by omega) (by omega) (by omega) (by omega)).mono ?_
      rintro e w10 ⟨rfl, hb10⟩
      have B10 := B9.trans (hb10.mono B9.size)
      clear hb10
      go_wp2_with fail
      refine (refless_any _ _ _ _ _ (by omega) (by omega) (by omega) (by omega)).mono ?_
      rintro e w11 ⟨rfl, rfl⟩
      go_wp2_with fail
      refine (awake01 _).mono ?_
      rintro e w12 ⟨rfl, rfl⟩
      obtain ⟨Z1, Z2⟩ := HZ.out
      go_wp2_with fail
      go_ret
      exact ⟨rfl, B10⟩
    · obtain ⟨M, hM⟩ : ∃ M, N - 1 = M := ⟨_, rfl⟩
      have L2 : lessB (mulh M y) (mull M y) (mulh a b) (mull a b) = true := by rw [less_mul, ← hM]; simpa using g2
      obtain ⟨n10, n11⟩ := mull_bd M y
      have hz' : 1 ≤ N := by omega
      have M0 : 0 ≤ M := by omega
      have M1 : M ≤ 18446744073709551615 := by omega
      clear hz g1 g2 EN hN hp
      go_enter Try.func4, Try.ntmps4
      go_wp2_with fail
      refine (mul_any _ _ _ (by omega) (by omega) (by omega) (by omega)).mono ?_
      rintro e w1 ⟨rfl, hb1⟩
      go_wp2_with fail
      refine (mul_any _ _ _ (by omega) (by omega) (by omega) (by omega)).mono ?_
      rintro e w2 ⟨rfl, hb2⟩
      have H0 := Held4.start (h := mulh a b) (l := mull a b) (p := mulh c d) (q := mull c d) (T := 39) hb1 hb2
      clear hb1 hb2
      go_wp2_with fail
      refine (refmul_any _ _ _ (by omega) (by omega) (by omega) (by omega)).mono ?_
      rintro e w3 ⟨rfl, hb3⟩
      have H3 := H0.step hb3
      clear hb3 H0
      go_wp2_with fail
      refine (refmul_any _ _ _ (by omega) (by omega) (by omega) (by omega)).mono ?_
      rintro e w4 ⟨rfl, hb4⟩
      have H4 := H3.step hb4
      clear hb4 H3
      obtain ⟨k1, k2, k3, k4, k5, k6⟩ := H4
      have HH4 : Hid (Held4 w2.heap.size (mulh a b) (mull a b) (mulh c d) (mull c d) w w4) := ⟨k1, k2, k3, k4, k5, k6⟩
      clear k6
      go_wp2_with fail
      refine (less_any _ _ _ _ _ (by omega) (by omega) (by omega) (by omega)).mono ?_
      rintro e w5 ⟨rfl, hb5⟩
      have H5 := HH4.out.step hb5
      clear hb5 HH4 k1 k2 k3 k4 k5
      go_wp2_with fail
      refine (refless_any _ _ _ _ _ (by omega) (by omega) (by omega) (by omega)).mono ?_
      rintro e w6 ⟨rfl, rfl⟩
      go_wp2_with fail
      refine (refmul_any _ _ _ (by omega) (by omega) (by omega) (by omega)).mono ?_
      rintro e w6 ⟨rfl, hb6⟩
      have H6 := H5.step hb6
      clear hb6 H5
      go_wp2_with fail
      refine (refmul_any _ _ _ (by omega) (by omega) (by omega) (by omega)).mono ?_
      rintro e w7 ⟨rfl, hb7⟩
      have H7 := H6.step hb7
      clear hb7 H6
      go_wp2_with fail
      refine (refless_any _ _ _ _ _ (by omega) (by omega) (by omega) (by omega)).mono ?_
      rintro e w8 ⟨rfl, rfl⟩
      go_wp2_with fail
      refine (refless_any _ _ _ _ _ (by omega) (by omega) (by omega) (by omega)).mono ?_
      rintro e w8 ⟨rfl, rfl⟩
      go_wp2_with fail
      refine (ratio_any _ _ _ _ _ (by omega) (by omega) (by omega) (by omega) (by omega) (by omega) (by omega) (by omega)).mono ?_
      rintro e w8 ⟨rfl, hb8⟩
      have H8 := H7.step hb8
      clear hb8 H7
      obtain ⟨k1, k2, k3, k4, k5, k6⟩ := H8
      go_wp2_with fail
      refine (ceil_any _ _ _ _ (by omega) (by omega) (by omega) (by omega)).mono ?_
      rintro e w9 ⟨rfl, hb9⟩
      have B9 := k6.trans (hb9.mono k6.size)
      clear hb9 k1 k2 k3 k4 k5 k6
      go_wp2_with fail
      refine (refmul_any _ _ _ (by omega) (by omega) (by omega) (by omega)).mono ?_
      rintro e w10 ⟨rfl, hb10⟩
      have B10 := B9.trans (hb10.mono B9.size)
      clear hb10
      go_wp2_with fail
      refine (refless_any _ _ _ _ _ (by omega) (by omega) (by omega) (by omega)).mono ?_
      rintro e w11 ⟨rfl, rfl⟩
      go_wp2_with fail
      refine (refmul_any _ _ _ (by omega) (by omega) (by omega) (by omega)).mono ?_
      rintro e w12 ⟨rfl, hb12⟩
      have B12 := B10.trans (hb12.mono B10.size)
      clear hb12
      go_wp2_with fail
      refine (awake01 _).mono ?_
      rintro e w13 ⟨rfl, rfl⟩
      go_wp2_with fail
      refine (refless_any _ _ _ _ _ (by omega) (by omega) (by omega) (by omega)).mono ?_
      rintro e w14 ⟨rfl, rfl⟩
      go_wp2_with fail
      go_ret
      exact ⟨rfl, B12⟩
  · have L := over_less (by omega) hh
    have hE : ceilE (mulh a b) (mull a b) y = 5 := by
      by_cases hy' : mulh a b < y
      · exact (ceil_over (fun h => hh ⟨hy', h⟩)).2
      · exact (ceil_high hy').2
    obtain ⟨x0, x1⟩ := mull_bd 18446744073709551615 y
    clear hh
    go_enter Try.func4, Try.ntmps4
    go_wp2_with fail
    refine (mul_any _ _ _ (by omega) (by omega) (by omega) (by omega)).mono ?_
    rintro e w1 ⟨rfl, hb1⟩
    go_wp2_with fail
    refine (mul_any _ _ _ (by omega) (by omega) (by omega) (by omega)).mono ?_
    rintro e w2 ⟨rfl, hb2⟩
    have H0 := Held4.start (h := mulh a b) (l := mull a b) (p := mulh c d) (q := mull c d) (T := 39) hb1 hb2
    clear hb1 hb2
    go_wp2_with fail
    refine (refmul_any _ _ _ (by omega) (by omega) (by omega) (by omega)).mono ?_
    rintro e w3 ⟨rfl, hb3⟩
    have H3 := H0.step hb3
    clear hb3 H0
    go_wp2_with fail
    refine (refmul_any _ _ _ (by omega) (by omega) (by omega) (by omega)).mono ?_
    rintro e w4 ⟨rfl, hb4⟩
    have H4 := H3.step hb4
    clear hb4 H3
    obtain ⟨k1, k2, k3, k4, k5, k6⟩ := H4
    have HH4 : Hid (Held4 w2.heap.size (mulh a b) (mull a b) (mulh c d) (mull c d) w w4) := ⟨k1, k2, k3, k4, k5, k6⟩
    clear k6
    go_wp2_with fail
    refine (less_any _ _ _ _ _ (by omega) (by omega) (by omega) (by omega)).mono ?_
    rintro e w5 ⟨rfl, hb5⟩
    have H5 := HH4.out.step hb5
    clear hb5 HH4 k1 k2 k3 k4 k5
    go_wp2_with fail
    refine (refless_any _ _ _ _ _ (by omega) (by omega) (by omega) (by omega)).mono ?_
    rintro e w6 ⟨rfl, rfl⟩
    go_wp2_with fail
    refine (refmul_any _ _ _ (by omega) (by omega) (by omega) (by omega)).mono ?_
    rintro e w6 ⟨rfl, hb6⟩
    have H6 := H5.step hb6
    clear hb6 H5
    go_wp2_with fail
    refine (refmul_any _ _ _ (by omega) (by omega) (by omega) (by omega)).mono ?_
    rintro e w7 ⟨rfl, hb7⟩
    have H7 := H6.step hb7
    clear hb7 H6
    go_wp2_with fail
    refine (refless_any _ _ _ _ _ (by omega) (by omega) (by omega) (by omega)).mono ?_
    rintro e w8 ⟨rfl, rfl⟩
    go_wp2_with fail
    refine (refless_any _ _ _ _ _ (by omega) (by omega) (by omega) (by omega)).mono ?_
    rintro e w8 ⟨rfl, rfl⟩
    go_wp2_with fail
    refine (ratio_any _ _ _ _ _ (by omega) (by omega) (by omega) (by omega) (by omega) (by omega) (by omega) (by omega)).mono ?_
    rintro e w8 ⟨rfl, hb8⟩
    have H8 := H7.step hb8
    clear hb8 H7
    obtain ⟨k1, k2, k3, k4, k5, k6⟩ := H8
    go_wp2_with fail
    refine (ceil_any _ _ _ _ (by omega) (by omega) (by omega) (by omega)).mono ?_
    rintro e w9 ⟨rfl, hb9⟩
    have B9 := k6.trans (hb9.mono k6.size)
    clear hb9 k1 k2 k3 k4 k5 k6
    go_wp2_with fail
    refine (refmul_any _ _ _ (by omega) (by omega) (by omega) (by omega)).mono ?_
    rintro e w10 ⟨rfl, hb10⟩
    have B10 := B9.trans (hb10.mono B9.size)
    clear hb10
    go_wp2_with fail
    refine (awake01 _).mono ?_
    rintro e w11 ⟨rfl, rfl⟩
    go_wp2_with fail
    refine (refless_any _ _ _ _ _ (by omega) (by omega) (by omega) (by omega)).mono ?_
    rintro e w12 ⟨rfl, rfl⟩
    go_wp2_with fail
    go_ret
    exact ⟨rfl, B10⟩

theorem numWides_walk (a b c d y : Int) (w0 : (Lit.int .u64 a).wf = true) (w1 : (Lit.int .u64 b).wf = true) (w2 : (Lit.int .u64 c).wf = true) (w3 : (Lit.int .u64 d).wf = true) (w4 : (Lit.int .u64 y).wf = true) (w : World) :
    Calls Try.prog 4 #[.int .u64 a, .int .u64 b, .int .u64 c, .int .u64 d, .int .u64 y] w fun e w' => e = .returned (.bool true) ∧ Below w.heap.size w w' := by
  obtain ⟨a0, a1⟩ := bounds_u64 w0
  obtain ⟨b0, b1⟩ := bounds_u64 w1
  obtain ⟨c0, c1⟩ := bounds_u64 w2
  obtain ⟨d0, d1⟩ := bounds_u64 w3
  obtain ⟨y0, y1⟩ := bounds_u64 w4
  have hr := ratio_eq a b c d
  by_cases h1 : a * d < c * b
  · rw [if_pos h1] at hr
    exact wides_below a b c d y a0 a1 b0 b1 c0 c1 d0 d1 y0 y1 w (by rw [less_mul]; simpa using h1) (by rw [less_mul]; simp; omega) hr
  · rw [if_neg h1] at hr
    by_cases h2 : c * b < a * d
    · rw [if_pos h2] at hr
      exact wides_above a b c d y a0 a1 b0 b1 c0 c1 d0 d1 y0 y1 w (by rw [less_mul]; simpa using h1) (by rw [less_mul]; simpa using h2) hr
    · rw [if_neg h2] at hr
      exact wides_same a b c d y a0 a1 b0 b1 c0 c1 d0 d1 y0 y1 w (by rw [less_mul]; simpa using h1) (by rw [less_mul]; simpa using h2) hr
end Go.Proofs.Ytdnihkmdigmnoaa
