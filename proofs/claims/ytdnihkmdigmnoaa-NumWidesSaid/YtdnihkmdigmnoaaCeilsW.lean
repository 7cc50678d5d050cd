/- The law NumCeils' walk: for all uint64 a, b and by it returns true; of what was in memory nothing turns. -/
import Derived.Test.YtdnihkmdigmnoaaNumB
import Derived.Test.YtdnihkmdigmnoaaNumR
import Derived.Lib.QuietBelow
import Derived.BigQuiet
namespace Go.Proofs.Ytdnihkmdigmnoaa
open Go.RowKit Go.Sort

theorem less_mul (a b c d : Int) : lessB (mulh a b) (mull a b) (mulh c d) (mull c d) = decide (a * b < c * d) := by
  unfold lessB
  rw [mul_whole, mul_whole]
theorem ceil_mul {a b y : Int} : ceilN (mulh a b) (mull a b) y = -(-(a * b) / y) := by
  unfold ceilN
  rw [mul_whole]
theorem mul_one_parts {a : Int} (a0 : 0 ≤ a) (a1 : a ≤ 18446744073709551615) : mulh a 1 = 0 ∧ mull a 1 = a := by
  unfold mulh mull two64; omega
theorem ceil_one {a : Int} (a0 : 0 ≤ a) (a1 : a ≤ 18446744073709551615) : ceilV (mulh a 1) (mull a 1) 1 = a ∧ ceilE (mulh a 1) (mull a 1) 1 = 0 := by
  have e : ceilN (mulh a 1) (mull a 1) 1 = a := by rw [ceil_mul]; omega
  obtain ⟨m1, m2⟩ := mul_one_parts a0 a1
  obtain ⟨c1, c2⟩ := ceil_fits (h := mulh a 1) (l := mull a 1) (y := 1) (by omega) (by omega)
  exact ⟨c1.trans e, c2⟩

/-- a wide number's cells, and that nothing old has turned, are kept by what only makes memory -/
theorem held_step {B : Nat} {h l : Int} {w W W' : World}
    (s : W.cell? ⟨B, 0, none⟩ = some (.int .u64 h) ∧ W.cell? ⟨B, 1, none⟩ = some (.int .u64 l) ∧ B < W.heap.size ∧ Below w.heap.size w W) (hb : Below W.heap.size W W') :
    W'.cell? ⟨B, 0, none⟩ = some (.int .u64 h) ∧ W'.cell? ⟨B, 1, none⟩ = some (.int .u64 l) ∧ B < W'.heap.size ∧ Below w.heap.size w W' := by
  obtain ⟨s1, s2, s3, s4⟩ := s
  obtain ⟨c1, c2⟩ := bcell hb
  exact ⟨(c1 _ _ s3).trans s1, (c1 _ _ s3).trans s2, Nat.lt_of_lt_of_le s3 hb.size, s4.trans (hb.mono s4.size)⟩

theorem numCeils_walk (a b y : Int) (w0 : (Lit.int .u64 a).wf = true) (w1 : (Lit.int .u64 b).wf = true) (w2 : (Lit.int .u64 y).wf = true) (w : World) :
    Calls Try.prog 7 #[.int .u64 a, .int .u64 b, .int .u64 y] w fun e w' => e = .returned (.bool true) ∧ Below w.heap.size w w' := by
  obtain ⟨a0, a1⟩ := bounds_u64 w0
  obtain ⟨b0, b1⟩ := bounds_u64 w1
  obtain ⟨y0, y1⟩ := bounds_u64 w2
  clear w0 w1 w2
  obtain ⟨h0, h1⟩ := mulh_bd a0 a1 b0 b1
  obtain ⟨l0, l1⟩ := mull_bd a b
  by_cases hh : mulh a b < y ∧ ceilN (mulh a b) (mull a b) y ≤ 18446744073709551615
  · obtain ⟨hy, hn⟩ := hh
    obtain ⟨EV, EE⟩ := ceil_fits hy hn
    have EN : ceilN (mulh a b) (mull a b) y = -(-(a * b) / y) := ceil_mul
    obtain ⟨N, hN⟩ : ∃ N, ceilN (mulh a b) (mull a b) y = N := ⟨_, rfl⟩
    rw [hN] at hn EN EV
    have hp : 0 ≤ a * b := Int.mul_nonneg a0 b0
    obtain ⟨g1, g2⟩ := ceil_least (n := a * b) (y := y) (by omega)
    rw [← EN] at g1 g2
    have N0 : 0 ≤ N := by
      rw [EN]
      have : (-(a * b)) / y ≤ 0 / y := Int.ediv_le_ediv (by omega) (by omega)
      rw [Int.zero_ediv] at this
      omega
    have L1 : lessB (mulh N y) (mull N y) (mulh a b) (mull a b) = false := by rw [less_mul]; simp; omega
    have L2 : lessB (mulh (N - 1) y) (mull (N - 1) y) (mulh a b) (mull a b) = true := by rw [less_mul]; simpa using g2
    obtain ⟨L3, L4⟩ := ceil_one a0 a1
    have L5 : lessB (mulh a b) (mull a b) (mulh a b) (mull a b) = false := by rw [less_mul]; simp
    have m1 := mulh_bd (a := a) (b := 1) a0 a1 (by decide) (by decide)
    have m2 := mull_bd a 1
    obtain ⟨m10, m11⟩ := m1
    obtain ⟨m20, m21⟩ := m2
    obtain ⟨n00, n01⟩ := mull_bd N y
    clear g1 g2 EN hN hp
    by_cases hz : N = 0
    · have hd : decide (0 < N) = false := by simp; omega
      have hN0 : N ≤ 0 := by omega
      clear hz hn L2
      go_enter Try.func7, Try.ntmps7
      go_wp2_with fail
      refine (mul_any _ _ _ (by omega) (by omega) (by omega) (by omega)).mono ?_
      rintro e w1 ⟨rfl, hb1⟩
      go_wp2_with fail
      refine (ceil_any _ _ _ _ (by omega) (by omega) (by omega) (by omega)).mono ?_
      rintro e w2 ⟨rfl, hb2⟩
      obtain ⟨c1, c2⟩ := bcell hb2
      have hs2 : w1.heap.size < w2.heap.size := by have := hb2.size; simp at this; omega
      have k1 : w2.cell? ⟨w1.heap.size, 0, none⟩ = some (.int .u64 (mulh a b)) := by rw [c1 _ _ (by first | (simp; done) | (simp; omega))]; simp [go_sem]
      have k2 : w2.cell? ⟨w1.heap.size, 1, none⟩ = some (.int .u64 (mull a b)) := by rw [c1 _ _ (by first | (simp; done) | (simp; omega))]; simp [go_sem]
      have hbb : Below w.heap.size w w2 := by
        have s1 := hb1.size
        exact (hb1.alloc (by omega) _).trans (hb2.mono (by simp; omega))
      clear c1 c2 hb1 hb2
      go_wp2_with fail
      have k1' := cell_regrown k1
      have k2' := cell_regrown k2
      refine wp_region_quiet_below (by kernel_rfl) (by kernel_rfl) ?_
      repeat (any_goals (first | go_big_quiet_step (first | (go_at_call 16; exact Calls.regrown_of (mul_any _ _ _ (by omega) (by omega) (by omega) (by omega))) | (go_at_call 18; exact Calls.regrown_of (less_any _ _ _ _ _ (by omega) (by omega) (by omega) (by omega)))) | quiet_step (first | (go_at_call 16; exact Calls.regrown_of (mul_any _ _ _ (by omega) (by omega) (by omega) (by omega))) | (go_at_call 18; exact Calls.regrown_of (less_any _ _ _ _ _ (by omega) (by omega) (by omega) (by omega))))))
      refine wpQuiet_nil ?_
      intro _ hw'
      obtain ⟨⟨dq, osq⟩, hw''⟩ := hw'
      subst hw''
      have hH := held_step (w := w) ⟨k1, k2, hs2, hbb⟩ (below_regrown w2 dq osq)
      clear k1' k2'
      generalize grow (redrawn w2 dq) osq = w3 at *
      clear k1 k2 hs2 hbb
      go_wp2_with fail
      refine (mul_any _ _ _ (by omega) (by omega) (by omega) (by omega)).mono ?_
      rintro e w4 ⟨rfl, hb4⟩
      go_wp2_with fail
      refine (ceil_any _ _ _ _ (by omega) (by omega) (by omega) (by omega)).mono ?_
      rintro e w5 ⟨rfl, hb5⟩
      go_wp2_with fail
      refine (awake01 _).mono ?_
      rintro e w6 ⟨rfl, rfl⟩
      obtain ⟨q1, q2, q3, q4⟩ := held_step (held_step hH hb4) hb5
      clear hH
      go_wp2_with fail
      refine (less_any _ _ _ _ _ (by omega) (by omega) (by omega) (by omega)).mono ?_
      rintro e w6 ⟨rfl, hb6⟩
      go_wp2_with fail
      go_ret
      exact ⟨rfl, q4.trans (hb6.mono q4.size)⟩
    · have hz' : 0 < N := by omega
      obtain ⟨M, hM⟩ : ∃ M, IntKind.u64.wrap (N - 1) = M := ⟨_, rfl⟩
      have hM' : M = N - 1 := by rw [← hM, IntKind.wrap_u64]; omega
      rw [← hM'] at L2
      have M0 : 0 ≤ M := by omega
      have M1 : M ≤ 18446744073709551615 := by omega
      obtain ⟨n10, n11⟩ := mull_bd M y
      clear hz hM'
      go_enter Try.func7, Try.ntmps7
      go_wp2_with fail
      refine (mul_any _ _ _ (by omega) (by omega) (by omega) (by omega)).mono ?_
      rintro e w1 ⟨rfl, hb1⟩
      go_wp2_with fail
      refine (ceil_any _ _ _ _ (by omega) (by omega) (by omega) (by omega)).mono ?_
      rintro e w2 ⟨rfl, hb2⟩
      obtain ⟨c1, c2⟩ := bcell hb2
      have hs2 : w1.heap.size < w2.heap.size := by have := hb2.size; simp at this; omega
      have k1 : w2.cell? ⟨w1.heap.size, 0, none⟩ = some (.int .u64 (mulh a b)) := by rw [c1 _ _ (by first | (simp; done) | (simp; omega))]; simp [go_sem]
      have k2 : w2.cell? ⟨w1.heap.size, 1, none⟩ = some (.int .u64 (mull a b)) := by rw [c1 _ _ (by first | (simp; done) | (simp; omega))]; simp [go_sem]
      have hbb : Below w.heap.size w w2 := by
        have s1 := hb1.size
        exact (hb1.alloc (by omega) _).trans (hb2.mono (by simp; omega))
      clear c1 c2 hb1 hb2
      go_wp2_with fail
      have k1' := cell_regrown k1
      have k2' := cell_regrown k2
      refine wp_region_quiet_below (by kernel_rfl) (by kernel_rfl) ?_
      repeat (any_goals (first | go_big_quiet_step (first | (go_at_call 16; exact Calls.regrown_of (mul_any _ _ _ (by omega) (by omega) (by omega) (by omega))) | (go_at_call 18; exact Calls.regrown_of (less_any _ _ _ _ _ (by omega) (by omega) (by omega) (by omega)))) | quiet_step (first | (go_at_call 16; exact Calls.regrown_of (mul_any _ _ _ (by omega) (by omega) (by omega) (by omega))) | (go_at_call 18; exact Calls.regrown_of (less_any _ _ _ _ _ (by omega) (by omega) (by omega) (by omega))))))
      refine wpQuiet_nil ?_
      intro _ hw'
      obtain ⟨⟨dq, osq⟩, hw''⟩ := hw'
      subst hw''
      have hH := held_step (w := w) ⟨k1, k2, hs2, hbb⟩ (below_regrown w2 dq osq)
      clear k1' k2'
      generalize grow (redrawn w2 dq) osq = w3 at *
      clear k1 k2 hs2 hbb
      go_wp2_with fail
      refine (mul_any _ _ _ (by omega) (by omega) (by omega) (by omega)).mono ?_
      rintro e w4 ⟨rfl, hb4⟩
      go_wp2_with fail
      refine (ceil_any _ _ _ _ (by omega) (by omega) (by omega) (by omega)).mono ?_
      rintro e w5 ⟨rfl, hb5⟩
      go_wp2_with fail
      refine (awake01 _).mono ?_
      rintro e w6 ⟨rfl, rfl⟩
      obtain ⟨q1, q2, q3, q4⟩ := held_step (held_step hH hb4) hb5
      clear hH
      go_wp2_with fail
      refine (less_any _ _ _ _ _ (by omega) (by omega) (by omega) (by omega)).mono ?_
      rintro e w6 ⟨rfl, hb6⟩
      go_wp2_with fail
      go_ret
      exact ⟨rfl, q4.trans (hb6.mono q4.size)⟩
  · have hE : ceilV (mulh a b) (mull a b) y = 0 ∧ ceilE (mulh a b) (mull a b) y = 5 := by
      by_cases hy : mulh a b < y
      · exact ceil_over (fun h => hh ⟨hy, h⟩)
      · exact ceil_high hy
    obtain ⟨EV, EE⟩ := hE
    clear hh
    go_enter Try.func7, Try.ntmps7
    go_wp2_with fail
    refine (mul_any _ _ _ (by omega) (by omega) (by omega) (by omega)).mono ?_
    rintro e w1 ⟨rfl, hb1⟩
    go_wp2_with fail
    refine (ceil_any _ _ _ _ (by omega) (by omega) (by omega) (by omega)).mono ?_
    rintro e w2 ⟨rfl, hb2⟩
    have hbb : Below w.heap.size w w2 := by
      have s1 := hb1.size
      exact (hb1.alloc (by omega) _).trans (hb2.mono (by simp; omega))
    clear hb1 hb2
    go_wp2_with fail
    refine (awake01 _).mono ?_
    rintro e w6 ⟨rfl, rfl⟩
    go_wp2_with fail
    go_ret
    exact ⟨rfl, hbb⟩
end Go.Proofs.Ytdnihkmdigmnoaa
