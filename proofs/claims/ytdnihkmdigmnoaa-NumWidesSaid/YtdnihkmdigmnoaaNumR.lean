/- The contract of the program's comparison of two fractions (num.Ratio): below nought, nought, above, as their products across are; of what was in memory nothing turns. -/
import Derived.Test.YtdnihkmdigmnoaaNumB
namespace Go.Proofs.Ytdnihkmdigmnoaa
open Go.RowKit

theorem bcell {W w1 : World} (hb : Below W.heap.size W w1) : (∀ b o, b < W.heap.size → w1.cell? ⟨b, o, none⟩ = W.cell? ⟨b, o, none⟩) ∧ (∀ b o, b < W.heap.size → w1.frozen? ⟨b, o, none⟩ = W.frozen? ⟨b, o, none⟩) :=
  ⟨fun b o h => hb.cell (p := ⟨b, o, none⟩) h, fun b o h => hb.frozen (p := ⟨b, o, none⟩) h⟩

def ratioV (a b c d : Int) : Int :=
  if lessB (mulh a d) (mull a d) (mulh c b) (mull c b) = true then -1 else if lessB (mulh c b) (mull c b) (mulh a d) (mull a d) = true then 1 else 0

theorem ratio_any (a b c d : Int) (w : World) (a0 : 0 ≤ a) (a1 : a ≤ 18446744073709551615) (b0 : 0 ≤ b) (b1 : b ≤ 18446744073709551615) (c0 : 0 ≤ c) (c1 : c ≤ 18446744073709551615) (d0 : 0 ≤ d) (d1 : d ≤ 18446744073709551615) :
    Calls Try.prog 20 #[.int .u64 a, .int .u64 b, .int .u64 c, .int .u64 d] w fun e w' => e = .returned (.int .i64 (ratioV a b c d)) ∧ Below w.heap.size w w' := by
  obtain ⟨xl0, xl1⟩ := mull_bd a d
  obtain ⟨yl0, yl1⟩ := mull_bd c b
  by_cases hA : lessB (mulh a d) (mull a d) (mulh c b) (mull c b) = true
  · have E : Hid (ratioV a b c d = -1) := if_pos hA
    go_enter Try.func20, Try.ntmps20
    go_wp2_with fail
    refine (mul_any _ _ _ (by omega) (by omega) (by omega) (by omega)).mono ?_
    rintro e w1 ⟨rfl, hb1⟩
    go_wp2_with fail
    refine (mul_any _ _ _ (by omega) (by omega) (by omega) (by omega)).mono ?_
    rintro e w2 ⟨rfl, hb2⟩
    go_wp2_with fail
    refine (less_any _ _ _ _ _ (by omega) (by omega) (by omega) (by omega)).mono ?_
    rintro e w3 ⟨rfl, hb3⟩
    go_wp2_with fail
    go_ret
    have s1 := hb1.size
    have s2 := hb2.size
    refine ⟨ret_int E.out.symm, ?_⟩
    exact ((((hb1.trans (hb2.mono s1)).alloc (by omega) _).alloc (by simp; omega) _).trans (hb3.mono (by simp; omega)))
  · rw [Bool.not_eq_true] at hA
    by_cases hB : lessB (mulh c b) (mull c b) (mulh a d) (mull a d) = true
    · have E : Hid (ratioV a b c d = 1) := by unfold Hid ratioV; rw [if_neg (by rw [hA]; decide), if_pos hB]
      go_enter Try.func20, Try.ntmps20
      go_wp2_with fail
      refine (mul_any _ _ _ (by omega) (by omega) (by omega) (by omega)).mono ?_
      rintro e w1 ⟨rfl, hb1⟩
      go_wp2_with fail
      refine (mul_any _ _ _ (by omega) (by omega) (by omega) (by omega)).mono ?_
      rintro e w2 ⟨rfl, hb2⟩
      go_wp2_with fail
      refine (less_any _ _ _ _ _ (by omega) (by omega) (by omega) (by omega)).mono ?_
      rintro e w3 ⟨rfl, hb3⟩
      obtain ⟨g1, g2⟩ := bcell hb3
      have hz : w2.heap.size + 1 < w3.heap.size := by have := hb3.size; simp at this; omega
      have k1 : w3.cell? ⟨w2.heap.size, 0, none⟩ = some (.int .u64 (mulh a d)) := by rw [g1 _ _ (by first | (simp; done) | (simp; omega))]; simp [go_sem]
      have k2 : w3.cell? ⟨w2.heap.size, 1, none⟩ = some (.int .u64 (mull a d)) := by rw [g1 _ _ (by first | (simp; done) | (simp; omega))]; simp [go_sem]
      have k3 : w3.cell? ⟨w2.heap.size + 1, 0, none⟩ = some (.int .u64 (mulh c b)) := by rw [g1 _ _ (by first | (simp; done) | (simp; omega))]; simp [go_sem]
      have k4 : w3.cell? ⟨w2.heap.size + 1, 1, none⟩ = some (.int .u64 (mull c b)) := by rw [g1 _ _ (by first | (simp; done) | (simp; omega))]; simp [go_sem]
      clear g1 g2
      go_wp2_with fail
      refine (less_any _ _ _ _ _ (by omega) (by omega) (by omega) (by omega)).mono ?_
      rintro e w4 ⟨rfl, hb4⟩
      go_wp2_with fail
      go_ret
      have s1 := hb1.size
      have s2 := hb2.size
      refine ⟨ret_int E.out.symm, ?_⟩
      exact ((((hb1.trans (hb2.mono s1)).alloc (by omega) _).alloc (by simp; omega) _).trans (hb3.mono (by simp; omega))).trans (hb4.mono (by have := hb3.size; simp at this; omega))
    · rw [Bool.not_eq_true] at hB
      have E : Hid (ratioV a b c d = 0) := by unfold Hid ratioV; rw [if_neg (by rw [hA]; decide), if_neg (by rw [hB]; decide)]
      go_enter Try.func20, Try.ntmps20
      go_wp2_with fail
      refine (mul_any _ _ _ (by omega) (by omega) (by omega) (by omega)).mono ?_
      rintro e w1 ⟨rfl, hb1⟩
      go_wp2_with fail
      refine (mul_any _ _ _ (by omega) (by omega) (by omega) (by omega)).mono ?_
      rintro e w2 ⟨rfl, hb2⟩
      go_wp2_with fail
      refine (less_any _ _ _ _ _ (by omega) (by omega) (by omega) (by omega)).mono ?_
      rintro e w3 ⟨rfl, hb3⟩
      obtain ⟨g1, g2⟩ := bcell hb3
      have hz : w2.heap.size + 1 < w3.heap.size := by have := hb3.size; simp at this; omega
      have k1 : w3.cell? ⟨w2.heap.size, 0, none⟩ = some (.int .u64 (mulh a d)) := by rw [g1 _ _ (by first | (simp; done) | (simp; omega))]; simp [go_sem]
      have k2 : w3.cell? ⟨w2.heap.size, 1, none⟩ = some (.int .u64 (mull a d)) := by rw [g1 _ _ (by first | (simp; done) | (simp; omega))]; simp [go_sem]
      have k3 : w3.cell? ⟨w2.heap.size + 1, 0, none⟩ = some (.int .u64 (mulh c b)) := by rw [g1 _ _ (by first | (simp; done) | (simp; omega))]; simp [go_sem]
      have k4 : w3.cell? ⟨w2.heap.size + 1, 1, none⟩ = some (.int .u64 (mull c b)) := by rw [g1 _ _ (by first | (simp; done) | (simp; omega))]; simp [go_sem]
      clear g1 g2
      go_wp2_with fail
      refine (less_any _ _ _ _ _ (by omega) (by omega) (by omega) (by omega)).mono ?_
      rintro e w4 ⟨rfl, hb4⟩
      go_wp2_with fail
      go_ret
      have s1 := hb1.size
      have s2 := hb2.size
      refine ⟨ret_int E.out.symm, ?_⟩
      exact ((((hb1.trans (hb2.mono s1)).alloc (by omega) _).alloc (by simp; omega) _).trans (hb3.mono (by simp; omega))).trans (hb4.mono (by have := hb3.size; simp at this; omega))
end Go.Proofs.Ytdnihkmdigmnoaa
