/- The law NumShifts' walk: for every int32 and two bytes it returns true; memory is left as it was but for new blocks. -/
import Derived.Test.YtdnihkmdigmnoaaNumA
namespace Go.Proofs.Ytdnihkmdigmnoaa
open Go.RowKit

theorem numShifts_walk (a0 : Int) (a1 : Int) (a2 : Int) (w0 : (Lit.int .i32 a0).wf = true) (w1 : (Lit.int .u8 a1).wf = true) (w2 : (Lit.int .u8 a2).wf = true) (w : World) :
    Calls Try.prog 8 #[.int .i32 a0, .int .u8 a1, .int .u8 a2] w fun e w' => e = .returned (.bool true) ∧ Grown w w' := by
  have b0 := bounds_i32 w0
  have b1 := bounds_u8 w1
  have b2 := bounds_u8 w2
  obtain ⟨b01, b02⟩ := b0
  obtain ⟨b11, b12⟩ := b1
  obtain ⟨b21, b22⟩ := b2
  clear w0 w1 w2
  obtain ⟨k, hk⟩ : ∃ k, a1 % 16 = k := ⟨_, rfl⟩
  obtain ⟨m, hm⟩ : ∃ m, a2 % 16 = m := ⟨_, rfl⟩
  have k0 : 0 ≤ k := by omega
  have k1 : k ≤ 15 := by omega
  have m0 : 0 ≤ m := by omega
  have m1 : m ≤ 15 := by omega
  have hb := back_bounds a0 k.toNat
  have hp := pow_le_60 (k := k.toNat) (by omega)
  have hd := div_bounds a0 k.toNat 2147483648 (by omega) (by omega)
  have hdm := div_bounds (a0 / 2 ^ k.toNat) m.toNat 2147483648 (by omega) (by omega)
  have ekm : (k + m).toNat = k.toNat + m.toNat := by omega
  have f4 : (upv (upv a0 k.toNat) m.toNat == upv a0 (k + m).toNat) = true := by rw [upv_upv, ekm]; simp
  have f5 : (a0 / 2 ^ k.toNat / 2 ^ m.toNat == a0 / 2 ^ (k + m).toNat) = true := by rw [div_div, ekm]; simp
  have f6 : (upv a0 0 == a0) = true := by rw [upv_zero]; simp
  have f7 : ((-a0) / 2 ^ k.toNat == -upv a0 k.toNat) = true := by rw [upv_neg]; simp
  have hc := upv_cases a0 k.toNat
  have hU : -2147483648 ≤ upv a0 k.toNat ∧ upv a0 k.toNat ≤ 2147483649 := by
    rcases hc with ⟨_, h⟩ | ⟨_, h⟩ <;> omega
  obtain ⟨hU1, hU2⟩ := hU
  clear ekm
  rcases hc with ⟨c1, c2⟩ | ⟨c1, c2⟩
  all_goals
    have g1 : 0 ≤ upv a0 k.toNat - a0 / 2 ^ k.toNat := by omega
    have g2 : upv a0 k.toNat - a0 / 2 ^ k.toNat ≤ 1 := by omega
  · have t1 : (upv a0 k.toNat == a0 / 2 ^ k.toNat) = true := by rw [c2]; simp
    have t2 : (a0 / 2 ^ k.toNat * 2 ^ k.toNat == a0) = true := by rw [c1]; simp
    clear c1 c2
    go_enter Try.func8, Try.ntmps8
    go_wp2_with (first | (go_at_call 25; refine (down_any _ _ _ (by omega) (by omega)).mono ?_; rintro e w' ⟨rfl, rfl⟩) | (go_at_call 27; refine (up_any _ _ _ (by omega) (by omega) (by omega) (by omega)).mono ?_; rintro e w' ⟨rfl, rfl⟩) | (go_at_call 9; refine (awake01 _).mono ?_; rintro e w' ⟨rfl, rfl⟩))
    go_ret
    exact ⟨rfl, Grown.refl _⟩
  · have t1 : (upv a0 k.toNat == a0 / 2 ^ k.toNat) = false := by simp; omega
    have t2 : (a0 / 2 ^ k.toNat * 2 ^ k.toNat == a0) = false := by simpa using c1
    clear c1 c2
    go_enter Try.func8, Try.ntmps8
    go_wp2_with (first | (go_at_call 25; refine (down_any _ _ _ (by omega) (by omega)).mono ?_; rintro e w' ⟨rfl, rfl⟩) | (go_at_call 27; refine (up_any _ _ _ (by omega) (by omega) (by omega) (by omega)).mono ?_; rintro e w' ⟨rfl, rfl⟩) | (go_at_call 9; refine (awake01 _).mono ?_; rintro e w' ⟨rfl, rfl⟩))
    go_ret
    exact ⟨rfl, Grown.refl _⟩
end Go.Proofs.Ytdnihkmdigmnoaa
