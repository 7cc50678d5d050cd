/- The law NumZigs' walk: for every int64, uint64, int64 and byte it returns true; memory is left as it was. -/
import Derived.Test.YtdnihkmdigmnoaaNumA
namespace Go.Proofs.Ytdnihkmdigmnoaa
open Go.RowKit

theorem numZigs_walk (a0 : Int) (a1 : Int) (a2 : Int) (a3 : Int) (w0 : (Lit.int .i64 a0).wf = true) (w1 : (Lit.int .u64 a1).wf = true) (w2 : (Lit.int .i64 a2).wf = true) (w3 : (Lit.int .u8 a3).wf = true) (w : World) :
    Calls Try.prog 5 #[.int .i64 a0, .int .u64 a1, .int .i64 a2, .int .u8 a3] w fun e w' => e = .returned (.bool true) ∧ Grown w w' := by
  obtain ⟨b01, b02⟩ := bounds_i64 w0
  obtain ⟨b11, b12⟩ := bounds_u64 w1
  obtain ⟨b21, b22⟩ := bounds_i64 w2
  obtain ⟨b31, b32⟩ := bounds_u8 w3
  clear w0 w1 w2 w3
  obtain ⟨k, hk⟩ : ∃ k, a3 % 41 = k := ⟨_, rfl⟩
  have k0 : 0 ≤ k := by omega
  have k1 : k ≤ 40 := by omega
  obtain ⟨x1, x2⟩ := tmod_bd a2 (p := 1099511627776) (by decide)
  obtain ⟨x, hx⟩ : ∃ x, a2.tmod 1099511627776 = x := ⟨_, rfl⟩
  rw [hx] at x1 x2
  have f1 : (zigv a0 == zigv a0) = true := by simp
  have f2 : (zagv (zigv a0) == a0) = true := by rw [zag_zig]; simp
  have f3 : (zigv (zagv a1) == a1) = true := by rw [zig_zag _ b11]; simp
  obtain ⟨z1, z2⟩ := zig_bd b01 b02
  obtain ⟨y1, y2⟩ := zag_bd b11 b12
  have f4 : (upv x k.toNat == -((-x) / 2 ^ k.toNat)) = true := by rw [upv_neg]; simp
  have hd := div_bounds (-x) k.toNat 1099511627776 (by omega) (by omega)
  obtain ⟨d1, d2⟩ := hd
  go_enter Try.func5, Try.ntmps5
  go_wp2_with (first | (go_at_call 25; refine (down_any _ _ _ (by omega) (by omega)).mono ?_; rintro e w' ⟨rfl, rfl⟩) | (go_at_call 26; refine (refdown_any _ _ _ (by omega) (by omega) (by omega) (by omega)).mono ?_; rintro e w' ⟨rfl, rfl⟩) | (go_at_call 27; refine (up_any _ _ _ (by omega) (by omega) (by omega) (by omega)).mono ?_; rintro e w' ⟨rfl, rfl⟩) | (go_at_call 22; refine (zig_any _ _ (by omega) (by omega)).mono ?_; rintro e w' ⟨rfl, rfl⟩) | (go_at_call 24; refine (zag_any _ _ (by omega) (by omega)).mono ?_; rintro e w' ⟨rfl, rfl⟩) | (go_at_call 23; refine (refzig_any _ _ (by omega) (by omega)).mono ?_; rintro e w' ⟨rfl, rfl⟩) | (go_at_call 9; refine (awake01 _).mono ?_; rintro e w' ⟨rfl, rfl⟩))
  go_ret
  exact ⟨rfl, Grown.refl _⟩
end Go.Proofs.Ytdnihkmdigmnoaa
