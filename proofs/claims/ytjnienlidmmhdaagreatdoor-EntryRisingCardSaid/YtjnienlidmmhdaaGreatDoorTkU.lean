/- The document's class, Count, Int and Text: what text each returns. -/
import Derived.Test.YtjnienlidmmhdaaGreatDoorTkT
import Derived.Test.YtjnienlidmmhdaaGreatDoorTkK
import Derived.Lib.QuietBelow
namespace Go.Proofs.YtjnienlidmmhdaaGreatDoor.Tk
open Go.RowKit
set_option linter.unusedVariables false

theorem log_iff {n i c : Nat} (h1 : n < 2 ^ i) (h2 : i = 0 ∨ 2 ^ (i - 1) ≤ n) : c < i ↔ ¬ n < 2 ^ c := by
  constructor
  · intro h
    have h3 : 2 ^ c ≤ 2 ^ (i - 1) := Nat.pow_le_pow_right (by decide) (by omega)
    rcases h2 with h2 | h2 <;> omega
  · intro h
    by_cases hc : c < i
    · exact hc
    · have h3 : 2 ^ i ≤ 2 ^ c := Nat.pow_le_pow_right (by decide) (by omega)
      omega
theorem clw_lt {n j : Nat} (hn : n ≤ 18446744073709551615) (hj : j ≤ 6) : ¬ n < 2 ^ clw j ↔ j < cls n := by
  unfold cls clw
  match j, hj with
  | 0, _ => simp; (repeat' split) <;> omega
  | 1, _ => simp; (repeat' split) <;> omega
  | 2, _ => simp; (repeat' split) <;> omega
  | 3, _ => simp; (repeat' split) <;> omega
  | 4, _ => simp; (repeat' split) <;> omega
  | 5, _ => simp; (repeat' split) <;> omega
  | 6, _ => simp; (repeat' split) <;> omega
theorem cls_le (n : Nat) : cls n ≤ 6 := by unfold cls; (repeat' split) <;> omega

def ClA (n : Nat) (x i : Value) : Prop := ∃ j : Nat, j ≤ 64 ∧ i = .int .i64 (j : Int) ∧ x = .int .u64 ((n / 2 ^ j : Nat) : Int) ∧ (j = 0 ∨ 2 ^ (j - 1) ≤ n)
def ClB (n : Nat) (i : Value) : Prop := ∃ j : Nat, j ≤ cls n ∧ i = .int .i64 (j : Int)
/-- the widths' literal -/
def wids : Array Value := #[.int .i64 0, .int .i64 3, .int .i64 7, .int .i64 12, .int .i64 20, .int .i64 32, .int .i64 64]
theorem wids_at (w : World) (t : TypeId) (j : Nat) (hj : j ≤ 6) : (w.alloc (.cells #[.int .i64 0, .int .i64 3, .int .i64 7, .int .i64 12, .int .i64 20, .int .i64 32, .int .i64 64] t)).cell? ⟨w.heap.size, j, none⟩ = some (.int .i64 ((clw j : Nat) : Int)) := by
  match j, hj with
  | 0, _ => simp [go_sem, clw]
  | 1, _ => simp [go_sem, clw]
  | 2, _ => simp [go_sem, clw]
  | 3, _ => simp [go_sem, clw]
  | 4, _ => simp [go_sem, clw]
  | 5, _ => simp [go_sem, clw]
  | 6, _ => simp [go_sem, clw]

set_option maxHeartbeats 1000000 in
theorem refclass_any (n : Nat) (w : World) (hn : n ≤ 18446744073709551615) :
    Calls Tryz.prog 121 #[.int .u64 (n : Int)] w fun e w' => e = .returned (.tuple #[.int .i64 ((cls n : Nat) : Int), .int .i64 ((clw (cls n) : Nat) : Int)]) ∧ Below w.heap.size w w' := by
  go_enter Tryz.func121, Tryz.ntmps121
  go_wp2_with fail
  go_loop [0, 4] (fun x i => ClA n x i) (fun x _ => (intOf x).toNat)
  case atStart => exact ⟨0, by omega, rfl, by simp, .inl rfl⟩
  case round =>
    obtain ⟨j, hj, rfl, rfl, hlow⟩ := hrel
    obtain ⟨x, hx⟩ : ∃ x, n / 2 ^ j = x := ⟨_, rfl⟩
    have HX := Lib.hid hx
    have HL := Lib.hid hlow
    have hxb : x ≤ 18446744073709551615 := by rw [← hx]; exact Nat.le_trans (Nat.div_le_self _ _) hn
    have e2 : n / 2 ^ (j + 1) = x / 2 := by rw [Nat.pow_succ, ← Nat.div_div_eq_div_mul, hx]
    have HE2 := Lib.hid e2
    rw [hx]
    clear hx e2 hlow
    by_cases h0 : 0 < x
    · have hd : decide ((0 : Int) < (x : Int)) = true := by simp; omega
      have R : Hid (ClA n (.int .u64 ((x : Int) / 2)) (.int .i64 ((j : Int) + 1))) := by
        have hge : 2 ^ j ≤ n := by
          by_cases hlt : n < 2 ^ j
          · have := Nat.div_eq_of_lt hlt; have := HX.out; omega
          · omega
        have hj64 : j < 64 := by
          by_cases h64 : j < 64
          · exact h64
          · have : 2 ^ 64 ≤ 2 ^ j := Nat.pow_le_pow_right (by decide) (by omega)
            omega
        exact ⟨j + 1, by omega, by go_num, by rw [HE2.out]; exact ret_val (by omega), .inr (by simpa using hge)⟩
      go_wp2_with fail
      go_round
      case rel => exact R.out
      case measure => simp [intOf]; omega
    · obtain rfl : x = 0 := by omega
      have hlt : n < 2 ^ j := by
        by_cases hlt : n < 2 ^ j
        · exact hlt
        · have := Nat.div_pos (Nat.le_of_not_lt hlt) (Nat.two_pow_pos j)
          have := HX.out
          omega
      have HI := Lib.hid (fun c => (log_iff (c := c) hlt HL.out))
      clear hlt
      go_wp2_with fail
      go_loop [6] (fun i => ClB n i) (fun i => 6 - (intOf i).toNat)
      case atStart => exact ⟨0, by omega, rfl⟩
      case round =>
        obtain ⟨k, hk, rfl⟩ := hrel
        have k6 : k ≤ 6 := Nat.le_trans hk (cls_le n)
        have hc := wids_at w 3 k k6
        by_cases hlt : k < cls n
        · have hd0 : clw k < j := (HI.out (clw k)).2 ((clw_lt hn k6).2 hlt)
          have := cls_le n
          go_wp2_with fail
          go_round
          case rel => exact ⟨k + 1, by omega, by go_num⟩
          case measure => simp [intOf]; omega
        · obtain rfl : k = cls n := by omega
          have hd : decide (clw (cls n) < j) = false := by
            have h1 := mt (HI.out (clw (cls n))).1 (fun h => by have := (clw_lt hn k6).1 h; omega)
            simpa using h1
          have hb : Hid (Below w.heap.size w (w.alloc (.cells #[.int .i64 0, .int .i64 3, .int .i64 7, .int .i64 12, .int .i64 20, .int .i64 32, .int .i64 64] 3))) := (Below.refl _ _).alloc (Nat.le_refl _) _
          go_wp2_with fail
          go_quiet (fail)
          go_wp2_with fail
          go_ret2
          exact ⟨rfl, below_drewN hb.out _⟩
end Go.Proofs.YtjnienlidmmhdaaGreatDoor.Tk
