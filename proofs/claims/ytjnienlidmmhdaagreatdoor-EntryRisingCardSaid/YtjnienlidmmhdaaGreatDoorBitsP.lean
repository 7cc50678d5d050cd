/- Contracts of a writer's Put, Bit and Len: numbers of so many bits laid behind others. -/
import Derived.Test.YtjnienlidmmhdaaGreatDoorBitsW
import Derived.LoopTactic
namespace Go.Proofs.YtjnienlidmmhdaaGreatDoor.Bw
open Go.RowKit

theorem within_any (k : Int) (w : World) (k0 : 0 ≤ k) (k1 : k ≤ 64) :
    Calls Tryz.prog 179 #[.int .i64 k] w fun e w' => e = .returned (.int .i64 k) ∧ w = w' := by
  have h1 : max k 0 = k := by omega
  have h2 : min k 64 = k := by omega
  go_enter Tryz.func179, Tryz.ntmps179
  go_wp2
  go_ret
  exact ⟨ret_int (by omega), rfl⟩

/-- what is laid after t rounds of k -/
def putV (V x k t : Nat) : Nat := V * 2 ^ t + x / 2 ^ (k - t) % 2 ^ t
theorem putV_zero (V x k : Nat) : putV V x k 0 = V := by unfold putV; simp [Nat.mod_one]
theorem putV_all (V x k : Nat) : putV V x k k = V * 2 ^ k + x % 2 ^ k := by unfold putV; simp
theorem mod_two_succ (y i : Nat) : y % 2 ^ (i + 1) = y / 2 % 2 ^ i * 2 + y % 2 := by
  have h := Nat.mod_mul (x := y) (a := 2) (b := 2 ^ i)
  rw [Nat.pow_succ, Nat.mul_comm (2 ^ i) 2, h]
  omega
theorem putV_succ (V x k t : Nat) (h : t < k) : putV V x k (t + 1) = putV V x k t * 2 + x / 2 ^ (k - 1 - t) % 2 := by
  unfold putV
  have e1 : k - (t + 1) = k - 1 - t := by omega
  have e2 : x / 2 ^ (k - t) = x / 2 ^ (k - 1 - t) / 2 := by
    rw [Nat.div_div_eq_div_mul, show k - t = k - 1 - t + 1 by omega, Nat.pow_succ]
  rw [e1, e2, mod_two_succ (x / 2 ^ (k - 1 - t)) t, Nat.pow_succ]
  rw [Nat.add_mul, Nat.mul_assoc]
  omega

/-- what holds at each round of Put -/
def PutRel (p B n V x k : Nat) (v : Value) (w : World) (i : Value) (wr : World) : Prop :=
  ∃ t : Nat, t ≤ k ∧ i = .int .i64 (t : Int) ∧ ∃ v' bs', Wr wr p B v' bs' (n + t) ∧ Laid bs' (n + t) (putV V x k t) ∧ Step p v.ownBlock w wr ∧ Own v v' w

set_option maxHeartbeats 400000 in
theorem put_any (x p B n V k : Nat) (v : Value) (bs : List Nat) (w : World) (hw : Wr w p B v bs n) (hl : Laid bs n V) (hk : k ≤ 64) (x1 : x ≤ 18446744073709551615) (hn : n ≤ 900000) :
    Calls Tryz.prog 104 #[.pointer (some ⟨p, 0, none⟩), .int .u64 (x : Int), .int .i64 (k : Int)] w (LayPost p B (n + k) (V * 2 ^ k + x % 2 ^ k) v w) := by
  have H0 : Hid (PutRel p B n V x k v w (.int .i64 0) w) := ⟨0, Nat.zero_le _, rfl, v, bs, hw, by rw [putV_zero]; exact hl, Step.refl _ _ _, Own.refl _ _⟩
  clear hw hl
  go_enter Tryz.func104, Tryz.ntmps104
  go_wp2_with fail
  refine (within_any _ _ (by omega) (by omega)).mono ?_
  rintro e w' ⟨rfl, rfl⟩
  go_wp2_with fail
  go_loopw [12] (fun i wr => PutRel p B n V x k v w i wr) (fun i _ => k - (intOf i).toNat)
  case atStart => exact H0.out
  case round =>
    obtain ⟨t, ht, rfl, v', bs', q1, q2, q3, q4⟩ := hrel
    by_cases hlt : t < k
    · have Q1 := Lib.hid q1
      have Q2 := Lib.hid q2
      have Q3 := Lib.hid q3
      have Q4 := Lib.hid q4
      clear q1 q2 q3 q4
      have hx0 : (0 : Int) ≤ (x : Int) / 2 ^ (k - 1 - t) := Int.ediv_nonneg (by omega) (Int.le_of_lt (Int.pow_pos (by decide)))
      have hx1 : (x : Int) / 2 ^ (k - 1 - t) ≤ 18446744073709551615 := by
        have := Int.ediv_le_self ((2 : Int) ^ (k - 1 - t)) (show (0 : Int) ≤ (x : Int) by omega)
        omega
      have hb : ((x : Int) / 2 ^ (k - 1 - t) % 2).toNat = x / 2 ^ (k - 1 - t) % 2 := by
        have h : (x : Int) / 2 ^ (k - 1 - t) = ((x / 2 ^ (k - 1 - t) : Nat) : Int) := by simp
        rw [h]; omega
      have HB := Lib.hid hb
      have HX0 := Lib.hid hx0
      have HX1 := Lib.hid hx1
      clear hb hx0 hx1
      go_wp2_with fail
      refine (lay_any _ p B (n + t) _ v' bs' _ Q1.out Q2.out HX0.out HX1.out (by omega)).mono ?_
      rintro e w' ⟨rfl, v'', bs'', r1, r2, r3, r4⟩
      have R : Hid (PutRel p B n V x k v w (.int .i64 ((t : Int) + 1)) w') := by
        refine ⟨t + 1, by omega, ret_val (by omega), v'', bs'', r1, ?_, Q3.out.trans Q4.out r3, Q4.out.trans Q3.out r4⟩
        rw [putV_succ _ _ _ _ hlt, ← HB.out]
        exact r2
      clear r1 r2 r3 r4
      go_wp2_with fail
      go_roundw
      case rel => exact R.out
      case measure => simp [intOf]; omega
    · obtain rfl : t = k := by omega
      have Q : Hid (LayPost p B (n + t) (V * 2 ^ t + x % 2 ^ t) v w (.returned (.tuple #[])) wr) := ⟨rfl, v', bs', q1, by rw [← putV_all]; exact q2, q3, q4⟩
      clear q1 q2 q3 q4
      go_wp2_with fail
      go_end0
      exact Q.out
end Go.Proofs.YtjnienlidmmhdaaGreatDoor.Bw
