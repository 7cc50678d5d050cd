/- Texts of bits: the document's Put, class and Count, what text each returns. -/
import Derived.Test.YtjnienlidmmhdaaGreatDoorTkI
namespace Go.Proofs.YtjnienlidmmhdaaGreatDoor.Tk
open Go.RowKit
set_option linter.unusedVariables false

/-- a bit's letter -/
def ch (b : Bool) : UInt8 := if b then 49 else 48
/-- the text of bits -/
def T (l : List Bool) : ByteArray := ⟨(l.map ch).toArray⟩
theorem T_append (a b : List Bool) : T a ++ T b = T (a ++ b) := by
  unfold T
  apply ByteArray.ext
  simp
theorem ch_inj {a b : Bool} (h : ch a = ch b) : a = b := by revert h; cases a <;> cases b <;> decide
theorem T_size (l : List Bool) : (T l).size = l.length := by unfold T; simp [ByteArray.size]
theorem T_true : (⟨#[49]⟩ : ByteArray) = T [true] := rfl
theorem T_false : (⟨#[48]⟩ : ByteArray) = T [false] := rfl
theorem T_nil : (⟨#[]⟩ : ByteArray) = T [] := rfl

theorem add_T {P : Program} (a b : List Bool) (h : a.length + b.length ≤ 9223372036854775807) (W : World) : (Op.stringOp .add (T a) (T b)).run P W = .ok (.string (T (a ++ b))) W := by
  rw [run_string_add_sum W _ _ (by rw [T_size, T_size]; exact h), T_append]

/-- the k lowest bits, the highest first -/
def bitsL : Nat → Nat → List Bool
  | 0, _ => []
  | k + 1, n => (n / 2 ^ k % 2 == 1) :: bitsL k n
theorem bitsL_length (k n : Nat) : (bitsL k n).length = k := by
  induction k with
  | zero => rfl
  | succ k ih => simp [bitsL, ih]

/-- what holds at each round of Put -/
def PutRel (n k : Nat) (i s x : Value) : Prop :=
  ∃ j : Nat, j ≤ k ∧ i = .int .i64 (j : Int) ∧ s = .string (T (bitsL j n)) ∧ x = .int .u64 ((n / 2 ^ j : Nat) : Int)

theorem rput_any (n k : Nat) (w : World) (hk : k ≤ 64) (hn : n ≤ 18446744073709551615) :
    Calls Tryz.prog 58 #[.int .u64 (n : Int), .int .i64 (k : Int)] w fun e w' => e = .returned (.string (T (bitsL k n))) ∧ w = w' := by
  go_enter Tryz.func58, Tryz.ntmps58
  go_wp2_with fail
  go_loop [6, 5, 0] (fun i s x => PutRel n k i s x) (fun i _ _ => k - (intOf i).toNat)
  case atStart => exact ⟨0, Nat.zero_le _, rfl, rfl, by simp⟩
  case round =>
    obtain ⟨j, hj, rfl, rfl, rfl⟩ := hrel
    by_cases hlt : j < k
    · have hd1 : decide ((j : Int) < (k : Int)) = true := by simp; omega
      have hd2 : decide ((j : Int) < 64) = true := by simp; omega
      obtain ⟨x, hx⟩ : ∃ x, n / 2 ^ j = x := ⟨_, rfl⟩
      have HX := Lib.hid hx
      have hxb : x ≤ 18446744073709551615 := by rw [← hx]; exact Nat.le_trans (Nat.div_le_self _ _) hn
      have e2 : n / 2 ^ (j + 1) = x / 2 := by rw [Nat.pow_succ, ← Nat.div_div_eq_div_mul, hx]
      have HE2 := Lib.hid e2
      rw [hx]
      clear hx e2
      by_cases hb : x % 2 = 1
      · have hb' : ((x : Int) % 2 == 1) = true := by simp; omega
        have R : Hid (PutRel n k (.int .i64 ((j : Int) + 1)) (.string (T [true] ++ T (bitsL j n))) (.int .u64 ((x : Int) / 2))) :=
          ⟨j + 1, by omega, by go_num, by rw [T_append]; simp only [bitsL, HX.out, hb]; rfl, by rw [HE2.out]; exact ret_val (by omega)⟩
        have hadd := add_T (P := Tryz.prog) [true] (bitsL j n) (by rw [bitsL_length]; simp; omega)
        rw [← T_true] at hadd
        rw [T_append] at R
        clear hb
        go_wp2_with fail
        go_round
        case rel => exact R.out
        case measure => simp [intOf]; omega
      · have hb' : ((x : Int) % 2 == 1) = false := by simp; omega
        have hz : x % 2 = 0 := by omega
        have R : Hid (PutRel n k (.int .i64 ((j : Int) + 1)) (.string (T [false] ++ T (bitsL j n))) (.int .u64 ((x : Int) / 2))) :=
          ⟨j + 1, by omega, by go_num, by rw [T_append]; simp only [bitsL, HX.out, hz]; rfl, by rw [HE2.out]; exact ret_val (by omega)⟩
        have hadd := add_T (P := Tryz.prog) [false] (bitsL j n) (by rw [bitsL_length]; simp; omega)
        rw [← T_false] at hadd
        rw [T_append] at R
        clear hb hz
        go_wp2_with fail
        go_round
        case rel => exact R.out
        case measure => simp [intOf]; omega
    · obtain rfl : j = k := by omega
      have hd1 : decide ((j : Int) < (j : Int)) = false := by simp
      go_wp2_with fail
      go_ret
      exact ⟨rfl, rfl⟩
end Go.Proofs.YtjnienlidmmhdaaGreatDoor.Tk
