/- Compare; keys and cells that are one; the laws' own cell. -/
import Derived.Test.YtbibhjcmdehdbaaRkS
import Derived.Laws.StructEq
import Derived.Deep.CutRange
namespace Go.Proofs.Ytbibhjcmdehdbaa
open Go.RowKit Go.Sort
set_option linter.unusedVariables false

theorem compare_any (a b : Cel) (w : World) :
    Calls Try.prog 29 #[.agg #[.int .i64 a.d, .int .i64 a.s, .int .i64 a.i], .agg #[.int .i64 b.d, .int .i64 b.s, .int .i64 b.i]] w fun e w' => e = .returned (.int .i64 (cmpK a b)) ∧ Below w.heap.size w w' := by
  by_cases h1 : a.d = b.d
  · have h2 : (a.d != b.d) = false := by simpa using h1
    by_cases h3 : a.d < 0
    · have HE := Lib.hid (show cmpV b.i a.i = cmpK a b by unfold cmpK; rw [if_neg (by simpa using h1), if_pos h3])
      clear h1
      go_enter Try.func29, Try.ntmps29
      go_wp2_with (go_at_call 62; refine (cmp_any _ _ _).mono ?_; rintro e w' ⟨rfl, rfl⟩)
      go_ret
      exact ⟨ret_i HE.out, ((Below.refl _ _).alloc (Nat.le_refl _) _).alloc (by simp) _⟩
    · have HE := Lib.hid (show cmpV a.i b.i = cmpK a b by unfold cmpK; rw [if_neg (by simpa using h1), if_neg h3])
      clear h1
      go_enter Try.func29, Try.ntmps29
      go_wp2_with (go_at_call 62; refine (cmp_any _ _ _).mono ?_; rintro e w' ⟨rfl, rfl⟩)
      go_ret
      exact ⟨ret_i HE.out, ((Below.refl _ _).alloc (Nat.le_refl _) _).alloc (by simp) _⟩
  · have h2 : (a.d != b.d) = true := by simpa using h1
    have HE := Lib.hid (show cmpV a.d b.d = cmpK a b by unfold cmpK; rw [if_pos h1])
    clear h1
    go_enter Try.func29, Try.ntmps29
    go_wp2_with (go_at_call 62; refine (cmp_any _ _ _).mono ?_; rintro e w' ⟨rfl, rfl⟩)
    go_ret
    exact ⟨ret_i HE.out, ((Below.refl _ _).alloc (Nat.le_refl _) _).alloc (by simp) _⟩
theorem eqK (a b c : Int) (w : World) : (Op.equalIn 10000 48 (.agg #[.int .i64 a, .int .i64 b, .int .i64 c]) (.agg #[.int .i64 a, .int .i64 b, .int .i64 c])).run Try.prog w = .ok true w := by
  have u3 := Try.underlying3
  have a3 := Try.isAgg3
  have z3 := Try.sizeOf3
  have hS : Try.prog.underlying 48 = some (.struct (Try.prog.fieldsOf 48)) := by kernel_rfl
  have hp : Try.prog.stoodInHeld 48 = false := by kernel_rfl
  rw [show (10000 : Nat) = 9999 + 1 from rfl, run_equalIn_agg w 9999 48 _ _ hS hp]
  simp only [Program.fieldsOf, Try.underlying48]
  go_simp
theorem eqR (a b c n : Int) (w : World) : (Op.equalIn 10000 45 (.agg #[.int .i64 a, .int .i64 b, .int .i64 c, .int .u64 n]) (.agg #[.int .i64 a, .int .i64 b, .int .i64 c, .int .u64 n])).run Try.prog w = .ok true w := by
  have u3 := Try.underlying3
  have a3 := Try.isAgg3
  have z3 := Try.sizeOf3
  have u2 := Try.underlying22
  have a2 := Try.isAgg22
  have z2 := Try.sizeOf22
  have hS : Try.prog.underlying 45 = some (.struct (Try.prog.fieldsOf 45)) := by kernel_rfl
  have hp : Try.prog.stoodInHeld 45 = false := by kernel_rfl
  rw [show (10000 : Nat) = 9999 + 1 from rfl, run_equalIn_agg w 9999 45 _ _ hS hp]
  simp only [Program.fieldsOf, Try.underlying45]
  go_simp
theorem guardK (op : BinOp) (x y : Operand) (xs ys : Array Value) (w : World) : (eqGuard op 48 x y (.agg xs) (.agg ys)).run Try.prog w = .ok () w := run_eqGuard_agg w op _ x y xs ys (by kernel_rfl)
theorem guardR (op : BinOp) (x y : Operand) (xs ys : Array Value) (w : World) : (eqGuard op 45 x y (.agg xs) (.agg ys)).run Try.prog w = .ok () w := run_eqGuard_agg w op _ x y xs ys (by kernel_rfl)
theorem lcell_any (d s i n : Int) (w : World) :
    Calls Try.prog 28 #[.agg #[.int .i64 d, .int .i64 s, .int .i64 i], .int .u64 n] w fun e w' => e = .returned (.agg #[.int .i64 d, .int .i64 s, .int .i64 i, .int .u64 n]) ∧ Below w.heap.size w w' := by
  go_enter Try.func28, Try.ntmps28
  go_wp2
  exact bodyPost_ret (v := .agg #[.int .i64 d, .int .i64 s, .int .i64 i, .int .u64 n]) (by simp [results, Try.results28, go_sem]) rfl ⟨rfl, ((Below.refl _ _).alloc (Nat.le_refl _) _).alloc (by simp) _⟩
end Go.Proofs.Ytbibhjcmdehdbaa
