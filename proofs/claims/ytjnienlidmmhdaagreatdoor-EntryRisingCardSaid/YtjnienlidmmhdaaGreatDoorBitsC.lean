/- Contracts of classOf, and of a writer's Bit, Len and Count: a count's class, its bits, and what they are as a number. -/
import Derived.Test.YtjnienlidmmhdaaGreatDoorBitsP
namespace Go.Proofs.YtjnienlidmmhdaaGreatDoor.Bw
open Go.RowKit

/-- the classes' widths lie in the variable's own block -/
def Tab (w : World) : Prop :=
  w.cell? ⟨0, 0, none⟩ = some (.int .i64 0) ∧ w.cell? ⟨0, 1, none⟩ = some (.int .i64 3) ∧ w.cell? ⟨0, 2, none⟩ = some (.int .i64 7) ∧ w.cell? ⟨0, 3, none⟩ = some (.int .i64 12) ∧
    w.cell? ⟨0, 4, none⟩ = some (.int .i64 20) ∧ w.cell? ⟨0, 5, none⟩ = some (.int .i64 32) ∧ w.cell? ⟨0, 6, none⟩ = some (.int .i64 64)

def cls (x : Nat) : Nat := if x < 1 then 0 else if x < 8 then 1 else if x < 128 then 2 else if x < 4096 then 3 else if x < 1048576 then 4 else if x < 4294967296 then 5 else 6

theorem class_0 (x : Nat) (w : World) (hT : Tab w) (h0 : 0 ≤ x) (h1 : x < 1) :
    Calls Tryz.prog 107 #[.int .u64 (x : Int)] w fun e w' => e = .returned (.int .i64 0) ∧ w = w' := by
  obtain ⟨t0, t1, t2, t3, t4, t5, t6⟩ := hT
  have u3 : ((x : Int) / 4096 != 0) = false := by simp; omega
  have u1 : ((x : Int) / 8 != 0) = false := by simp; omega
  have u0 : ((x : Int) != 0) = false := by simp; omega
  go_enter Tryz.func107, Tryz.ntmps107
  go_wp2
  refine wp_loop_rounds 4 ?_
  rw [rounds_succ]
  go_wp2
  rw [rounds_succ]
  go_wp2
  rw [rounds_succ]
  go_wp2
  rw [rounds_succ]
  go_wp2
  go_ret
  exact ⟨rfl, rfl⟩
theorem class_1 (x : Nat) (w : World) (hT : Tab w) (h0 : 1 ≤ x) (h1 : x < 8) :
    Calls Tryz.prog 107 #[.int .u64 (x : Int)] w fun e w' => e = .returned (.int .i64 1) ∧ w = w' := by
  obtain ⟨t0, t1, t2, t3, t4, t5, t6⟩ := hT
  have u3 : ((x : Int) / 4096 != 0) = false := by simp; omega
  have u1 : ((x : Int) / 8 != 0) = false := by simp; omega
  have u0 : ((x : Int) != 0) = true := by simp; omega
  go_enter Tryz.func107, Tryz.ntmps107
  go_wp2
  refine wp_loop_rounds 4 ?_
  rw [rounds_succ]
  go_wp2
  rw [rounds_succ]
  go_wp2
  rw [rounds_succ]
  go_wp2
  rw [rounds_succ]
  go_wp2
  go_ret
  exact ⟨rfl, rfl⟩
theorem class_2 (x : Nat) (w : World) (hT : Tab w) (h0 : 8 ≤ x) (h1 : x < 128) :
    Calls Tryz.prog 107 #[.int .u64 (x : Int)] w fun e w' => e = .returned (.int .i64 2) ∧ w = w' := by
  obtain ⟨t0, t1, t2, t3, t4, t5, t6⟩ := hT
  have u3 : ((x : Int) / 4096 != 0) = false := by simp; omega
  have u1 : ((x : Int) / 8 != 0) = true := by simp; omega
  have u2 : ((x : Int) / 128 != 0) = false := by simp; omega
  go_enter Tryz.func107, Tryz.ntmps107
  go_wp2
  refine wp_loop_rounds 4 ?_
  rw [rounds_succ]
  go_wp2
  rw [rounds_succ]
  go_wp2
  rw [rounds_succ]
  go_wp2
  rw [rounds_succ]
  go_wp2
  go_ret
  exact ⟨rfl, rfl⟩
theorem class_3 (x : Nat) (w : World) (hT : Tab w) (h0 : 128 ≤ x) (h1 : x < 4096) :
    Calls Tryz.prog 107 #[.int .u64 (x : Int)] w fun e w' => e = .returned (.int .i64 3) ∧ w = w' := by
  obtain ⟨t0, t1, t2, t3, t4, t5, t6⟩ := hT
  have u3 : ((x : Int) / 4096 != 0) = false := by simp; omega
  have u1 : ((x : Int) / 8 != 0) = true := by simp; omega
  have u2 : ((x : Int) / 128 != 0) = true := by simp; omega
  go_enter Tryz.func107, Tryz.ntmps107
  go_wp2
  refine wp_loop_rounds 4 ?_
  rw [rounds_succ]
  go_wp2
  rw [rounds_succ]
  go_wp2
  rw [rounds_succ]
  go_wp2
  rw [rounds_succ]
  go_wp2
  go_ret
  exact ⟨rfl, rfl⟩
theorem class_4 (x : Nat) (w : World) (hT : Tab w) (h0 : 4096 ≤ x) (h1 : x < 1048576) :
    Calls Tryz.prog 107 #[.int .u64 (x : Int)] w fun e w' => e = .returned (.int .i64 4) ∧ w = w' := by
  obtain ⟨t0, t1, t2, t3, t4, t5, t6⟩ := hT
  have u3 : ((x : Int) / 4096 != 0) = true := by simp; omega
  have u5 : ((x : Int) / 4294967296 != 0) = false := by simp; omega
  have u4 : ((x : Int) / 1048576 != 0) = false := by simp; omega
  go_enter Tryz.func107, Tryz.ntmps107
  go_wp2
  refine wp_loop_rounds 4 ?_
  rw [rounds_succ]
  go_wp2
  rw [rounds_succ]
  go_wp2
  rw [rounds_succ]
  go_wp2
  rw [rounds_succ]
  go_wp2
  go_ret
  exact ⟨rfl, rfl⟩
theorem class_5 (x : Nat) (w : World) (hT : Tab w) (h0 : 1048576 ≤ x) (h1 : x < 4294967296) :
    Calls Tryz.prog 107 #[.int .u64 (x : Int)] w fun e w' => e = .returned (.int .i64 5) ∧ w = w' := by
  obtain ⟨t0, t1, t2, t3, t4, t5, t6⟩ := hT
  have u3 : ((x : Int) / 4096 != 0) = true := by simp; omega
  have u5 : ((x : Int) / 4294967296 != 0) = false := by simp; omega
  have u4 : ((x : Int) / 1048576 != 0) = true := by simp; omega
  go_enter Tryz.func107, Tryz.ntmps107
  go_wp2
  refine wp_loop_rounds 4 ?_
  rw [rounds_succ]
  go_wp2
  rw [rounds_succ]
  go_wp2
  rw [rounds_succ]
  go_wp2
  rw [rounds_succ]
  go_wp2
  go_ret
  exact ⟨rfl, rfl⟩
theorem class_6 (x : Nat) (w : World) (hT : Tab w) (h0 : 4294967296 ≤ x) (h1 : x ≤ 18446744073709551615) :
    Calls Tryz.prog 107 #[.int .u64 (x : Int)] w fun e w' => e = .returned (.int .i64 6) ∧ w = w' := by
  obtain ⟨t0, t1, t2, t3, t4, t5, t6⟩ := hT
  have u3 : ((x : Int) / 4096 != 0) = true := by simp; omega
  have u5 : ((x : Int) / 4294967296 != 0) = true := by simp; omega
  go_enter Tryz.func107, Tryz.ntmps107
  go_wp2
  refine wp_loop_rounds 4 ?_
  rw [rounds_succ]
  go_wp2
  rw [rounds_succ]
  go_wp2
  rw [rounds_succ]
  go_wp2
  go_ret
  exact ⟨rfl, rfl⟩
end Go.Proofs.YtjnienlidmmhdaaGreatDoor.Bw
