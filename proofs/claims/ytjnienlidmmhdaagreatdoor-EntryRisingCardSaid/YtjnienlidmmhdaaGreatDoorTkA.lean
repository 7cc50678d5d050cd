/- A reader's bits as numbers, what a call may turn, and the contracts of classOf and within: for reads of any bytes. -/
import Derived.Test.YtjnienlidmmhdaaGreatDoorSpW
import Derived.WalkKit
import Derived.WalkLawsBesides
import Derived.WalkSpells
import Derived.OpenShut
import Derived.Lib.Hide
import Derived.Laws.OwnMore
import Derived.BigRegion
import Derived.ArgAppend
import Derived.LoopTactic
import Derived.Laws.BitsAllLaws
namespace Go.Proofs.YtjnienlidmmhdaaGreatDoor.Tk
open Go.RowKit

def val (bs : List Nat) : Nat := bs.foldl (fun a b => a * 256 + b) 0
theorem val_snoc (bs : List Nat) (b : Nat) : val (bs ++ [b]) = val bs * 256 + b := by
  unfold val
  rw [List.foldl_append]
  rfl
structure Step (p : Nat) (r : Option Nat) (w w' : World) : Prop where
  os : w'.os = w.os
  tape : w'.tape = w.tape
  output : w'.output = w.output
  size : w.heap.size ≤ w'.heap.size
  block : ∀ k, k < w.heap.size → k ≠ p → r ≠ some k → w'.heap[k]? = w.heap[k]?

theorem Step.refl (p : Nat) (r : Option Nat) (w : World) : Step p r w w := ⟨rfl, rfl, rfl, Nat.le_refl _, fun _ _ _ _ => rfl⟩
theorem within_any (k : Int) (w : World) (k0 : 0 ≤ k) (k1 : k ≤ 64) :
    Calls Tryz.prog 179 #[.int .i64 k] w fun e w' => e = .returned (.int .i64 k) ∧ w = w' := by
  have h1 : max k 0 = k := by omega
  have h2 : min k 64 = k := by omega
  go_enter Tryz.func179, Tryz.ntmps179
  go_wp2
  go_ret
  exact ⟨ret_int (by omega), rfl⟩

theorem mod_two_succ (y i : Nat) : y % 2 ^ (i + 1) = y / 2 % 2 ^ i * 2 + y % 2 := by
  have h := Nat.mod_mul (x := y) (a := 2) (b := 2 ^ i)
  rw [Nat.pow_succ, Nat.mul_comm (2 ^ i) 2, h]
  omega
/-- the classes' widths lie in the variable's own block -/
def Tab (w : World) : Prop :=
  w.cell? ⟨0, 0, none⟩ = some (.int .i64 0) ∧ w.cell? ⟨0, 1, none⟩ = some (.int .i64 3) ∧ w.cell? ⟨0, 2, none⟩ = some (.int .i64 7) ∧ w.cell? ⟨0, 3, none⟩ = some (.int .i64 12) ∧
    w.cell? ⟨0, 4, none⟩ = some (.int .i64 20) ∧ w.cell? ⟨0, 5, none⟩ = some (.int .i64 32) ∧ w.cell? ⟨0, 6, none⟩ = some (.int .i64 64)

def cls (x : Nat) : Nat := if x < 1 then 0 else if x < 8 then 1 else if x < 128 then 2 else if x < 4096 then 3 else if x < 1048576 then 4 else if x < 4294967296 then 5 else 6

theorem class_0 (x : Nat) (w : World) (hT : Tab w) (h0 : 0 ≤ x) (h1 : x < 1) :
    Calls Tryz.prog 107 #[.int .u64 (x : Int)] w fun e w' => e = .returned (.int .i64 0) ∧ w = w' := by
  obtain ⟨t0, t1, t2, t3, t4, t5, t6⟩ := hT
  have u3 : ((x : Int) / 4096 != 0) = false := by simp; omega
  have u1 : ((x : Int) / 8 != 0) = false := by simp; omega
  have u0 : ((x : Int) != 0) = false := by simp; omega
  go_enter Tryz.func107, Tryz.ntmps107
  go_wp2
  refine wp_loop_rounds 4 ?_
  rw [rounds_succ]
  go_wp2
  rw [rounds_succ]
  go_wp2
  rw [rounds_succ]
  go_wp2
  rw [rounds_succ]
  go_wp2
  go_ret
  exact ⟨rfl, rfl⟩
theorem class_1 (x : Nat) (w : World) (hT : Tab w) (h0 : 1 ≤ x) (h1 : x < 8) :
    Calls Tryz.prog 107 #[.int .u64 (x : Int)] w fun e w' => e = .returned (.int .i64 1) ∧ w = w' := by
  obtain ⟨t0, t1, t2, t3, t4, t5, t6⟩ := hT
  have u3 : ((x : Int) / 4096 != 0) = false := by simp; omega
  have u1 : ((x : Int) / 8 != 0) = false := by simp; omega
  have u0 : ((x : Int) != 0) = true := by simp; omega
  go_enter Tryz.func107, Tryz.ntmps107
  go_wp2
  refine wp_loop_rounds 4 ?_
  rw [rounds_succ]
  go_wp2
  rw [rounds_succ]
  go_wp2
  rw [rounds_succ]
  go_wp2
  rw [rounds_succ]
  go_wp2
  go_ret
  exact ⟨rfl, rfl⟩
theorem class_2 (x : Nat) (w : World) (hT : Tab w) (h0 : 8 ≤ x) (h1 : x < 128) :
    Calls Tryz.prog 107 #[.int .u64 (x : Int)] w fun e w' => e = .returned (.int .i64 2) ∧ w = w' := by
  obtain ⟨t0, t1, t2, t3, t4, t5, t6⟩ := hT
  have u3 : ((x : Int) / 4096 != 0) = false := by simp; omega
  have u1 : ((x : Int) / 8 != 0) = true := by simp; omega
  have u2 : ((x : Int) / 128 != 0) = false := by simp; omega
  go_enter Tryz.func107, Tryz.ntmps107
  go_wp2
  refine wp_loop_rounds 4 ?_
  rw [rounds_succ]
  go_wp2
  rw [rounds_succ]
  go_wp2
  rw [rounds_succ]
  go_wp2
  rw [rounds_succ]
  go_wp2
  go_ret
  exact ⟨rfl, rfl⟩
theorem class_3 (x : Nat) (w : World) (hT : Tab w) (h0 : 128 ≤ x) (h1 : x < 4096) :
    Calls Tryz.prog 107 #[.int .u64 (x : Int)] w fun e w' => e = .returned (.int .i64 3) ∧ w = w' := by
  obtain ⟨t0, t1, t2, t3, t4, t5, t6⟩ := hT
  have u3 : ((x : Int) / 4096 != 0) = false := by simp; omega
  have u1 : ((x : Int) / 8 != 0) = true := by simp; omega
  have u2 : ((x : Int) / 128 != 0) = true := by simp; omega
  go_enter Tryz.func107, Tryz.ntmps107
  go_wp2
  refine wp_loop_rounds 4 ?_
  rw [rounds_succ]
  go_wp2
  rw [rounds_succ]
  go_wp2
  rw [rounds_succ]
  go_wp2
  rw [rounds_succ]
  go_wp2
  go_ret
  exact ⟨rfl, rfl⟩
theorem class_4 (x : Nat) (w : World) (hT : Tab w) (h0 : 4096 ≤ x) (h1 : x < 1048576) :
    Calls Tryz.prog 107 #[.int .u64 (x : Int)] w fun e w' => e = .returned (.int .i64 4) ∧ w = w' := by
  obtain ⟨t0, t1, t2, t3, t4, t5, t6⟩ := hT
  have u3 : ((x : Int) / 4096 != 0) = true := by simp; omega
  have u5 : ((x : Int) / 4294967296 != 0) = false := by simp; omega
  have u4 : ((x : Int) / 1048576 != 0) = false := by simp; omega
  go_enter Tryz.func107, Tryz.ntmps107
  go_wp2
  refine wp_loop_rounds 4 ?_
  rw [rounds_succ]
  go_wp2
  rw [rounds_succ]
  go_wp2
  rw [rounds_succ]
  go_wp2
  rw [rounds_succ]
  go_wp2
  go_ret
  exact ⟨rfl, rfl⟩
theorem class_5 (x : Nat) (w : World) (hT : Tab w) (h0 : 1048576 ≤ x) (h1 : x < 4294967296) :
    Calls Tryz.prog 107 #[.int .u64 (x : Int)] w fun e w' => e = .returned (.int .i64 5) ∧ w = w' := by
  obtain ⟨t0, t1, t2, t3, t4, t5, t6⟩ := hT
  have u3 : ((x : Int) / 4096 != 0) = true := by simp; omega
  have u5 : ((x : Int) / 4294967296 != 0) = false := by simp; omega
  have u4 : ((x : Int) / 1048576 != 0) = true := by simp; omega
  go_enter Tryz.func107, Tryz.ntmps107
  go_wp2
  refine wp_loop_rounds 4 ?_
  rw [rounds_succ]
  go_wp2
  rw [rounds_succ]
  go_wp2
  rw [rounds_succ]
  go_wp2
  rw [rounds_succ]
  go_wp2
  go_ret
  exact ⟨rfl, rfl⟩
theorem class_6 (x : Nat) (w : World) (hT : Tab w) (h0 : 4294967296 ≤ x) (h1 : x ≤ 18446744073709551615) :
    Calls Tryz.prog 107 #[.int .u64 (x : Int)] w fun e w' => e = .returned (.int .i64 6) ∧ w = w' := by
  obtain ⟨t0, t1, t2, t3, t4, t5, t6⟩ := hT
  have u3 : ((x : Int) / 4096 != 0) = true := by simp; omega
  have u5 : ((x : Int) / 4294967296 != 0) = true := by simp; omega
  go_enter Tryz.func107, Tryz.ntmps107
  go_wp2
  refine wp_loop_rounds 4 ?_
  rw [rounds_succ]
  go_wp2
  rw [rounds_succ]
  go_wp2
  rw [rounds_succ]
  go_wp2
  go_ret
  exact ⟨rfl, rfl⟩
theorem Tab.step {p : Nat} {r : Option Nat} {w w' : World} (h : Tab w) (s : Step p r w w') (hz : 0 < w.heap.size) (hp : p ≠ 0) (hr : r ≠ some 0) : Tab w' := by
  have hb := s.block 0 hz (fun h => hp h.symm) hr
  have hc : ∀ j, w'.cell? ⟨0, j, none⟩ = w.cell? ⟨0, j, none⟩ := fun j => World.cell?_of_block hb
  unfold Tab
  rw [hc, hc, hc, hc, hc, hc, hc]
  exact h
theorem Tab.below {w w' : World} (h : Tab w) (hb : Below w.heap.size w w') (hz : 0 < w.heap.size) : Tab w' := by
  have hc : ∀ j, w'.cell? ⟨0, j, none⟩ = w.cell? ⟨0, j, none⟩ := fun j => hb.cell (p := ⟨0, j, none⟩) hz
  unfold Tab
  rw [hc, hc, hc, hc, hc, hc, hc]
  exact h
theorem Tab.pos {w : World} (h : Tab w) : 0 < w.heap.size := by
  by_cases hz : 0 < w.heap.size
  · exact hz
  · have := h.1
    simp [World.cell?, show w.heap.size = 0 by omega] at this

theorem class_any (x : Nat) (w : World) (hT : Tab w) (h1 : x ≤ 18446744073709551615) :
    Calls Tryz.prog 107 #[.int .u64 (x : Int)] w fun e w' => e = .returned (.int .i64 ((cls x : Nat) : Int)) ∧ w = w' := by
  unfold cls
  split
  · exact class_0 x w hT (by omega) (by omega)
  split
  · exact class_1 x w hT (by omega) (by omega)
  split
  · exact class_2 x w hT (by omega) (by omega)
  split
  · exact class_3 x w hT (by omega) (by omega)
  split
  · exact class_4 x w hT (by omega) (by omega)
  split
  · exact class_5 x w hT (by omega) (by omega)
  · exact class_6 x w hT (by omega) (by omega)
end Go.Proofs.YtjnienlidmmhdaaGreatDoor.Tk
