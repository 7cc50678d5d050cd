import Derived.Test.YtakomfnajeolcaaGreatDoorCtA7
import Derived.Laws.BytesString
import Derived.Laws.IdiomStrings
set_option linter.unusedVariables false
/- Contracts of classOf, and of a writer's Bit, Len and Count: a count's class, its bits, and what they are as a number. -/
namespace Go.Proofs.YtakomfnajeolcaaGreatDoor.Bw
open Go.RowKit

/-- the classes' widths lie in the variable's own block -/
def Tab (w : World) : Prop :=
  w.cell? ⟨0, 0, none⟩ = some (.int .i64 0) ∧ w.cell? ⟨0, 1, none⟩ = some (.int .i64 3) ∧ w.cell? ⟨0, 2, none⟩ = some (.int .i64 7) ∧ w.cell? ⟨0, 3, none⟩ = some (.int .i64 12) ∧
    w.cell? ⟨0, 4, none⟩ = some (.int .i64 20) ∧ w.cell? ⟨0, 5, none⟩ = some (.int .i64 32) ∧ w.cell? ⟨0, 6, none⟩ = some (.int .i64 64)

def cls (x : Nat) : Nat := if x < 1 then 0 else if x < 8 then 1 else if x < 128 then 2 else if x < 4096 then 3 else if x < 1048576 then 4 else if x < 4294967296 then 5 else 6

theorem class_0 (x : Nat) (w : World) (hT : Tab w) (h0 : 0 ≤ x) (h1 : x < 1) :
    Calls Tryz.prog 57 #[.int .u64 (x : Int)] w fun e w' => e = .returned (.int .i64 0) ∧ w = w' := by
  obtain ⟨t0, t1, t2, t3, t4, t5, t6⟩ := hT
  have u3 : ((x : Int) / 4096 != 0) = false := by simp; omega
  have u1 : ((x : Int) / 8 != 0) = false := by simp; omega
  have u0 : ((x : Int) != 0) = false := by simp; omega
  go_enter Tryz.func57, Tryz.ntmps57
  go_wp2
  refine wp_loop_rounds 4 ?_
  rw [rounds_succ]
  go_wp2
  rw [rounds_succ]
  go_wp2
  rw [rounds_succ]
  go_wp2
  rw [rounds_succ]
  go_wp2
  go_ret
  exact ⟨rfl, rfl⟩
theorem class_1 (x : Nat) (w : World) (hT : Tab w) (h0 : 1 ≤ x) (h1 : x < 8) :
    Calls Tryz.prog 57 #[.int .u64 (x : Int)] w fun e w' => e = .returned (.int .i64 1) ∧ w = w' := by
  obtain ⟨t0, t1, t2, t3, t4, t5, t6⟩ := hT
  have u3 : ((x : Int) / 4096 != 0) = false := by simp; omega
  have u1 : ((x : Int) / 8 != 0) = false := by simp; omega
  have u0 : ((x : Int) != 0) = true := by simp; omega
  go_enter Tryz.func57, Tryz.ntmps57
  go_wp2
  refine wp_loop_rounds 4 ?_
  rw [rounds_succ]
  go_wp2
  rw [rounds_succ]
  go_wp2
  rw [rounds_succ]
  go_wp2
  rw [rounds_succ]
  go_wp2
  go_ret
  exact ⟨rfl, rfl⟩
theorem class_2 (x : Nat) (w : World) (hT : Tab w) (h0 : 8 ≤ x) (h1 : x < 128) :
    Calls Tryz.prog 57 #[.int .u64 (x : Int)] w fun e w' => e = .returned (.int .i64 2) ∧ w = w' := by
  obtain ⟨t0, t1, t2, t3, t4, t5, t6⟩ := hT
  have u3 : ((x : Int) / 4096 != 0) = false := by simp; omega
  have u1 : ((x : Int) / 8 != 0) = true := by simp; omega
  have u2 : ((x : Int) / 128 != 0) = false := by simp; omega
  go_enter Tryz.func57, Tryz.ntmps57
  go_wp2
  refine wp_loop_rounds 4 ?_
  rw [rounds_succ]
  go_wp2
  rw [rounds_succ]
  go_wp2
  rw [rounds_succ]
  go_wp2
  rw [rounds_succ]
  go_wp2
  go_ret
  exact ⟨rfl, rfl⟩
theorem class_3 (x : Nat) (w : World) (hT : Tab w) (h0 : 128 ≤ x) (h1 : x < 4096) :
    Calls Tryz.prog 57 #[.int .u64 (x : Int)] w fun e w' => e = .returned (.int .i64 3) ∧ w = w' := by
  obtain ⟨t0, t1, t2, t3, t4, t5, t6⟩ := hT
  have u3 : ((x : Int) / 4096 != 0) = false := by simp; omega
  have u1 : ((x : Int) / 8 != 0) = true := by simp; omega
  have u2 : ((x : Int) / 128 != 0) = true := by simp; omega
  go_enter Tryz.func57, Tryz.ntmps57
  go_wp2
  refine wp_loop_rounds 4 ?_
  rw [rounds_succ]
  go_wp2
  rw [rounds_succ]
  go_wp2
  rw [rounds_succ]
  go_wp2
  rw [rounds_succ]
  go_wp2
  go_ret
  exact ⟨rfl, rfl⟩
theorem class_4 (x : Nat) (w : World) (hT : Tab w) (h0 : 4096 ≤ x) (h1 : x < 1048576) :
    Calls Tryz.prog 57 #[.int .u64 (x : Int)] w fun e w' => e = .returned (.int .i64 4) ∧ w = w' := by
  obtain ⟨t0, t1, t2, t3, t4, t5, t6⟩ := hT
  have u3 : ((x : Int) / 4096 != 0) = true := by simp; omega
  have u5 : ((x : Int) / 4294967296 != 0) = false := by simp; omega
  have u4 : ((x : Int) / 1048576 != 0) = false := by simp; omega
  go_enter Tryz.func57, Tryz.ntmps57
  go_wp2
  refine wp_loop_rounds 4 ?_
  rw [rounds_succ]
  go_wp2
  rw [rounds_succ]
  go_wp2
  rw [rounds_succ]
  go_wp2
  rw [rounds_succ]
  go_wp2
  go_ret
  exact ⟨rfl, rfl⟩
theorem class_5 (x : Nat) (w : World) (hT : Tab w) (h0 : 1048576 ≤ x) (h1 : x < 4294967296) :
    Calls Tryz.prog 57 #[.int .u64 (x : Int)] w fun e w' => e = .returned (.int .i64 5) ∧ w = w' := by
  obtain ⟨t0, t1, t2, t3, t4, t5, t6⟩ := hT
  have u3 : ((x : Int) / 4096 != 0) = true := by simp; omega
  have u5 : ((x : Int) / 4294967296 != 0) = false := by simp; omega
  have u4 : ((x : Int) / 1048576 != 0) = true := by simp; omega
  go_enter Tryz.func57, Tryz.ntmps57
  go_wp2
  refine wp_loop_rounds 4 ?_
  rw [rounds_succ]
  go_wp2
  rw [rounds_succ]
  go_wp2
  rw [rounds_succ]
  go_wp2
  rw [rounds_succ]
  go_wp2
  go_ret
  exact ⟨rfl, rfl⟩
theorem class_6 (x : Nat) (w : World) (hT : Tab w) (h0 : 4294967296 ≤ x) (h1 : x ≤ 18446744073709551615) :
    Calls Tryz.prog 57 #[.int .u64 (x : Int)] w fun e w' => e = .returned (.int .i64 6) ∧ w = w' := by
  obtain ⟨t0, t1, t2, t3, t4, t5, t6⟩ := hT
  have u3 : ((x : Int) / 4096 != 0) = true := by simp; omega
  have u5 : ((x : Int) / 4294967296 != 0) = true := by simp; omega
  go_enter Tryz.func57, Tryz.ntmps57
  go_wp2
  refine wp_loop_rounds 4 ?_
  rw [rounds_succ]
  go_wp2
  rw [rounds_succ]
  go_wp2
  rw [rounds_succ]
  go_wp2
  go_ret
  exact ⟨rfl, rfl⟩
end Go.Proofs.YtakomfnajeolcaaGreatDoor.Bw


/- The contracts of a writer's Bit, Len and Count. -/
namespace Go.Proofs.YtakomfnajeolcaaGreatDoor.Bw
open Go.RowKit

theorem Tab.step {p : Nat} {r : Option Nat} {w w' : World} (h : Tab w) (s : Step p r w w') (hz : 0 < w.heap.size) (hp : p ≠ 0) (hr : r ≠ some 0) : Tab w' := by
  have hb := s.block 0 hz (fun h => hp h.symm) hr
  have hc : ∀ j, w'.cell? ⟨0, j, none⟩ = w.cell? ⟨0, j, none⟩ := fun j => World.cell?_of_block hb
  unfold Tab
  rw [hc, hc, hc, hc, hc, hc, hc]
  exact h
theorem Wr.notZero {w : World} {p B n : Nat} {v : Value} {bs : List Nat} (h : Wr w p B v bs n) : v.ownBlock ≠ some 0 ∧ 0 < w.heap.size := by
  have h1 := h.pb
  have h2 := h.bw
  exact ⟨fun e => by have := (h.own.lt 0 e).1; omega, by omega⟩

theorem bit_any (b : Bool) (p B n V : Nat) (v : Value) (bs : List Nat) (w : World) (hw : Wr w p B v bs n) (hl : Laid bs n V) (hn : n ≤ 9000000) :
    Calls Tryz.prog 53 #[.pointer (some ⟨p, 0, none⟩), .bool b] w (LayPost p B (n + 1) (V * 2 + b.toNat) v w) := by
  cases b
  · go_enter Tryz.func53, Tryz.ntmps53
    go_wp2_with fail
    refine (put_any 0 p B n V 1 v bs _ hw hl (by decide) (by decide) hn).mono ?_
    rintro e w' ⟨rfl, r⟩
    have R : Hid (LayPost p B (n + 1) (V * 2 + false.toNat) v w (.returned (.tuple #[])) w') := ⟨rfl, r⟩
    clear r
    go_wp2_with fail
    go_end0
    exact R.out
  · go_enter Tryz.func53, Tryz.ntmps53
    go_wp2_with fail
    refine (put_any 1 p B n V 1 v bs _ hw hl (by decide) (by decide) hn).mono ?_
    rintro e w' ⟨rfl, r⟩
    have R : Hid (LayPost p B (n + 1) (V * 2 + true.toNat) v w (.returned (.tuple #[])) w') := ⟨rfl, r⟩
    clear r
    go_wp2_with fail
    go_end0
    exact R.out

set_option maxHeartbeats 1000000 in
theorem count_0 (x p B n V : Nat) (v : Value) (bs : List Nat) (w : World) (hw : Wr w p B v bs n) (hl : Laid bs n V) (hT : Tab w) (hp : p ≠ 0) (hn : n ≤ 8000000) (h0 : 0 ≤ x) (h1 : x < 1) :
    Calls Tryz.prog 24 #[.pointer (some ⟨p, 0, none⟩), .int .u64 (x : Int)] w (LayPost p B (n + 1) (V * 2 ^ 1 + (0 + x)) v w) := by
  have q1 := hw
  have q2 := hl
  have q3 := Step.refl p v.ownBlock w
  have q4 := Own.refl v w
  go_enter Tryz.func24, Tryz.ntmps24
  go_wp2_with fail
  refine (class_0 x _ hT h0 h1).mono ?_
  rintro e w' ⟨rfl, rfl⟩
  go_wp2_with fail
  refine wp_loop_rounds 1 ?_
  rw [rounds_succ]
  go_wp2_with fail
  refine (bit_any false p B _ _ _ _ _ q1 q2 (by omega)).mono ?_
  rintro e w1 ⟨rfl, v1, bs1, r1, r2, r3, r4⟩
  have q4' := q4.trans q3 r4
  replace q3 := q3.trans q4 r3
  replace q4 := q4'
  replace q1 := r1
  replace q2 := r2
  clear r1 r2 r3 r4 q4'
  obtain ⟨t0, t1, t2, t3, t4, t5, t6⟩ := hT.step q3 hw.notZero.2 hp hw.notZero.1
  go_wp2_with fail
  refine (put_any x p B _ _ 0 _ _ _ q1 q2 (by decide) (by omega) (by omega)).mono ?_
  rintro e w9 ⟨rfl, v9, bs9, r1, r2, r3, r4⟩
  have hx : x % 2 ^ 0 = x := Nat.mod_eq_of_lt (by omega)
  have R : Hid (LayPost p B (n + 1) (V * 2 ^ 1 + (0 + x)) v w (.returned (.tuple #[])) w9) :=
    ⟨rfl, v9, bs9, r1, by rw [hx] at r2; simp only [Bool.toNat_false] at r2; refine cast (congrArg _ ?_) r2; omega, q3.trans q4 r3, q4.trans q3 r4⟩
  clear r1 r2 r3 r4 q1 q2 q3 q4 hx
  go_wp2_with fail
  go_end0
  exact R.out

set_option maxHeartbeats 1000000 in
theorem count_1 (x p B n V : Nat) (v : Value) (bs : List Nat) (w : World) (hw : Wr w p B v bs n) (hl : Laid bs n V) (hT : Tab w) (hp : p ≠ 0) (hn : n ≤ 8000000) (h0 : 1 ≤ x) (h1 : x < 8) :
    Calls Tryz.prog 24 #[.pointer (some ⟨p, 0, none⟩), .int .u64 (x : Int)] w (LayPost p B (n + 5) (V * 2 ^ 5 + (16 + x)) v w) := by
  have q1 := hw
  have q2 := hl
  have q3 := Step.refl p v.ownBlock w
  have q4 := Own.refl v w
  go_enter Tryz.func24, Tryz.ntmps24
  go_wp2_with fail
  refine (class_1 x _ hT h0 h1).mono ?_
  rintro e w' ⟨rfl, rfl⟩
  go_wp2_with fail
  refine wp_loop_rounds 2 ?_
  rw [rounds_succ]
  go_wp2_with fail
  refine (bit_any true p B _ _ _ _ _ q1 q2 (by omega)).mono ?_
  rintro e w1 ⟨rfl, v1, bs1, r1, r2, r3, r4⟩
  have q4' := q4.trans q3 r4
  replace q3 := q3.trans q4 r3
  replace q4 := q4'
  replace q1 := r1
  replace q2 := r2
  clear r1 r2 r3 r4 q4'
  go_wp2_with fail
  rw [rounds_succ]
  go_wp2_with fail
  refine (bit_any false p B _ _ _ _ _ q1 q2 (by omega)).mono ?_
  rintro e w2 ⟨rfl, v2, bs2, r1, r2, r3, r4⟩
  have q4' := q4.trans q3 r4
  replace q3 := q3.trans q4 r3
  replace q4 := q4'
  replace q1 := r1
  replace q2 := r2
  clear r1 r2 r3 r4 q4'
  obtain ⟨t0, t1, t2, t3, t4, t5, t6⟩ := hT.step q3 hw.notZero.2 hp hw.notZero.1
  go_wp2_with fail
  refine (put_any x p B _ _ 3 _ _ _ q1 q2 (by decide) (by omega) (by omega)).mono ?_
  rintro e w9 ⟨rfl, v9, bs9, r1, r2, r3, r4⟩
  have hx : x % 2 ^ 3 = x := Nat.mod_eq_of_lt (by omega)
  have R : Hid (LayPost p B (n + 5) (V * 2 ^ 5 + (16 + x)) v w (.returned (.tuple #[])) w9) :=
    ⟨rfl, v9, bs9, r1, by rw [hx] at r2; simp only [Bool.toNat_true, Bool.toNat_false] at r2; refine cast (congrArg _ ?_) r2; omega, q3.trans q4 r3, q4.trans q3 r4⟩
  clear r1 r2 r3 r4 q1 q2 q3 q4 hx
  go_wp2_with fail
  go_end0
  exact R.out

set_option maxHeartbeats 1000000 in
theorem count_2 (x p B n V : Nat) (v : Value) (bs : List Nat) (w : World) (hw : Wr w p B v bs n) (hl : Laid bs n V) (hT : Tab w) (hp : p ≠ 0) (hn : n ≤ 8000000) (h0 : 8 ≤ x) (h1 : x < 128) :
    Calls Tryz.prog 24 #[.pointer (some ⟨p, 0, none⟩), .int .u64 (x : Int)] w (LayPost p B (n + 10) (V * 2 ^ 10 + (768 + x)) v w) := by
  have q1 := hw
  have q2 := hl
  have q3 := Step.refl p v.ownBlock w
  have q4 := Own.refl v w
  go_enter Tryz.func24, Tryz.ntmps24
  go_wp2_with fail
  refine (class_2 x _ hT h0 h1).mono ?_
  rintro e w' ⟨rfl, rfl⟩
  go_wp2_with fail
  refine wp_loop_rounds 3 ?_
  rw [rounds_succ]
  go_wp2_with fail
  refine (bit_any true p B _ _ _ _ _ q1 q2 (by omega)).mono ?_
  rintro e w1 ⟨rfl, v1, bs1, r1, r2, r3, r4⟩
  have q4' := q4.trans q3 r4
  replace q3 := q3.trans q4 r3
  replace q4 := q4'
  replace q1 := r1
  replace q2 := r2
  clear r1 r2 r3 r4 q4'
  go_wp2_with fail
  rw [rounds_succ]
  go_wp2_with fail
  refine (bit_any true p B _ _ _ _ _ q1 q2 (by omega)).mono ?_
  rintro e w2 ⟨rfl, v2, bs2, r1, r2, r3, r4⟩
  have q4' := q4.trans q3 r4
  replace q3 := q3.trans q4 r3
  replace q4 := q4'
  replace q1 := r1
  replace q2 := r2
  clear r1 r2 r3 r4 q4'
  go_wp2_with fail
  rw [rounds_succ]
  go_wp2_with fail
  refine (bit_any false p B _ _ _ _ _ q1 q2 (by omega)).mono ?_
  rintro e w3 ⟨rfl, v3, bs3, r1, r2, r3, r4⟩
  have q4' := q4.trans q3 r4
  replace q3 := q3.trans q4 r3
  replace q4 := q4'
  replace q1 := r1
  replace q2 := r2
  clear r1 r2 r3 r4 q4'
  obtain ⟨t0, t1, t2, t3, t4, t5, t6⟩ := hT.step q3 hw.notZero.2 hp hw.notZero.1
  go_wp2_with fail
  refine (put_any x p B _ _ 7 _ _ _ q1 q2 (by decide) (by omega) (by omega)).mono ?_
  rintro e w9 ⟨rfl, v9, bs9, r1, r2, r3, r4⟩
  have hx : x % 2 ^ 7 = x := Nat.mod_eq_of_lt (by omega)
  have R : Hid (LayPost p B (n + 10) (V * 2 ^ 10 + (768 + x)) v w (.returned (.tuple #[])) w9) :=
    ⟨rfl, v9, bs9, r1, by rw [hx] at r2; simp only [Bool.toNat_true, Bool.toNat_false] at r2; refine cast (congrArg _ ?_) r2; omega, q3.trans q4 r3, q4.trans q3 r4⟩
  clear r1 r2 r3 r4 q1 q2 q3 q4 hx
  go_wp2_with fail
  go_end0
  exact R.out

set_option maxHeartbeats 1000000 in
theorem count_3 (x p B n V : Nat) (v : Value) (bs : List Nat) (w : World) (hw : Wr w p B v bs n) (hl : Laid bs n V) (hT : Tab w) (hp : p ≠ 0) (hn : n ≤ 8000000) (h0 : 128 ≤ x) (h1 : x < 4096) :
    Calls Tryz.prog 24 #[.pointer (some ⟨p, 0, none⟩), .int .u64 (x : Int)] w (LayPost p B (n + 16) (V * 2 ^ 16 + (57344 + x)) v w) := by
  have q1 := hw
  have q2 := hl
  have q3 := Step.refl p v.ownBlock w
  have q4 := Own.refl v w
  go_enter Tryz.func24, Tryz.ntmps24
  go_wp2_with fail
  refine (class_3 x _ hT h0 h1).mono ?_
  rintro e w' ⟨rfl, rfl⟩
  go_wp2_with fail
  refine wp_loop_rounds 4 ?_
  rw [rounds_succ]
  go_wp2_with fail
  refine (bit_any true p B _ _ _ _ _ q1 q2 (by omega)).mono ?_
  rintro e w1 ⟨rfl, v1, bs1, r1, r2, r3, r4⟩
  have q4' := q4.trans q3 r4
  replace q3 := q3.trans q4 r3
  replace q4 := q4'
  replace q1 := r1
  replace q2 := r2
  clear r1 r2 r3 r4 q4'
  go_wp2_with fail
  rw [rounds_succ]
  go_wp2_with fail
  refine (bit_any true p B _ _ _ _ _ q1 q2 (by omega)).mono ?_
  rintro e w2 ⟨rfl, v2, bs2, r1, r2, r3, r4⟩
  have q4' := q4.trans q3 r4
  replace q3 := q3.trans q4 r3
  replace q4 := q4'
  replace q1 := r1
  replace q2 := r2
  clear r1 r2 r3 r4 q4'
  go_wp2_with fail
  rw [rounds_succ]
  go_wp2_with fail
  refine (bit_any true p B _ _ _ _ _ q1 q2 (by omega)).mono ?_
  rintro e w3 ⟨rfl, v3, bs3, r1, r2, r3, r4⟩
  have q4' := q4.trans q3 r4
  replace q3 := q3.trans q4 r3
  replace q4 := q4'
  replace q1 := r1
  replace q2 := r2
  clear r1 r2 r3 r4 q4'
  go_wp2_with fail
  rw [rounds_succ]
  go_wp2_with fail
  refine (bit_any false p B _ _ _ _ _ q1 q2 (by omega)).mono ?_
  rintro e w4 ⟨rfl, v4, bs4, r1, r2, r3, r4⟩
  have q4' := q4.trans q3 r4
  replace q3 := q3.trans q4 r3
  replace q4 := q4'
  replace q1 := r1
  replace q2 := r2
  clear r1 r2 r3 r4 q4'
  obtain ⟨t0, t1, t2, t3, t4, t5, t6⟩ := hT.step q3 hw.notZero.2 hp hw.notZero.1
  go_wp2_with fail
  refine (put_any x p B _ _ 12 _ _ _ q1 q2 (by decide) (by omega) (by omega)).mono ?_
  rintro e w9 ⟨rfl, v9, bs9, r1, r2, r3, r4⟩
  have hx : x % 2 ^ 12 = x := Nat.mod_eq_of_lt (by omega)
  have R : Hid (LayPost p B (n + 16) (V * 2 ^ 16 + (57344 + x)) v w (.returned (.tuple #[])) w9) :=
    ⟨rfl, v9, bs9, r1, by rw [hx] at r2; simp only [Bool.toNat_true, Bool.toNat_false] at r2; refine cast (congrArg _ ?_) r2; omega, q3.trans q4 r3, q4.trans q3 r4⟩
  clear r1 r2 r3 r4 q1 q2 q3 q4 hx
  go_wp2_with fail
  go_end0
  exact R.out

set_option maxHeartbeats 1000000 in
theorem count_4 (x p B n V : Nat) (v : Value) (bs : List Nat) (w : World) (hw : Wr w p B v bs n) (hl : Laid bs n V) (hT : Tab w) (hp : p ≠ 0) (hn : n ≤ 8000000) (h0 : 4096 ≤ x) (h1 : x < 1048576) :
    Calls Tryz.prog 24 #[.pointer (some ⟨p, 0, none⟩), .int .u64 (x : Int)] w (LayPost p B (n + 25) (V * 2 ^ 25 + (31457280 + x)) v w) := by
  have q1 := hw
  have q2 := hl
  have q3 := Step.refl p v.ownBlock w
  have q4 := Own.refl v w
  go_enter Tryz.func24, Tryz.ntmps24
  go_wp2_with fail
  refine (class_4 x _ hT h0 h1).mono ?_
  rintro e w' ⟨rfl, rfl⟩
  go_wp2_with fail
  refine wp_loop_rounds 5 ?_
  rw [rounds_succ]
  go_wp2_with fail
  refine (bit_any true p B _ _ _ _ _ q1 q2 (by omega)).mono ?_
  rintro e w1 ⟨rfl, v1, bs1, r1, r2, r3, r4⟩
  have q4' := q4.trans q3 r4
  replace q3 := q3.trans q4 r3
  replace q4 := q4'
  replace q1 := r1
  replace q2 := r2
  clear r1 r2 r3 r4 q4'
  go_wp2_with fail
  rw [rounds_succ]
  go_wp2_with fail
  refine (bit_any true p B _ _ _ _ _ q1 q2 (by omega)).mono ?_
  rintro e w2 ⟨rfl, v2, bs2, r1, r2, r3, r4⟩
  have q4' := q4.trans q3 r4
  replace q3 := q3.trans q4 r3
  replace q4 := q4'
  replace q1 := r1
  replace q2 := r2
  clear r1 r2 r3 r4 q4'
  go_wp2_with fail
  rw [rounds_succ]
  go_wp2_with fail
  refine (bit_any true p B _ _ _ _ _ q1 q2 (by omega)).mono ?_
  rintro e w3 ⟨rfl, v3, bs3, r1, r2, r3, r4⟩
  have q4' := q4.trans q3 r4
  replace q3 := q3.trans q4 r3
  replace q4 := q4'
  replace q1 := r1
  replace q2 := r2
  clear r1 r2 r3 r4 q4'
  go_wp2_with fail
  rw [rounds_succ]
  go_wp2_with fail
  refine (bit_any true p B _ _ _ _ _ q1 q2 (by omega)).mono ?_
  rintro e w4 ⟨rfl, v4, bs4, r1, r2, r3, r4⟩
  have q4' := q4.trans q3 r4
  replace q3 := q3.trans q4 r3
  replace q4 := q4'
  replace q1 := r1
  replace q2 := r2
  clear r1 r2 r3 r4 q4'
  go_wp2_with fail
  rw [rounds_succ]
  go_wp2_with fail
  refine (bit_any false p B _ _ _ _ _ q1 q2 (by omega)).mono ?_
  rintro e w5 ⟨rfl, v5, bs5, r1, r2, r3, r4⟩
  have q4' := q4.trans q3 r4
  replace q3 := q3.trans q4 r3
  replace q4 := q4'
  replace q1 := r1
  replace q2 := r2
  clear r1 r2 r3 r4 q4'
  obtain ⟨t0, t1, t2, t3, t4, t5, t6⟩ := hT.step q3 hw.notZero.2 hp hw.notZero.1
  go_wp2_with fail
  refine (put_any x p B _ _ 20 _ _ _ q1 q2 (by decide) (by omega) (by omega)).mono ?_
  rintro e w9 ⟨rfl, v9, bs9, r1, r2, r3, r4⟩
  have hx : x % 2 ^ 20 = x := Nat.mod_eq_of_lt (by omega)
  have R : Hid (LayPost p B (n + 25) (V * 2 ^ 25 + (31457280 + x)) v w (.returned (.tuple #[])) w9) :=
    ⟨rfl, v9, bs9, r1, by rw [hx] at r2; simp only [Bool.toNat_true, Bool.toNat_false] at r2; refine cast (congrArg _ ?_) r2; omega, q3.trans q4 r3, q4.trans q3 r4⟩
  clear r1 r2 r3 r4 q1 q2 q3 q4 hx
  go_wp2_with fail
  go_end0
  exact R.out

set_option maxHeartbeats 1000000 in
theorem count_5 (x p B n V : Nat) (v : Value) (bs : List Nat) (w : World) (hw : Wr w p B v bs n) (hl : Laid bs n V) (hT : Tab w) (hp : p ≠ 0) (hn : n ≤ 8000000) (h0 : 1048576 ≤ x) (h1 : x < 4294967296) :
    Calls Tryz.prog 24 #[.pointer (some ⟨p, 0, none⟩), .int .u64 (x : Int)] w (LayPost p B (n + 38) (V * 2 ^ 38 + (266287972352 + x)) v w) := by
  have q1 := hw
  have q2 := hl
  have q3 := Step.refl p v.ownBlock w
  have q4 := Own.refl v w
  go_enter Tryz.func24, Tryz.ntmps24
  go_wp2_with fail
  refine (class_5 x _ hT h0 h1).mono ?_
  rintro e w' ⟨rfl, rfl⟩
  go_wp2_with fail
  refine wp_loop_rounds 6 ?_
  rw [rounds_succ]
  go_wp2_with fail
  refine (bit_any true p B _ _ _ _ _ q1 q2 (by omega)).mono ?_
  rintro e w1 ⟨rfl, v1, bs1, r1, r2, r3, r4⟩
  have q4' := q4.trans q3 r4
  replace q3 := q3.trans q4 r3
  replace q4 := q4'
  replace q1 := r1
  replace q2 := r2
  clear r1 r2 r3 r4 q4'
  go_wp2_with fail
  rw [rounds_succ]
  go_wp2_with fail
  refine (bit_any true p B _ _ _ _ _ q1 q2 (by omega)).mono ?_
  rintro e w2 ⟨rfl, v2, bs2, r1, r2, r3, r4⟩
  have q4' := q4.trans q3 r4
  replace q3 := q3.trans q4 r3
  replace q4 := q4'
  replace q1 := r1
  replace q2 := r2
  clear r1 r2 r3 r4 q4'
  go_wp2_with fail
  rw [rounds_succ]
  go_wp2_with fail
  refine (bit_any true p B _ _ _ _ _ q1 q2 (by omega)).mono ?_
  rintro e w3 ⟨rfl, v3, bs3, r1, r2, r3, r4⟩
  have q4' := q4.trans q3 r4
  replace q3 := q3.trans q4 r3
  replace q4 := q4'
  replace q1 := r1
  replace q2 := r2
  clear r1 r2 r3 r4 q4'
  go_wp2_with fail
  rw [rounds_succ]
  go_wp2_with fail
  refine (bit_any true p B _ _ _ _ _ q1 q2 (by omega)).mono ?_
  rintro e w4 ⟨rfl, v4, bs4, r1, r2, r3, r4⟩
  have q4' := q4.trans q3 r4
  replace q3 := q3.trans q4 r3
  replace q4 := q4'
  replace q1 := r1
  replace q2 := r2
  clear r1 r2 r3 r4 q4'
  go_wp2_with fail
  rw [rounds_succ]
  go_wp2_with fail
  refine (bit_any true p B _ _ _ _ _ q1 q2 (by omega)).mono ?_
  rintro e w5 ⟨rfl, v5, bs5, r1, r2, r3, r4⟩
  have q4' := q4.trans q3 r4
  replace q3 := q3.trans q4 r3
  replace q4 := q4'
  replace q1 := r1
  replace q2 := r2
  clear r1 r2 r3 r4 q4'
  go_wp2_with fail
  rw [rounds_succ]
  go_wp2_with fail
  refine (bit_any false p B _ _ _ _ _ q1 q2 (by omega)).mono ?_
  rintro e w6 ⟨rfl, v6, bs6, r1, r2, r3, r4⟩
  have q4' := q4.trans q3 r4
  replace q3 := q3.trans q4 r3
  replace q4 := q4'
  replace q1 := r1
  replace q2 := r2
  clear r1 r2 r3 r4 q4'
  obtain ⟨t0, t1, t2, t3, t4, t5, t6⟩ := hT.step q3 hw.notZero.2 hp hw.notZero.1
  go_wp2_with fail
  refine (put_any x p B _ _ 32 _ _ _ q1 q2 (by decide) (by omega) (by omega)).mono ?_
  rintro e w9 ⟨rfl, v9, bs9, r1, r2, r3, r4⟩
  have hx : x % 2 ^ 32 = x := Nat.mod_eq_of_lt (by omega)
  have R : Hid (LayPost p B (n + 38) (V * 2 ^ 38 + (266287972352 + x)) v w (.returned (.tuple #[])) w9) :=
    ⟨rfl, v9, bs9, r1, by rw [hx] at r2; simp only [Bool.toNat_true, Bool.toNat_false] at r2; refine cast (congrArg _ ?_) r2; omega, q3.trans q4 r3, q4.trans q3 r4⟩
  clear r1 r2 r3 r4 q1 q2 q3 q4 hx
  go_wp2_with fail
  go_end0
  exact R.out

set_option maxHeartbeats 1000000 in
theorem count_6 (x p B n V : Nat) (v : Value) (bs : List Nat) (w : World) (hw : Wr w p B v bs n) (hl : Laid bs n V) (hT : Tab w) (hp : p ≠ 0) (hn : n ≤ 8000000) (h0 : 4294967296 ≤ x) (h1 : x ≤ 18446744073709551615) :
    Calls Tryz.prog 24 #[.pointer (some ⟨p, 0, none⟩), .int .u64 (x : Int)] w (LayPost p B (n + 70) (V * 2 ^ 70 + (1162144876643701751808 + x)) v w) := by
  have q1 := hw
  have q2 := hl
  have q3 := Step.refl p v.ownBlock w
  have q4 := Own.refl v w
  go_enter Tryz.func24, Tryz.ntmps24
  go_wp2_with fail
  refine (class_6 x _ hT h0 h1).mono ?_
  rintro e w' ⟨rfl, rfl⟩
  go_wp2_with fail
  refine wp_loop_rounds 7 ?_
  rw [rounds_succ]
  go_wp2_with fail
  refine (bit_any true p B _ _ _ _ _ q1 q2 (by omega)).mono ?_
  rintro e w1 ⟨rfl, v1, bs1, r1, r2, r3, r4⟩
  have q4' := q4.trans q3 r4
  replace q3 := q3.trans q4 r3
  replace q4 := q4'
  replace q1 := r1
  replace q2 := r2
  clear r1 r2 r3 r4 q4'
  go_wp2_with fail
  rw [rounds_succ]
  go_wp2_with fail
  refine (bit_any true p B _ _ _ _ _ q1 q2 (by omega)).mono ?_
  rintro e w2 ⟨rfl, v2, bs2, r1, r2, r3, r4⟩
  have q4' := q4.trans q3 r4
  replace q3 := q3.trans q4 r3
  replace q4 := q4'
  replace q1 := r1
  replace q2 := r2
  clear r1 r2 r3 r4 q4'
  go_wp2_with fail
  rw [rounds_succ]
  go_wp2_with fail
  refine (bit_any true p B _ _ _ _ _ q1 q2 (by omega)).mono ?_
  rintro e w3 ⟨rfl, v3, bs3, r1, r2, r3, r4⟩
  have q4' := q4.trans q3 r4
  replace q3 := q3.trans q4 r3
  replace q4 := q4'
  replace q1 := r1
  replace q2 := r2
  clear r1 r2 r3 r4 q4'
  go_wp2_with fail
  rw [rounds_succ]
  go_wp2_with fail
  refine (bit_any true p B _ _ _ _ _ q1 q2 (by omega)).mono ?_
  rintro e w4 ⟨rfl, v4, bs4, r1, r2, r3, r4⟩
  have q4' := q4.trans q3 r4
  replace q3 := q3.trans q4 r3
  replace q4 := q4'
  replace q1 := r1
  replace q2 := r2
  clear r1 r2 r3 r4 q4'
  go_wp2_with fail
  rw [rounds_succ]
  go_wp2_with fail
  refine (bit_any true p B _ _ _ _ _ q1 q2 (by omega)).mono ?_
  rintro e w5 ⟨rfl, v5, bs5, r1, r2, r3, r4⟩
  have q4' := q4.trans q3 r4
  replace q3 := q3.trans q4 r3
  replace q4 := q4'
  replace q1 := r1
  replace q2 := r2
  clear r1 r2 r3 r4 q4'
  go_wp2_with fail
  rw [rounds_succ]
  go_wp2_with fail
  refine (bit_any true p B _ _ _ _ _ q1 q2 (by omega)).mono ?_
  rintro e w6 ⟨rfl, v6, bs6, r1, r2, r3, r4⟩
  have q4' := q4.trans q3 r4
  replace q3 := q3.trans q4 r3
  replace q4 := q4'
  replace q1 := r1
  replace q2 := r2
  clear r1 r2 r3 r4 q4'
  go_wp2_with fail
  rw [rounds_succ]
  obtain ⟨t0, t1, t2, t3, t4, t5, t6⟩ := hT.step q3 hw.notZero.2 hp hw.notZero.1
  go_wp2_with fail
  refine (put_any x p B _ _ 64 _ _ _ q1 q2 (by decide) (by omega) (by omega)).mono ?_
  rintro e w9 ⟨rfl, v9, bs9, r1, r2, r3, r4⟩
  have hx : x % 2 ^ 64 = x := Nat.mod_eq_of_lt (by omega)
  have R : Hid (LayPost p B (n + 70) (V * 2 ^ 70 + (1162144876643701751808 + x)) v w (.returned (.tuple #[])) w9) :=
    ⟨rfl, v9, bs9, r1, by rw [hx] at r2; simp only [Bool.toNat_true] at r2; refine cast (congrArg _ ?_) r2; omega, q3.trans q4 r3, q4.trans q3 r4⟩
  clear r1 r2 r3 r4 q1 q2 q3 q4 hx
  go_wp2_with fail
  go_end0
  exact R.out

/-- how many bits a count takes, and what they are as a number -/
def codeLen (x : Nat) : Nat := if x < 1 then 1 else if x < 8 then 5 else if x < 128 then 10 else if x < 4096 then 16 else if x < 1048576 then 25 else if x < 4294967296 then 38 else 70
def codeVal (x : Nat) : Nat := if x < 1 then 0 + x else if x < 8 then 16 + x else if x < 128 then 768 + x else if x < 4096 then 57344 + x else if x < 1048576 then 31457280 + x else if x < 4294967296 then 266287972352 + x else 1162144876643701751808 + x
theorem code_cases (x : Nat) : (0 ≤ x ∧ x < 1 ∧ codeLen x = 1 ∧ codeVal x = 0 + x) ∨ (1 ≤ x ∧ x < 8 ∧ codeLen x = 5 ∧ codeVal x = 16 + x) ∨ (8 ≤ x ∧ x < 128 ∧ codeLen x = 10 ∧ codeVal x = 768 + x) ∨ (128 ≤ x ∧ x < 4096 ∧ codeLen x = 16 ∧ codeVal x = 57344 + x) ∨ (4096 ≤ x ∧ x < 1048576 ∧ codeLen x = 25 ∧ codeVal x = 31457280 + x) ∨ (1048576 ≤ x ∧ x < 4294967296 ∧ codeLen x = 38 ∧ codeVal x = 266287972352 + x) ∨ (4294967296 ≤ x ∧  codeLen x = 70 ∧ codeVal x = 1162144876643701751808 + x) := by
  unfold codeLen codeVal
  by_cases h1 : x < 1
  · rw [if_pos h1, if_pos h1]; omega
  rw [if_neg h1, if_neg h1]
  by_cases h8 : x < 8
  · rw [if_pos h8, if_pos h8]; omega
  rw [if_neg h8, if_neg h8]
  by_cases h128 : x < 128
  · rw [if_pos h128, if_pos h128]; omega
  rw [if_neg h128, if_neg h128]
  by_cases h4096 : x < 4096
  · rw [if_pos h4096, if_pos h4096]; omega
  rw [if_neg h4096, if_neg h4096]
  by_cases h1048576 : x < 1048576
  · rw [if_pos h1048576, if_pos h1048576]; omega
  rw [if_neg h1048576, if_neg h1048576]
  by_cases h4294967296 : x < 4294967296
  · rw [if_pos h4294967296, if_pos h4294967296]; omega
  rw [if_neg h4294967296, if_neg h4294967296]
  omega
/-- THE CONTRACT OF Count. -/
theorem count_any (x p B n V : Nat) (v : Value) (bs : List Nat) (w : World) (hw : Wr w p B v bs n) (hl : Laid bs n V) (hT : Tab w) (hp : p ≠ 0) (hn : n ≤ 8000000) (hx : x ≤ 18446744073709551615) :
    Calls Tryz.prog 24 #[.pointer (some ⟨p, 0, none⟩), .int .u64 (x : Int)] w (LayPost p B (n + codeLen x) (V * 2 ^ codeLen x + codeVal x) v w) := by
  rcases code_cases x with ⟨h0, h1, e, f⟩ | ⟨h0, h1, e, f⟩ | ⟨h0, h1, e, f⟩ | ⟨h0, h1, e, f⟩ | ⟨h0, h1, e, f⟩ | ⟨h0, h1, e, f⟩ | ⟨h0, e, f⟩
  · rw [e, f]; exact count_0 x p B n V v bs w hw hl hT hp hn h0 h1
  · rw [e, f]; exact count_1 x p B n V v bs w hw hl hT hp hn h0 h1
  · rw [e, f]; exact count_2 x p B n V v bs w hw hl hT hp hn h0 h1
  · rw [e, f]; exact count_3 x p B n V v bs w hw hl hT hp hn h0 h1
  · rw [e, f]; exact count_4 x p B n V v bs w hw hl hT hp hn h0 h1
  · rw [e, f]; exact count_5 x p B n V v bs w hw hl hT hp hn h0 h1
  · rw [e, f]; exact count_6 x p B n V v bs w hw hl hT hp hn h0 hx
end Go.Proofs.YtakomfnajeolcaaGreatDoor.Bw


/- Contracts of a writer's Bytes and of the law's own comparison of bytes. -/
namespace Go.Proofs.YtakomfnajeolcaaGreatDoor.Bw
open Go.RowKit

/-- a slice's bytes, in a block of their own -/
def Bs (w : World) (r l : Nat) (bs : List Nat) : Prop := l = bs.length ∧ (∀ b ∈ bs, b < 256) ∧ ∀ (j : Nat) (b : Nat), bs[j]? = some b → w.cell? ⟨r, j, none⟩ = some (.int .u8 (b : Int))

theorem addr_zero_add (r j : Nat) : (⟨r, 0, none⟩ : Addr).add j = ⟨r, j, none⟩ := by
  unfold Addr.add
  split
  · subst_vars; rfl
  · simp
theorem clone_any (g l cap B : Nat) (bs : List Nat) (w : World) (hown : w.ownsRow B 5 1 (.slice (some ⟨g, 0, none⟩) l cap) l (cellsOf bs)) (h0 : 0 < l) (h1 : l ≤ 1000000) (h256 : ∀ b ∈ bs, b < 256) :
    Calls Tryz.prog 62 #[.slice (some ⟨g, 0, none⟩) l cap] w fun e w' => ∃ r c, e = .returned (.slice (some ⟨r, 0, none⟩) l c) ∧ Bs w' r l bs ∧ Below w.heap.size w w' := by
  obtain ⟨i0, hi, hz0, hz1, hz2⟩ := info_parts Tryz.info5
  have hlen : bs.length = l := by
    have := hown.1
    rw [cellsOf_length] at this
    omega
  have hnil := fun (w : World) => Lib.run_eql_slice_nil (P := Tryz.prog) w 26 5 (some ⟨g, 0, none⟩) l cap 0 0 Tryz.underlying26
  have OWN := Lib.hid hown
  have HL := Lib.hid hlen
  clear hown hlen
  go_enter Tryz.func62, Tryz.ntmps62
  go_wp2_with (at_builtin; refine wpList_append_grows _ rfl _ _ 26 rfl 5 i0 (.int .u8 0) 1 1 Tryz.underlying26 hi hz0 hz1 hz2 rfl (by decide) (some ⟨w.heap.size, 0, none⟩) 0 0 [] rfl (by simp) rfl (by simp) ⟨g, 0, none⟩ l cap (cellsOf bs) rfl ?c0 ?c1 ?c2 ?c3 ?c4 ?c5 ?_)
  case c0 => rw [cellsOf_length]; have := HL.out; omega
  case c1 => exact (OWN.out.alloc _).cells rfl
  case c2 => unfold cellsOf; simp [Value.oneCell']
  case c3 => omega
  case c4 => unfold maxLen; omega
  case c5 => omega
  intro v' w1 hown0 hgrow
  have hgr := grown_alloc hgrow
  have hb : Below w.heap.size w w1 := ⟨hgr.os, hgr.tape, hgr.output, hgr.size, fun k hk => hgr.block k hk (by simp)⟩
  have HB := Lib.hid hb
  have hform : ∃ r c, v' = .slice (some ⟨r, 0, none⟩) l c := by
    rcases hown0.2 with ⟨_, hz⟩ | ⟨r, c, cur, hv, _⟩
    · omega
    · exact ⟨r, c, hv⟩
  obtain ⟨r, c, rfl⟩ := hform
  have hBs : Bs w1 r l bs := by
    refine ⟨HL.out.symm, h256, fun j b hj => ?_⟩
    have := hown0.cells (g := r) rfl j (.int .u8 (b : Int)) (by unfold cellsOf; simp [hj])
    rw [addr_zero_add] at this
    exact this
  have HBS := Lib.hid hBs
  clear hown0 hgrow hgr hb hBs hnil h256
  go_wp2_with fail
  go_ret
  exact ⟨r, c, rfl, HBS.out, HB.out⟩

/-- are two slices' bytes the same? -/
def sameB (xs bs : List Nat) : Bool := decide (xs = bs)
theorem map_inj {xs bs : List Nat} (ha : ∀ b ∈ xs, b < 256) (hb : ∀ b ∈ bs, b < 256) (h : xs.map UInt8.ofNat = bs.map UInt8.ofNat) : xs = bs := by
  induction xs generalizing bs with
  | nil => cases bs with
    | nil => rfl
    | cons y l => simp at h
  | cons x k ih => cases bs with
    | nil => simp at h
    | cons y l =>
      simp only [List.map_cons, List.cons.injEq] at h
      obtain ⟨h1, h2⟩ := h
      have hx := ha x (by simp)
      have hy := hb y (by simp)
      have e : x = y := by
        have := congrArg UInt8.toNat h1
        simp at this
        omega
      rw [e, ih (fun b hm => ha b (by simp [hm])) (fun b hm => hb b (by simp [hm])) h2]
theorem toList_eq (xs bs : List Nat) (ha : ∀ b ∈ xs, b < 256) (hb : ∀ b ∈ bs, b < 256) :
    (xs.map UInt8.ofNat == bs.map UInt8.ofNat) = sameB xs bs := by
  unfold sameB
  by_cases h : xs = bs
  · subst h; simp
  · rw [decide_eq_false h, beq_eq_false_iff_ne]
    exact fun e => h (map_inj ha hb e)

end Go.Proofs.YtakomfnajeolcaaGreatDoor.Bw
