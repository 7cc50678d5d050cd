/- The contracts of a writer's Bit, Len and Count. -/
import Derived.Test.YtjnienlidmmhdaaGreatDoorBitsC
namespace Go.Proofs.YtjnienlidmmhdaaGreatDoor.Bw
open Go.RowKit

theorem Tab.step {p : Nat} {r : Option Nat} {w w' : World} (h : Tab w) (s : Step p r w w') (hz : 0 < w.heap.size) (hp : p ≠ 0) (hr : r ≠ some 0) : Tab w' := by
  have hb := s.block 0 hz (fun h => hp h.symm) hr
  have hc : ∀ j, w'.cell? ⟨0, j, none⟩ = w.cell? ⟨0, j, none⟩ := fun j => World.cell?_of_block hb
  unfold Tab
  rw [hc, hc, hc, hc, hc, hc, hc]
  exact h
theorem Wr.notZero {w : World} {p B n : Nat} {v : Value} {bs : List Nat} (h : Wr w p B v bs n) : v.ownBlock ≠ some 0 ∧ 0 < w.heap.size := by
  have h1 := h.pb
  have h2 := h.bw
  exact ⟨fun e => by have := (h.own.lt 0 e).1; omega, by omega⟩

theorem bit_any (b : Bool) (p B n V : Nat) (v : Value) (bs : List Nat) (w : World) (hw : Wr w p B v bs n) (hl : Laid bs n V) (hn : n ≤ 900000) :
    Calls Tryz.prog 103 #[.pointer (some ⟨p, 0, none⟩), .bool b] w (LayPost p B (n + 1) (V * 2 + b.toNat) v w) := by
  cases b
  · go_enter Tryz.func103, Tryz.ntmps103
    go_wp2_with fail
    refine (put_any 0 p B n V 1 v bs _ hw hl (by decide) (by decide) hn).mono ?_
    rintro e w' ⟨rfl, r⟩
    have R : Hid (LayPost p B (n + 1) (V * 2 + false.toNat) v w (.returned (.tuple #[])) w') := ⟨rfl, r⟩
    clear r
    go_wp2_with fail
    go_end0
    exact R.out
  · go_enter Tryz.func103, Tryz.ntmps103
    go_wp2_with fail
    refine (put_any 1 p B n V 1 v bs _ hw hl (by decide) (by decide) hn).mono ?_
    rintro e w' ⟨rfl, r⟩
    have R : Hid (LayPost p B (n + 1) (V * 2 + true.toNat) v w (.returned (.tuple #[])) w') := ⟨rfl, r⟩
    clear r
    go_wp2_with fail
    go_end0
    exact R.out

set_option maxHeartbeats 1000000 in
theorem count_0 (x p B n V : Nat) (v : Value) (bs : List Nat) (w : World) (hw : Wr w p B v bs n) (hl : Laid bs n V) (hT : Tab w) (hp : p ≠ 0) (hn : n ≤ 800000) (h0 : 0 ≤ x) (h1 : x < 1) :
    Calls Tryz.prog 49 #[.pointer (some ⟨p, 0, none⟩), .int .u64 (x : Int)] w (LayPost p B (n + 1) (V * 2 ^ 1 + (0 + x)) v w) := by
  have q1 := hw
  have q2 := hl
  have q3 := Step.refl p v.ownBlock w
  have q4 := Own.refl v w
  go_enter Tryz.func49, Tryz.ntmps49
  go_wp2_with fail
  refine (class_0 x _ hT h0 h1).mono ?_
  rintro e w' ⟨rfl, rfl⟩
  go_wp2_with fail
  refine wp_loop_rounds 1 ?_
  rw [rounds_succ]
  go_wp2_with fail
  refine (bit_any false p B _ _ _ _ _ q1 q2 (by omega)).mono ?_
  rintro e w1 ⟨rfl, v1, bs1, r1, r2, r3, r4⟩
  have q4' := q4.trans q3 r4
  replace q3 := q3.trans q4 r3
  replace q4 := q4'
  replace q1 := r1
  replace q2 := r2
  clear r1 r2 r3 r4 q4'
  obtain ⟨t0, t1, t2, t3, t4, t5, t6⟩ := hT.step q3 hw.notZero.2 hp hw.notZero.1
  go_wp2_with fail
  refine (put_any x p B _ _ 0 _ _ _ q1 q2 (by decide) (by omega) (by omega)).mono ?_
  rintro e w9 ⟨rfl, v9, bs9, r1, r2, r3, r4⟩
  have hx : x % 2 ^ 0 = x := Nat.mod_eq_of_lt (by omega)
  have R : Hid (LayPost p B (n + 1) (V * 2 ^ 1 + (0 + x)) v w (.returned (.tuple #[])) w9) :=
    ⟨rfl, v9, bs9, r1, by rw [hx] at r2; simp only [Bool.toNat_false] at r2; refine cast (congrArg _ ?_) r2; omega, q3.trans q4 r3, q4.trans q3 r4⟩
  clear r1 r2 r3 r4 q1 q2 q3 q4 hx
  go_wp2_with fail
  go_end0
  exact R.out

set_option maxHeartbeats 1000000 in
theorem count_1 (x p B n V : Nat) (v : Value) (bs : List Nat) (w : World) (hw : Wr w p B v bs n) (hl : Laid bs n V) (hT : Tab w) (hp : p ≠ 0) (hn : n ≤ 800000) (h0 : 1 ≤ x) (h1 : x < 8) :
    Calls Tryz.prog 49 #[.pointer (some ⟨p, 0, none⟩), .int .u64 (x : Int)] w (LayPost p B (n + 5) (V * 2 ^ 5 + (16 + x)) v w) := by
  have q1 := hw
  have q2 := hl
  have q3 := Step.refl p v.ownBlock w
  have q4 := Own.refl v w
  go_enter Tryz.func49, Tryz.ntmps49
  go_wp2_with fail
  refine (class_1 x _ hT h0 h1).mono ?_
  rintro e w' ⟨rfl, rfl⟩
  go_wp2_with fail
  refine wp_loop_rounds 2 ?_
  rw [rounds_succ]
  go_wp2_with fail
  refine (bit_any true p B _ _ _ _ _ q1 q2 (by omega)).mono ?_
  rintro e w1 ⟨rfl, v1, bs1, r1, r2, r3, r4⟩
  have q4' := q4.trans q3 r4
  replace q3 := q3.trans q4 r3
  replace q4 := q4'
  replace q1 := r1
  replace q2 := r2
  clear r1 r2 r3 r4 q4'
  go_wp2_with fail
  rw [rounds_succ]
  go_wp2_with fail
  refine (bit_any false p B _ _ _ _ _ q1 q2 (by omega)).mono ?_
  rintro e w2 ⟨rfl, v2, bs2, r1, r2, r3, r4⟩
  have q4' := q4.trans q3 r4
  replace q3 := q3.trans q4 r3
  replace q4 := q4'
  replace q1 := r1
  replace q2 := r2
  clear r1 r2 r3 r4 q4'
  obtain ⟨t0, t1, t2, t3, t4, t5, t6⟩ := hT.step q3 hw.notZero.2 hp hw.notZero.1
  go_wp2_with fail
  refine (put_any x p B _ _ 3 _ _ _ q1 q2 (by decide) (by omega) (by omega)).mono ?_
  rintro e w9 ⟨rfl, v9, bs9, r1, r2, r3, r4⟩
  have hx : x % 2 ^ 3 = x := Nat.mod_eq_of_lt (by omega)
  have R : Hid (LayPost p B (n + 5) (V * 2 ^ 5 + (16 + x)) v w (.returned (.tuple #[])) w9) :=
    ⟨rfl, v9, bs9, r1, by rw [hx] at r2; simp only [Bool.toNat_true, Bool.toNat_false] at r2; refine cast (congrArg _ ?_) r2; omega, q3.trans q4 r3, q4.trans q3 r4⟩
  clear r1 r2 r3 r4 q1 q2 q3 q4 hx
  go_wp2_with fail
  go_end0
  exact R.out

set_option maxHeartbeats 1000000 in
theorem count_2 (x p B n V : Nat) (v : Value) (bs : List Nat) (w : World) (hw : Wr w p B v bs n) (hl : Laid bs n V) (hT : Tab w) (hp : p ≠ 0) (hn : n ≤ 800000) (h0 : 8 ≤ x) (h1 : x < 128) :
    Calls Tryz.prog 49 #[.pointer (some ⟨p, 0, none⟩), .int .u64 (x : Int)] w (LayPost p B (n + 10) (V * 2 ^ 10 + (768 + x)) v w) := by
  have q1 := hw
  have q2 := hl
  have q3 := Step.refl p v.ownBlock w
  have q4 := Own.refl v w
  go_enter Tryz.func49, Tryz.ntmps49
  go_wp2_with fail
  refine (class_2 x _ hT h0 h1).mono ?_
  rintro e w' ⟨rfl, rfl⟩
  go_wp2_with fail
  refine wp_loop_rounds 3 ?_
  rw [rounds_succ]
  go_wp2_with fail
  refine (bit_any true p B _ _ _ _ _ q1 q2 (by omega)).mono ?_
  rintro e w1 ⟨rfl, v1, bs1, r1, r2, r3, r4⟩
  have q4' := q4.trans q3 r4
  replace q3 := q3.trans q4 r3
  replace q4 := q4'
  replace q1 := r1
  replace q2 := r2
  clear r1 r2 r3 r4 q4'
  go_wp2_with fail
  rw [rounds_succ]
  go_wp2_with fail
  refine (bit_any true p B _ _ _ _ _ q1 q2 (by omega)).mono ?_
  rintro e w2 ⟨rfl, v2, bs2, r1, r2, r3, r4⟩
  have q4' := q4.trans q3 r4
  replace q3 := q3.trans q4 r3
  replace q4 := q4'
  replace q1 := r1
  replace q2 := r2
  clear r1 r2 r3 r4 q4'
  go_wp2_with fail
  rw [rounds_succ]
  go_wp2_with fail
  refine (bit_any false p B _ _ _ _ _ q1 q2 (by omega)).mono ?_
  rintro e w3 ⟨rfl, v3, bs3, r1, r2, r3, r4⟩
  have q4' := q4.trans q3 r4
  replace q3 := q3.trans q4 r3
  replace q4 := q4'
  replace q1 := r1
  replace q2 := r2
  clear r1 r2 r3 r4 q4'
  obtain ⟨t0, t1, t2, t3, t4, t5, t6⟩ := hT.step q3 hw.notZero.2 hp hw.notZero.1
  go_wp2_with fail
  refine (put_any x p B _ _ 7 _ _ _ q1 q2 (by decide) (by omega) (by omega)).mono ?_
  rintro e w9 ⟨rfl, v9, bs9, r1, r2, r3, r4⟩
  have hx : x % 2 ^ 7 = x := Nat.mod_eq_of_lt (by omega)
  have R : Hid (LayPost p B (n + 10) (V * 2 ^ 10 + (768 + x)) v w (.returned (.tuple #[])) w9) :=
    ⟨rfl, v9, bs9, r1, by rw [hx] at r2; simp only [Bool.toNat_true, Bool.toNat_false] at r2; refine cast (congrArg _ ?_) r2; omega, q3.trans q4 r3, q4.trans q3 r4⟩
  clear r1 r2 r3 r4 q1 q2 q3 q4 hx
  go_wp2_with fail
  go_end0
  exact R.out

set_option maxHeartbeats 1000000 in
theorem count_3 (x p B n V : Nat) (v : Value) (bs : List Nat) (w : World) (hw : Wr w p B v bs n) (hl : Laid bs n V) (hT : Tab w) (hp : p ≠ 0) (hn : n ≤ 800000) (h0 : 128 ≤ x) (h1 : x < 4096) :
    Calls Tryz.prog 49 #[.pointer (some ⟨p, 0, none⟩), .int .u64 (x : Int)] w (LayPost p B (n + 16) (V * 2 ^ 16 + (57344 + x)) v w) := by
  have q1 := hw
  have q2 := hl
  have q3 := Step.refl p v.ownBlock w
  have q4 := Own.refl v w
  go_enter Tryz.func49, Tryz.ntmps49
  go_wp2_with fail
  refine (class_3 x _ hT h0 h1).mono ?_
  rintro e w' ⟨rfl, rfl⟩
  go_wp2_with fail
  refine wp_loop_rounds 4 ?_
  rw [rounds_succ]
  go_wp2_with fail
  refine (bit_any true p B _ _ _ _ _ q1 q2 (by omega)).mono ?_
  rintro e w1 ⟨rfl, v1, bs1, r1, r2, r3, r4⟩
  have q4' := q4.trans q3 r4
  replace q3 := q3.trans q4 r3
  replace q4 := q4'
  replace q1 := r1
  replace q2 := r2
  clear r1 r2 r3 r4 q4'
  go_wp2_with fail
  rw [rounds_succ]
  go_wp2_with fail
  refine (bit_any true p B _ _ _ _ _ q1 q2 (by omega)).mono ?_
  rintro e w2 ⟨rfl, v2, bs2, r1, r2, r3, r4⟩
  have q4' := q4.trans q3 r4
  replace q3 := q3.trans q4 r3
  replace q4 := q4'
  replace q1 := r1
  replace q2 := r2
  clear r1 r2 r3 r4 q4'
  go_wp2_with fail
  rw [rounds_succ]
  go_wp2_with fail
  refine (bit_any true p B _ _ _ _ _ q1 q2 (by omega)).mono ?_
  rintro e w3 ⟨rfl, v3, bs3, r1, r2, r3, r4⟩
  have q4' := q4.trans q3 r4
  replace q3 := q3.trans q4 r3
  replace q4 := q4'
  replace q1 := r1
  replace q2 := r2
  clear r1 r2 r3 r4 q4'
  go_wp2_with fail
  rw [rounds_succ]
  go_wp2_with fail
  refine (bit_any false p B _ _ _ _ _ q1 q2 (by omega)).mono ?_
  rintro e w4 ⟨rfl, v4, bs4, r1, r2, r3, r4⟩
  have q4' := q4.trans q3 r4
  replace q3 := q3.trans q4 r3
  replace q4 := q4'
  replace q1 := r1
  replace q2 := r2
  clear r1 r2 r3 r4 q4'
  obtain ⟨t0, t1, t2, t3, t4, t5, t6⟩ := hT.step q3 hw.notZero.2 hp hw.notZero.1
  go_wp2_with fail
  refine (put_any x p B _ _ 12 _ _ _ q1 q2 (by decide) (by omega) (by omega)).mono ?_
  rintro e w9 ⟨rfl, v9, bs9, r1, r2, r3, r4⟩
  have hx : x % 2 ^ 12 = x := Nat.mod_eq_of_lt (by omega)
  have R : Hid (LayPost p B (n + 16) (V * 2 ^ 16 + (57344 + x)) v w (.returned (.tuple #[])) w9) :=
    ⟨rfl, v9, bs9, r1, by rw [hx] at r2; simp only [Bool.toNat_true, Bool.toNat_false] at r2; refine cast (congrArg _ ?_) r2; omega, q3.trans q4 r3, q4.trans q3 r4⟩
  clear r1 r2 r3 r4 q1 q2 q3 q4 hx
  go_wp2_with fail
  go_end0
  exact R.out

set_option maxHeartbeats 1000000 in
theorem count_4 (x p B n V : Nat) (v : Value) (bs : List Nat) (w : World) (hw : Wr w p B v bs n) (hl : Laid bs n V) (hT : Tab w) (hp : p ≠ 0) (hn : n ≤ 800000) (h0 : 4096 ≤ x) (h1 : x < 1048576) :
    Calls Tryz.prog 49 #[.pointer (some ⟨p, 0, none⟩), .int .u64 (x : Int)] w (LayPost p B (n + 25) (V * 2 ^ 25 + (31457280 + x)) v w) := by
  have q1 := hw
  have q2 := hl
  have q3 := Step.refl p v.ownBlock w
  have q4 := Own.refl v w
  go_enter Tryz.func49, Tryz.ntmps49
  go_wp2_with fail
  refine (class_4 x _ hT h0 h1).mono ?_
  rintro e w' ⟨rfl, rfl⟩
  go_wp2_with fail
  refine wp_loop_rounds 5 ?_
  rw [rounds_succ]
  go_wp2_with fail
  refine (bit_any true p B _ _ _ _ _ q1 q2 (by omega)).mono ?_
  rintro e w1 ⟨rfl, v1, bs1, r1, r2, r3, r4⟩
  have q4' := q4.trans q3 r4
  replace q3 := q3.trans q4 r3
  replace q4 := q4'
  replace q1 := r1
  replace q2 := r2
  clear r1 r2 r3 r4 q4'
  go_wp2_with fail
  rw [rounds_succ]
  go_wp2_with fail
  refine (bit_any true p B _ _ _ _ _ q1 q2 (by omega)).mono ?_
  rintro e w2 ⟨rfl, v2, bs2, r1, r2, r3, r4⟩
  have q4' := q4.trans q3 r4
  replace q3 := q3.trans q4 r3
  replace q4 := q4'
  replace q1 := r1
  replace q2 := r2
  clear r1 r2 r3 r4 q4'
  go_wp2_with fail
  rw [rounds_succ]
  go_wp2_with fail
  refine (bit_any true p B _ _ _ _ _ q1 q2 (by omega)).mono ?_
  rintro e w3 ⟨rfl, v3, bs3, r1, r2, r3, r4⟩
  have q4' := q4.trans q3 r4
  replace q3 := q3.trans q4 r3
  replace q4 := q4'
  replace q1 := r1
  replace q2 := r2
  clear r1 r2 r3 r4 q4'
  go_wp2_with fail
  rw [rounds_succ]
  go_wp2_with fail
  refine (bit_any true p B _ _ _ _ _ q1 q2 (by omega)).mono ?_
  rintro e w4 ⟨rfl, v4, bs4, r1, r2, r3, r4⟩
  have q4' := q4.trans q3 r4
  replace q3 := q3.trans q4 r3
  replace q4 := q4'
  replace q1 := r1
  replace q2 := r2
  clear r1 r2 r3 r4 q4'
  go_wp2_with fail
  rw [rounds_succ]
  go_wp2_with fail
  refine (bit_any false p B _ _ _ _ _ q1 q2 (by omega)).mono ?_
  rintro e w5 ⟨rfl, v5, bs5, r1, r2, r3, r4⟩
  have q4' := q4.trans q3 r4
  replace q3 := q3.trans q4 r3
  replace q4 := q4'
  replace q1 := r1
  replace q2 := r2
  clear r1 r2 r3 r4 q4'
  obtain ⟨t0, t1, t2, t3, t4, t5, t6⟩ := hT.step q3 hw.notZero.2 hp hw.notZero.1
  go_wp2_with fail
  refine (put_any x p B _ _ 20 _ _ _ q1 q2 (by decide) (by omega) (by omega)).mono ?_
  rintro e w9 ⟨rfl, v9, bs9, r1, r2, r3, r4⟩
  have hx : x % 2 ^ 20 = x := Nat.mod_eq_of_lt (by omega)
  have R : Hid (LayPost p B (n + 25) (V * 2 ^ 25 + (31457280 + x)) v w (.returned (.tuple #[])) w9) :=
    ⟨rfl, v9, bs9, r1, by rw [hx] at r2; simp only [Bool.toNat_true, Bool.toNat_false] at r2; refine cast (congrArg _ ?_) r2; omega, q3.trans q4 r3, q4.trans q3 r4⟩
  clear r1 r2 r3 r4 q1 q2 q3 q4 hx
  go_wp2_with fail
  go_end0
  exact R.out

set_option maxHeartbeats 1000000 in
theorem count_5 (x p B n V : Nat) (v : Value) (bs : List Nat) (w : World) (hw : Wr w p B v bs n) (hl : Laid bs n V) (hT : Tab w) (hp : p ≠ 0) (hn : n ≤ 800000) (h0 : 1048576 ≤ x) (h1 : x < 4294967296) :
    Calls Tryz.prog 49 #[.pointer (some ⟨p, 0, none⟩), .int .u64 (x : Int)] w (LayPost p B (n + 38) (V * 2 ^ 38 + (266287972352 + x)) v w) := by
  have q1 := hw
  have q2 := hl
  have q3 := Step.refl p v.ownBlock w
  have q4 := Own.refl v w
  go_enter Tryz.func49, Tryz.ntmps49
  go_wp2_with fail
  refine (class_5 x _ hT h0 h1).mono ?_
  rintro e w' ⟨rfl, rfl⟩
  go_wp2_with fail
  refine wp_loop_rounds 6 ?_
  rw [rounds_succ]
  go_wp2_with fail
  refine (bit_any true p B _ _ _ _ _ q1 q2 (by omega)).mono ?_
  rintro e w1 ⟨rfl, v1, bs1, r1, r2, r3, r4⟩
  have q4' := q4.trans q3 r4
  replace q3 := q3.trans q4 r3
  replace q4 := q4'
  replace q1 := r1
  replace q2 := r2
  clear r1 r2 r3 r4 q4'
  go_wp2_with fail
  rw [rounds_succ]
  go_wp2_with fail
  refine (bit_any true p B _ _ _ _ _ q1 q2 (by omega)).mono ?_
  rintro e w2 ⟨rfl, v2, bs2, r1, r2, r3, r4⟩
  have q4' := q4.trans q3 r4
  replace q3 := q3.trans q4 r3
  replace q4 := q4'
  replace q1 := r1
  replace q2 := r2
  clear r1 r2 r3 r4 q4'
  go_wp2_with fail
  rw [rounds_succ]
  go_wp2_with fail
  refine (bit_any true p B _ _ _ _ _ q1 q2 (by omega)).mono ?_
  rintro e w3 ⟨rfl, v3, bs3, r1, r2, r3, r4⟩
  have q4' := q4.trans q3 r4
  replace q3 := q3.trans q4 r3
  replace q4 := q4'
  replace q1 := r1
  replace q2 := r2
  clear r1 r2 r3 r4 q4'
  go_wp2_with fail
  rw [rounds_succ]
  go_wp2_with fail
  refine (bit_any true p B _ _ _ _ _ q1 q2 (by omega)).mono ?_
  rintro e w4 ⟨rfl, v4, bs4, r1, r2, r3, r4⟩
  have q4' := q4.trans q3 r4
  replace q3 := q3.trans q4 r3
  replace q4 := q4'
  replace q1 := r1
  replace q2 := r2
  clear r1 r2 r3 r4 q4'
  go_wp2_with fail
  rw [rounds_succ]
  go_wp2_with fail
  refine (bit_any true p B _ _ _ _ _ q1 q2 (by omega)).mono ?_
  rintro e w5 ⟨rfl, v5, bs5, r1, r2, r3, r4⟩
  have q4' := q4.trans q3 r4
  replace q3 := q3.trans q4 r3
  replace q4 := q4'
  replace q1 := r1
  replace q2 := r2
  clear r1 r2 r3 r4 q4'
  go_wp2_with fail
  rw [rounds_succ]
  go_wp2_with fail
  refine (bit_any false p B _ _ _ _ _ q1 q2 (by omega)).mono ?_
  rintro e w6 ⟨rfl, v6, bs6, r1, r2, r3, r4⟩
  have q4' := q4.trans q3 r4
  replace q3 := q3.trans q4 r3
  replace q4 := q4'
  replace q1 := r1
  replace q2 := r2
  clear r1 r2 r3 r4 q4'
  obtain ⟨t0, t1, t2, t3, t4, t5, t6⟩ := hT.step q3 hw.notZero.2 hp hw.notZero.1
  go_wp2_with fail
  refine (put_any x p B _ _ 32 _ _ _ q1 q2 (by decide) (by omega) (by omega)).mono ?_
  rintro e w9 ⟨rfl, v9, bs9, r1, r2, r3, r4⟩
  have hx : x % 2 ^ 32 = x := Nat.mod_eq_of_lt (by omega)
  have R : Hid (LayPost p B (n + 38) (V * 2 ^ 38 + (266287972352 + x)) v w (.returned (.tuple #[])) w9) :=
    ⟨rfl, v9, bs9, r1, by rw [hx] at r2; simp only [Bool.toNat_true, Bool.toNat_false] at r2; refine cast (congrArg _ ?_) r2; omega, q3.trans q4 r3, q4.trans q3 r4⟩
  clear r1 r2 r3 r4 q1 q2 q3 q4 hx
  go_wp2_with fail
  go_end0
  exact R.out

set_option maxHeartbeats 1000000 in
theorem count_6 (x p B n V : Nat) (v : Value) (bs : List Nat) (w : World) (hw : Wr w p B v bs n) (hl : Laid bs n V) (hT : Tab w) (hp : p ≠ 0) (hn : n ≤ 800000) (h0 : 4294967296 ≤ x) (h1 : x ≤ 18446744073709551615) :
    Calls Tryz.prog 49 #[.pointer (some ⟨p, 0, none⟩), .int .u64 (x : Int)] w (LayPost p B (n + 70) (V * 2 ^ 70 + (1162144876643701751808 + x)) v w) := by
  have q1 := hw
  have q2 := hl
  have q3 := Step.refl p v.ownBlock w
  have q4 := Own.refl v w
  go_enter Tryz.func49, Tryz.ntmps49
  go_wp2_with fail
  refine (class_6 x _ hT h0 h1).mono ?_
  rintro e w' ⟨rfl, rfl⟩
  go_wp2_with fail
  refine wp_loop_rounds 7 ?_
  rw [rounds_succ]
  go_wp2_with fail
  refine (bit_any true p B _ _ _ _ _ q1 q2 (by omega)).mono ?_
  rintro e w1 ⟨rfl, v1, bs1, r1, r2, r3, r4⟩
  have q4' := q4.trans q3 r4
  replace q3 := q3.trans q4 r3
  replace q4 := q4'
  replace q1 := r1
  replace q2 := r2
  clear r1 r2 r3 r4 q4'
  go_wp2_with fail
  rw [rounds_succ]
  go_wp2_with fail
  refine (bit_any true p B _ _ _ _ _ q1 q2 (by omega)).mono ?_
  rintro e w2 ⟨rfl, v2, bs2, r1, r2, r3, r4⟩
  have q4' := q4.trans q3 r4
  replace q3 := q3.trans q4 r3
  replace q4 := q4'
  replace q1 := r1
  replace q2 := r2
  clear r1 r2 r3 r4 q4'
  go_wp2_with fail
  rw [rounds_succ]
  go_wp2_with fail
  refine (bit_any true p B _ _ _ _ _ q1 q2 (by omega)).mono ?_
  rintro e w3 ⟨rfl, v3, bs3, r1, r2, r3, r4⟩
  have q4' := q4.trans q3 r4
  replace q3 := q3.trans q4 r3
  replace q4 := q4'
  replace q1 := r1
  replace q2 := r2
  clear r1 r2 r3 r4 q4'
  go_wp2_with fail
  rw [rounds_succ]
  go_wp2_with fail
  refine (bit_any true p B _ _ _ _ _ q1 q2 (by omega)).mono ?_
  rintro e w4 ⟨rfl, v4, bs4, r1, r2, r3, r4⟩
  have q4' := q4.trans q3 r4
  replace q3 := q3.trans q4 r3
  replace q4 := q4'
  replace q1 := r1
  replace q2 := r2
  clear r1 r2 r3 r4 q4'
  go_wp2_with fail
  rw [rounds_succ]
  go_wp2_with fail
  refine (bit_any true p B _ _ _ _ _ q1 q2 (by omega)).mono ?_
  rintro e w5 ⟨rfl, v5, bs5, r1, r2, r3, r4⟩
  have q4' := q4.trans q3 r4
  replace q3 := q3.trans q4 r3
  replace q4 := q4'
  replace q1 := r1
  replace q2 := r2
  clear r1 r2 r3 r4 q4'
  go_wp2_with fail
  rw [rounds_succ]
  go_wp2_with fail
  refine (bit_any true p B _ _ _ _ _ q1 q2 (by omega)).mono ?_
  rintro e w6 ⟨rfl, v6, bs6, r1, r2, r3, r4⟩
  have q4' := q4.trans q3 r4
  replace q3 := q3.trans q4 r3
  replace q4 := q4'
  replace q1 := r1
  replace q2 := r2
  clear r1 r2 r3 r4 q4'
  go_wp2_with fail
  rw [rounds_succ]
  obtain ⟨t0, t1, t2, t3, t4, t5, t6⟩ := hT.step q3 hw.notZero.2 hp hw.notZero.1
  go_wp2_with fail
  refine (put_any x p B _ _ 64 _ _ _ q1 q2 (by decide) (by omega) (by omega)).mono ?_
  rintro e w9 ⟨rfl, v9, bs9, r1, r2, r3, r4⟩
  have hx : x % 2 ^ 64 = x := Nat.mod_eq_of_lt (by omega)
  have R : Hid (LayPost p B (n + 70) (V * 2 ^ 70 + (1162144876643701751808 + x)) v w (.returned (.tuple #[])) w9) :=
    ⟨rfl, v9, bs9, r1, by rw [hx] at r2; simp only [Bool.toNat_true] at r2; refine cast (congrArg _ ?_) r2; omega, q3.trans q4 r3, q4.trans q3 r4⟩
  clear r1 r2 r3 r4 q1 q2 q3 q4 hx
  go_wp2_with fail
  go_end0
  exact R.out

/-- how many bits a count takes, and what they are as a number -/
def codeLen (x : Nat) : Nat := if x < 1 then 1 else if x < 8 then 5 else if x < 128 then 10 else if x < 4096 then 16 else if x < 1048576 then 25 else if x < 4294967296 then 38 else 70
def codeVal (x : Nat) : Nat := if x < 1 then 0 + x else if x < 8 then 16 + x else if x < 128 then 768 + x else if x < 4096 then 57344 + x else if x < 1048576 then 31457280 + x else if x < 4294967296 then 266287972352 + x else 1162144876643701751808 + x
theorem code_cases (x : Nat) : (0 ≤ x ∧ x < 1 ∧ codeLen x = 1 ∧ codeVal x = 0 + x) ∨ (1 ≤ x ∧ x < 8 ∧ codeLen x = 5 ∧ codeVal x = 16 + x) ∨ (8 ≤ x ∧ x < 128 ∧ codeLen x = 10 ∧ codeVal x = 768 + x) ∨ (128 ≤ x ∧ x < 4096 ∧ codeLen x = 16 ∧ codeVal x = 57344 + x) ∨ (4096 ≤ x ∧ x < 1048576 ∧ codeLen x = 25 ∧ codeVal x = 31457280 + x) ∨ (1048576 ≤ x ∧ x < 4294967296 ∧ codeLen x = 38 ∧ codeVal x = 266287972352 + x) ∨ (4294967296 ≤ x ∧  codeLen x = 70 ∧ codeVal x = 1162144876643701751808 + x) := by
  unfold codeLen codeVal
  by_cases h1 : x < 1
  · rw [if_pos h1, if_pos h1]; omega
  rw [if_neg h1, if_neg h1]
  by_cases h8 : x < 8
  · rw [if_pos h8, if_pos h8]; omega
  rw [if_neg h8, if_neg h8]
  by_cases h128 : x < 128
  · rw [if_pos h128, if_pos h128]; omega
  rw [if_neg h128, if_neg h128]
  by_cases h4096 : x < 4096
  · rw [if_pos h4096, if_pos h4096]; omega
  rw [if_neg h4096, if_neg h4096]
  by_cases h1048576 : x < 1048576
  · rw [if_pos h1048576, if_pos h1048576]; omega
  rw [if_neg h1048576, if_neg h1048576]
  by_cases h4294967296 : x < 4294967296
  · rw [if_pos h4294967296, if_pos h4294967296]; omega
  rw [if_neg h4294967296, if_neg h4294967296]
  omega
theorem code_inj {a b : Nat} (h : codeLen a = codeLen b) (g : codeVal a = codeVal b) : a = b := by
  have ha := code_cases a
  have hb := code_cases b
  rcases ha with ⟨_, _, e, f⟩ | ⟨_, _, e, f⟩ | ⟨_, _, e, f⟩ | ⟨_, _, e, f⟩ | ⟨_, _, e, f⟩ | ⟨_, _, e, f⟩ | ⟨_, e, f⟩ <;>
    rcases hb with ⟨_, _, e', f'⟩ | ⟨_, _, e', f'⟩ | ⟨_, _, e', f'⟩ | ⟨_, _, e', f'⟩ | ⟨_, _, e', f'⟩ | ⟨_, _, e', f'⟩ | ⟨_, e', f'⟩ <;> omega
theorem code_mono {a b : Nat} (h : a ≤ b) : codeLen a ≤ codeLen b := by
  unfold codeLen
  repeat' split
  all_goals omega
theorem codeLen_le (a : Nat) : codeLen a ≤ 70 := by
  unfold codeLen
  repeat' split
  all_goals omega

/-- THE CONTRACT OF Count. -/
theorem count_any (x p B n V : Nat) (v : Value) (bs : List Nat) (w : World) (hw : Wr w p B v bs n) (hl : Laid bs n V) (hT : Tab w) (hp : p ≠ 0) (hn : n ≤ 800000) (hx : x ≤ 18446744073709551615) :
    Calls Tryz.prog 49 #[.pointer (some ⟨p, 0, none⟩), .int .u64 (x : Int)] w (LayPost p B (n + codeLen x) (V * 2 ^ codeLen x + codeVal x) v w) := by
  rcases code_cases x with ⟨h0, h1, e, f⟩ | ⟨h0, h1, e, f⟩ | ⟨h0, h1, e, f⟩ | ⟨h0, h1, e, f⟩ | ⟨h0, h1, e, f⟩ | ⟨h0, h1, e, f⟩ | ⟨h0, e, f⟩
  · rw [e, f]; exact count_0 x p B n V v bs w hw hl hT hp hn h0 h1
  · rw [e, f]; exact count_1 x p B n V v bs w hw hl hT hp hn h0 h1
  · rw [e, f]; exact count_2 x p B n V v bs w hw hl hT hp hn h0 h1
  · rw [e, f]; exact count_3 x p B n V v bs w hw hl hT hp hn h0 h1
  · rw [e, f]; exact count_4 x p B n V v bs w hw hl hT hp hn h0 h1
  · rw [e, f]; exact count_5 x p B n V v bs w hw hl hT hp hn h0 h1
  · rw [e, f]; exact count_6 x p B n V v bs w hw hl hT hp hn h0 hx
end Go.Proofs.YtjnienlidmmhdaaGreatDoor.Bw
