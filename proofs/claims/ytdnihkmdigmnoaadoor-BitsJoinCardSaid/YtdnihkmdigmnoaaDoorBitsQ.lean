/- The contracts of a reader's Bit, class and Count: what was laid as a count is taken as it was. -/
import Derived.Test.YtdnihkmdigmnoaaDoorBitsR
namespace Go.Proofs.YtdnihkmdigmnoaaDoor
open Go.RowKit

theorem mod_div (y L e k : Nat) (h : e + k ≤ L) : y % 2 ^ L / 2 ^ e % 2 ^ k = y / 2 ^ e % 2 ^ k := by
  have e1 : (2 : Nat) ^ L = 2 ^ e * 2 ^ (L - e) := by rw [← Nat.pow_add, show e + (L - e) = L by omega]
  rw [e1, Nat.mod_mul_right_div_self, Nat.mod_mod_of_dvd]
  exact Nat.pow_dvd_pow 2 (by omega)
theorem part_sub (bs : List Nat) (t L i k : Nat) (hik : i + k ≤ L) (ht : t + L ≤ 8 * bs.length) : part bs (t + i) k = part bs t L / 2 ^ (L - i - k) % 2 ^ k := by
  unfold part
  rw [mod_div _ L (L - i - k) k (by omega), Nat.div_div_eq_div_mul, ← Nat.pow_add]
  congr 3
  omega

theorem rbit_any (b : Bool) (q r l c t : Nat) (bs : List Nat) (w : World) (h : Rd w q r l c bs t) (ht : t + 1 ≤ 8 * l) (hb : part bs t 1 = b.toNat) :
    Calls Tryd.prog 24 #[.pointer (some ⟨q, 0, none⟩)] w (TakePost q r l c bs (t + 1) (.bool b) w) := by
  have H := Lib.hid h
  have HB := Lib.hid hb
  have hbb : (((part bs t 1 : Nat) : Int) == 1) = b := by rw [hb]; cases b <;> rfl
  clear h hb
  go_enter Tryd.func24, Tryd.ntmps24
  go_wp2_with fail
  refine (get_any q r l c t 1 bs _ H.out (by decide) ht).mono ?_
  rintro e w' ⟨rfl, r1, r2⟩
  have R : Hid (TakePost q r l c bs (t + 1) (.bool b) w (.returned (.bool b)) w') := ⟨rfl, r1, r2⟩
  clear r1 r2
  go_wp2_with fail
  go_ret
  exact R.out

set_option maxHeartbeats 1000000 in
theorem rclass_0 (q r l c t : Nat) (bs : List Nat) (w : World) (h : Rd w q r l c bs t) (ht : t + 1 ≤ 8 * l) (b0 : part bs (t + 0) 1 = 0) :
    Calls Tryd.prog 19 #[.pointer (some ⟨q, 0, none⟩)] w (TakePost q r l c bs (t + 1) (.int .i64 0) w) := by
  have q1 := h
  have q2 : Step q none w w := Step.refl _ _ _
  have B0 := Lib.hid b0
  clear b0
  go_enter Tryd.func19, Tryd.ntmps19
  go_wp2_with fail
  refine wp_loop_rounds 7 ?_
  rw [rounds_succ]
  go_wp2_with fail
  refine (rbit_any false q r l c (t + 0) bs _ q1 (by omega) B0.out).mono ?_
  rintro e w1 ⟨rfl, r1, r2⟩
  replace q2 := q2.trans0 r2
  replace q1 := r1
  clear r1 r2
  have R : Hid (TakePost q r l c bs (t + 1) (.int .i64 0) w (.returned (.int .i64 0)) w1) := ⟨rfl, q1, q2⟩
  clear q1 q2
  go_wp2_with fail
  go_ret
  exact R.out

set_option maxHeartbeats 1000000 in
theorem rclass_1 (q r l c t : Nat) (bs : List Nat) (w : World) (h : Rd w q r l c bs t) (ht : t + 2 ≤ 8 * l) (b0 : part bs (t + 0) 1 = 1) (b1 : part bs (t + 1) 1 = 0) :
    Calls Tryd.prog 19 #[.pointer (some ⟨q, 0, none⟩)] w (TakePost q r l c bs (t + 2) (.int .i64 1) w) := by
  have q1 := h
  have q2 : Step q none w w := Step.refl _ _ _
  have B0 := Lib.hid b0
  have B1 := Lib.hid b1
  clear b0 b1
  go_enter Tryd.func19, Tryd.ntmps19
  go_wp2_with fail
  refine wp_loop_rounds 7 ?_
  rw [rounds_succ]
  go_wp2_with fail
  refine (rbit_any true q r l c (t + 0) bs _ q1 (by omega) B0.out).mono ?_
  rintro e w1 ⟨rfl, r1, r2⟩
  replace q2 := q2.trans0 r2
  replace q1 := r1
  clear r1 r2
  go_wp2_with fail
  rw [rounds_succ]
  go_wp2_with fail
  refine (rbit_any false q r l c (t + 1) bs _ q1 (by omega) B1.out).mono ?_
  rintro e w2 ⟨rfl, r1, r2⟩
  replace q2 := q2.trans0 r2
  replace q1 := r1
  clear r1 r2
  have R : Hid (TakePost q r l c bs (t + 2) (.int .i64 1) w (.returned (.int .i64 1)) w2) := ⟨rfl, q1, q2⟩
  clear q1 q2
  go_wp2_with fail
  go_ret
  exact R.out

set_option maxHeartbeats 1000000 in
theorem rclass_2 (q r l c t : Nat) (bs : List Nat) (w : World) (h : Rd w q r l c bs t) (ht : t + 3 ≤ 8 * l) (b0 : part bs (t + 0) 1 = 1) (b1 : part bs (t + 1) 1 = 1) (b2 : part bs (t + 2) 1 = 0) :
    Calls Tryd.prog 19 #[.pointer (some ⟨q, 0, none⟩)] w (TakePost q r l c bs (t + 3) (.int .i64 2) w) := by
  have q1 := h
  have q2 : Step q none w w := Step.refl _ _ _
  have B0 := Lib.hid b0
  have B1 := Lib.hid b1
  have B2 := Lib.hid b2
  clear b0 b1 b2
  go_enter Tryd.func19, Tryd.ntmps19
  go_wp2_with fail
  refine wp_loop_rounds 7 ?_
  rw [rounds_succ]
  go_wp2_with fail
  refine (rbit_any true q r l c (t + 0) bs _ q1 (by omega) B0.out).mono ?_
  rintro e w1 ⟨rfl, r1, r2⟩
  replace q2 := q2.trans0 r2
  replace q1 := r1
  clear r1 r2
  go_wp2_with fail
  rw [rounds_succ]
  go_wp2_with fail
  refine (rbit_any true q r l c (t + 1) bs _ q1 (by omega) B1.out).mono ?_
  rintro e w2 ⟨rfl, r1, r2⟩
  replace q2 := q2.trans0 r2
  replace q1 := r1
  clear r1 r2
  go_wp2_with fail
  rw [rounds_succ]
  go_wp2_with fail
  refine (rbit_any false q r l c (t + 2) bs _ q1 (by omega) B2.out).mono ?_
  rintro e w3 ⟨rfl, r1, r2⟩
  replace q2 := q2.trans0 r2
  replace q1 := r1
  clear r1 r2
  have R : Hid (TakePost q r l c bs (t + 3) (.int .i64 2) w (.returned (.int .i64 2)) w3) := ⟨rfl, q1, q2⟩
  clear q1 q2
  go_wp2_with fail
  go_ret
  exact R.out

set_option maxHeartbeats 1000000 in
theorem rclass_3 (q r l c t : Nat) (bs : List Nat) (w : World) (h : Rd w q r l c bs t) (ht : t + 4 ≤ 8 * l) (b0 : part bs (t + 0) 1 = 1) (b1 : part bs (t + 1) 1 = 1) (b2 : part bs (t + 2) 1 = 1) (b3 : part bs (t + 3) 1 = 0) :
    Calls Tryd.prog 19 #[.pointer (some ⟨q, 0, none⟩)] w (TakePost q r l c bs (t + 4) (.int .i64 3) w) := by
  have q1 := h
  have q2 : Step q none w w := Step.refl _ _ _
  have B0 := Lib.hid b0
  have B1 := Lib.hid b1
  have B2 := Lib.hid b2
  have B3 := Lib.hid b3
  clear b0 b1 b2 b3
  go_enter Tryd.func19, Tryd.ntmps19
  go_wp2_with fail
  refine wp_loop_rounds 7 ?_
  rw [rounds_succ]
  go_wp2_with fail
  refine (rbit_any true q r l c (t + 0) bs _ q1 (by omega) B0.out).mono ?_
  rintro e w1 ⟨rfl, r1, r2⟩
  replace q2 := q2.trans0 r2
  replace q1 := r1
  clear r1 r2
  go_wp2_with fail
  rw [rounds_succ]
  go_wp2_with fail
  refine (rbit_any true q r l c (t + 1) bs _ q1 (by omega) B1.out).mono ?_
  rintro e w2 ⟨rfl, r1, r2⟩
  replace q2 := q2.trans0 r2
  replace q1 := r1
  clear r1 r2
  go_wp2_with fail
  rw [rounds_succ]
  go_wp2_with fail
  refine (rbit_any true q r l c (t + 2) bs _ q1 (by omega) B2.out).mono ?_
  rintro e w3 ⟨rfl, r1, r2⟩
  replace q2 := q2.trans0 r2
  replace q1 := r1
  clear r1 r2
  go_wp2_with fail
  rw [rounds_succ]
  go_wp2_with fail
  refine (rbit_any false q r l c (t + 3) bs _ q1 (by omega) B3.out).mono ?_
  rintro e w4 ⟨rfl, r1, r2⟩
  replace q2 := q2.trans0 r2
  replace q1 := r1
  clear r1 r2
  have R : Hid (TakePost q r l c bs (t + 4) (.int .i64 3) w (.returned (.int .i64 3)) w4) := ⟨rfl, q1, q2⟩
  clear q1 q2
  go_wp2_with fail
  go_ret
  exact R.out

set_option maxHeartbeats 1000000 in
theorem rclass_4 (q r l c t : Nat) (bs : List Nat) (w : World) (h : Rd w q r l c bs t) (ht : t + 5 ≤ 8 * l) (b0 : part bs (t + 0) 1 = 1) (b1 : part bs (t + 1) 1 = 1) (b2 : part bs (t + 2) 1 = 1) (b3 : part bs (t + 3) 1 = 1) (b4 : part bs (t + 4) 1 = 0) :
    Calls Tryd.prog 19 #[.pointer (some ⟨q, 0, none⟩)] w (TakePost q r l c bs (t + 5) (.int .i64 4) w) := by
  have q1 := h
  have q2 : Step q none w w := Step.refl _ _ _
  have B0 := Lib.hid b0
  have B1 := Lib.hid b1
  have B2 := Lib.hid b2
  have B3 := Lib.hid b3
  have B4 := Lib.hid b4
  clear b0 b1 b2 b3 b4
  go_enter Tryd.func19, Tryd.ntmps19
  go_wp2_with fail
  refine wp_loop_rounds 7 ?_
  rw [rounds_succ]
  go_wp2_with fail
  refine (rbit_any true q r l c (t + 0) bs _ q1 (by omega) B0.out).mono ?_
  rintro e w1 ⟨rfl, r1, r2⟩
  replace q2 := q2.trans0 r2
  replace q1 := r1
  clear r1 r2
  go_wp2_with fail
  rw [rounds_succ]
  go_wp2_with fail
  refine (rbit_any true q r l c (t + 1) bs _ q1 (by omega) B1.out).mono ?_
  rintro e w2 ⟨rfl, r1, r2⟩
  replace q2 := q2.trans0 r2
  replace q1 := r1
  clear r1 r2
  go_wp2_with fail
  rw [rounds_succ]
  go_wp2_with fail
  refine (rbit_any true q r l c (t + 2) bs _ q1 (by omega) B2.out).mono ?_
  rintro e w3 ⟨rfl, r1, r2⟩
  replace q2 := q2.trans0 r2
  replace q1 := r1
  clear r1 r2
  go_wp2_with fail
  rw [rounds_succ]
  go_wp2_with fail
  refine (rbit_any true q r l c (t + 3) bs _ q1 (by omega) B3.out).mono ?_
  rintro e w4 ⟨rfl, r1, r2⟩
  replace q2 := q2.trans0 r2
  replace q1 := r1
  clear r1 r2
  go_wp2_with fail
  rw [rounds_succ]
  go_wp2_with fail
  refine (rbit_any false q r l c (t + 4) bs _ q1 (by omega) B4.out).mono ?_
  rintro e w5 ⟨rfl, r1, r2⟩
  replace q2 := q2.trans0 r2
  replace q1 := r1
  clear r1 r2
  have R : Hid (TakePost q r l c bs (t + 5) (.int .i64 4) w (.returned (.int .i64 4)) w5) := ⟨rfl, q1, q2⟩
  clear q1 q2
  go_wp2_with fail
  go_ret
  exact R.out

set_option maxHeartbeats 1000000 in
theorem rclass_5 (q r l c t : Nat) (bs : List Nat) (w : World) (h : Rd w q r l c bs t) (ht : t + 6 ≤ 8 * l) (b0 : part bs (t + 0) 1 = 1) (b1 : part bs (t + 1) 1 = 1) (b2 : part bs (t + 2) 1 = 1) (b3 : part bs (t + 3) 1 = 1) (b4 : part bs (t + 4) 1 = 1) (b5 : part bs (t + 5) 1 = 0) :
    Calls Tryd.prog 19 #[.pointer (some ⟨q, 0, none⟩)] w (TakePost q r l c bs (t + 6) (.int .i64 5) w) := by
  have q1 := h
  have q2 : Step q none w w := Step.refl _ _ _
  have B0 := Lib.hid b0
  have B1 := Lib.hid b1
  have B2 := Lib.hid b2
  have B3 := Lib.hid b3
  have B4 := Lib.hid b4
  have B5 := Lib.hid b5
  clear b0 b1 b2 b3 b4 b5
  go_enter Tryd.func19, Tryd.ntmps19
  go_wp2_with fail
  refine wp_loop_rounds 7 ?_
  rw [rounds_succ]
  go_wp2_with fail
  refine (rbit_any true q r l c (t + 0) bs _ q1 (by omega) B0.out).mono ?_
  rintro e w1 ⟨rfl, r1, r2⟩
  replace q2 := q2.trans0 r2
  replace q1 := r1
  clear r1 r2
  go_wp2_with fail
  rw [rounds_succ]
  go_wp2_with fail
  refine (rbit_any true q r l c (t + 1) bs _ q1 (by omega) B1.out).mono ?_
  rintro e w2 ⟨rfl, r1, r2⟩
  replace q2 := q2.trans0 r2
  replace q1 := r1
  clear r1 r2
  go_wp2_with fail
  rw [rounds_succ]
  go_wp2_with fail
  refine (rbit_any true q r l c (t + 2) bs _ q1 (by omega) B2.out).mono ?_
  rintro e w3 ⟨rfl, r1, r2⟩
  replace q2 := q2.trans0 r2
  replace q1 := r1
  clear r1 r2
  go_wp2_with fail
  rw [rounds_succ]
  go_wp2_with fail
  refine (rbit_any true q r l c (t + 3) bs _ q1 (by omega) B3.out).mono ?_
  rintro e w4 ⟨rfl, r1, r2⟩
  replace q2 := q2.trans0 r2
  replace q1 := r1
  clear r1 r2
  go_wp2_with fail
  rw [rounds_succ]
  go_wp2_with fail
  refine (rbit_any true q r l c (t + 4) bs _ q1 (by omega) B4.out).mono ?_
  rintro e w5 ⟨rfl, r1, r2⟩
  replace q2 := q2.trans0 r2
  replace q1 := r1
  clear r1 r2
  go_wp2_with fail
  rw [rounds_succ]
  go_wp2_with fail
  refine (rbit_any false q r l c (t + 5) bs _ q1 (by omega) B5.out).mono ?_
  rintro e w6 ⟨rfl, r1, r2⟩
  replace q2 := q2.trans0 r2
  replace q1 := r1
  clear r1 r2
  have R : Hid (TakePost q r l c bs (t + 6) (.int .i64 5) w (.returned (.int .i64 5)) w6) := ⟨rfl, q1, q2⟩
  clear q1 q2
  go_wp2_with fail
  go_ret
  exact R.out

set_option maxHeartbeats 1000000 in
theorem rclass_6 (q r l c t : Nat) (bs : List Nat) (w : World) (h : Rd w q r l c bs t) (ht : t + 6 ≤ 8 * l) (b0 : part bs (t + 0) 1 = 1) (b1 : part bs (t + 1) 1 = 1) (b2 : part bs (t + 2) 1 = 1) (b3 : part bs (t + 3) 1 = 1) (b4 : part bs (t + 4) 1 = 1) (b5 : part bs (t + 5) 1 = 1) :
    Calls Tryd.prog 19 #[.pointer (some ⟨q, 0, none⟩)] w (TakePost q r l c bs (t + 6) (.int .i64 6) w) := by
  have q1 := h
  have q2 : Step q none w w := Step.refl _ _ _
  have B0 := Lib.hid b0
  have B1 := Lib.hid b1
  have B2 := Lib.hid b2
  have B3 := Lib.hid b3
  have B4 := Lib.hid b4
  have B5 := Lib.hid b5
  clear b0 b1 b2 b3 b4 b5
  go_enter Tryd.func19, Tryd.ntmps19
  go_wp2_with fail
  refine wp_loop_rounds 7 ?_
  rw [rounds_succ]
  go_wp2_with fail
  refine (rbit_any true q r l c (t + 0) bs _ q1 (by omega) B0.out).mono ?_
  rintro e w1 ⟨rfl, r1, r2⟩
  replace q2 := q2.trans0 r2
  replace q1 := r1
  clear r1 r2
  go_wp2_with fail
  rw [rounds_succ]
  go_wp2_with fail
  refine (rbit_any true q r l c (t + 1) bs _ q1 (by omega) B1.out).mono ?_
  rintro e w2 ⟨rfl, r1, r2⟩
  replace q2 := q2.trans0 r2
  replace q1 := r1
  clear r1 r2
  go_wp2_with fail
  rw [rounds_succ]
  go_wp2_with fail
  refine (rbit_any true q r l c (t + 2) bs _ q1 (by omega) B2.out).mono ?_
  rintro e w3 ⟨rfl, r1, r2⟩
  replace q2 := q2.trans0 r2
  replace q1 := r1
  clear r1 r2
  go_wp2_with fail
  rw [rounds_succ]
  go_wp2_with fail
  refine (rbit_any true q r l c (t + 3) bs _ q1 (by omega) B3.out).mono ?_
  rintro e w4 ⟨rfl, r1, r2⟩
  replace q2 := q2.trans0 r2
  replace q1 := r1
  clear r1 r2
  go_wp2_with fail
  rw [rounds_succ]
  go_wp2_with fail
  refine (rbit_any true q r l c (t + 4) bs _ q1 (by omega) B4.out).mono ?_
  rintro e w5 ⟨rfl, r1, r2⟩
  replace q2 := q2.trans0 r2
  replace q1 := r1
  clear r1 r2
  go_wp2_with fail
  rw [rounds_succ]
  go_wp2_with fail
  refine (rbit_any true q r l c (t + 5) bs _ q1 (by omega) B5.out).mono ?_
  rintro e w6 ⟨rfl, r1, r2⟩
  replace q2 := q2.trans0 r2
  replace q1 := r1
  clear r1 r2
  go_wp2_with fail
  rw [rounds_succ]
  go_wp2_with fail
  have R : Hid (TakePost q r l c bs (t + 6) (.int .i64 6) w (.returned (.int .i64 6)) w6) := ⟨rfl, q1, q2⟩
  clear q1 q2
  go_ret
  exact R.out

set_option maxHeartbeats 1000000 in
theorem rcount_0 (x q r l c t : Nat) (bs : List Nat) (w : World) (h : Rd w q r l c bs t) (hT : Tab w) (hq : q ≠ 0) (ht : t + 1 ≤ 8 * l) (h0 : 0 ≤ x) (h1 : x < 1) (hv : part bs t 1 = 0 + x) :
    Calls Tryd.prog 11 #[.pointer (some ⟨q, 0, none⟩)] w (TakePost q r l c bs (t + 1) (.int .u64 (x : Int)) w) := by
  have hl : bs.length = l := h.bytes.1.symm
  have hz : 0 < w.heap.size := hT.pos
  have b0 : part bs (t + 0) 1 = 0 := by rw [part_sub bs t 1 0 1 (by decide) (by omega), hv]; omega
  have bx : part bs (t + 1) 0 = x := by rw [part_sub bs t 1 1 0 (by decide) (by omega), hv]; omega
  have H := Lib.hid h
  have HX := Lib.hid bx
  have B0 := Lib.hid b0
  have c1 := h.c1
  clear h bx hv hl b0
  go_enter Tryd.func11, Tryd.ntmps11
  go_wp2_with fail
  refine (err_any _ _ _ _ _ _ _ H.out).mono ?_
  rintro e w' ⟨rfl, rfl⟩
  go_wp2_with fail
  refine (rclass_0 q r l c t bs _ H.out (by omega) B0.out).mono ?_
  rintro e w1 ⟨rfl, q1, q2⟩
  obtain ⟨t0, t1, t2, t3, t4, t5, t6⟩ := hT.step q2 hz hq (by simp)
  have Q1 := Lib.hid q1
  have Q2 := Lib.hid q2
  clear q1 q2 c1
  go_wp2_with fail
  refine (get_any q r l c (t + 1) 0 bs _ Q1.out (by decide) (by omega)).mono ?_
  rintro e w2 ⟨rfl, r1, r2⟩
  have hS := Q2.out.trans0 r2
  have hT2 := hT.step hS hz hq (by simp)
  have c2 := r1.c2
  have R : Hid (TakePost q r l c bs (t + 1) (.int .u64 (x : Int)) w (.returned (.int .u64 (x : Int))) w2) := ⟨rfl, r1, hS⟩
  have HT := Lib.hid hT2
  rw [HX.out]
  clear r1 r2 hS hT2 t0 t1 t2 t3 t4 t5 t6
  go_wp2_with fail
  refine (class_0 x _ HT.out h0 h1).mono ?_
  rintro e w3 ⟨rfl, rfl⟩
  go_wp2_with fail
  go_ret
  exact R.out

set_option maxHeartbeats 1000000 in
theorem rcount_1 (x q r l c t : Nat) (bs : List Nat) (w : World) (h : Rd w q r l c bs t) (hT : Tab w) (hq : q ≠ 0) (ht : t + 5 ≤ 8 * l) (h0 : 1 ≤ x) (h1 : x < 8) (hv : part bs t 5 = 16 + x) :
    Calls Tryd.prog 11 #[.pointer (some ⟨q, 0, none⟩)] w (TakePost q r l c bs (t + 5) (.int .u64 (x : Int)) w) := by
  have hl : bs.length = l := h.bytes.1.symm
  have hz : 0 < w.heap.size := hT.pos
  have b0 : part bs (t + 0) 1 = 1 := by rw [part_sub bs t 5 0 1 (by decide) (by omega), hv]; omega
  have b1 : part bs (t + 1) 1 = 0 := by rw [part_sub bs t 5 1 1 (by decide) (by omega), hv]; omega
  have bx : part bs (t + 2) 3 = x := by rw [part_sub bs t 5 2 3 (by decide) (by omega), hv]; omega
  have H := Lib.hid h
  have HX := Lib.hid bx
  have B0 := Lib.hid b0
  have B1 := Lib.hid b1
  have c1 := h.c1
  clear h bx hv hl b0 b1
  go_enter Tryd.func11, Tryd.ntmps11
  go_wp2_with fail
  refine (err_any _ _ _ _ _ _ _ H.out).mono ?_
  rintro e w' ⟨rfl, rfl⟩
  go_wp2_with fail
  refine (rclass_1 q r l c t bs _ H.out (by omega) B0.out B1.out).mono ?_
  rintro e w1 ⟨rfl, q1, q2⟩
  obtain ⟨t0, t1, t2, t3, t4, t5, t6⟩ := hT.step q2 hz hq (by simp)
  have Q1 := Lib.hid q1
  have Q2 := Lib.hid q2
  clear q1 q2 c1
  go_wp2_with fail
  refine (get_any q r l c (t + 2) 3 bs _ Q1.out (by decide) (by omega)).mono ?_
  rintro e w2 ⟨rfl, r1, r2⟩
  have hS := Q2.out.trans0 r2
  have hT2 := hT.step hS hz hq (by simp)
  have c2 := r1.c2
  have R : Hid (TakePost q r l c bs (t + 5) (.int .u64 (x : Int)) w (.returned (.int .u64 (x : Int))) w2) := ⟨rfl, r1, hS⟩
  have HT := Lib.hid hT2
  rw [HX.out]
  clear r1 r2 hS hT2 t0 t1 t2 t3 t4 t5 t6
  go_wp2_with fail
  refine (class_1 x _ HT.out h0 h1).mono ?_
  rintro e w3 ⟨rfl, rfl⟩
  go_wp2_with fail
  go_ret
  exact R.out

set_option maxHeartbeats 1000000 in
theorem rcount_2 (x q r l c t : Nat) (bs : List Nat) (w : World) (h : Rd w q r l c bs t) (hT : Tab w) (hq : q ≠ 0) (ht : t + 10 ≤ 8 * l) (h0 : 8 ≤ x) (h1 : x < 128) (hv : part bs t 10 = 768 + x) :
    Calls Tryd.prog 11 #[.pointer (some ⟨q, 0, none⟩)] w (TakePost q r l c bs (t + 10) (.int .u64 (x : Int)) w) := by
  have hl : bs.length = l := h.bytes.1.symm
  have hz : 0 < w.heap.size := hT.pos
  have b0 : part bs (t + 0) 1 = 1 := by rw [part_sub bs t 10 0 1 (by decide) (by omega), hv]; omega
  have b1 : part bs (t + 1) 1 = 1 := by rw [part_sub bs t 10 1 1 (by decide) (by omega), hv]; omega
  have b2 : part bs (t + 2) 1 = 0 := by rw [part_sub bs t 10 2 1 (by decide) (by omega), hv]; omega
  have bx : part bs (t + 3) 7 = x := by rw [part_sub bs t 10 3 7 (by decide) (by omega), hv]; omega
  have H := Lib.hid h
  have HX := Lib.hid bx
  have B0 := Lib.hid b0
  have B1 := Lib.hid b1
  have B2 := Lib.hid b2
  have c1 := h.c1
  clear h bx hv hl b0 b1 b2
  go_enter Tryd.func11, Tryd.ntmps11
  go_wp2_with fail
  refine (err_any _ _ _ _ _ _ _ H.out).mono ?_
  rintro e w' ⟨rfl, rfl⟩
  go_wp2_with fail
  refine (rclass_2 q r l c t bs _ H.out (by omega) B0.out B1.out B2.out).mono ?_
  rintro e w1 ⟨rfl, q1, q2⟩
  obtain ⟨t0, t1, t2, t3, t4, t5, t6⟩ := hT.step q2 hz hq (by simp)
  have Q1 := Lib.hid q1
  have Q2 := Lib.hid q2
  clear q1 q2 c1
  go_wp2_with fail
  refine (get_any q r l c (t + 3) 7 bs _ Q1.out (by decide) (by omega)).mono ?_
  rintro e w2 ⟨rfl, r1, r2⟩
  have hS := Q2.out.trans0 r2
  have hT2 := hT.step hS hz hq (by simp)
  have c2 := r1.c2
  have R : Hid (TakePost q r l c bs (t + 10) (.int .u64 (x : Int)) w (.returned (.int .u64 (x : Int))) w2) := ⟨rfl, r1, hS⟩
  have HT := Lib.hid hT2
  rw [HX.out]
  clear r1 r2 hS hT2 t0 t1 t2 t3 t4 t5 t6
  go_wp2_with fail
  refine (class_2 x _ HT.out h0 h1).mono ?_
  rintro e w3 ⟨rfl, rfl⟩
  go_wp2_with fail
  go_ret
  exact R.out

set_option maxHeartbeats 1000000 in
theorem rcount_3 (x q r l c t : Nat) (bs : List Nat) (w : World) (h : Rd w q r l c bs t) (hT : Tab w) (hq : q ≠ 0) (ht : t + 16 ≤ 8 * l) (h0 : 128 ≤ x) (h1 : x < 4096) (hv : part bs t 16 = 57344 + x) :
    Calls Tryd.prog 11 #[.pointer (some ⟨q, 0, none⟩)] w (TakePost q r l c bs (t + 16) (.int .u64 (x : Int)) w) := by
  have hl : bs.length = l := h.bytes.1.symm
  have hz : 0 < w.heap.size := hT.pos
  have b0 : part bs (t + 0) 1 = 1 := by rw [part_sub bs t 16 0 1 (by decide) (by omega), hv]; omega
  have b1 : part bs (t + 1) 1 = 1 := by rw [part_sub bs t 16 1 1 (by decide) (by omega), hv]; omega
  have b2 : part bs (t + 2) 1 = 1 := by rw [part_sub bs t 16 2 1 (by decide) (by omega), hv]; omega
  have b3 : part bs (t + 3) 1 = 0 := by rw [part_sub bs t 16 3 1 (by decide) (by omega), hv]; omega
  have bx : part bs (t + 4) 12 = x := by rw [part_sub bs t 16 4 12 (by decide) (by omega), hv]; omega
  have H := Lib.hid h
  have HX := Lib.hid bx
  have B0 := Lib.hid b0
  have B1 := Lib.hid b1
  have B2 := Lib.hid b2
  have B3 := Lib.hid b3
  have c1 := h.c1
  clear h bx hv hl b0 b1 b2 b3
  go_enter Tryd.func11, Tryd.ntmps11
  go_wp2_with fail
  refine (err_any _ _ _ _ _ _ _ H.out).mono ?_
  rintro e w' ⟨rfl, rfl⟩
  go_wp2_with fail
  refine (rclass_3 q r l c t bs _ H.out (by omega) B0.out B1.out B2.out B3.out).mono ?_
  rintro e w1 ⟨rfl, q1, q2⟩
  obtain ⟨t0, t1, t2, t3, t4, t5, t6⟩ := hT.step q2 hz hq (by simp)
  have Q1 := Lib.hid q1
  have Q2 := Lib.hid q2
  clear q1 q2 c1
  go_wp2_with fail
  refine (get_any q r l c (t + 4) 12 bs _ Q1.out (by decide) (by omega)).mono ?_
  rintro e w2 ⟨rfl, r1, r2⟩
  have hS := Q2.out.trans0 r2
  have hT2 := hT.step hS hz hq (by simp)
  have c2 := r1.c2
  have R : Hid (TakePost q r l c bs (t + 16) (.int .u64 (x : Int)) w (.returned (.int .u64 (x : Int))) w2) := ⟨rfl, r1, hS⟩
  have HT := Lib.hid hT2
  rw [HX.out]
  clear r1 r2 hS hT2 t0 t1 t2 t3 t4 t5 t6
  go_wp2_with fail
  refine (class_3 x _ HT.out h0 h1).mono ?_
  rintro e w3 ⟨rfl, rfl⟩
  go_wp2_with fail
  go_ret
  exact R.out

set_option maxHeartbeats 1000000 in
theorem rcount_4 (x q r l c t : Nat) (bs : List Nat) (w : World) (h : Rd w q r l c bs t) (hT : Tab w) (hq : q ≠ 0) (ht : t + 25 ≤ 8 * l) (h0 : 4096 ≤ x) (h1 : x < 1048576) (hv : part bs t 25 = 31457280 + x) :
    Calls Tryd.prog 11 #[.pointer (some ⟨q, 0, none⟩)] w (TakePost q r l c bs (t + 25) (.int .u64 (x : Int)) w) := by
  have hl : bs.length = l := h.bytes.1.symm
  have hz : 0 < w.heap.size := hT.pos
  have b0 : part bs (t + 0) 1 = 1 := by rw [part_sub bs t 25 0 1 (by decide) (by omega), hv]; omega
  have b1 : part bs (t + 1) 1 = 1 := by rw [part_sub bs t 25 1 1 (by decide) (by omega), hv]; omega
  have b2 : part bs (t + 2) 1 = 1 := by rw [part_sub bs t 25 2 1 (by decide) (by omega), hv]; omega
  have b3 : part bs (t + 3) 1 = 1 := by rw [part_sub bs t 25 3 1 (by decide) (by omega), hv]; omega
  have b4 : part bs (t + 4) 1 = 0 := by rw [part_sub bs t 25 4 1 (by decide) (by omega), hv]; omega
  have bx : part bs (t + 5) 20 = x := by rw [part_sub bs t 25 5 20 (by decide) (by omega), hv]; omega
  have H := Lib.hid h
  have HX := Lib.hid bx
  have B0 := Lib.hid b0
  have B1 := Lib.hid b1
  have B2 := Lib.hid b2
  have B3 := Lib.hid b3
  have B4 := Lib.hid b4
  have c1 := h.c1
  clear h bx hv hl b0 b1 b2 b3 b4
  go_enter Tryd.func11, Tryd.ntmps11
  go_wp2_with fail
  refine (err_any _ _ _ _ _ _ _ H.out).mono ?_
  rintro e w' ⟨rfl, rfl⟩
  go_wp2_with fail
  refine (rclass_4 q r l c t bs _ H.out (by omega) B0.out B1.out B2.out B3.out B4.out).mono ?_
  rintro e w1 ⟨rfl, q1, q2⟩
  obtain ⟨t0, t1, t2, t3, t4, t5, t6⟩ := hT.step q2 hz hq (by simp)
  have Q1 := Lib.hid q1
  have Q2 := Lib.hid q2
  clear q1 q2 c1
  go_wp2_with fail
  refine (get_any q r l c (t + 5) 20 bs _ Q1.out (by decide) (by omega)).mono ?_
  rintro e w2 ⟨rfl, r1, r2⟩
  have hS := Q2.out.trans0 r2
  have hT2 := hT.step hS hz hq (by simp)
  have c2 := r1.c2
  have R : Hid (TakePost q r l c bs (t + 25) (.int .u64 (x : Int)) w (.returned (.int .u64 (x : Int))) w2) := ⟨rfl, r1, hS⟩
  have HT := Lib.hid hT2
  rw [HX.out]
  clear r1 r2 hS hT2 t0 t1 t2 t3 t4 t5 t6
  go_wp2_with fail
  refine (class_4 x _ HT.out h0 h1).mono ?_
  rintro e w3 ⟨rfl, rfl⟩
  go_wp2_with fail
  go_ret
  exact R.out

set_option maxHeartbeats 1000000 in
theorem rcount_5 (x q r l c t : Nat) (bs : List Nat) (w : World) (h : Rd w q r l c bs t) (hT : Tab w) (hq : q ≠ 0) (ht : t + 38 ≤ 8 * l) (h0 : 1048576 ≤ x) (h1 : x < 4294967296) (hv : part bs t 38 = 266287972352 + x) :
    Calls Tryd.prog 11 #[.pointer (some ⟨q, 0, none⟩)] w (TakePost q r l c bs (t + 38) (.int .u64 (x : Int)) w) := by
  have hl : bs.length = l := h.bytes.1.symm
  have hz : 0 < w.heap.size := hT.pos
  have b0 : part bs (t + 0) 1 = 1 := by rw [part_sub bs t 38 0 1 (by decide) (by omega), hv]; omega
  have b1 : part bs (t + 1) 1 = 1 := by rw [part_sub bs t 38 1 1 (by decide) (by omega), hv]; omega
  have b2 : part bs (t + 2) 1 = 1 := by rw [part_sub bs t 38 2 1 (by decide) (by omega), hv]; omega
  have b3 : part bs (t + 3) 1 = 1 := by rw [part_sub bs t 38 3 1 (by decide) (by omega), hv]; omega
  have b4 : part bs (t + 4) 1 = 1 := by rw [part_sub bs t 38 4 1 (by decide) (by omega), hv]; omega
  have b5 : part bs (t + 5) 1 = 0 := by rw [part_sub bs t 38 5 1 (by decide) (by omega), hv]; omega
  have bx : part bs (t + 6) 32 = x := by rw [part_sub bs t 38 6 32 (by decide) (by omega), hv]; omega
  have H := Lib.hid h
  have HX := Lib.hid bx
  have B0 := Lib.hid b0
  have B1 := Lib.hid b1
  have B2 := Lib.hid b2
  have B3 := Lib.hid b3
  have B4 := Lib.hid b4
  have B5 := Lib.hid b5
  have c1 := h.c1
  clear h bx hv hl b0 b1 b2 b3 b4 b5
  go_enter Tryd.func11, Tryd.ntmps11
  go_wp2_with fail
  refine (err_any _ _ _ _ _ _ _ H.out).mono ?_
  rintro e w' ⟨rfl, rfl⟩
  go_wp2_with fail
  refine (rclass_5 q r l c t bs _ H.out (by omega) B0.out B1.out B2.out B3.out B4.out B5.out).mono ?_
  rintro e w1 ⟨rfl, q1, q2⟩
  obtain ⟨t0, t1, t2, t3, t4, t5, t6⟩ := hT.step q2 hz hq (by simp)
  have Q1 := Lib.hid q1
  have Q2 := Lib.hid q2
  clear q1 q2 c1
  go_wp2_with fail
  refine (get_any q r l c (t + 6) 32 bs _ Q1.out (by decide) (by omega)).mono ?_
  rintro e w2 ⟨rfl, r1, r2⟩
  have hS := Q2.out.trans0 r2
  have hT2 := hT.step hS hz hq (by simp)
  have c2 := r1.c2
  have R : Hid (TakePost q r l c bs (t + 38) (.int .u64 (x : Int)) w (.returned (.int .u64 (x : Int))) w2) := ⟨rfl, r1, hS⟩
  have HT := Lib.hid hT2
  rw [HX.out]
  clear r1 r2 hS hT2 t0 t1 t2 t3 t4 t5 t6
  go_wp2_with fail
  refine (class_5 x _ HT.out h0 h1).mono ?_
  rintro e w3 ⟨rfl, rfl⟩
  go_wp2_with fail
  go_ret
  exact R.out

set_option maxHeartbeats 1000000 in
theorem rcount_6 (x q r l c t : Nat) (bs : List Nat) (w : World) (h : Rd w q r l c bs t) (hT : Tab w) (hq : q ≠ 0) (ht : t + 70 ≤ 8 * l) (h0 : 4294967296 ≤ x) (h1 : x ≤ 18446744073709551615) (hv : part bs t 70 = 1162144876643701751808 + x) :
    Calls Tryd.prog 11 #[.pointer (some ⟨q, 0, none⟩)] w (TakePost q r l c bs (t + 70) (.int .u64 (x : Int)) w) := by
  have hl : bs.length = l := h.bytes.1.symm
  have hz : 0 < w.heap.size := hT.pos
  have b0 : part bs (t + 0) 1 = 1 := by rw [part_sub bs t 70 0 1 (by decide) (by omega), hv]; omega
  have b1 : part bs (t + 1) 1 = 1 := by rw [part_sub bs t 70 1 1 (by decide) (by omega), hv]; omega
  have b2 : part bs (t + 2) 1 = 1 := by rw [part_sub bs t 70 2 1 (by decide) (by omega), hv]; omega
  have b3 : part bs (t + 3) 1 = 1 := by rw [part_sub bs t 70 3 1 (by decide) (by omega), hv]; omega
  have b4 : part bs (t + 4) 1 = 1 := by rw [part_sub bs t 70 4 1 (by decide) (by omega), hv]; omega
  have b5 : part bs (t + 5) 1 = 1 := by rw [part_sub bs t 70 5 1 (by decide) (by omega), hv]; omega
  have bx : part bs (t + 6) 64 = x := by rw [part_sub bs t 70 6 64 (by decide) (by omega), hv]; omega
  have H := Lib.hid h
  have HX := Lib.hid bx
  have B0 := Lib.hid b0
  have B1 := Lib.hid b1
  have B2 := Lib.hid b2
  have B3 := Lib.hid b3
  have B4 := Lib.hid b4
  have B5 := Lib.hid b5
  have c1 := h.c1
  clear h bx hv hl b0 b1 b2 b3 b4 b5
  go_enter Tryd.func11, Tryd.ntmps11
  go_wp2_with fail
  refine (err_any _ _ _ _ _ _ _ H.out).mono ?_
  rintro e w' ⟨rfl, rfl⟩
  go_wp2_with fail
  refine (rclass_6 q r l c t bs _ H.out (by omega) B0.out B1.out B2.out B3.out B4.out B5.out).mono ?_
  rintro e w1 ⟨rfl, q1, q2⟩
  obtain ⟨t0, t1, t2, t3, t4, t5, t6⟩ := hT.step q2 hz hq (by simp)
  have Q1 := Lib.hid q1
  have Q2 := Lib.hid q2
  clear q1 q2 c1
  go_wp2_with fail
  refine (get_any q r l c (t + 6) 64 bs _ Q1.out (by decide) (by omega)).mono ?_
  rintro e w2 ⟨rfl, r1, r2⟩
  have hS := Q2.out.trans0 r2
  have hT2 := hT.step hS hz hq (by simp)
  have c2 := r1.c2
  have R : Hid (TakePost q r l c bs (t + 70) (.int .u64 (x : Int)) w (.returned (.int .u64 (x : Int))) w2) := ⟨rfl, r1, hS⟩
  have HT := Lib.hid hT2
  rw [HX.out]
  clear r1 r2 hS hT2 t0 t1 t2 t3 t4 t5 t6
  go_wp2_with fail
  refine (class_6 x _ HT.out h0 h1).mono ?_
  rintro e w3 ⟨rfl, rfl⟩
  go_wp2_with fail
  go_ret
  exact R.out

/-- what was laid as a count is taken as it was -/
theorem rcount_any (x q r l c t : Nat) (bs : List Nat) (w : World) (h : Rd w q r l c bs t) (hT : Tab w) (hq : q ≠ 0) (ht : t + codeLen x ≤ 8 * l) (hx : x ≤ 18446744073709551615) (hv : part bs t (codeLen x) = codeVal x) :
    Calls Tryd.prog 11 #[.pointer (some ⟨q, 0, none⟩)] w (TakePost q r l c bs (t + codeLen x) (.int .u64 (x : Int)) w) := by
  rcases code_cases x with ⟨h0, h1, e, f⟩ | ⟨h0, h1, e, f⟩ | ⟨h0, h1, e, f⟩ | ⟨h0, h1, e, f⟩ | ⟨h0, h1, e, f⟩ | ⟨h0, h1, e, f⟩ | ⟨h0, e, f⟩
  · rw [e] at ht hv ⊢; rw [f] at hv; exact rcount_0 x q r l c t bs w h hT hq ht h0 h1 hv
  · rw [e] at ht hv ⊢; rw [f] at hv; exact rcount_1 x q r l c t bs w h hT hq ht h0 h1 hv
  · rw [e] at ht hv ⊢; rw [f] at hv; exact rcount_2 x q r l c t bs w h hT hq ht h0 h1 hv
  · rw [e] at ht hv ⊢; rw [f] at hv; exact rcount_3 x q r l c t bs w h hT hq ht h0 h1 hv
  · rw [e] at ht hv ⊢; rw [f] at hv; exact rcount_4 x q r l c t bs w h hT hq ht h0 h1 hv
  · rw [e] at ht hv ⊢; rw [f] at hv; exact rcount_5 x q r l c t bs w h hT hq ht h0 h1 hv
  · rw [e] at ht hv ⊢; rw [f] at hv; exact rcount_6 x q r l c t bs w h hT hq ht h0 hx hv
end Go.Proofs.YtdnihkmdigmnoaaDoor
