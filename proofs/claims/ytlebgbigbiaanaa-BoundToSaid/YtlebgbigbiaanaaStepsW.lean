/- The law BoundSteps' walk: for every three int8 and every int32 it returns true; memory is left as it was. -/
import Derived.Test.YtlebgbigbiaanaaOrdersW
namespace Go.Proofs.Ytlebgbigbiaanaa
open Go.RowKit

/-- To's two results, whatever the arguments -/
def toI (f t i : Int) : Int := if okTo f t = true ∧ inB f i = true then toV f t i else 0
def toE (f t i : Int) : Int := if okTo f t = true then (if inB f i = true then 0 else 4) else 20
theorem to_any (f t i : Int) (w : World) :
    Calls Try.prog 37 #[.int .i64 f, .int .i64 t, .int .i64 i] w fun e w' => e = .returned (.tuple #[.int .i64 (toI f t i), .int .i64 (toE f t i)]) ∧ w = w' := by
  rcases ho : okTo f t with _ | _
  · have e1 : toI f t i = 0 := by unfold toI; rw [if_neg (by rw [ho]; simp)]
    have e2 : toE f t i = 20 := by unfold toE; rw [if_neg (by rw [ho]; simp)]
    rw [e1, e2]
    exact to_schema f t i w ho
  · rcases hi : inB f i with _ | _
    · have e1 : toI f t i = 0 := by unfold toI; rw [if_neg (by rw [hi]; simp)]
      have e2 : toE f t i = 4 := by unfold toE; rw [if_pos ho, if_neg (by rw [hi]; simp)]
      rw [e1, e2]
      exact to_range f t i w ho hi
    · have e1 : toI f t i = toV f t i := by unfold toI; rw [if_pos ⟨ho, hi⟩]
      have e2 : toE f t i = 0 := by unfold toE; rw [if_pos ho, if_pos hi]
      rw [e1, e2]
      exact to_yes f t i w ho hi
theorem toE_zero {f t i : Int} (h : toE f t i = 0) : okTo f t = true ∧ inB f i = true := by
  unfold toE at h
  split at h
  · split at h
    · exact ⟨by assumption, by assumption⟩
    · omega
  · omega

set_option maxHeartbeats 400000 in
set_option maxRecDepth 100000 in
theorem steps_none (f m t i : Int) (w : World) (f1 : -128 ≤ f) (f2 : f ≤ 127) (m1 : -128 ≤ m) (m2 : m ≤ 127) (t1 : -128 ≤ t) (t2 : t ≤ 127) (i1 : -2147483648 ≤ i) (i2 : i ≤ 2147483647) (h : (toE f t i != 0) = true) :
    Calls Try.prog 10 #[.int .i8 f, .int .i8 m, .int .i8 t, .int .i32 i] w fun e w' => e = .returned (.bool true) ∧ w = w' := by
  go_enter Try.func10, Try.ntmps10
  go_wp2_with (first | (go_at_call 37; ((with_reducible refine (to_any _ _ _ _).mono ?_); rintro e w' ⟨rfl, rfl⟩)) | (go_at_call 24; ((with_reducible refine (awake04 _).mono ?_); rintro e w' ⟨rfl, rfl⟩)))
  go_ret
  exact ⟨rfl, rfl⟩
set_option maxHeartbeats 400000 in
set_option maxRecDepth 100000 in
theorem steps_half (f m t i : Int) (w : World) (f1 : -128 ≤ f) (f2 : f ≤ 127) (m1 : -128 ≤ m) (m2 : m ≤ 127) (t1 : -128 ≤ t) (t2 : t ≤ 127) (i1 : -2147483648 ≤ i) (i2 : i ≤ 2147483647) (h0 : (toE f t i != 0) = false) (h : (toE f m i != 0) = true) :
    Calls Try.prog 10 #[.int .i8 f, .int .i8 m, .int .i8 t, .int .i32 i] w fun e w' => e = .returned (.bool true) ∧ w = w' := by
  go_enter Try.func10, Try.ntmps10
  go_wp2_with (first | (go_at_call 37; ((with_reducible refine (to_any _ _ _ _).mono ?_); rintro e w' ⟨rfl, rfl⟩)) | (go_at_call 24; ((with_reducible refine (awake04 _).mono ?_); rintro e w' ⟨rfl, rfl⟩)))
  go_ret
  exact ⟨rfl, rfl⟩
set_option maxHeartbeats 400000 in
set_option maxRecDepth 100000 in
theorem steps_past (f m t i : Int) (w : World) (f1 : -128 ≤ f) (f2 : f ≤ 127) (m1 : -128 ≤ m) (m2 : m ≤ 127) (t1 : -128 ≤ t) (t2 : t ≤ 127) (i1 : -2147483648 ≤ i) (i2 : i ≤ 2147483647) (h0 : (toE f t i != 0) = false) (h : (toE f m i != 0) = false) (h2 : (toE m t (toI f m i) != 0) = true) (h3 : m < t) :
    Calls Try.prog 10 #[.int .i8 f, .int .i8 m, .int .i8 t, .int .i32 i] w fun e w' => e = .returned (.bool true) ∧ w = w' := by
  have h4 : decide (m < t) = true := by simpa using h3
  go_enter Try.func10, Try.ntmps10
  go_wp2_with (first | (go_at_call 37; ((with_reducible refine (to_any _ _ _ _).mono ?_); rintro e w' ⟨rfl, rfl⟩)) | (go_at_call 24; ((with_reducible refine (awake04 _).mono ?_); rintro e w' ⟨rfl, rfl⟩)))
  go_ret
  exact ⟨rfl, rfl⟩
abbrev ToGives (f t i v : Int) : Prop := ∀ w : World, Calls Try.prog 37 #[.int .i64 f, .int .i64 t, .int .i64 i] w fun e w' => e = .returned (.tuple #[.int .i64 v, .int .i64 0]) ∧ w = w'
theorem units_is (s i v : Int) (w : World) (R : rightB s = true) (h : un s i = v) (h1 : -8589934592 ≤ v) (h2 : v ≤ 8589934592) :
    Calls Try.prog 33 #[.int .i64 s, .int .i64 i] w fun e w' => e = .returned (.int .i64 v) ∧ w = w' := by
  subst h
  exact units_yes s i w R (by omega) (by omega)
theorem low_is (s i v : Int) (w : World) (R : rightB s = true) (hi1 : -1099511627777 ≤ i) (hi2 : i ≤ 1099511627777) (h : un s (i - 1) = v) (h1 : -8589934592 ≤ v) (h2 : v ≤ 8589934592) :
    Calls Try.prog 34 #[.int .i64 s, .int .i64 i] w fun e w' => e = .returned (.int .i64 v) ∧ w = w' := by
  subst h
  exact low_yes s i w R (by omega) (by omega) (by omega) (by omega)
set_option maxHeartbeats 1000000 in
set_option maxRecDepth 100000 in
theorem steps_ll (f m t i A B n P : Int) (w : World) (f1 : -128 ≤ f) (f2 : f ≤ 127) (m1 : -128 ≤ m) (m2 : m ≤ 127) (t1 : -128 ≤ t) (t2 : t ≤ 127) (i1 : -2147483648 ≤ i) (i2 : i ≤ 2147483647)
    (k1 : ToGives f t i A) (k2 : ToGives f m i B) (k3 : ToGives m t B A) (hn : 2 ^ (f - t).toNat = n) (hP : (A - 1) * n = P)
    (d0 : 0 ≤ f - t) (d1 : f - t ≤ 12) (A1 : -262144 ≤ A) (A2 : A ≤ 262144) (n0 : 1 ≤ n) (n1 : n ≤ 4096) (P0 : -1099511627776 ≤ P) (P1 : P ≤ 1099511627776)
    (RF : Hid (rightB f = true)) (RT : Hid (rightB t = true)) (u1 : un f P = un t (A - 1)) (u2 : un f (P + 1 + n - 1) = un t A) (v1 : -8589934592 ≤ un t (A - 1)) (v2 : un t (A - 1) ≤ 8589934592) (v3 : -8589934592 ≤ un t A) (v4 : un t A ≤ 8589934592)
    (c1 : leastV f ≤ P + 1) (c2 : P + 1 + n - 1 ≤ mostV f) (kx : ToGives f t (P + 1) A) (ky : ToGives f t (P + 1 + n - 1) A) :
    Calls Try.prog 10 #[.int .i8 f, .int .i8 m, .int .i8 t, .int .i32 i] w fun e w' => e = .returned (.bool true) ∧ w = w' := by
  have U1 := Lib.hid u1
  have U2 := Lib.hid u2
  have e1 : un f (P + 1 - 1) = un t (A - 1) := by rw [show P + 1 - 1 = P by omega]; exact u1
  have E1 := Lib.hid e1
  obtain ⟨l1, l2⟩ := most_bd f
  have l3 : leastV f = 1 - mostV f := rfl
  have L3 := Lib.hid l3
  have l4 : leastV f ≤ 1 := by omega
  have l5 : -262144 ≤ leastV f := by omega
  clear u1 u2 e1 l3
  go_enter Try.func10, Try.ntmps10
  go_wp2_with fail
  refine (k1 _).mono ?_
  rintro e w' ⟨rfl, rfl⟩
  go_wp2_with fail
  refine (k2 _).mono ?_
  rintro e w' ⟨rfl, rfl⟩
  go_wp2_with fail
  refine (k3 _).mono ?_
  rintro e w' ⟨rfl, rfl⟩
  go_wp2_with fail
  refine (least_any _ _).mono ?_
  rintro e w' ⟨rfl, rfl⟩
  go_wp2_with fail
  refine (kx _).mono ?_
  rintro e w' ⟨rfl, rfl⟩
  go_wp2_with fail
  refine (most_any _ _).mono ?_
  rintro e w' ⟨rfl, rfl⟩
  go_wp2_with fail
  refine (ky _).mono ?_
  rintro e w' ⟨rfl, rfl⟩
  go_wp2_with fail
  refine (awake04 _).mono ?_
  rintro e w' ⟨rfl, rfl⟩
  go_wp2_with fail
  refine (low_is _ _ _ _ RF.out (by omega) (by omega) E1.out v1 v2).mono ?_
  rintro e w' ⟨rfl, rfl⟩
  go_wp2_with fail
  refine (low_is _ _ _ _ RT.out (by omega) (by omega) rfl v1 v2).mono ?_
  rintro e w' ⟨rfl, rfl⟩
  go_wp2_with fail
  refine (units_is _ _ _ _ RF.out U2.out v3 v4).mono ?_
  rintro e w' ⟨rfl, rfl⟩
  go_wp2_with fail
  refine (units_is _ _ _ _ RT.out rfl v3 v4).mono ?_
  rintro e w' ⟨rfl, rfl⟩
  go_wp2_with fail
  go_ret
  exact ⟨rfl, rfl⟩
set_option maxHeartbeats 1000000 in
set_option maxRecDepth 100000 in
theorem steps_lm (f m t i A B n P : Int) (w : World) (f1 : -128 ≤ f) (f2 : f ≤ 127) (m1 : -128 ≤ m) (m2 : m ≤ 127) (t1 : -128 ≤ t) (t2 : t ≤ 127) (i1 : -2147483648 ≤ i) (i2 : i ≤ 2147483647)
    (k1 : ToGives f t i A) (k2 : ToGives f m i B) (k3 : ToGives m t B A) (hn : 2 ^ (f - t).toNat = n) (hP : (A - 1) * n = P)
    (d0 : 0 ≤ f - t) (d1 : f - t ≤ 12) (A1 : -262144 ≤ A) (A2 : A ≤ 262144) (n0 : 1 ≤ n) (n1 : n ≤ 4096) (P0 : -1099511627776 ≤ P) (P1 : P ≤ 1099511627776)
    (RF : Hid (rightB f = true)) (RT : Hid (rightB t = true)) (u1 : un f P = un t (A - 1)) (u2 : un f (P + 1 + n - 1) = un t A) (v1 : -8589934592 ≤ un t (A - 1)) (v2 : un t (A - 1) ≤ 8589934592) (v3 : -8589934592 ≤ un t A) (v4 : un t A ≤ 8589934592)
    (c1 : leastV f ≤ P + 1) (c2 : mostV f < P + 1 + n - 1) (kx : ToGives f t (P + 1) A) (ky : ToGives f t (mostV f) A) :
    Calls Try.prog 10 #[.int .i8 f, .int .i8 m, .int .i8 t, .int .i32 i] w fun e w' => e = .returned (.bool true) ∧ w = w' := by
  have U1 := Lib.hid u1
  have U2 := Lib.hid u2
  have e1 : un f (P + 1 - 1) = un t (A - 1) := by rw [show P + 1 - 1 = P by omega]; exact u1
  have E1 := Lib.hid e1
  obtain ⟨l1, l2⟩ := most_bd f
  have l3 : leastV f = 1 - mostV f := rfl
  have L3 := Lib.hid l3
  have l4 : leastV f ≤ 1 := by omega
  have l5 : -262144 ≤ leastV f := by omega
  clear u1 u2 e1 l3
  go_enter Try.func10, Try.ntmps10
  go_wp2_with fail
  refine (k1 _).mono ?_
  rintro e w' ⟨rfl, rfl⟩
  go_wp2_with fail
  refine (k2 _).mono ?_
  rintro e w' ⟨rfl, rfl⟩
  go_wp2_with fail
  refine (k3 _).mono ?_
  rintro e w' ⟨rfl, rfl⟩
  go_wp2_with fail
  refine (least_any _ _).mono ?_
  rintro e w' ⟨rfl, rfl⟩
  go_wp2_with fail
  refine (kx _).mono ?_
  rintro e w' ⟨rfl, rfl⟩
  go_wp2_with fail
  refine (most_any _ _).mono ?_
  rintro e w' ⟨rfl, rfl⟩
  go_wp2_with fail
  refine (ky _).mono ?_
  rintro e w' ⟨rfl, rfl⟩
  go_wp2_with fail
  refine (awake04 _).mono ?_
  rintro e w' ⟨rfl, rfl⟩
  go_wp2_with fail
  refine (low_is _ _ _ _ RF.out (by omega) (by omega) E1.out v1 v2).mono ?_
  rintro e w' ⟨rfl, rfl⟩
  go_wp2_with fail
  refine (low_is _ _ _ _ RT.out (by omega) (by omega) rfl v1 v2).mono ?_
  rintro e w' ⟨rfl, rfl⟩
  go_wp2_with fail
  refine (units_is _ _ _ _ RF.out U2.out v3 v4).mono ?_
  rintro e w' ⟨rfl, rfl⟩
  go_wp2_with fail
  refine (units_is _ _ _ _ RT.out rfl v3 v4).mono ?_
  rintro e w' ⟨rfl, rfl⟩
  go_wp2_with fail
  go_ret
  exact ⟨rfl, rfl⟩
set_option maxHeartbeats 1000000 in
set_option maxRecDepth 100000 in
theorem steps_ml (f m t i A B n P : Int) (w : World) (f1 : -128 ≤ f) (f2 : f ≤ 127) (m1 : -128 ≤ m) (m2 : m ≤ 127) (t1 : -128 ≤ t) (t2 : t ≤ 127) (i1 : -2147483648 ≤ i) (i2 : i ≤ 2147483647)
    (k1 : ToGives f t i A) (k2 : ToGives f m i B) (k3 : ToGives m t B A) (hn : 2 ^ (f - t).toNat = n) (hP : (A - 1) * n = P)
    (d0 : 0 ≤ f - t) (d1 : f - t ≤ 12) (A1 : -262144 ≤ A) (A2 : A ≤ 262144) (n0 : 1 ≤ n) (n1 : n ≤ 4096) (P0 : -1099511627776 ≤ P) (P1 : P ≤ 1099511627776)
    (RF : Hid (rightB f = true)) (RT : Hid (rightB t = true)) (u1 : un f P = un t (A - 1)) (u2 : un f (P + 1 + n - 1) = un t A) (v1 : -8589934592 ≤ un t (A - 1)) (v2 : un t (A - 1) ≤ 8589934592) (v3 : -8589934592 ≤ un t A) (v4 : un t A ≤ 8589934592)
    (c1 : P + 1 < leastV f) (c2 : P + 1 + n - 1 ≤ mostV f) (kx : ToGives f t (leastV f) A) (ky : ToGives f t (P + 1 + n - 1) A) :
    Calls Try.prog 10 #[.int .i8 f, .int .i8 m, .int .i8 t, .int .i32 i] w fun e w' => e = .returned (.bool true) ∧ w = w' := by
  have U1 := Lib.hid u1
  have U2 := Lib.hid u2
  have e1 : un f (P + 1 - 1) = un t (A - 1) := by rw [show P + 1 - 1 = P by omega]; exact u1
  have E1 := Lib.hid e1
  obtain ⟨l1, l2⟩ := most_bd f
  have l3 : leastV f = 1 - mostV f := rfl
  have L3 := Lib.hid l3
  have l4 : leastV f ≤ 1 := by omega
  have l5 : -262144 ≤ leastV f := by omega
  clear u1 u2 e1 l3
  go_enter Try.func10, Try.ntmps10
  go_wp2_with fail
  refine (k1 _).mono ?_
  rintro e w' ⟨rfl, rfl⟩
  go_wp2_with fail
  refine (k2 _).mono ?_
  rintro e w' ⟨rfl, rfl⟩
  go_wp2_with fail
  refine (k3 _).mono ?_
  rintro e w' ⟨rfl, rfl⟩
  go_wp2_with fail
  refine (least_any _ _).mono ?_
  rintro e w' ⟨rfl, rfl⟩
  go_wp2_with fail
  refine (kx _).mono ?_
  rintro e w' ⟨rfl, rfl⟩
  go_wp2_with fail
  refine (most_any _ _).mono ?_
  rintro e w' ⟨rfl, rfl⟩
  go_wp2_with fail
  refine (ky _).mono ?_
  rintro e w' ⟨rfl, rfl⟩
  go_wp2_with fail
  refine (awake04 _).mono ?_
  rintro e w' ⟨rfl, rfl⟩
  go_wp2_with fail
  refine (low_is _ _ _ _ RF.out (by omega) (by omega) E1.out v1 v2).mono ?_
  rintro e w' ⟨rfl, rfl⟩
  go_wp2_with fail
  refine (low_is _ _ _ _ RT.out (by omega) (by omega) rfl v1 v2).mono ?_
  rintro e w' ⟨rfl, rfl⟩
  go_wp2_with fail
  refine (units_is _ _ _ _ RF.out U2.out v3 v4).mono ?_
  rintro e w' ⟨rfl, rfl⟩
  go_wp2_with fail
  refine (units_is _ _ _ _ RT.out rfl v3 v4).mono ?_
  rintro e w' ⟨rfl, rfl⟩
  go_wp2_with fail
  go_ret
  exact ⟨rfl, rfl⟩
set_option maxHeartbeats 1000000 in
set_option maxRecDepth 100000 in
theorem steps_mm (f m t i A B n P : Int) (w : World) (f1 : -128 ≤ f) (f2 : f ≤ 127) (m1 : -128 ≤ m) (m2 : m ≤ 127) (t1 : -128 ≤ t) (t2 : t ≤ 127) (i1 : -2147483648 ≤ i) (i2 : i ≤ 2147483647)
    (k1 : ToGives f t i A) (k2 : ToGives f m i B) (k3 : ToGives m t B A) (hn : 2 ^ (f - t).toNat = n) (hP : (A - 1) * n = P)
    (d0 : 0 ≤ f - t) (d1 : f - t ≤ 12) (A1 : -262144 ≤ A) (A2 : A ≤ 262144) (n0 : 1 ≤ n) (n1 : n ≤ 4096) (P0 : -1099511627776 ≤ P) (P1 : P ≤ 1099511627776)
    (RF : Hid (rightB f = true)) (RT : Hid (rightB t = true)) (u1 : un f P = un t (A - 1)) (u2 : un f (P + 1 + n - 1) = un t A) (v1 : -8589934592 ≤ un t (A - 1)) (v2 : un t (A - 1) ≤ 8589934592) (v3 : -8589934592 ≤ un t A) (v4 : un t A ≤ 8589934592)
    (c1 : P + 1 < leastV f) (c2 : mostV f < P + 1 + n - 1) (kx : ToGives f t (leastV f) A) (ky : ToGives f t (mostV f) A) :
    Calls Try.prog 10 #[.int .i8 f, .int .i8 m, .int .i8 t, .int .i32 i] w fun e w' => e = .returned (.bool true) ∧ w = w' := by
  have U1 := Lib.hid u1
  have U2 := Lib.hid u2
  have e1 : un f (P + 1 - 1) = un t (A - 1) := by rw [show P + 1 - 1 = P by omega]; exact u1
  have E1 := Lib.hid e1
  obtain ⟨l1, l2⟩ := most_bd f
  have l3 : leastV f = 1 - mostV f := rfl
  have L3 := Lib.hid l3
  have l4 : leastV f ≤ 1 := by omega
  have l5 : -262144 ≤ leastV f := by omega
  clear u1 u2 e1 l3
  go_enter Try.func10, Try.ntmps10
  go_wp2_with fail
  refine (k1 _).mono ?_
  rintro e w' ⟨rfl, rfl⟩
  go_wp2_with fail
  refine (k2 _).mono ?_
  rintro e w' ⟨rfl, rfl⟩
  go_wp2_with fail
  refine (k3 _).mono ?_
  rintro e w' ⟨rfl, rfl⟩
  go_wp2_with fail
  refine (least_any _ _).mono ?_
  rintro e w' ⟨rfl, rfl⟩
  go_wp2_with fail
  refine (kx _).mono ?_
  rintro e w' ⟨rfl, rfl⟩
  go_wp2_with fail
  refine (most_any _ _).mono ?_
  rintro e w' ⟨rfl, rfl⟩
  go_wp2_with fail
  refine (ky _).mono ?_
  rintro e w' ⟨rfl, rfl⟩
  go_wp2_with fail
  refine (awake04 _).mono ?_
  rintro e w' ⟨rfl, rfl⟩
  go_wp2_with fail
  refine (low_is _ _ _ _ RF.out (by omega) (by omega) E1.out v1 v2).mono ?_
  rintro e w' ⟨rfl, rfl⟩
  go_wp2_with fail
  refine (low_is _ _ _ _ RT.out (by omega) (by omega) rfl v1 v2).mono ?_
  rintro e w' ⟨rfl, rfl⟩
  go_wp2_with fail
  refine (units_is _ _ _ _ RF.out U2.out v3 v4).mono ?_
  rintro e w' ⟨rfl, rfl⟩
  go_wp2_with fail
  refine (units_is _ _ _ _ RT.out rfl v3 v4).mono ?_
  rintro e w' ⟨rfl, rfl⟩
  go_wp2_with fail
  go_ret
  exact ⟨rfl, rfl⟩

theorem upv_is {j a : Int} {k : Nat} (h1 : (a - 1) * 2 ^ k < j) (h2 : j ≤ a * 2 ^ k) : upv j k = a := by
  have hp := two_pow_pos' k
  unfold upv
  generalize (2 : Int) ^ k = p at *
  have e1 : (a - 1) * p = a * p - p := by rw [Int.sub_mul, Int.one_mul]
  have q1 : -a ≤ (-j) / p := by
    rw [Int.le_ediv_iff_mul_le hp, Int.neg_mul]
    omega
  have q2 : (-j) / p < -a + 1 := by
    rw [Int.ediv_lt_iff_lt_mul hp, Int.add_mul, Int.neg_mul, Int.one_mul]
    omega
  omega
theorem upv_at (j : Int) (k : Nat) : (upv j k - 1) * 2 ^ k < j ∧ j ≤ upv j k * 2 ^ k := by
  have hp := two_pow_pos' k
  obtain ⟨b1, b2⟩ := back_bounds (-j) k
  unfold upv
  generalize (2 : Int) ^ k = p at *
  have e1 : (-(-j / p) - 1) * p = -(-j / p * p) - p := by rw [Int.sub_mul, Int.one_mul, Int.neg_mul]
  have e2 : -(-j / p) * p = -(-j / p * p) := by rw [Int.neg_mul]
  omega
theorem uw_mul {f t : Int} (hf : rightB f = true) (ht : rightB t = true) (h : t ≤ f) : 2 ^ (f - t).toNat * uw f = uw t := by
  have bf := right_yes hf
  have bt := right_yes ht
  unfold uw
  have e : (8 - t).toNat = (f - t).toNat + (8 - f).toNat := by omega
  rw [e, Int.pow_add]
theorem gives_of {f t j a : Int} (ho : okTo f t = true) (hj : inB f j = true) (h : toV f t j = a) : ToGives f t j a := fun w => by
  subst h
  exact to_yes f t j w ho hj

theorem steps_ok (f m t i : Int) (w : World) (f1 : -128 ≤ f) (f2 : f ≤ 127) (m1 : -128 ≤ m) (m2 : m ≤ 127) (t1 : -128 ≤ t) (t2 : t ≤ 127) (i1 : -2147483648 ≤ i) (i2 : i ≤ 2147483647)
    (h1 : okTo f t = true) (hi : inB f i = true) (h2 : okTo f m = true) (h3 : okTo m t = true) :
    Calls Try.prog 10 #[.int .i8 f, .int .i8 m, .int .i8 t, .int .i32 i] w fun e w' => e = .returned (.bool true) ∧ w = w' := by
  obtain ⟨RF, RT, hft⟩ := ok_parts h1
  obtain ⟨RM, _, hmt⟩ := ok_parts h3
  obtain ⟨_, _, hfm⟩ := ok_parts h2
  have bf := right_yes RF
  have bt := right_yes RT
  obtain ⟨a1, a2⟩ := to_bd (t := t) hi
  obtain ⟨q1, q2⟩ := (in_iff RF).1 hi
  have eB := to_cl (i := i) RF RM hfm
  have eA := to_cl (i := i) RF RT hft
  have hB : inB m (toV f m i) = true := by rw [eB]; exact cl_in RM q1 q2
  have eC : toV m t (toV f m i) = toV f t i := by rw [eB, eA]; exact to_of RM RT hmt
  have hm := uw_mul RF RT hft
  obtain ⟨p1, p2⟩ := upv_at i (f - t).toNat
  have ev : upv i (f - t).toNat = toV f t i := rfl
  rw [ev] at p1 p2
  have nb : (2 : Int) ^ (f - t).toNat ≤ 4096 := by
    have h1 : (2 : Nat) ^ (f - t).toNat ≤ 2 ^ 12 := Nat.pow_le_pow_right (by decide) (by omega)
    have h2 : ((2 ^ (f - t).toNat : Nat) : Int) ≤ ((2 ^ 12 : Nat) : Int) := by exact_mod_cast h1
    simpa using h2
  have n0 := two_pow_pos' (f - t).toNat
  obtain ⟨n, hn⟩ : ∃ n : Int, 2 ^ (f - t).toNat = n := ⟨_, rfl⟩
  obtain ⟨A, hA⟩ : ∃ A, toV f t i = A := ⟨_, rfl⟩
  obtain ⟨P, hP⟩ : ∃ P, (A - 1) * n = P := ⟨_, rfl⟩
  rw [hA] at p1 p2 a1 a2 eC
  rw [hn] at p1 p2 hm nb n0
  have eAn : A * n = P + n := by
    have : (A - 1) * n = A * n - n := by rw [Int.sub_mul, Int.one_mul]
    omega
  rw [hP] at p1
  rw [eAn] at p2
  have b0 : -1099511627776 ≤ P ∧ P ≤ 1099511627776 := by
    have ib := in_bd hi
    omega
  have u1 : un f P = un t (A - 1) := by
    unfold un
    rw [← hP, ← hm, Int.mul_assoc]
  have u2 : un f (P + 1 + n - 1) = un t A := by
    unfold un
    have : P + 1 + n - 1 = A * n := by omega
    rw [this, ← hm, Int.mul_assoc]
  obtain ⟨v1, v2⟩ := un_bd (i := A - 1) RT 262145 (by omega) (by omega)
  obtain ⟨v3, v4⟩ := un_bd (i := A) RT 262144 (by omega) (by omega)
  have hin : leastV f ≤ i ∧ i ≤ mostV f := by unfold inB at hi; simpa using hi
  have giv : ∀ j, leastV f ≤ j → j ≤ mostV f → P < j → j ≤ P + n → ToGives f t j A := by
    intro j j1 j2 j3 j4
    refine gives_of h1 (by unfold inB; rw [decide_eq_true_eq]; exact ⟨j1, j2⟩) ?_
    unfold toV
    exact upv_is (by rw [hn, hP]; exact j3) (by rw [hn, eAn]; exact j4)
  have k1 : ToGives f t i A := gives_of h1 hi hA
  have k2 : ToGives f m i (toV f m i) := gives_of h2 hi rfl
  have k3 : ToGives m t (toV f m i) A := gives_of h3 hB eC
  by_cases c1 : leastV f ≤ P + 1 <;> by_cases c2 : P + 1 + n - 1 ≤ mostV f
  · exact steps_ll f m t i A _ n P w f1 f2 m1 m2 t1 t2 i1 i2 k1 k2 k3 hn hP (by omega) (by omega) (by omega) (by omega) (by omega) (by omega) b0.1 b0.2 (Lib.hid RF) (Lib.hid RT) u1 u2 (by omega) (by omega) (by omega) (by omega) c1 c2
      (giv _ (by omega) (by omega) (by omega) (by omega)) (giv _ (by omega) (by omega) (by omega) (by omega))
  · exact steps_lm f m t i A _ n P w f1 f2 m1 m2 t1 t2 i1 i2 k1 k2 k3 hn hP (by omega) (by omega) (by omega) (by omega) (by omega) (by omega) b0.1 b0.2 (Lib.hid RF) (Lib.hid RT) u1 u2 (by omega) (by omega) (by omega) (by omega) c1 (by omega)
      (giv _ (by omega) (by omega) (by omega) (by omega)) (giv _ (by omega) (by omega) (by omega) (by omega))
  · exact steps_ml f m t i A _ n P w f1 f2 m1 m2 t1 t2 i1 i2 k1 k2 k3 hn hP (by omega) (by omega) (by omega) (by omega) (by omega) (by omega) b0.1 b0.2 (Lib.hid RF) (Lib.hid RT) u1 u2 (by omega) (by omega) (by omega) (by omega) (by omega) c2
      (giv _ (by omega) (by omega) (by omega) (by omega)) (giv _ (by omega) (by omega) (by omega) (by omega))
  · exact steps_mm f m t i A _ n P w f1 f2 m1 m2 t1 t2 i1 i2 k1 k2 k3 hn hP (by omega) (by omega) (by omega) (by omega) (by omega) (by omega) b0.1 b0.2 (Lib.hid RF) (Lib.hid RT) u1 u2 (by omega) (by omega) (by omega) (by omega) (by omega) (by omega)
      (giv _ (by omega) (by omega) (by omega) (by omega)) (giv _ (by omega) (by omega) (by omega) (by omega))

theorem boundSteps_walk (a0 : Int) (a1 : Int) (a2 : Int) (a3 : Int) (w0 : (Lit.int .i8 a0).wf = true) (w1 : (Lit.int .i8 a1).wf = true) (w2 : (Lit.int .i8 a2).wf = true) (w3 : (Lit.int .i32 a3).wf = true) (w : World) :
    Calls Try.prog 10 #[.int .i8 a0, .int .i8 a1, .int .i8 a2, .int .i32 a3] w fun e w' => e = .returned (.bool true) ∧ Grown w w' := by
  obtain ⟨b01, b02⟩ := bounds_i8 w0
  obtain ⟨b11, b12⟩ := bounds_i8 w1
  obtain ⟨b21, b22⟩ := bounds_i8 w2
  obtain ⟨b31, b32⟩ := bounds_i32 w3
  suffices h : Calls Try.prog 10 #[.int .i8 a0, .int .i8 a1, .int .i8 a2, .int .i32 a3] w fun e w' => e = .returned (.bool true) ∧ w = w' from
    h.mono fun e w' h => ⟨h.1, h.2 ▸ Grown.refl w⟩
  by_cases h0 : toE a0 a2 a3 = 0
  · by_cases h1 : toE a0 a1 a3 = 0
    · obtain ⟨o1, hi⟩ := toE_zero h0
      obtain ⟨o2, _⟩ := toE_zero h1
      by_cases h2 : toE a1 a2 (toI a0 a1 a3) = 0
      · exact steps_ok a0 a1 a2 a3 w b01 b02 b11 b12 b21 b22 b31 b32 o1 hi o2 (toE_zero h2).1
      · refine steps_past a0 a1 a2 a3 w b01 b02 b11 b12 b21 b22 b31 b32 (by simpa using h0) (by simpa using h1) (by simpa using h2) ?_
        obtain ⟨RF, RT, hft⟩ := ok_parts o1
        obtain ⟨_, RM, hfm⟩ := ok_parts o2
        have eI : toI a0 a1 a3 = toV a0 a1 a3 := by unfold toI; rw [if_pos ⟨o2, hi⟩]
        obtain ⟨q1, q2⟩ := (in_iff RF).1 hi
        have hB : inB a1 (toI a0 a1 a3) = true := by rw [eI, to_cl RF RM hfm]; exact cl_in RM q1 q2
        by_cases h3 : a1 < a2
        · exact h3
        · exfalso
          apply h2
          have ho : okTo a1 a2 = true := by unfold okTo; rw [RM, RT]; simp; omega
          unfold toE
          rw [if_pos ho, if_pos hB]
    · exact steps_half a0 a1 a2 a3 w b01 b02 b11 b12 b21 b22 b31 b32 (by simpa using h0) (by simpa using h1)
  · exact steps_none a0 a1 a2 a3 w b01 b02 b11 b12 b21 b22 b31 b32 (by simpa using h0)
end Go.Proofs.Ytlebgbigbiaanaa
