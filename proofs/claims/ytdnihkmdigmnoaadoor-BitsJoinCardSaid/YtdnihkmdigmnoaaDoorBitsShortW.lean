/- The law BitsShort's walk: for all uint64 a and b it returns true; of what was in memory nothing turns. -/
import Derived.Test.YtdnihkmdigmnoaaDoorBitsL
namespace Go.Proofs.YtdnihkmdigmnoaaDoor
open Go.RowKit

theorem codeLen_pos (a : Nat) : 0 < codeLen a := by
  unfold codeLen
  repeat' split
  all_goals omega
theorem Bs.below {w w' : World} {r l : Nat} {bs : List Nat} (h : Bs w r l bs) (hb : Below w.heap.size w w') : Bs w' r l bs := by
  obtain ⟨h1, h2, h3⟩ := h
  refine ⟨h1, h2, fun j b hj => ?_⟩
  have hc := h3 j b hj
  have hlt : r < w.heap.size := block_lt_of_cell hc
  exact (hb.cell (p := ⟨r, j, none⟩) hlt).trans hc
set_option maxHeartbeats 1000000 in
theorem short_same (a b : Nat) (w : World) (hT : Tab w) (a1 : a ≤ 18446744073709551615) (b1 : b ≤ 18446744073709551615) (hab : a = b) :
    Calls Tryd.prog 3 #[.int .u64 (a : Int), .int .u64 (b : Int)] w fun e w' => e = .returned (.bool true) ∧ Below w.heap.size w w' := by
  have hz := hT.pos
  have la := codeLen_le a
  have lb := codeLen_le b
  have hl : codeLen a = codeLen b := by rw [hab]
  have hle : (a : Int) ≤ (b : Int) := by omega
  have hll : ((codeLen a : Nat) : Int) ≤ ((codeLen b : Nat) : Int) := by omega
  have hle2 : ((codeLen a : Int) == (codeLen b : Int)) = true := by rw [hl]; simp
  have he : ((a : Int) == (b : Int)) = true := by rw [hab]; simp
  have pa := codeLen_pos a
  have pb := codeLen_pos b
  have HL := Lib.hid hl
  have HAB := Lib.hid hab
  clear hl hab
  go_enter Tryd.func3, Tryd.ntmps3
  go_wp2_with fail
  have hB0 : Below w.heap.size w ((w.alloc (.cells #[.slice none 0 0, .int .i64 0] 25)).alloc (.cells #[.slice none 0 0, .int .i64 0] 25)) := ((Below.refl _ _).alloc (Nat.le_refl _) _).alloc (by simp) _
  have hw := Wr.fresh (w := (w.alloc (.cells #[.slice none 0 0, .int .i64 0] 25)).alloc (.cells #[.slice none 0 0, .int .i64 0] 25)) (p := w.heap.size) (B := w.heap.size + 2) (by omega) (by simp) (by simp [go_sem]) (by simp [go_sem]) (by simp [go_sem]) (by simp [go_sem])
  have hx := Wr.fresh (w := (w.alloc (.cells #[.slice none 0 0, .int .i64 0] 25)).alloc (.cells #[.slice none 0 0, .int .i64 0] 25)) (p := w.heap.size + 1) (B := w.heap.size + 2) (by omega) (by simp) (by simp [go_sem]) (by simp [go_sem]) (by simp [go_sem]) (by simp [go_sem])
  have hT0 := hT.below hB0 hz
  refine (count_any a _ _ _ 0 _ _ _ hw Laid.none_ hT0 (by omega) (by decide) a1).mono ?_
  rintro e w1 ⟨rfl, v1, bs1, q1, q2, q3, q4⟩
  have hB1 := q3.below w hB0 (Nat.le_refl _)
  have hT1 := hT.below hB1 hz
  have hx1 := hx.step q3 (by omega) (by omega) (by simp [Value.ownBlock]) (by simp [Value.ownBlock])
  have hx2 : Wr w1 (w.heap.size + 1) w1.heap.size (.slice none 0 0) [] 0 := Wr.fresh (by have := q3.size; simp at this; omega) (Nat.le_refl _) hx1.c0 hx1.c1 hx1.f0 hx1.f1
  clear hw hx hT0 hx1
  go_wp2_with fail
  refine (count_any b _ _ _ 0 _ _ _ hx2 Laid.none_ hT1 (by omega) (by decide) b1).mono ?_
  rintro e w2 ⟨rfl, v2, bs2, r1, r2, r3, r4⟩
  have hB2 := r3.below w hB1 (by omega)
  have q5 := q1.step r3 (by omega) (by omega) (by simp [Value.ownBlock]) (by simp [Value.ownBlock])
  have Q := Lib.hid q5
  have R := Lib.hid r1
  have q2' : Laid bs1 (codeLen a) (codeVal a) := by have := q2; simpa using this
  have r2' : Laid bs2 (codeLen b) (codeVal b) := by have := r2; simpa using this
  have QL := Lib.hid q2'
  have RL := Lib.hid r2'
  have hT2 := hT.below hB2 hz
  have HT := Lib.hid hT2
  rw [Nat.zero_add] at Q R
  clear hB0 hT1 hx2 q1 q2 q3 q4 r1 r2 r3 r4 q5 q2' r2' hB1 hT2
  go_wp2_with fail
  refine (len_any _ _ _ _ _ _ Q.out).mono ?_
  rintro e w3 ⟨rfl, rfl⟩
  go_wp2_with fail
  refine (len_any _ _ _ _ _ _ R.out).mono ?_
  rintro e w3 ⟨rfl, rfl⟩
  go_wp2_with fail
  refine (awake02 _ HT.out).mono ?_
  rintro e w4 ⟨rfl, hB4⟩
  have Q4 := Lib.hid (Q.out.below hB4)
  have R4 := Lib.hid (R.out.below hB4)
  have hB4' := hB2.trans (hB4.mono hB2.size)
  clear hB4 hB2
  go_wp2_with fail
  refine (len_any _ _ _ _ _ _ Q4.out).mono ?_
  rintro e w3 ⟨rfl, rfl⟩
  go_wp2_with fail
  refine (len_any _ _ _ _ _ _ R4.out).mono ?_
  rintro e w3 ⟨rfl, rfl⟩
  go_wp2_with fail
  refine (bytes_any _ _ _ _ _ _ _ Q4.out QL.out (by omega) (by omega)).mono ?_
  rintro e w5 ⟨s1, l1, c1, rfl, hs1, hB5⟩
  have R5 := Lib.hid (R4.out.below hB5)
  have hB5' := hB4'.trans (hB5.mono hB4'.size)
  have S1 := Lib.hid hs1
  clear hB4' hs1
  go_wp2_with fail
  refine (bytes_any _ _ _ _ _ _ _ R5.out RL.out (by omega) (by omega)).mono ?_
  rintro e w6 ⟨s2, l2, c2, rfl, hs2, hB6⟩
  have S1' := Lib.hid (S1.out.below hB6)
  have hB6' := hB5'.trans (hB6.mono hB5'.size)
  have S2 := Lib.hid hs2
  clear hB6 hB5' hs2 hB5
  go_wp2_with fail
  refine (same_any _ _ _ _ _ _ _ _ _ S1'.out S2.out).mono ?_
  rintro e w7 ⟨rfl, rfl⟩
  have hne : sameB bs1 bs2 = true := by
    unfold sameB
    refine decide_eq_true ?_
    have k := QL.out
    rw [HAB.out] at k
    exact k.same_bytes RL.out
  go_wp2_with fail
  go_ret
  exact ⟨rfl, hB6'⟩

set_option maxHeartbeats 1000000 in
theorem short_less_eq (a b : Nat) (w : World) (hT : Tab w) (a1 : a ≤ 18446744073709551615) (b1 : b ≤ 18446744073709551615) (hlt : a < b) (hl0 : codeLen a = codeLen b) :
    Calls Tryd.prog 3 #[.int .u64 (a : Int), .int .u64 (b : Int)] w fun e w' => e = .returned (.bool true) ∧ Below w.heap.size w w' := by
  have hz := hT.pos
  have la := codeLen_le a
  have lb := codeLen_le b
  have hle : (a : Int) ≤ (b : Int) := by omega
  have hll : ((codeLen a : Nat) : Int) ≤ ((codeLen b : Nat) : Int) := by omega
  have hle2 : ((codeLen a : Int) == (codeLen b : Int)) = true := by rw [hl0]; simp
  have he : ((a : Int) == (b : Int)) = false := by simp; omega
  have pa := codeLen_pos a
  have pb := codeLen_pos b
  have HL := Lib.hid hl0
  have HAB : Hid (¬ a = b) := by unfold Hid; omega
  clear hl0
  go_enter Tryd.func3, Tryd.ntmps3
  go_wp2_with fail
  have hB0 : Below w.heap.size w ((w.alloc (.cells #[.slice none 0 0, .int .i64 0] 25)).alloc (.cells #[.slice none 0 0, .int .i64 0] 25)) := ((Below.refl _ _).alloc (Nat.le_refl _) _).alloc (by simp) _
  have hw := Wr.fresh (w := (w.alloc (.cells #[.slice none 0 0, .int .i64 0] 25)).alloc (.cells #[.slice none 0 0, .int .i64 0] 25)) (p := w.heap.size) (B := w.heap.size + 2) (by omega) (by simp) (by simp [go_sem]) (by simp [go_sem]) (by simp [go_sem]) (by simp [go_sem])
  have hx := Wr.fresh (w := (w.alloc (.cells #[.slice none 0 0, .int .i64 0] 25)).alloc (.cells #[.slice none 0 0, .int .i64 0] 25)) (p := w.heap.size + 1) (B := w.heap.size + 2) (by omega) (by simp) (by simp [go_sem]) (by simp [go_sem]) (by simp [go_sem]) (by simp [go_sem])
  have hT0 := hT.below hB0 hz
  refine (count_any a _ _ _ 0 _ _ _ hw Laid.none_ hT0 (by omega) (by decide) a1).mono ?_
  rintro e w1 ⟨rfl, v1, bs1, q1, q2, q3, q4⟩
  have hB1 := q3.below w hB0 (Nat.le_refl _)
  have hT1 := hT.below hB1 hz
  have hx1 := hx.step q3 (by omega) (by omega) (by simp [Value.ownBlock]) (by simp [Value.ownBlock])
  have hx2 : Wr w1 (w.heap.size + 1) w1.heap.size (.slice none 0 0) [] 0 := Wr.fresh (by have := q3.size; simp at this; omega) (Nat.le_refl _) hx1.c0 hx1.c1 hx1.f0 hx1.f1
  clear hw hx hT0 hx1
  go_wp2_with fail
  refine (count_any b _ _ _ 0 _ _ _ hx2 Laid.none_ hT1 (by omega) (by decide) b1).mono ?_
  rintro e w2 ⟨rfl, v2, bs2, r1, r2, r3, r4⟩
  have hB2 := r3.below w hB1 (by omega)
  have q5 := q1.step r3 (by omega) (by omega) (by simp [Value.ownBlock]) (by simp [Value.ownBlock])
  have Q := Lib.hid q5
  have R := Lib.hid r1
  have q2' : Laid bs1 (codeLen a) (codeVal a) := by have := q2; simpa using this
  have r2' : Laid bs2 (codeLen b) (codeVal b) := by have := r2; simpa using this
  have QL := Lib.hid q2'
  have RL := Lib.hid r2'
  have hT2 := hT.below hB2 hz
  have HT := Lib.hid hT2
  rw [Nat.zero_add] at Q R
  clear hB0 hT1 hx2 q1 q2 q3 q4 r1 r2 r3 r4 q5 q2' r2' hB1 hT2
  go_wp2_with fail
  refine (len_any _ _ _ _ _ _ Q.out).mono ?_
  rintro e w3 ⟨rfl, rfl⟩
  go_wp2_with fail
  refine (len_any _ _ _ _ _ _ R.out).mono ?_
  rintro e w3 ⟨rfl, rfl⟩
  go_wp2_with fail
  refine (awake02 _ HT.out).mono ?_
  rintro e w4 ⟨rfl, hB4⟩
  have Q4 := Lib.hid (Q.out.below hB4)
  have R4 := Lib.hid (R.out.below hB4)
  have hB4' := hB2.trans (hB4.mono hB2.size)
  clear hB4 hB2
  go_wp2_with fail
  refine (len_any _ _ _ _ _ _ Q4.out).mono ?_
  rintro e w3 ⟨rfl, rfl⟩
  go_wp2_with fail
  refine (len_any _ _ _ _ _ _ R4.out).mono ?_
  rintro e w3 ⟨rfl, rfl⟩
  go_wp2_with fail
  refine (bytes_any _ _ _ _ _ _ _ Q4.out QL.out (by omega) (by omega)).mono ?_
  rintro e w5 ⟨s1, l1, c1, rfl, hs1, hB5⟩
  have R5 := Lib.hid (R4.out.below hB5)
  have hB5' := hB4'.trans (hB5.mono hB4'.size)
  have S1 := Lib.hid hs1
  clear hB4' hs1
  go_wp2_with fail
  refine (bytes_any _ _ _ _ _ _ _ R5.out RL.out (by omega) (by omega)).mono ?_
  rintro e w6 ⟨s2, l2, c2, rfl, hs2, hB6⟩
  have S1' := Lib.hid (S1.out.below hB6)
  have hB6' := hB5'.trans (hB6.mono hB5'.size)
  have S2 := Lib.hid hs2
  clear hB6 hB5' hs2 hB5
  go_wp2_with fail
  refine (same_any _ _ _ _ _ _ _ _ _ S1'.out S2.out).mono ?_
  rintro e w7 ⟨rfl, rfl⟩
  have hne : sameB bs1 bs2 = false := by
    unfold sameB
    refine decide_eq_false fun h => HAB.out (code_inj HL.out ?_)
    have k := QL.out
    rw [h, HL.out] at k
    exact k.same_value RL.out
  go_wp2_with fail
  go_ret
  exact ⟨rfl, hB6'⟩

set_option maxHeartbeats 1000000 in
theorem short_less_ne (a b : Nat) (w : World) (hT : Tab w) (a1 : a ≤ 18446744073709551615) (b1 : b ≤ 18446744073709551615) (hlt : a < b) (hl0 : codeLen a ≠ codeLen b) :
    Calls Tryd.prog 3 #[.int .u64 (a : Int), .int .u64 (b : Int)] w fun e w' => e = .returned (.bool true) ∧ Below w.heap.size w w' := by
  have hz := hT.pos
  have la := codeLen_le a
  have lb := codeLen_le b
  have hle : (a : Int) ≤ (b : Int) := by omega
  have hll : ((codeLen a : Nat) : Int) ≤ ((codeLen b : Nat) : Int) := by have := code_mono (show a ≤ b by omega); omega
  have hle2 : ((codeLen a : Int) == (codeLen b : Int)) = false := by simp; omega
  have he : ((a : Int) == (b : Int)) = false := by simp; omega
  clear hl0
  go_enter Tryd.func3, Tryd.ntmps3
  go_wp2_with fail
  have hB0 : Below w.heap.size w ((w.alloc (.cells #[.slice none 0 0, .int .i64 0] 25)).alloc (.cells #[.slice none 0 0, .int .i64 0] 25)) := ((Below.refl _ _).alloc (Nat.le_refl _) _).alloc (by simp) _
  have hw := Wr.fresh (w := (w.alloc (.cells #[.slice none 0 0, .int .i64 0] 25)).alloc (.cells #[.slice none 0 0, .int .i64 0] 25)) (p := w.heap.size) (B := w.heap.size + 2) (by omega) (by simp) (by simp [go_sem]) (by simp [go_sem]) (by simp [go_sem]) (by simp [go_sem])
  have hx := Wr.fresh (w := (w.alloc (.cells #[.slice none 0 0, .int .i64 0] 25)).alloc (.cells #[.slice none 0 0, .int .i64 0] 25)) (p := w.heap.size + 1) (B := w.heap.size + 2) (by omega) (by simp) (by simp [go_sem]) (by simp [go_sem]) (by simp [go_sem]) (by simp [go_sem])
  have hT0 := hT.below hB0 hz
  refine (count_any a _ _ _ 0 _ _ _ hw Laid.none_ hT0 (by omega) (by decide) a1).mono ?_
  rintro e w1 ⟨rfl, v1, bs1, q1, q2, q3, q4⟩
  have hB1 := q3.below w hB0 (Nat.le_refl _)
  have hT1 := hT.below hB1 hz
  have hx1 := hx.step q3 (by omega) (by omega) (by simp [Value.ownBlock]) (by simp [Value.ownBlock])
  have hx2 : Wr w1 (w.heap.size + 1) w1.heap.size (.slice none 0 0) [] 0 := Wr.fresh (by have := q3.size; simp at this; omega) (Nat.le_refl _) hx1.c0 hx1.c1 hx1.f0 hx1.f1
  clear hw hx hT0 hx1
  go_wp2_with fail
  refine (count_any b _ _ _ 0 _ _ _ hx2 Laid.none_ hT1 (by omega) (by decide) b1).mono ?_
  rintro e w2 ⟨rfl, v2, bs2, r1, r2, r3, r4⟩
  have hB2 := r3.below w hB1 (by omega)
  have q5 := q1.step r3 (by omega) (by omega) (by simp [Value.ownBlock]) (by simp [Value.ownBlock])
  have Q := Lib.hid q5
  have R := Lib.hid r1
  have q2' : Laid bs1 (codeLen a) (codeVal a) := by have := q2; simpa using this
  have r2' : Laid bs2 (codeLen b) (codeVal b) := by have := r2; simpa using this
  have QL := Lib.hid q2'
  have RL := Lib.hid r2'
  have hT2 := hT.below hB2 hz
  have HT := Lib.hid hT2
  rw [Nat.zero_add] at Q R
  clear hB0 hT1 hx2 q1 q2 q3 q4 r1 r2 r3 r4 q5 q2' r2' hB1 hT2
  go_wp2_with fail
  refine (len_any _ _ _ _ _ _ Q.out).mono ?_
  rintro e w3 ⟨rfl, rfl⟩
  go_wp2_with fail
  refine (len_any _ _ _ _ _ _ R.out).mono ?_
  rintro e w3 ⟨rfl, rfl⟩
  go_wp2_with fail
  refine (awake02 _ HT.out).mono ?_
  rintro e w4 ⟨rfl, hB4⟩
  have Q4 := Lib.hid (Q.out.below hB4)
  have R4 := Lib.hid (R.out.below hB4)
  have hB4' := hB2.trans (hB4.mono hB2.size)
  clear hB4 hB2
  go_wp2_with fail
  refine (len_any _ _ _ _ _ _ Q4.out).mono ?_
  rintro e w3 ⟨rfl, rfl⟩
  go_wp2_with fail
  refine (len_any _ _ _ _ _ _ R4.out).mono ?_
  rintro e w3 ⟨rfl, rfl⟩
  go_wp2_with fail
  go_ret
  exact ⟨rfl, hB4'⟩

set_option maxHeartbeats 1000000 in
theorem short_more_eq (a b : Nat) (w : World) (hT : Tab w) (a1 : a ≤ 18446744073709551615) (b1 : b ≤ 18446744073709551615) (hlt : b < a) (hl0 : codeLen a = codeLen b) :
    Calls Tryd.prog 3 #[.int .u64 (a : Int), .int .u64 (b : Int)] w fun e w' => e = .returned (.bool true) ∧ Below w.heap.size w w' := by
  have hz := hT.pos
  have la := codeLen_le a
  have lb := codeLen_le b
  have hle : decide ((a : Int) ≤ (b : Int)) = false := by simp; omega
  have hle2 : ((codeLen a : Int) == (codeLen b : Int)) = true := by rw [hl0]; simp
  have he : ((a : Int) == (b : Int)) = false := by simp; omega
  have pa := codeLen_pos a
  have pb := codeLen_pos b
  have HL := Lib.hid hl0
  have HAB : Hid (¬ a = b) := by unfold Hid; omega
  clear hl0
  go_enter Tryd.func3, Tryd.ntmps3
  go_wp2_with fail
  have hB0 : Below w.heap.size w ((w.alloc (.cells #[.slice none 0 0, .int .i64 0] 25)).alloc (.cells #[.slice none 0 0, .int .i64 0] 25)) := ((Below.refl _ _).alloc (Nat.le_refl _) _).alloc (by simp) _
  have hw := Wr.fresh (w := (w.alloc (.cells #[.slice none 0 0, .int .i64 0] 25)).alloc (.cells #[.slice none 0 0, .int .i64 0] 25)) (p := w.heap.size) (B := w.heap.size + 2) (by omega) (by simp) (by simp [go_sem]) (by simp [go_sem]) (by simp [go_sem]) (by simp [go_sem])
  have hx := Wr.fresh (w := (w.alloc (.cells #[.slice none 0 0, .int .i64 0] 25)).alloc (.cells #[.slice none 0 0, .int .i64 0] 25)) (p := w.heap.size + 1) (B := w.heap.size + 2) (by omega) (by simp) (by simp [go_sem]) (by simp [go_sem]) (by simp [go_sem]) (by simp [go_sem])
  have hT0 := hT.below hB0 hz
  refine (count_any a _ _ _ 0 _ _ _ hw Laid.none_ hT0 (by omega) (by decide) a1).mono ?_
  rintro e w1 ⟨rfl, v1, bs1, q1, q2, q3, q4⟩
  have hB1 := q3.below w hB0 (Nat.le_refl _)
  have hT1 := hT.below hB1 hz
  have hx1 := hx.step q3 (by omega) (by omega) (by simp [Value.ownBlock]) (by simp [Value.ownBlock])
  have hx2 : Wr w1 (w.heap.size + 1) w1.heap.size (.slice none 0 0) [] 0 := Wr.fresh (by have := q3.size; simp at this; omega) (Nat.le_refl _) hx1.c0 hx1.c1 hx1.f0 hx1.f1
  clear hw hx hT0 hx1
  go_wp2_with fail
  refine (count_any b _ _ _ 0 _ _ _ hx2 Laid.none_ hT1 (by omega) (by decide) b1).mono ?_
  rintro e w2 ⟨rfl, v2, bs2, r1, r2, r3, r4⟩
  have hB2 := r3.below w hB1 (by omega)
  have q5 := q1.step r3 (by omega) (by omega) (by simp [Value.ownBlock]) (by simp [Value.ownBlock])
  have Q := Lib.hid q5
  have R := Lib.hid r1
  have q2' : Laid bs1 (codeLen a) (codeVal a) := by have := q2; simpa using this
  have r2' : Laid bs2 (codeLen b) (codeVal b) := by have := r2; simpa using this
  have QL := Lib.hid q2'
  have RL := Lib.hid r2'
  have hT2 := hT.below hB2 hz
  have HT := Lib.hid hT2
  rw [Nat.zero_add] at Q R
  clear hB0 hT1 hx2 q1 q2 q3 q4 r1 r2 r3 r4 q5 q2' r2' hB1 hT2
  go_wp2_with fail
  refine (awake02 _ HT.out).mono ?_
  rintro e w4 ⟨rfl, hB4⟩
  have Q4 := Lib.hid (Q.out.below hB4)
  have R4 := Lib.hid (R.out.below hB4)
  have hB4' := hB2.trans (hB4.mono hB2.size)
  clear hB4 hB2
  go_wp2_with fail
  refine (len_any _ _ _ _ _ _ Q4.out).mono ?_
  rintro e w3 ⟨rfl, rfl⟩
  go_wp2_with fail
  refine (len_any _ _ _ _ _ _ R4.out).mono ?_
  rintro e w3 ⟨rfl, rfl⟩
  go_wp2_with fail
  refine (bytes_any _ _ _ _ _ _ _ Q4.out QL.out (by omega) (by omega)).mono ?_
  rintro e w5 ⟨s1, l1, c1, rfl, hs1, hB5⟩
  have R5 := Lib.hid (R4.out.below hB5)
  have hB5' := hB4'.trans (hB5.mono hB4'.size)
  have S1 := Lib.hid hs1
  clear hB4' hs1
  go_wp2_with fail
  refine (bytes_any _ _ _ _ _ _ _ R5.out RL.out (by omega) (by omega)).mono ?_
  rintro e w6 ⟨s2, l2, c2, rfl, hs2, hB6⟩
  have S1' := Lib.hid (S1.out.below hB6)
  have hB6' := hB5'.trans (hB6.mono hB5'.size)
  have S2 := Lib.hid hs2
  clear hB6 hB5' hs2 hB5
  go_wp2_with fail
  refine (same_any _ _ _ _ _ _ _ _ _ S1'.out S2.out).mono ?_
  rintro e w7 ⟨rfl, rfl⟩
  have hne : sameB bs1 bs2 = false := by
    unfold sameB
    refine decide_eq_false fun h => HAB.out (code_inj HL.out ?_)
    have k := QL.out
    rw [h, HL.out] at k
    exact k.same_value RL.out
  go_wp2_with fail
  go_ret
  exact ⟨rfl, hB6'⟩

set_option maxHeartbeats 1000000 in
theorem short_more_ne (a b : Nat) (w : World) (hT : Tab w) (a1 : a ≤ 18446744073709551615) (b1 : b ≤ 18446744073709551615) (hlt : b < a) (hl0 : codeLen a ≠ codeLen b) :
    Calls Tryd.prog 3 #[.int .u64 (a : Int), .int .u64 (b : Int)] w fun e w' => e = .returned (.bool true) ∧ Below w.heap.size w w' := by
  have hz := hT.pos
  have la := codeLen_le a
  have lb := codeLen_le b
  have hle : decide ((a : Int) ≤ (b : Int)) = false := by simp; omega
  have hle2 : ((codeLen a : Int) == (codeLen b : Int)) = false := by simp; omega
  have he : ((a : Int) == (b : Int)) = false := by simp; omega
  clear hl0
  go_enter Tryd.func3, Tryd.ntmps3
  go_wp2_with fail
  have hB0 : Below w.heap.size w ((w.alloc (.cells #[.slice none 0 0, .int .i64 0] 25)).alloc (.cells #[.slice none 0 0, .int .i64 0] 25)) := ((Below.refl _ _).alloc (Nat.le_refl _) _).alloc (by simp) _
  have hw := Wr.fresh (w := (w.alloc (.cells #[.slice none 0 0, .int .i64 0] 25)).alloc (.cells #[.slice none 0 0, .int .i64 0] 25)) (p := w.heap.size) (B := w.heap.size + 2) (by omega) (by simp) (by simp [go_sem]) (by simp [go_sem]) (by simp [go_sem]) (by simp [go_sem])
  have hx := Wr.fresh (w := (w.alloc (.cells #[.slice none 0 0, .int .i64 0] 25)).alloc (.cells #[.slice none 0 0, .int .i64 0] 25)) (p := w.heap.size + 1) (B := w.heap.size + 2) (by omega) (by simp) (by simp [go_sem]) (by simp [go_sem]) (by simp [go_sem]) (by simp [go_sem])
  have hT0 := hT.below hB0 hz
  refine (count_any a _ _ _ 0 _ _ _ hw Laid.none_ hT0 (by omega) (by decide) a1).mono ?_
  rintro e w1 ⟨rfl, v1, bs1, q1, q2, q3, q4⟩
  have hB1 := q3.below w hB0 (Nat.le_refl _)
  have hT1 := hT.below hB1 hz
  have hx1 := hx.step q3 (by omega) (by omega) (by simp [Value.ownBlock]) (by simp [Value.ownBlock])
  have hx2 : Wr w1 (w.heap.size + 1) w1.heap.size (.slice none 0 0) [] 0 := Wr.fresh (by have := q3.size; simp at this; omega) (Nat.le_refl _) hx1.c0 hx1.c1 hx1.f0 hx1.f1
  clear hw hx hT0 hx1
  go_wp2_with fail
  refine (count_any b _ _ _ 0 _ _ _ hx2 Laid.none_ hT1 (by omega) (by decide) b1).mono ?_
  rintro e w2 ⟨rfl, v2, bs2, r1, r2, r3, r4⟩
  have hB2 := r3.below w hB1 (by omega)
  have q5 := q1.step r3 (by omega) (by omega) (by simp [Value.ownBlock]) (by simp [Value.ownBlock])
  have Q := Lib.hid q5
  have R := Lib.hid r1
  have q2' : Laid bs1 (codeLen a) (codeVal a) := by have := q2; simpa using this
  have r2' : Laid bs2 (codeLen b) (codeVal b) := by have := r2; simpa using this
  have QL := Lib.hid q2'
  have RL := Lib.hid r2'
  have hT2 := hT.below hB2 hz
  have HT := Lib.hid hT2
  rw [Nat.zero_add] at Q R
  clear hB0 hT1 hx2 q1 q2 q3 q4 r1 r2 r3 r4 q5 q2' r2' hB1 hT2
  go_wp2_with fail
  refine (awake02 _ HT.out).mono ?_
  rintro e w4 ⟨rfl, hB4⟩
  have Q4 := Lib.hid (Q.out.below hB4)
  have R4 := Lib.hid (R.out.below hB4)
  have hB4' := hB2.trans (hB4.mono hB2.size)
  clear hB4 hB2
  go_wp2_with fail
  refine (len_any _ _ _ _ _ _ Q4.out).mono ?_
  rintro e w3 ⟨rfl, rfl⟩
  go_wp2_with fail
  refine (len_any _ _ _ _ _ _ R4.out).mono ?_
  rintro e w3 ⟨rfl, rfl⟩
  go_wp2_with fail
  go_ret
  exact ⟨rfl, hB4'⟩

theorem bitsShort_walk (a b : Int) (w : World) (hT : Tab w) (a0 : 0 ≤ a) (a1 : a ≤ 18446744073709551615) (b0 : 0 ≤ b) (b1 : b ≤ 18446744073709551615) :
    Calls Tryd.prog 3 #[.int .u64 a, .int .u64 b] w fun e w' => e = .returned (.bool true) ∧ Below w.heap.size w w' := by
  obtain ⟨x, rfl⟩ := Int.eq_ofNat_of_zero_le a0
  obtain ⟨y, rfl⟩ := Int.eq_ofNat_of_zero_le b0
  by_cases h : x = y
  · exact short_same x y w hT (by omega) (by omega) h
  · by_cases hlt : x < y
    · by_cases hl : codeLen x = codeLen y
      · exact short_less_eq x y w hT (by omega) (by omega) hlt hl
      · exact short_less_ne x y w hT (by omega) (by omega) hlt hl
    · by_cases hl : codeLen x = codeLen y
      · exact short_more_eq x y w hT (by omega) (by omega) (by omega) hl
      · exact short_more_ne x y w hT (by omega) (by omega) (by omega) hl
end Go.Proofs.YtdnihkmdigmnoaaDoor
