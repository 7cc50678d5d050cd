/- A reader's Get, Bit, class, Count, Int, Small on any bytes: they return what the plain model (getF, clsF, countF, smallF) says. -/
import Derived.Test.YtjnienlidmmhdaaGreatDoorTkR
namespace Go.Proofs.YtjnienlidmmhdaaGreatDoor.Tk
open Go.RowKit

/-- so many bits taken: the number, and where the reader stands then -/
def getF (bs : List Nat) (k : Nat) (s : Nat × Int) : Nat × (Nat × Int) :=
  if s.2 ≠ 0 then (0, s) else if s.1 + k ≤ 8 * bs.length then (part bs s.1 k, (s.1 + k, 0)) else (0, (s.1, 7))

/-- what holds at each round of Get -/
def GetRel (q l c : Nat) (a : Option Addr) (bs : List Nat) (t k : Nat) (w : World) (n i : Value) (wr : World) : Prop :=
  ∃ j : Nat, j ≤ k ∧ i = .int .i64 (j : Int) ∧ n = .int .u64 ((part bs t j : Nat) : Int) ∧ Rd wr q a l c bs (t + j, 0) ∧ Step q none w wr

theorem get_ok (q l c k t : Nat) (a : Option Addr) (bs : List Nat) (w : World) (h : Rd w q a l c bs (t, 0)) (hk : k ≤ 64) (ht : t + k ≤ 8 * l) :
    Calls Tryz.prog 150 #[.pointer (some ⟨q, 0, none⟩), .int .i64 (k : Int)] w (TakePost q a l c bs (.int .u64 ((part bs t k : Nat) : Int)) (t + k, 0) w) := by
  have H := Lib.hid h
  have hl : bs.length = l := h.len.symm
  have HL := Lib.hid hl
  clear h hl
  go_enter Tryz.func150, Tryz.ntmps150
  go_wp2_with fail
  refine (err_any _ _ _ _ _ _ _ H.out).mono ?_
  rintro e w' ⟨rfl, rfl⟩
  go_wp2_with fail
  refine (within_any _ _ (by omega) (by omega)).mono ?_
  rintro e w' ⟨rfl, rfl⟩
  go_wp2_with fail
  refine (left_any _ _ _ _ _ _ _ H.out).mono ?_
  rintro e w' ⟨rfl, n0, rfl⟩
  have hle : (k : Int) ≤ (l : Int) * 8 - (t : Int) := by omega
  have R0 : Hid (GetRel q l c a bs t k w (.int .u64 0) (.int .i64 0) (w.drewN n0)) :=
    ⟨0, Nat.zero_le _, rfl, by unfold part; simp [Nat.mod_one], H.out.drewN n0, Step.drewN n0⟩
  clear H
  go_wp2_with fail
  go_loopw [5, 22] (fun n i wr => GetRel q l c a bs t k w n i wr) (fun _ i _ => k - (intOf i).toNat)
  case atStart => exact R0.out
  case round =>
    obtain ⟨j, hj, rfl, rfl, q1, q2⟩ := hrel
    by_cases hlt : j < k
    · have Q1 := Lib.hid q1
      have Q2 := Lib.hid q2
      have hm : part bs t j < 9223372036854775808 := by
        have h1 := part_lt bs t j
        have h2 : 2 ^ j ≤ 2 ^ 63 := Nat.pow_le_pow_right (by decide) (by omega)
        omega
      have h2 : part bs (t + j) 1 < 2 := part_lt bs (t + j) 1
      have hor := or_double hm h2
      have hs := part_succ bs t j (by have := HL.out; omega)
      have HS := Lib.hid hs
      obtain ⟨m, hm'⟩ : ∃ m, part bs t j = m := ⟨_, rfl⟩
      obtain ⟨b, hb'⟩ : ∃ b, part bs (t + j) 1 = b := ⟨_, rfl⟩
      rw [hm', hb'] at hor
      rw [hm'] at hm
      have HM := Lib.hid hm'
      have HBB := Lib.hid hb'
      clear q1 q2 hs hm' hb' h2
      rw [HM.out]
      go_wp2_with fail
      refine (next_any _ _ _ _ _ _ _ Q1.out (by simp only; omega)).mono ?_
      rintro e w' ⟨rfl, r1, r2⟩
      have R : Hid (GetRel q l c a bs t k w (.int .u64 ((m * 2 + b : Nat) : Int)) (.int .i64 ((j : Int) + 1)) w') :=
        ⟨j + 1, by omega, ret_val (by omega), by rw [HS.out, HM.out, HBB.out], r1, Q2.out.trans0 r2⟩
      simp only [HBB.out]
      clear r1 r2
      go_wp2_with fail
      go_roundw
      case rel => exact R.out
      case measure => simp [intOf]; omega
    · obtain rfl : j = k := by omega
      have Q : Hid (TakePost q a l c bs (.int .u64 ((part bs t j : Nat) : Int)) (t + j, 0) w (.returned (.int .u64 ((part bs t j : Nat) : Int))) wr) := ⟨rfl, q1, q2⟩
      clear q1 q2
      go_wp2_with fail
      go_ret
      exact Q.out

theorem get_short (q l c k t : Nat) (a : Option Addr) (bs : List Nat) (w : World) (h : Rd w q a l c bs (t, 0)) (hk : k ≤ 64) (ht : ¬ t + k ≤ 8 * l) :
    Calls Tryz.prog 150 #[.pointer (some ⟨q, 0, none⟩), .int .i64 (k : Int)] w (TakePost q a l c bs (.int .u64 0) (t, 7) w) := by
  have H := Lib.hid h
  have htl : t ≤ 8 * l := h.tl
  have c1 := h.c1
  clear h
  go_enter Tryz.func150, Tryz.ntmps150
  go_wp2_with fail
  refine (err_any _ _ _ _ _ _ _ H.out).mono ?_
  rintro e w' ⟨rfl, rfl⟩
  go_wp2_with fail
  refine (within_any _ _ (by omega) (by omega)).mono ?_
  rintro e w' ⟨rfl, rfl⟩
  go_wp2_with fail
  refine (left_any _ _ _ _ _ _ _ H.out).mono ?_
  rintro e w' ⟨rfl, n0, rfl⟩
  have hle : ¬ (k : Int) ≤ (l : Int) * 8 - (t : Int) := by omega
  have hle2 : (l : Int) * 8 - (t : Int) < (k : Int) := by omega
  go_wp2_with fail
  refine (fail_any q l c t a bs (t, 0) 7 _ (H.out.drewN n0) htl).mono ?_
  rintro e w' ⟨rfl, r1, r2⟩
  have R : Hid (TakePost q a l c bs (.int .u64 0) (t, 7) w (.returned (.int .u64 0)) w') := ⟨rfl, r1, (Step.drewN n0).trans0 r2⟩
  clear r1 r2
  go_wp2_with fail
  go_ret
  exact R.out

theorem get_wrong (q l c k t : Nat) (x : Int) (a : Option Addr) (bs : List Nat) (w : World) (h : Rd w q a l c bs (t, x)) (hx : x ≠ 0) :
    Calls Tryz.prog 150 #[.pointer (some ⟨q, 0, none⟩), .int .i64 (k : Int)] w (TakePost q a l c bs (.int .u64 0) (t, x) w) := by
  have H := Lib.hid h
  have hx2 : (x != 0) = true := by simpa using hx
  clear h
  go_enter Tryz.func150, Tryz.ntmps150
  go_wp2_with fail
  refine (err_any _ _ _ _ _ _ _ H.out).mono ?_
  rintro e w' ⟨rfl, rfl⟩
  go_wp2_with fail
  go_ret
  exact ⟨rfl, H.out, Step.refl _ _ _⟩

theorem get_any (q l c k : Nat) (a : Option Addr) (bs : List Nat) (s : Nat × Int) (w : World) (h : Rd w q a l c bs s) (hk : k ≤ 64) :
    Calls Tryz.prog 150 #[.pointer (some ⟨q, 0, none⟩), .int .i64 (k : Int)] w (TakePost q a l c bs (.int .u64 (((getF bs k s).1 : Nat) : Int)) (getF bs k s).2 w) := by
  obtain ⟨t, x⟩ := s
  have hl := h.len
  unfold getF
  by_cases hx : x = 0
  · subst hx
    by_cases ht : t + k ≤ 8 * l
    · have := get_ok q l c k t a bs w h hk ht
      rw [if_neg (by simp), if_pos (by simp only; omega)]
      exact this
    · have := get_short q l c k t a bs w h hk ht
      rw [if_neg (by simp), if_neg (by simp only; omega)]
      exact this
  · rw [if_pos (by simpa using hx)]
    exact get_wrong q l c k t x a bs w h hx

theorem getF_one (bs : List Nat) (s : Nat × Int) : (getF bs 1 s).1 ≤ 1 := by
  unfold getF
  split
  · simp
  split
  · have := part_lt bs s.1 1
    simp only; omega
  · simp
theorem getF_lt (bs : List Nat) (k : Nat) (s : Nat × Int) : (getF bs k s).1 < 2 ^ k := by
  unfold getF
  split
  · exact Nat.two_pow_pos k
  split
  · exact part_lt _ _ _
  · exact Nat.two_pow_pos k

/-- one bit -/
def bitF (bs : List Nat) (s : Nat × Int) : Bool := (getF bs 1 s).1 == 1

theorem bit_any (q l c : Nat) (a : Option Addr) (bs : List Nat) (s : Nat × Int) (w : World) (h : Rd w q a l c bs s) :
    Calls Tryz.prog 184 #[.pointer (some ⟨q, 0, none⟩)] w (TakePost q a l c bs (.bool (bitF bs s)) (getF bs 1 s).2 w) := by
  have H := Lib.hid h
  obtain ⟨n, hn⟩ : ∃ n, (getF bs 1 s).1 = n := ⟨_, rfl⟩
  have hb : ((n : Int) == 1) = bitF bs s := by
    unfold bitF; rw [hn]; rw [Bool.eq_iff_iff]; simp; omega
  have HN := Lib.hid hn
  clear h hn
  go_enter Tryz.func184, Tryz.ntmps184
  go_wp2_with fail
  refine (get_any q l c 1 a bs s _ H.out (by decide)).mono ?_
  rintro e w' ⟨rfl, r1, r2⟩
  rw [HN.out]
  have R : Hid (TakePost q a l c bs (.bool (bitF bs s)) (getF bs 1 s).2 w (.returned (.bool (bitF bs s))) w') := ⟨rfl, r1, r2⟩
  clear r1 r2
  go_wp2_with fail
  go_ret
  exact R.out
end Go.Proofs.YtjnienlidmmhdaaGreatDoor.Tk
