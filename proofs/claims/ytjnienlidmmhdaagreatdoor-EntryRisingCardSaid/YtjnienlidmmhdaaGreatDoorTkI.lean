/- A reader's Int and Small, num.Zag, and the document's Zig. -/
import Derived.Test.YtjnienlidmmhdaaGreatDoorTkC
import Derived.Test.YtjnienlidmmhdaaGreatDoorMathB
namespace Go.Proofs.YtjnienlidmmhdaaGreatDoor.Tk
open Go.RowKit

theorem zag_any (c : Int) (w : World) (h1 : 0 ≤ c) (h2 : c ≤ 18446744073709551615) :
    Calls Tryz.prog 227 #[.int .u64 c] w fun e w' => e = .returned (.int .i64 (zagv c)) ∧ w = w' := by
  have ha := and_one_u64 c h1 h2
  by_cases h : c % 2 = 1
  · have e1 : zagv c = -(c / 2) - 1 := by unfold zagv; rw [if_pos h]
    have hE := Lib.hid e1
    have hs : IntKind.i64.signed = true := rfl
    have hx := not_i64 (n := c / 2) (by omega) (by omega)
    have ht : (c % 2 == 1) = true := by simpa using h
    clear e1 h
    go_enter Tryz.func227, Tryz.ntmps227
    go_wp2
    go_ret
    exact ⟨ret_int hE.out.symm, rfl⟩
  · have e1 : zagv c = c / 2 := by unfold zagv; rw [if_neg h]
    have hE := Lib.hid e1
    have ht : (c % 2 == 1) = false := by simpa using h
    clear e1 h
    go_enter Tryz.func227, Tryz.ntmps227
    go_wp2
    go_ret
    exact ⟨ret_int hE.out.symm, rfl⟩

theorem refzig_any (n : Int) (w : World) (h1 : -9223372036854775808 ≤ n) (h2 : n ≤ 9223372036854775807) :
    Calls Tryz.prog 120 #[.int .i64 n] w fun e w' => e = .returned (.int .u64 (zigv n)) ∧ w = w' := by
  by_cases h : 0 ≤ n
  · have e1 : zigv n = n * 2 := by unfold zigv; rw [if_neg (by omega)]; omega
    have hE := Lib.hid e1
    clear e1
    go_enter Tryz.func120, Tryz.ntmps120
    go_wp2
    go_ret
    exact ⟨ret_int hE.out.symm, rfl⟩
  · have e1 : zigv n = -(n + 1) * 2 + 1 := by unfold zigv; rw [if_pos (by omega)]; omega
    have hE := Lib.hid e1
    clear e1
    go_enter Tryz.func120, Tryz.ntmps120
    go_wp2
    go_ret
    exact ⟨ret_int hE.out.symm, rfl⟩

theorem int_any (q l c : Nat) (a : Option Addr) (bs : List Nat) (s : Nat × Int) (w : World) (h : Rd w q a l c bs s) (hT : Tab w) (hq : q ≠ 0) :
    Calls Tryz.prog 185 #[.pointer (some ⟨q, 0, none⟩)] w (TakePost q a l c bs (.int .i64 (zagv (((countF bs s).1 : Nat) : Int))) (countF bs s).2 w) := by
  have H := Lib.hid h
  have HT := Lib.hid hT
  have h64 := countF_u64 bs s
  obtain ⟨n, hn⟩ : ∃ n, (countF bs s).1 = n := ⟨_, rfl⟩
  rw [hn] at h64
  rw [hn]
  have HN := Lib.hid hn
  clear h hT hn
  go_enter Tryz.func185, Tryz.ntmps185
  go_wp2_with fail
  refine (count_any q l c a bs s _ H.out HT.out hq).mono ?_
  rintro e w' ⟨rfl, r1, r2⟩
  rw [HN.out]
  have R : Hid (TakePost q a l c bs (.int .i64 (zagv (n : Int))) (countF bs s).2 w (.returned (.int .i64 (zagv (n : Int)))) w') := ⟨rfl, r1, r2⟩
  clear r1 r2
  go_wp2_with fail
  refine (zag_any (n : Int) _ (by omega) (by omega)).mono ?_
  rintro e w'' ⟨rfl, rfl⟩
  go_wp2_with fail
  go_ret
  exact R.out

/-- a count of at most m taken -/
def smallF (bs : List Nat) (m : Nat) (s : Nat × Int) : Nat × (Nat × Int) :=
  if s.2 ≠ 0 then (0, s) else if (countF bs s).2.2 ≠ 0 then (0, (countF bs s).2) else if m < (countF bs s).1 then (0, (s.1, 9)) else countF bs s
theorem smallF_le (bs : List Nat) (m : Nat) (s : Nat × Int) : (smallF bs m s).1 ≤ m := by
  unfold smallF
  split
  · simp
  split
  · simp
  split
  · simp
  · omega

set_option maxHeartbeats 1000000 in
theorem small_any (m q l c : Nat) (a : Option Addr) (bs : List Nat) (s : Nat × Int) (w : World) (h : Rd w q a l c bs s) (hT : Tab w) (hq : q ≠ 0) (hm : m ≤ 1099511627776) :
    Calls Tryz.prog 114 #[.pointer (some ⟨q, 0, none⟩), .int .i64 (m : Int)] w (TakePost q a l c bs (.int .i64 (((smallF bs m s).1 : Nat) : Int)) (smallF bs m s).2 w) := by
  have H := Lib.hid h
  have HT := Lib.hid hT
  have c1 := h.c1
  have tl := h.tl
  have h64 := countF_u64 bs s
  obtain ⟨t, x⟩ := s
  dsimp only at c1 tl
  obtain ⟨G, hG⟩ : ∃ G, smallF bs m (t, x) = G := ⟨_, rfl⟩
  rw [hG]
  unfold smallF at hG
  dsimp only at hG
  clear h hT
  by_cases hx : x = 0
  · subst hx
    rw [if_neg (by simp)] at hG
    obtain ⟨n, s2, hn⟩ : ∃ n s2, countF bs (t, 0) = (n, s2) := ⟨_, _, rfl⟩
    rw [hn] at hG h64
    dsimp only at hG h64
    have HN := Lib.hid hn
    have HGG := Lib.hid hG
    clear hn hG
    go_enter Tryz.func114, Tryz.ntmps114
    go_wp2_with fail
    refine (err_any _ _ _ _ _ _ _ H.out).mono ?_
    rintro e w' ⟨rfl, rfl⟩
    go_wp2_with fail
    refine (count_any q l c a bs (t, 0) _ H.out HT.out hq).mono ?_
    rintro e w1 ⟨rfl, q1, q2⟩
    rw [HN.out] at q1 ⊢
    dsimp only at q1 ⊢
    have c2 := q1.c2
    have Q1 := Lib.hid q1
    have Q2 := Lib.hid q2
    clear q1 q2
    obtain ⟨u, y⟩ := s2
    dsimp only at c2
    by_cases hy : y = 0
    · subst hy
      by_cases hmn : m < n
      · have hG : G = (0, (t, 9)) := by have := HGG.out; rw [if_neg (by simp), if_pos hmn] at this; exact this.symm
        have hd : decide ((m : Int) < (n : Int)) = true := by simp; omega
        have hd0 : decide ((m : Int) < 0) = false := by simp
        go_wp2_with fail
        refine (fail_any q l c t a bs (u, 0) 9 _ Q1.out tl).mono ?_
        rintro e w3 ⟨rfl, r1, r2⟩
        have R : Hid (TakePost q a l c bs (.int .i64 (G.1 : Int)) G.2 w (.returned (.int .i64 0)) w3) := by rw [hG]; exact ⟨rfl, r1, Q2.out.trans0 r2⟩
        clear r1 r2
        go_wp2_with fail
        go_ret
        exact R.out
      · have hG : G = (n, (u, 0)) := by have := HGG.out; rw [if_neg (by simp), if_neg hmn] at this; exact this.symm
        have R : Hid (TakePost q a l c bs (.int .i64 (G.1 : Int)) G.2 w (.returned (.int .i64 (n : Int))) w1) := by rw [hG]; exact ⟨rfl, Q1.out, Q2.out⟩
        clear hG
        have hd : decide ((m : Int) < (n : Int)) = false := by simp; omega
        have hd0 : decide ((m : Int) < 0) = false := by simp
        go_wp2_with fail
        go_ret
        exact R.out
    · have hG : G = (0, (u, y)) := by have := HGG.out; rw [if_pos (by simpa using hy)] at this; exact this.symm
      have R : Hid (TakePost q a l c bs (.int .i64 (G.1 : Int)) G.2 w (.returned (.int .i64 0)) w1) := by rw [hG]; exact ⟨rfl, Q1.out, Q2.out⟩
      clear hG
      have hb : (y != 0) = true := by simpa using hy
      go_wp2_with fail
      go_ret
      exact R.out
  · rw [if_pos (by simpa using hx)] at hG
    subst hG
    have hb : (x != 0) = true := by simpa using hx
    go_enter Tryz.func114, Tryz.ntmps114
    go_wp2_with fail
    refine (err_any _ _ _ _ _ _ _ H.out).mono ?_
    rintro e w' ⟨rfl, rfl⟩
    go_wp2_with fail
    go_ret
    exact ⟨rfl, H.out, Step.refl _ _ _⟩
end Go.Proofs.YtjnienlidmmhdaaGreatDoor.Tk
