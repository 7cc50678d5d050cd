/- A reader's class, Count and Small on any bytes, by the plain model. -/
import Derived.Test.YtjnienlidmmhdaaGreatDoorTkG
namespace Go.Proofs.YtjnienlidmmhdaaGreatDoor.Tk
open Go.RowKit

/-- the class that is told from s on, at most n more bits being asked, i told already -/
def clsF (bs : List Nat) : Nat → Nat → Nat × Int → Nat × (Nat × Int)
  | 0, i, s => (i, s)
  | n + 1, i, s => if bitF bs s then clsF bs n (i + 1) (getF bs 1 s).2 else (i, (getF bs 1 s).2)
theorem clsF_le (bs : List Nat) : ∀ (n i : Nat) (s : Nat × Int), (clsF bs n i s).1 ≤ i + n
  | 0, i, s => by simp [clsF]
  | n + 1, i, s => by
    unfold clsF
    split
    · have := clsF_le bs n (i + 1) (getF bs 1 s).2
      omega
    · simp

/-- how many bits a class has -/
def clw (k : Nat) : Nat := if k = 0 then 0 else if k = 1 then 3 else if k = 2 then 7 else if k = 3 then 12 else if k = 4 then 20 else if k = 5 then 32 else 64
theorem clw_le (k : Nat) : clw k ≤ 64 := by unfold clw; (repeat' split) <;> omega
theorem Tab.at {w : World} (h : Tab w) (k : Nat) (hk : k ≤ 6) : w.cell? ⟨0, k, none⟩ = some (.int .i64 ((clw k : Nat) : Int)) := by
  obtain ⟨t0, t1, t2, t3, t4, t5, t6⟩ := h
  match k, hk with
  | 0, _ => exact t0
  | 1, _ => exact t1
  | 2, _ => exact t2
  | 3, _ => exact t3
  | 4, _ => exact t4
  | 5, _ => exact t5
  | 6, _ => exact t6

/-- what holds at each round of class -/
def ClsRel (q l c : Nat) (a : Option Addr) (bs : List Nat) (s : Nat × Int) (w : World) (i : Value) (wr : World) : Prop :=
  ∃ (j : Nat) (u : Nat × Int), j ≤ 6 ∧ i = .int .i64 (j : Int) ∧ clsF bs 6 0 s = clsF bs (6 - j) j u ∧ Rd wr q a l c bs u ∧ Step q none w wr

theorem rclass_any (q l c : Nat) (a : Option Addr) (bs : List Nat) (s : Nat × Int) (w : World) (h : Rd w q a l c bs s) :
    Calls Tryz.prog 228 #[.pointer (some ⟨q, 0, none⟩)] w (TakePost q a l c bs (.int .i64 (((clsF bs 6 0 s).1 : Nat) : Int)) (clsF bs 6 0 s).2 w) := by
  have R0 : Hid (ClsRel q l c a bs s w (.int .i64 0) w) := ⟨0, s, by decide, rfl, rfl, h, Step.refl _ _ _⟩
  clear h
  go_enter Tryz.func228, Tryz.ntmps228
  go_wp2_with fail
  go_loopw [4] (fun i wr => ClsRel q l c a bs s w i wr) (fun i _ => 6 - (intOf i).toNat)
  case atStart => exact R0.out
  case round =>
    obtain ⟨j, u, hj, rfl, hcl, q1, q2⟩ := hrel
    have HC := Lib.hid hcl
    have Q1 := Lib.hid q1
    have Q2 := Lib.hid q2
    clear hcl q1 q2
    by_cases hlt : j < 6
    · go_wp2_with fail
      refine (bit_any _ _ _ _ _ _ _ Q1.out).mono ?_
      rintro e w' ⟨rfl, r1, r2⟩
      obtain ⟨b, hb⟩ : ∃ b, bitF bs u = b := ⟨_, rfl⟩
      have HB := Lib.hid hb
      rw [hb]
      clear hb
      have e1 : clsF bs (6 - j) j u = if bitF bs u then clsF bs (6 - (j + 1)) (j + 1) (getF bs 1 u).2 else (j, (getF bs 1 u).2) := by
        rw [show 6 - j = (6 - (j + 1)) + 1 by omega]; rfl
      cases b
      · have R : Hid (TakePost q a l c bs (.int .i64 (((clsF bs 6 0 s).1 : Nat) : Int)) (clsF bs 6 0 s).2 w (.returned (.int .i64 (j : Int))) w') := by
          have e2 : clsF bs 6 0 s = (j, (getF bs 1 u).2) := by rw [HC.out, e1, HB.out]; rfl
          rw [e2]; exact ⟨rfl, r1, Q2.out.trans0 r2⟩
        clear r1 r2 e1
        go_wp2_with fail
        go_ret
        exact R.out
      · have R : Hid (ClsRel q l c a bs s w (.int .i64 ((j : Int) + 1)) w') := by
          refine ⟨j + 1, _, by omega, ret_val (by omega), ?_, r1, Q2.out.trans0 r2⟩
          rw [HC.out, e1, HB.out]; rfl
        clear r1 r2 e1
        go_wp2_with fail
        go_roundw
        case rel => exact R.out
        case measure => simp [intOf]; omega
    · obtain rfl : j = 6 := by omega
      have R : Hid (TakePost q a l c bs (.int .i64 (((clsF bs 6 0 s).1 : Nat) : Int)) (clsF bs 6 0 s).2 w (.returned (.int .i64 6)) wr) := by
        rw [HC.out]; exact ⟨rfl, Q1.out, Q2.out⟩
      go_wp2_with fail
      go_ret
      exact R.out

/-- a count taken -/
def countF (bs : List Nat) (s : Nat × Int) : Nat × (Nat × Int) :=
  if s.2 ≠ 0 then (0, s) else
    if (getF bs (clw (clsF bs 6 0 s).1) (clsF bs 6 0 s).2).2.2 ≠ 0 then (0, (s.1, (getF bs (clw (clsF bs 6 0 s).1) (clsF bs 6 0 s).2).2.2)) else
      if (clsF bs 6 0 s).1 ≠ cls (getF bs (clw (clsF bs 6 0 s).1) (clsF bs 6 0 s).2).1 then (0, (s.1, 6)) else getF bs (clw (clsF bs 6 0 s).1) (clsF bs 6 0 s).2

theorem getF_u64 (bs : List Nat) (k : Nat) (s : Nat × Int) (hk : k ≤ 64) : (getF bs k s).1 ≤ 18446744073709551615 := by
  have h1 := getF_lt bs k s
  have h2 : 2 ^ k ≤ 2 ^ 64 := Nat.pow_le_pow_right (by decide) hk
  omega
theorem countF_u64 (bs : List Nat) (s : Nat × Int) : (countF bs s).1 ≤ 18446744073709551615 := by
  unfold countF
  split
  · simp
  split
  · simp
  split
  · simp
  · exact getF_u64 _ _ _ (clw_le _)

set_option maxHeartbeats 1000000 in
theorem count_any (q l c : Nat) (a : Option Addr) (bs : List Nat) (s : Nat × Int) (w : World) (h : Rd w q a l c bs s) (hT : Tab w) (hq : q ≠ 0) :
    Calls Tryz.prog 188 #[.pointer (some ⟨q, 0, none⟩)] w (TakePost q a l c bs (.int .u64 (((countF bs s).1 : Nat) : Int)) (countF bs s).2 w) := by
  have H := Lib.hid h
  have hz : 0 < w.heap.size := hT.pos
  have c1 := h.c1
  have tl := h.tl
  obtain ⟨t, x⟩ := s
  dsimp only at c1 tl
  obtain ⟨G, hG⟩ : ∃ G, countF bs (t, x) = G := ⟨_, rfl⟩
  have HG := Lib.hid hG
  rw [hG]
  unfold countF at hG
  dsimp only at hG
  clear h
  by_cases hx : x = 0
  · subst hx
    rw [if_neg (by simp)] at hG
    obtain ⟨k, s1, hk⟩ : ∃ k s1, clsF bs 6 0 (t, 0) = (k, s1) := ⟨_, _, rfl⟩
    have k6 : k ≤ 6 := by have := clsF_le bs 6 0 (t, 0); rw [hk] at this; simpa using this
    obtain ⟨n, s2, hn⟩ : ∃ n s2, getF bs (clw k) s1 = (n, s2) := ⟨_, _, rfl⟩
    have n64 : n ≤ 18446744073709551615 := by have := getF_u64 bs (clw k) s1 (clw_le k); rw [hn] at this; exact this
    rw [hk] at hG
    dsimp only at hG
    rw [hn] at hG
    dsimp only at hG
    have HK := Lib.hid hk
    have HN := Lib.hid hn
    have HGG := Lib.hid hG
    clear hk hn hG
    go_enter Tryz.func188, Tryz.ntmps188
    go_wp2_with fail
    refine (err_any _ _ _ _ _ _ _ H.out).mono ?_
    rintro e w' ⟨rfl, rfl⟩
    go_wp2_with fail
    refine (rclass_any q l c a bs (t, 0) _ H.out).mono ?_
    rintro e w1 ⟨rfl, q1, q2⟩
    rw [HK.out] at q1 ⊢
    dsimp only at q1 ⊢
    have tk := (hT.step q2 hz hq (by simp)).at k k6
    have Q1 := Lib.hid q1
    have Q2 := Lib.hid q2
    clear q1 q2
    go_wp2_with fail
    refine (get_any q l c (clw k) a bs s1 _ Q1.out (clw_le k)).mono ?_
    rintro e w2 ⟨rfl, r1, r2⟩
    rw [HN.out] at r1 ⊢
    dsimp only at r1 ⊢
    have hS := Q2.out.trans0 r2
    have hT2 := hT.step hS hz hq (by simp)
    have c2 := r1.c2
    have HR := Lib.hid r1
    have HS := Lib.hid hS
    have HT2 := Lib.hid hT2
    clear r1 r2 hS hT2
    obtain ⟨u, y⟩ := s2
    dsimp only at c2
    by_cases hy : y = 0
    · subst hy
      go_wp2_with fail
      refine (class_any n _ HT2.out n64).mono ?_
      rintro e w3 ⟨rfl, rfl⟩
      by_cases hkc : k = cls n
      · have hG : G = (n, (u, 0)) := by have := HGG.out; rw [if_neg (by simp), if_neg (by simpa using hkc)] at this; exact this.symm
        have R : Hid (TakePost q a l c bs (.int .u64 (G.1 : Int)) G.2 w (.returned (.int .u64 (n : Int))) w2) := by rw [hG]; exact ⟨rfl, HR.out, HS.out⟩
        have hb : ((k : Int) != ((cls n : Nat) : Int)) = false := by simp; omega
        go_wp2_with fail
        go_ret
        exact R.out
      · have hG : G = (0, (t, 6)) := by have := HGG.out; rw [if_neg (by simp), if_pos hkc] at this; exact this.symm
        have hb : ((k : Int) != ((cls n : Nat) : Int)) = true := by simp; omega
        go_wp2_with fail
        refine (fail_any q l c t a bs (u, 0) 6 _ HR.out tl).mono ?_
        rintro e w3 ⟨rfl, r1, r2⟩
        have R : Hid (TakePost q a l c bs (.int .u64 (G.1 : Int)) G.2 w (.returned (.int .u64 0)) w3) := by rw [hG]; exact ⟨rfl, r1, HS.out.trans0 r2⟩
        clear r1 r2
        go_wp2_with fail
        go_ret
        exact R.out
    · have hG : G = (0, (t, y)) := by have := HGG.out; rw [if_pos (by simpa using hy)] at this; exact this.symm
      have hb : (y != 0) = true := by simpa using hy
      go_wp2_with fail
      refine (fail_any q l c t a bs (u, y) y _ HR.out tl).mono ?_
      rintro e w3 ⟨rfl, r1, r2⟩
      have R : Hid (TakePost q a l c bs (.int .u64 (G.1 : Int)) G.2 w (.returned (.int .u64 0)) w3) := by rw [hG]; exact ⟨rfl, r1, HS.out.trans0 r2⟩
      clear r1 r2
      go_wp2_with fail
      go_ret
      exact R.out
  · rw [if_pos (by simpa using hx)] at hG
    subst hG
    have hb : (x != 0) = true := by simpa using hx
    go_enter Tryz.func188, Tryz.ntmps188
    go_wp2_with fail
    refine (err_any _ _ _ _ _ _ _ H.out).mono ?_
    rintro e w' ⟨rfl, rfl⟩
    go_wp2_with fail
    go_ret
    exact ⟨rfl, H.out, Step.refl _ _ _⟩
end Go.Proofs.YtjnienlidmmhdaaGreatDoor.Tk
