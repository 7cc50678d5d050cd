import Derived.Test.YtakomfnajeolcaaGreatDoorCtA2
import Derived.Lib.SlBytesConst
set_option linter.unusedVariables false
/- A reader's class, Count and Small on any bytes, by the plain model. -/
namespace Go.Proofs.YtakomfnajeolcaaGreatDoor.Tk
open Go.RowKit

/-- the class that is told from s on, at most n more bits being asked, i told already -/
def clsF (bs : List Nat) : Nat → Nat → Nat × Int → Nat × (Nat × Int)
  | 0, i, s => (i, s)
  | n + 1, i, s => if bitF bs s then clsF bs n (i + 1) (getF bs 1 s).2 else (i, (getF bs 1 s).2)
theorem clsF_le (bs : List Nat) : ∀ (n i : Nat) (s : Nat × Int), (clsF bs n i s).1 ≤ i + n
  | 0, i, s => by simp [clsF]
  | n + 1, i, s => by
    unfold clsF
    split
    · have := clsF_le bs n (i + 1) (getF bs 1 s).2
      omega
    · simp

/-- how many bits a class has -/
def clw (k : Nat) : Nat := if k = 0 then 0 else if k = 1 then 3 else if k = 2 then 7 else if k = 3 then 12 else if k = 4 then 20 else if k = 5 then 32 else 64
theorem clw_le (k : Nat) : clw k ≤ 64 := by unfold clw; (repeat' split) <;> omega
theorem Tab.at {w : World} (h : Tab w) (k : Nat) (hk : k ≤ 6) : w.cell? ⟨0, k, none⟩ = some (.int .i64 ((clw k : Nat) : Int)) := by
  obtain ⟨t0, t1, t2, t3, t4, t5, t6⟩ := h
  match k, hk with
  | 0, _ => exact t0
  | 1, _ => exact t1
  | 2, _ => exact t2
  | 3, _ => exact t3
  | 4, _ => exact t4
  | 5, _ => exact t5
  | 6, _ => exact t6

/-- what holds at each round of class -/
def ClsRel (q l c : Nat) (a : Option Addr) (bs : List Nat) (s : Nat × Int) (w : World) (i : Value) (wr : World) : Prop :=
  ∃ (j : Nat) (u : Nat × Int), j ≤ 6 ∧ i = .int .i64 (j : Int) ∧ clsF bs 6 0 s = clsF bs (6 - j) j u ∧ Rd wr q a l c bs u ∧ Step q none w wr

theorem rclass_any (q l c : Nat) (a : Option Addr) (bs : List Nat) (s : Nat × Int) (w : World) (h : Rd w q a l c bs s) :
    Calls Tryz.prog 114 #[.pointer (some ⟨q, 0, none⟩)] w (TakePost q a l c bs (.int .i64 (((clsF bs 6 0 s).1 : Nat) : Int)) (clsF bs 6 0 s).2 w) := by
  have R0 : Hid (ClsRel q l c a bs s w (.int .i64 0) w) := ⟨0, s, by decide, rfl, rfl, h, Step.refl _ _ _⟩
  clear h
  go_enter Tryz.func114, Tryz.ntmps114
  go_wp2_with fail
  go_loopw [4] (fun i wr => ClsRel q l c a bs s w i wr) (fun i _ => 6 - (intOf i).toNat)
  case atStart => exact R0.out
  case round =>
    obtain ⟨j, u, hj, rfl, hcl, q1, q2⟩ := hrel
    have HC := Lib.hid hcl
    have Q1 := Lib.hid q1
    have Q2 := Lib.hid q2
    clear hcl q1 q2
    by_cases hlt : j < 6
    · go_wp2_with fail
      refine (bit_any _ _ _ _ _ _ _ Q1.out).mono ?_
      rintro e w' ⟨rfl, r1, r2⟩
      obtain ⟨b, hb⟩ : ∃ b, bitF bs u = b := ⟨_, rfl⟩
      have HB := Lib.hid hb
      rw [hb]
      clear hb
      have e1 : clsF bs (6 - j) j u = if bitF bs u then clsF bs (6 - (j + 1)) (j + 1) (getF bs 1 u).2 else (j, (getF bs 1 u).2) := by
        rw [show 6 - j = (6 - (j + 1)) + 1 by omega]; rfl
      cases b
      · have R : Hid (TakePost q a l c bs (.int .i64 (((clsF bs 6 0 s).1 : Nat) : Int)) (clsF bs 6 0 s).2 w (.returned (.int .i64 (j : Int))) w') := by
          have e2 : clsF bs 6 0 s = (j, (getF bs 1 u).2) := by rw [HC.out, e1, HB.out]; rfl
          rw [e2]; exact ⟨rfl, r1, Q2.out.trans0 r2⟩
        clear r1 r2 e1
        go_wp2_with fail
        go_ret
        exact R.out
      · have R : Hid (ClsRel q l c a bs s w (.int .i64 ((j : Int) + 1)) w') := by
          refine ⟨j + 1, _, by omega, ret_val (by omega), ?_, r1, Q2.out.trans0 r2⟩
          rw [HC.out, e1, HB.out]; rfl
        clear r1 r2 e1
        go_wp2_with fail
        go_roundw
        case rel => exact R.out
        case measure => simp [intOf]; omega
    · obtain rfl : j = 6 := by omega
      have R : Hid (TakePost q a l c bs (.int .i64 (((clsF bs 6 0 s).1 : Nat) : Int)) (clsF bs 6 0 s).2 w (.returned (.int .i64 6)) wr) := by
        rw [HC.out]; exact ⟨rfl, Q1.out, Q2.out⟩
      go_wp2_with fail
      go_ret
      exact R.out

/-- a count taken -/
def countF (bs : List Nat) (s : Nat × Int) : Nat × (Nat × Int) :=
  if s.2 ≠ 0 then (0, s) else
    if (getF bs (clw (clsF bs 6 0 s).1) (clsF bs 6 0 s).2).2.2 ≠ 0 then (0, (s.1, (getF bs (clw (clsF bs 6 0 s).1) (clsF bs 6 0 s).2).2.2)) else
      if (clsF bs 6 0 s).1 ≠ cls (getF bs (clw (clsF bs 6 0 s).1) (clsF bs 6 0 s).2).1 then (0, (s.1, 6)) else getF bs (clw (clsF bs 6 0 s).1) (clsF bs 6 0 s).2

theorem getF_u64 (bs : List Nat) (k : Nat) (s : Nat × Int) (hk : k ≤ 64) : (getF bs k s).1 ≤ 18446744073709551615 := by
  have h1 := getF_lt bs k s
  have h2 : 2 ^ k ≤ 2 ^ 64 := Nat.pow_le_pow_right (by decide) hk
  omega
theorem countF_u64 (bs : List Nat) (s : Nat × Int) : (countF bs s).1 ≤ 18446744073709551615 := by
  unfold countF
  split
  · simp
  split
  · simp
  split
  · simp
  · exact getF_u64 _ _ _ (clw_le _)

set_option maxHeartbeats 1000000 in
theorem count_any (q l c : Nat) (a : Option Addr) (bs : List Nat) (s : Nat × Int) (w : World) (h : Rd w q a l c bs s) (hT : Tab w) (hq : q ≠ 0) :
    Calls Tryz.prog 97 #[.pointer (some ⟨q, 0, none⟩)] w (TakePost q a l c bs (.int .u64 (((countF bs s).1 : Nat) : Int)) (countF bs s).2 w) := by
  have H := Lib.hid h
  have hz : 0 < w.heap.size := hT.pos
  have c1 := h.c1
  have tl := h.tl
  obtain ⟨t, x⟩ := s
  dsimp only at c1 tl
  obtain ⟨G, hG⟩ : ∃ G, countF bs (t, x) = G := ⟨_, rfl⟩
  have HG := Lib.hid hG
  rw [hG]
  unfold countF at hG
  dsimp only at hG
  clear h
  by_cases hx : x = 0
  · subst hx
    rw [if_neg (by simp)] at hG
    obtain ⟨k, s1, hk⟩ : ∃ k s1, clsF bs 6 0 (t, 0) = (k, s1) := ⟨_, _, rfl⟩
    have k6 : k ≤ 6 := by have := clsF_le bs 6 0 (t, 0); rw [hk] at this; simpa using this
    obtain ⟨n, s2, hn⟩ : ∃ n s2, getF bs (clw k) s1 = (n, s2) := ⟨_, _, rfl⟩
    have n64 : n ≤ 18446744073709551615 := by have := getF_u64 bs (clw k) s1 (clw_le k); rw [hn] at this; exact this
    rw [hk] at hG
    dsimp only at hG
    rw [hn] at hG
    dsimp only at hG
    have HK := Lib.hid hk
    have HN := Lib.hid hn
    have HGG := Lib.hid hG
    clear hk hn hG
    go_enter Tryz.func97, Tryz.ntmps97
    go_wp2_with fail
    refine (err_any _ _ _ _ _ _ _ H.out).mono ?_
    rintro e w' ⟨rfl, rfl⟩
    go_wp2_with fail
    refine (rclass_any q l c a bs (t, 0) _ H.out).mono ?_
    rintro e w1 ⟨rfl, q1, q2⟩
    rw [HK.out] at q1 ⊢
    dsimp only at q1 ⊢
    have tk := (hT.step q2 hz hq (by simp)).at k k6
    have Q1 := Lib.hid q1
    have Q2 := Lib.hid q2
    clear q1 q2
    go_wp2_with fail
    refine (get_any q l c (clw k) a bs s1 _ Q1.out (clw_le k)).mono ?_
    rintro e w2 ⟨rfl, r1, r2⟩
    rw [HN.out] at r1 ⊢
    dsimp only at r1 ⊢
    have hS := Q2.out.trans0 r2
    have hT2 := hT.step hS hz hq (by simp)
    have c2 := r1.c2
    have HR := Lib.hid r1
    have HS := Lib.hid hS
    have HT2 := Lib.hid hT2
    clear r1 r2 hS hT2
    obtain ⟨u, y⟩ := s2
    dsimp only at c2
    by_cases hy : y = 0
    · subst hy
      go_wp2_with fail
      refine (class_any n _ HT2.out n64).mono ?_
      rintro e w3 ⟨rfl, rfl⟩
      by_cases hkc : k = cls n
      · have hG : G = (n, (u, 0)) := by have := HGG.out; rw [if_neg (by simp), if_neg (by simpa using hkc)] at this; exact this.symm
        have R : Hid (TakePost q a l c bs (.int .u64 (G.1 : Int)) G.2 w (.returned (.int .u64 (n : Int))) w2) := by rw [hG]; exact ⟨rfl, HR.out, HS.out⟩
        have hb : ((k : Int) != ((cls n : Nat) : Int)) = false := by simp; omega
        go_wp2_with fail
        go_ret
        exact R.out
      · have hG : G = (0, (t, 6)) := by have := HGG.out; rw [if_neg (by simp), if_pos hkc] at this; exact this.symm
        have hb : ((k : Int) != ((cls n : Nat) : Int)) = true := by simp; omega
        go_wp2_with fail
        refine (fail_any q l c t a bs (u, 0) 6 _ HR.out tl).mono ?_
        rintro e w3 ⟨rfl, r1, r2⟩
        have R : Hid (TakePost q a l c bs (.int .u64 (G.1 : Int)) G.2 w (.returned (.int .u64 0)) w3) := by rw [hG]; exact ⟨rfl, r1, HS.out.trans0 r2⟩
        clear r1 r2
        go_wp2_with fail
        go_ret
        exact R.out
    · have hG : G = (0, (t, y)) := by have := HGG.out; rw [if_pos (by simpa using hy)] at this; exact this.symm
      have hb : (y != 0) = true := by simpa using hy
      go_wp2_with fail
      refine (fail_any q l c t a bs (u, y) y _ HR.out tl).mono ?_
      rintro e w3 ⟨rfl, r1, r2⟩
      have R : Hid (TakePost q a l c bs (.int .u64 (G.1 : Int)) G.2 w (.returned (.int .u64 0)) w3) := by rw [hG]; exact ⟨rfl, r1, HS.out.trans0 r2⟩
      clear r1 r2
      go_wp2_with fail
      go_ret
      exact R.out
  · rw [if_pos (by simpa using hx)] at hG
    subst hG
    have hb : (x != 0) = true := by simpa using hx
    go_enter Tryz.func97, Tryz.ntmps97
    go_wp2_with fail
    refine (err_any _ _ _ _ _ _ _ H.out).mono ?_
    rintro e w' ⟨rfl, rfl⟩
    go_wp2_with fail
    go_ret
    exact ⟨rfl, H.out, Step.refl _ _ _⟩
end Go.Proofs.YtakomfnajeolcaaGreatDoor.Tk


/- Plain arithmetic for the seat's contracts: turned bits, zig-zag, what is laid by 'or'. Nothing of the program stands here. -/
namespace Go.Proofs.YtakomfnajeolcaaGreatDoor.Tk

/-- a whole number as a count -/
def zigv (n : Int) : Int := if n < 0 then -2 * n - 1 else 2 * n
/-- a count as a whole number -/
def zagv (c : Int) : Int := if c % 2 = 1 then -(c / 2) - 1 else c / 2

theorem not_i64 {n : Int} (h1 : -9223372036854775808 ≤ n) (h2 : n ≤ 9223372036854775807) : bits .xor .i64 (-1) n = -n - 1 := by
  show IntKind.i64.wrap ((BitVec.ofInt 64 (-1) ^^^ BitVec.ofInt 64 n).toNat : Int) = _
  have e1 : BitVec.ofInt 64 (-1) = BitVec.allOnes 64 := by decide
  rw [e1, BitVec.allOnes_xor, BitVec.toNat_not, BitVec.toNat_ofInt]
  have hm : n % ((2 ^ 64 : Nat) : Int) = n % 18446744073709551616 := rfl
  rw [hm]
  have b1 : 0 ≤ n % 18446744073709551616 := by omega
  have b2 : n % 18446744073709551616 < 18446744073709551616 := by omega
  obtain ⟨t, ht⟩ : ∃ t : Nat, (t : Int) = n % 18446744073709551616 := ⟨(n % 18446744073709551616).toNat, by omega⟩
  rw [← ht, Int.toNat_natCast]
  have e3 : ((2 ^ 64 - 1 - t : Nat) : Int) = 18446744073709551615 - t := by omega
  rw [e3, IntKind.wrap_i64]
  omega

theorem or_one_even {m : Int} (h0 : 0 ≤ m) (h1 : m < 9223372036854775808) : bits .or .u64 (m * 2) 1 = m * 2 + 1 := by
  rw [u64_or _ _ (by omega) (by omega) (by omega) (by omega)]
  rw [nat_join 1 _ _ (by omega) (by decide)]
  omega
theorem zag_zig (n : Int) : zagv (zigv n) = n := by unfold zagv zigv; split <;> split <;> omega
theorem zig_zag (c : Int) (h : 0 ≤ c) : zigv (zagv c) = c := by unfold zagv zigv; split <;> split <;> omega
theorem zig_bd {n : Int} (h1 : -9223372036854775808 ≤ n) (h2 : n ≤ 9223372036854775807) : 0 ≤ zigv n ∧ zigv n ≤ 18446744073709551615 := by unfold zigv; split <;> omega
theorem zag_bd {c : Int} (h1 : 0 ≤ c) (h2 : c ≤ 18446744073709551615) : -9223372036854775808 ≤ zagv c ∧ zagv c ≤ 9223372036854775807 := by unfold zagv; split <;> omega
end Go.Proofs.YtakomfnajeolcaaGreatDoor.Tk


/- A reader's Int and Small, num.Zag, and the document's Zig. -/
namespace Go.Proofs.YtakomfnajeolcaaGreatDoor.Tk
open Go.RowKit

theorem zag_any (c : Int) (w : World) (h1 : 0 ≤ c) (h2 : c ≤ 18446744073709551615) :
    Calls Tryz.prog 113 #[.int .u64 c] w fun e w' => e = .returned (.int .i64 (zagv c)) ∧ w = w' := by
  have ha := and_one_u64 c h1 h2
  by_cases h : c % 2 = 1
  · have e1 : zagv c = -(c / 2) - 1 := by unfold zagv; rw [if_pos h]
    have hE := Lib.hid e1
    have hs : IntKind.i64.signed = true := rfl
    have hx := not_i64 (n := c / 2) (by omega) (by omega)
    have ht : (c % 2 == 1) = true := by simpa using h
    clear e1 h
    go_enter Tryz.func113, Tryz.ntmps113
    go_wp2
    go_ret
    exact ⟨ret_int hE.out.symm, rfl⟩
  · have e1 : zagv c = c / 2 := by unfold zagv; rw [if_neg h]
    have hE := Lib.hid e1
    have ht : (c % 2 == 1) = false := by simpa using h
    clear e1 h
    go_enter Tryz.func113, Tryz.ntmps113
    go_wp2
    go_ret
    exact ⟨ret_int hE.out.symm, rfl⟩

theorem int_any (q l c : Nat) (a : Option Addr) (bs : List Nat) (s : Nat × Int) (w : World) (h : Rd w q a l c bs s) (hT : Tab w) (hq : q ≠ 0) :
    Calls Tryz.prog 94 #[.pointer (some ⟨q, 0, none⟩)] w (TakePost q a l c bs (.int .i64 (zagv (((countF bs s).1 : Nat) : Int))) (countF bs s).2 w) := by
  have H := Lib.hid h
  have HT := Lib.hid hT
  have h64 := countF_u64 bs s
  obtain ⟨n, hn⟩ : ∃ n, (countF bs s).1 = n := ⟨_, rfl⟩
  rw [hn] at h64
  rw [hn]
  have HN := Lib.hid hn
  clear h hT hn
  go_enter Tryz.func94, Tryz.ntmps94
  go_wp2_with fail
  refine (count_any q l c a bs s _ H.out HT.out hq).mono ?_
  rintro e w' ⟨rfl, r1, r2⟩
  rw [HN.out]
  have R : Hid (TakePost q a l c bs (.int .i64 (zagv (n : Int))) (countF bs s).2 w (.returned (.int .i64 (zagv (n : Int)))) w') := ⟨rfl, r1, r2⟩
  clear r1 r2
  go_wp2_with fail
  refine (zag_any (n : Int) _ (by omega) (by omega)).mono ?_
  rintro e w'' ⟨rfl, rfl⟩
  go_wp2_with fail
  go_ret
  exact R.out

/-- a count of at most m taken -/
def smallF (bs : List Nat) (m : Nat) (s : Nat × Int) : Nat × (Nat × Int) :=
  if s.2 ≠ 0 then (0, s) else if (countF bs s).2.2 ≠ 0 then (0, (countF bs s).2) else if m < (countF bs s).1 then (0, (s.1, 9)) else countF bs s
theorem smallF_le (bs : List Nat) (m : Nat) (s : Nat × Int) : (smallF bs m s).1 ≤ m := by
  unfold smallF
  split
  · simp
  split
  · simp
  split
  · simp
  · omega

set_option maxHeartbeats 1000000 in
theorem small_any (m q l c : Nat) (a : Option Addr) (bs : List Nat) (s : Nat × Int) (w : World) (h : Rd w q a l c bs s) (hT : Tab w) (hq : q ≠ 0) (hm : m ≤ 1099511627776) :
    Calls Tryz.prog 64 #[.pointer (some ⟨q, 0, none⟩), .int .i64 (m : Int)] w (TakePost q a l c bs (.int .i64 (((smallF bs m s).1 : Nat) : Int)) (smallF bs m s).2 w) := by
  have H := Lib.hid h
  have HT := Lib.hid hT
  have c1 := h.c1
  have tl := h.tl
  have h64 := countF_u64 bs s
  obtain ⟨t, x⟩ := s
  dsimp only at c1 tl
  obtain ⟨G, hG⟩ : ∃ G, smallF bs m (t, x) = G := ⟨_, rfl⟩
  rw [hG]
  unfold smallF at hG
  dsimp only at hG
  clear h hT
  by_cases hx : x = 0
  · subst hx
    rw [if_neg (by simp)] at hG
    obtain ⟨n, s2, hn⟩ : ∃ n s2, countF bs (t, 0) = (n, s2) := ⟨_, _, rfl⟩
    rw [hn] at hG h64
    dsimp only at hG h64
    have HN := Lib.hid hn
    have HGG := Lib.hid hG
    clear hn hG
    go_enter Tryz.func64, Tryz.ntmps64
    go_wp2_with fail
    refine (err_any _ _ _ _ _ _ _ H.out).mono ?_
    rintro e w' ⟨rfl, rfl⟩
    go_wp2_with fail
    refine (count_any q l c a bs (t, 0) _ H.out HT.out hq).mono ?_
    rintro e w1 ⟨rfl, q1, q2⟩
    rw [HN.out] at q1 ⊢
    dsimp only at q1 ⊢
    have c2 := q1.c2
    have Q1 := Lib.hid q1
    have Q2 := Lib.hid q2
    clear q1 q2
    obtain ⟨u, y⟩ := s2
    dsimp only at c2
    by_cases hy : y = 0
    · subst hy
      by_cases hmn : m < n
      · have hG : G = (0, (t, 9)) := by have := HGG.out; rw [if_neg (by simp), if_pos hmn] at this; exact this.symm
        have hd : decide ((m : Int) < (n : Int)) = true := by simp; omega
        have hd0 : decide ((m : Int) < 0) = false := by simp
        go_wp2_with fail
        refine (fail_any q l c t a bs (u, 0) 9 _ Q1.out tl).mono ?_
        rintro e w3 ⟨rfl, r1, r2⟩
        have R : Hid (TakePost q a l c bs (.int .i64 (G.1 : Int)) G.2 w (.returned (.int .i64 0)) w3) := by rw [hG]; exact ⟨rfl, r1, Q2.out.trans0 r2⟩
        clear r1 r2
        go_wp2_with fail
        go_ret
        exact R.out
      · have hG : G = (n, (u, 0)) := by have := HGG.out; rw [if_neg (by simp), if_neg hmn] at this; exact this.symm
        have R : Hid (TakePost q a l c bs (.int .i64 (G.1 : Int)) G.2 w (.returned (.int .i64 (n : Int))) w1) := by rw [hG]; exact ⟨rfl, Q1.out, Q2.out⟩
        clear hG
        have hd : decide ((m : Int) < (n : Int)) = false := by simp; omega
        have hd0 : decide ((m : Int) < 0) = false := by simp
        go_wp2_with fail
        go_ret
        exact R.out
    · have hG : G = (0, (u, y)) := by have := HGG.out; rw [if_pos (by simpa using hy)] at this; exact this.symm
      have R : Hid (TakePost q a l c bs (.int .i64 (G.1 : Int)) G.2 w (.returned (.int .i64 0)) w1) := by rw [hG]; exact ⟨rfl, Q1.out, Q2.out⟩
      clear hG
      have hb : (y != 0) = true := by simpa using hy
      go_wp2_with fail
      go_ret
      exact R.out
  · rw [if_pos (by simpa using hx)] at hG
    subst hG
    have hb : (x != 0) = true := by simpa using hx
    go_enter Tryz.func64, Tryz.ntmps64
    go_wp2_with fail
    refine (err_any _ _ _ _ _ _ _ H.out).mono ?_
    rintro e w' ⟨rfl, rfl⟩
    go_wp2_with fail
    go_ret
    exact ⟨rfl, H.out, Step.refl _ _ _⟩
end Go.Proofs.YtakomfnajeolcaaGreatDoor.Tk


/- Texts of bits: the document's Put, class and Count, what text each returns. -/
namespace Go.Proofs.YtakomfnajeolcaaGreatDoor.Tk
open Go.RowKit
set_option linter.unusedVariables false

/-- a bit's letter -/
def ch (b : Bool) : UInt8 := if b then 49 else 48
/-- the text of bits -/
def T (l : List Bool) : ByteArray := ⟨(l.map ch).toArray⟩
/-- the k lowest bits, the highest first -/
def bitsL : Nat → Nat → List Bool
  | 0, _ => []
  | k + 1, n => (n / 2 ^ k % 2 == 1) :: bitsL k n
theorem bitsL_length (k n : Nat) : (bitsL k n).length = k := by
  induction k with
  | zero => rfl
  | succ k ih => simp [bitsL, ih]

/-- what holds at each round of Put -/
def PutRel (n k : Nat) (i s x : Value) : Prop :=
  ∃ j : Nat, j ≤ k ∧ i = .int .i64 (j : Int) ∧ s = .string (T (bitsL j n)) ∧ x = .int .u64 ((n / 2 ^ j : Nat) : Int)

end Go.Proofs.YtakomfnajeolcaaGreatDoor.Tk


/- Slices of bytes, slices.Clone of them, and the contract of bits.Read. -/
namespace Go.Proofs.YtakomfnajeolcaaGreatDoor.Tk
open Go.RowKit Go.Sort
set_option linter.unusedVariables false

/-- a slice whose address is A reads as these bytes -/
def Bt (w : World) (A : Option Addr) (bs : List Nat) : Prop :=
  (∀ x ∈ bs, x < 256) ∧ bs.length ≤ 9223372036854775807 ∧ (bs.length = 0 ∨ ∃ b off, A = some ⟨b, off, none⟩ ∧ ∀ (j x : Nat), bs[j]? = some x → w.cell? ⟨b, off + j, none⟩ = some (.int .u8 (x : Int)))
theorem Bt.kept {w w' : World} {A : Option Addr} {bs : List Nat} (h : Bt w A bs) (k : Kept w w') : Bt w' A bs := by
  obtain ⟨h1, h2, h3⟩ := h
  refine ⟨h1, h2, ?_⟩
  rcases h3 with h3 | ⟨b, off, e, hc⟩
  · exact .inl h3
  · exact .inr ⟨b, off, e, fun j x hj => k _ _ (hc j x hj)⟩
theorem Bt.nil (w : World) (A : Option Addr) : Bt w A [] := ⟨by simp, by simp, .inl rfl⟩
theorem Bt.some_ {w : World} {A : Option Addr} {bs : List Nat} (h : Bt w A bs) (h0 : 0 < bs.length) : ∃ b off, A = some ⟨b, off, none⟩ ∧ ∀ (j x : Nat), bs[j]? = some x → w.cell? ⟨b, off + j, none⟩ = some (.int .u8 (x : Int)) := by
  rcases h.2.2 with h | h
  · omega
  · exact h
theorem Tryz.info5 : (Tryz.prog.info? 5).map (fun i => (i.zero, i.size, i.bytes)) = some (some (.int .u8 0), 1, 1) := by kernel_rfl
def cellsB (bs : List Nat) : List Value := bs.map fun b => Value.int IntKind.u8 (Int.ofNat b)
theorem cellsB_length (bs : List Nat) : (cellsB bs).length = bs.length := by unfold cellsB; simp
theorem cellsB_append (a b : List Nat) : cellsB (a ++ b) = cellsB a ++ cellsB b := by unfold cellsB; simp
theorem cellsB_one (bs : List Nat) : ∀ u ∈ cellsB bs, u.oneCell' = true := by unfold cellsB; simp [Value.oneCell']
theorem cellsB_at {bs : List Nat} {j : Nat} {u : Value} (h : (cellsB bs)[j]? = some u) : ∃ x, bs[j]? = some x ∧ u = .int .u8 (x : Int) := by
  unfold cellsB at h
  rw [List.getElem?_map] at h
  obtain ⟨b, hb, rfl⟩ := Option.map_eq_some_iff.mp h
  exact ⟨b, hb, rfl⟩
theorem addr_add (b off i : Nat) : (⟨b, off, none⟩ : Addr).add i = ⟨b, off + i, none⟩ := by
  unfold Addr.add
  split
  · subst_vars; rfl
  · rfl

theorem own_bt {w : World} {base : Nat} {v : Value} {n : Nat} {bs : List Nat} (h : w.ownsRow base 5 1 v n (cellsB bs)) (hn : n = bs.length) (h8 : ∀ x ∈ bs, x < 256) (hm : bs.length ≤ 9223372036854775807) (h0 : 0 < n) :
    ∃ g c, v = .slice (some ⟨g, 0, none⟩) n c ∧ n ≤ c ∧ c ≤ 9223372036854775807 ∧ base ≤ g ∧ g < w.heap.size ∧ Bt w (some ⟨g, 0, none⟩) bs := by
  have hl := h.lt
  rcases h.2 with ⟨_, hz⟩ | ⟨g, c, cur, rfl, hb, hh, hc, hm', _⟩
  · omega
  · have := hl g rfl
    refine ⟨g, c, rfl, hc, by unfold maxLen at hm'; omega, this.1, this.2, h8, hm, .inr ⟨g, 0, rfl, fun j x hj => ?_⟩⟩
    have := h.cells (g := g) rfl j (.int .u8 (x : Int)) (by unfold cellsB; simp [hj])
    rw [addr_add] at this
    exact this

/-- a slice of this room reads as these bytes -/
def Sl (w : World) (A : Option Addr) (c : Nat) (bs : List Nat) : Prop := bs.length ≤ c ∧ c ≤ 9223372036854775807 ∧ (A = none → c = 0) ∧ Bt w A bs
theorem Sl.kept {w w' : World} {A : Option Addr} {c : Nat} {bs : List Nat} (h : Sl w A c bs) (k : Kept w w') : Sl w' A c bs := ⟨h.1, h.2.1, h.2.2.1, h.2.2.2.kept k⟩
theorem Sl.nil (w : World) : Sl w none 0 [] := ⟨by simp, by omega, fun _ => rfl, Bt.nil w none⟩
theorem Sl.b8 {w : World} {A : Option Addr} {c : Nat} {bs : List Nat} (h : Sl w A c bs) : ∀ x ∈ bs, x < 256 := h.2.2.2.1
/-- what append asks of its source, wherever it lies -/
theorem Bt.src' {w : World} {ad : Addr} {bs : List Nat} (h : Bt w (some ad) bs) (j : Nat) (u : Value) (hu : (cellsB bs)[j]? = some u) : w.cell? (ad.add j) = some u := by
  obtain ⟨x, hx, rfl⟩ := cellsB_at hu
  have hl : j < bs.length := (List.getElem?_eq_some_iff.1 hx).1
  obtain ⟨b', off', e, hc⟩ := h.some_ (by omega)
  obtain rfl : ad = ⟨b', off', none⟩ := by simpa using e
  rw [addr_add]
  exact hc j x hx
theorem own_sl {w : World} {base : Nat} {v : Value} {n : Nat} {bs : List Nat} (h : w.ownsRow base 5 1 v n (cellsB bs)) (h8 : ∀ x ∈ bs, x < 256) (hm : bs.length ≤ 9223372036854775807) :
    n = bs.length ∧ ∃ A c, v = .slice A n c ∧ Sl w A c bs := by
  have hn : n = bs.length := by
    have := h.1
    rw [cellsB_length] at this
    omega
  refine ⟨hn, ?_⟩
  by_cases h0 : 0 < n
  · obtain ⟨g, c, rfl, hc, hcm, _, _, hB⟩ := own_bt h hn h8 hm h0
    exact ⟨_, c, rfl, by omega, hcm, fun e => by simp at e, hB⟩
  · have hb : bs = [] := List.eq_nil_of_length_eq_zero (by omega)
    subst hb
    rcases h.2 with ⟨rfl, hz⟩ | ⟨g, c, cur, rfl, hb, hh, hc, hm', _⟩
    · exact ⟨none, 0, by simp at hn; rw [hn], Sl.nil w⟩
    · exact ⟨_, c, rfl, by simp, by unfold maxLen at hm'; omega, fun e => by simp at e, Bt.nil w _⟩

/-- append(x, s...): x a row of the call's own, s any bytes -/
theorem wpList_append_bt {ops : Array Oper} {rest : List Oper} {o : Oper} {a : Act} {w : World} {Q : Exit → Act → World → Prop} (hgd : o.guard = none) (s x : Operand)
    (ho : o.op = .call { callee := .builtin .append, args := #[s, x], argTypes := #[26, 26] })
    (base : Nat) (v : Value) (n : Nat) (xs : List Nat) (hs : a.eval s = v) (hown : w.ownsRow base 5 1 v n (cellsB xs))
    (A : Option Addr) (m c : Nat) (bs : List Nat) (hx : a.eval x = .slice A m c) (hm : m = bs.length) (hS : Sl w A c bs) (hl : n + m ≤ 1000000) (hbase : base ≤ w.heap.size)
    (h : ∀ v' w', w'.ownsRow base 5 1 v' (n + m) (cellsB (xs ++ bs)) → w.grownBy w' v.ownBlock → wpList Tryz.prog ops Q rest (a.put o.dst v') w') : wpList Tryz.prog ops Q (o :: rest) a w := by
  obtain ⟨i0, hi, hz0, hz1, hz2⟩ := info_parts Tryz.info5
  subst hm
  cases A with
  | none =>
    have hc0 := hS.2.2.1 rfl
    have hb : bs = [] := List.eq_nil_of_length_eq_zero (by have := hS.1; omega)
    subst hb
    subst hc0
    refine wpList_append_own_none hgd s x 26 ho base 5 i0 1 Tryz.underlying26 hi v n (cellsB xs) hs hown hx (h v w ?_ (World.grownBy.refl w _))
    simpa using hown
  | some ad =>
    refine wpList_append_own w hgd s x 26 ho base 5 i0 (.int .u8 0) 1 1 Tryz.underlying26 hi hz0 hz1 hz2 rfl (by decide) v n (cellsB xs) hs hown ad bs.length c (cellsB bs) hx (by rw [cellsB_length]; omega) hS.2.2.2.src' (cellsB_one bs) (by unfold maxLen; omega) (by omega) hbase ?_
    intro v' w' h1 h2 _
    rw [← cellsB_append] at h1
    exact h v' w' h1 h2

theorem ownsRow_new (w : World) : (w.alloc (.cells #[] 5)).ownsRow w.heap.size 5 1 (.slice (some ⟨w.heap.size, 0, none⟩) 0 0) 0 (cellsB []) :=
  ⟨by simp [cellsB], .inr ⟨w.heap.size, 0, #[], rfl, Nat.le_refl _, heap_alloc_new w _, by omega, by unfold maxLen; omega, rfl, by simp [cellsB]⟩⟩

set_option maxRecDepth 100000 in
theorem clone_nil (c : Nat) (w : World) :
    Calls Tryz.prog 62 #[.slice none 0 c] w fun e w' => e = .returned (.slice none 0 0) ∧ w = w' := by
  have hnil := fun (w : World) => Lib.run_eql_slice_nil (P := Tryz.prog) w 26 5 none 0 c 0 0 Tryz.underlying26
  go_enter Tryz.func62, Tryz.ntmps62
  go_wp2_with fail
  go_ret
  exact ⟨rfl, rfl⟩
def ClonePost (w : World) (n : Nat) (bs : List Nat) (e : Ending) (w' : World) : Prop := ∃ A c, e = .returned (.slice A n c) ∧ Sl w' A c bs ∧ Below w.heap.size w w'
set_option maxRecDepth 100000 in
theorem clone_some (ad : Addr) (c : Nat) (bs : List Nat) (w : World) (h : Sl w (some ad) c bs) (hl : bs.length ≤ 1000000) :
    Calls Tryz.prog 62 #[.slice (some ad) bs.length c] w (ClonePost w bs.length bs) := by
  have hnil := fun (w : World) => Lib.run_eql_slice_nil (P := Tryz.prog) w 26 5 (some ad) bs.length c 0 0 Tryz.underlying26
  have HS := Lib.hid h
  clear h
  go_enter Tryz.func62, Tryz.ntmps62
  go_wp2_with (at_builtin; refine wpList_append_bt rfl _ _ rfl w.heap.size (.slice (some ⟨w.heap.size, 0, none⟩) 0 0) 0 [] rfl ?c0 (some ad) bs.length c bs rfl rfl ?c1 ?c2 ?c3 ?_)
  case c0 => exact ownsRow_new w
  case c1 => exact HS.out.kept (Kept.of_below ((Below.refl _ _).alloc (Nat.le_refl _) _))
  case c2 => omega
  case c3 => simp
  intro v' w1 hown hgrow
  try simp only [Nat.zero_add, List.nil_append] at hown
  have hb : Below w.heap.size w w1 := ((Below.refl _ _).alloc (Nat.le_refl _) _).grown hgrow (by simp) (fun k hk => by simp [Value.ownBlock] at hk; omega)
  obtain ⟨_, A, c', rfl, hS⟩ := own_sl hown HS.out.b8 (by omega)
  have HP := Lib.hid (And.intro hS hb)
  clear hown hgrow hb hS hnil
  go_wp2_with fail
  go_ret
  exact ⟨A, c', rfl, HP.out.1, HP.out.2⟩
theorem clone_any (A : Option Addr) (n c : Nat) (bs : List Nat) (w : World) (h : Sl w A c bs) (hn : n = bs.length) (hl : bs.length ≤ 1000000) :
    Calls Tryz.prog 62 #[.slice A n c] w (ClonePost w n bs) := by
  subst hn
  cases A with
  | none =>
    have hc := h.2.2.1 rfl
    have hb : bs = [] := List.eq_nil_of_length_eq_zero (by have := h.1; omega)
    subst hb
    refine (clone_nil c w).mono fun e w' ⟨he, hw⟩ => ?_
    subst hw
    exact ⟨none, 0, he, Sl.nil _, Below.refl _ _⟩
  | some ad => exact clone_some ad c bs w h hl

theorem read_any (A : Option Addr) (n cap : Nat) (bs : List Nat) (w : World) (hb : Sl w A cap bs) (hn : n = bs.length) (h1 : bs.length ≤ 1000000) :
    Calls Tryz.prog 30 #[.slice A n cap] w fun e w' => ∃ q a c, e = .returned (.pointer (some ⟨q, 0, none⟩)) ∧ Rd w' q a n c bs (0, 0) ∧ w.heap.size ≤ q ∧ Below w.heap.size w w' := by
  subst hn
  go_enter Tryz.func30, Tryz.ntmps30
  go_wp2_with fail
  refine (clone_any A bs.length cap bs _ hb rfl h1).mono ?_
  rintro e w1 ⟨a, c, rfl, hS, hB⟩
  have HB := Lib.hid hB
  have hs := hB.size
  have HS := Lib.hid hS
  clear hB hS hb
  go_wp2_with fail
  go_ret
  refine ⟨w1.heap.size, a, c, rfl, ?_, hs, HB.out.alloc hs _⟩
  refine ⟨by simp, by simp [go_sem], by simp [go_sem], by simp [go_sem], by simp [go_sem], by simp [go_sem], rfl, HS.out.b8, fun h0 => ?_, by simp, h1⟩
  obtain ⟨r, o, e, hc⟩ := HS.out.2.2.2.some_ h0
  have hl : 0 < bs.length := h0
  have hlt : r < w1.heap.size := block_lt_of_cell (hc 0 _ (List.getElem?_eq_getElem hl))
  exact ⟨r, o, e, by omega, fun j b hj => Kept.of_below ((Below.refl _ _).alloc (Nat.le_refl _) _) _ _ (hc j b hj)⟩
end Go.Proofs.YtakomfnajeolcaaGreatDoor.Tk


/- The document's class, Count, Int and Text: what text each returns. -/
namespace Go.Proofs.YtakomfnajeolcaaGreatDoor.Tk
open Go.RowKit
set_option linter.unusedVariables false

theorem cls_le (n : Nat) : cls n ≤ 6 := by unfold cls; (repeat' split) <;> omega

end Go.Proofs.YtakomfnajeolcaaGreatDoor.Tk


/- The document's Count, Int and Text: what text each returns. -/
namespace Go.Proofs.YtakomfnajeolcaaGreatDoor.Tk
open Go.RowKit
set_option linter.unusedVariables false

/-- a count's bits -/
def codeL (n : Nat) : List Bool := (List.replicate (cls n) true ++ (if cls n < 6 then [false] else [])) ++ bitsL (clw (cls n)) n
theorem codeL_length (n : Nat) : (codeL n).length ≤ 71 := by
  have h1 := cls_le n
  have h2 := clw_le (cls n)
  unfold codeL
  simp only [List.length_append, List.length_replicate, bitsL_length]
  split <;> simp <;> omega
/-- the bits of bytes -/
def textL (bs : List Nat) : List Bool := bs.flatMap (bitsL 8)
theorem textL_length (bs : List Nat) : (textL bs).length = 8 * bs.length := by
  unfold textL
  induction bs with
  | nil => rfl
  | cons b bs ih => simp only [List.flatMap_cons, List.length_append, ih, bitsL_length, List.length_cons]; omega
theorem textL_snoc (bs : List Nat) (b : Nat) : textL (bs ++ [b]) = textL bs ++ bitsL 8 b := by unfold textL; simp
end Go.Proofs.YtakomfnajeolcaaGreatDoor.Tk


/- The document's Lay: what text it returns. -/
namespace Go.Proofs.YtakomfnajeolcaaGreatDoor.Tk
open Go.RowKit
set_option linter.unusedVariables false

/-- the bits of runs, from the i-th on -/
def restL : Nat → List (Int × Int) → List Bool
  | _, [] => []
  | i, p :: t => ((if 0 < i then codeL (p.1 - 1).toNat else []) ++ codeL (p.2 - 1).toNat) ++ restL (i + 1) t
theorem restL_snoc (L : List (Int × Int)) (p : Int × Int) : ∀ i, restL i (L ++ [p]) = restL i L ++ ((if 0 < i + L.length then codeL (p.1 - 1).toNat else []) ++ codeL (p.2 - 1).toNat) := by
  induction L with
  | nil => intro i; simp [restL]
  | cons q t ih =>
    intro i
    have e : i + 1 + t.length = i + (q :: t).length := by simp; omega
    simp only [List.cons_append, restL, ih, e, List.append_assoc]
theorem restL_length (L : List (Int × Int)) : ∀ i, (restL i L).length ≤ 142 * L.length := by
  induction L with
  | nil => intro i; simp [restL]
  | cons q t ih =>
    intro i
    have h1 := codeL_length (q.1 - 1).toNat
    have h2 := codeL_length (q.2 - 1).toNat
    have h3 := ih (i + 1)
    simp only [restL, List.length_append, List.length_cons]
    generalize codeL (q.1 - 1).toNat = x at *
    generalize codeL (q.2 - 1).toNat = y at *
    split
    · omega
    · simp only [List.length_nil]; omega
/-- a layout's bits -/
def layL (f : Int) (L : List (Int × Int)) : List Bool := if L = [] then codeL 0 else (codeL L.length ++ codeL (zigv f).toNat) ++ restL 0 L
end Go.Proofs.YtakomfnajeolcaaGreatDoor.Tk
