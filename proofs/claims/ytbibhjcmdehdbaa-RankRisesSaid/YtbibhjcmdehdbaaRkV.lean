/- The law RankRises: its walk. -/
import Derived.Test.YtbibhjcmdehdbaaRkU
import Derived.Deep.QuietTactic
import Derived.BigQuiet
import Derived.Lib.QuietBelow
namespace Go.Proofs.Ytbibhjcmdehdbaa
open Go.RowKit Go.Sort
set_option linter.unusedVariables false

set_option maxHeartbeats 4000000 in
set_option maxRecDepth 100000 in
theorem rankRises_walk (h : HV) (A B : Option Addr) (c d : Nat) (a b n pd pu qd qu : Int) (w : World) (hP : Bk w A h.P) (hQ : Bk w B h.Q) (z0 : 0 ≤ h.zc) (z1 : h.zc ≤ 18446744073709551615) (hsm : inI64 h.sm) (a0 : 0 ≤ a) (a1 : a ≤ 18446744073709551615) (b0 : 0 ≤ b) (b1 : b ≤ 18446744073709551615) (n0 : 0 ≤ n) (n1 : n ≤ 18446744073709551615) :
    Calls Try.prog 8 #[.agg #[.int .i64 h.k, .int .i64 h.s, .int .i64 h.z, .int .u64 h.zc, .int .u64 h.ct, .int .i64 h.sm, .slice A h.P.length c, .slice B h.Q.length d], .int .u64 a, .int .u64 b, .int .u64 n, .agg #[.int .i64 pd, .int .i64 pu], .agg #[.int .i64 qd, .int .i64 qu]] w fun e w' => e = .returned (.bool true) ∧ Below w.heap.size w w' := by
  have hb0 : Below w.heap.size w (((w.alloc (.cells #[.int .i64 h.k, .int .i64 h.s, .int .i64 h.z, .int .u64 h.zc, .int .u64 h.ct, .int .i64 h.sm, .slice A h.P.length c, .slice B h.Q.length d] 25)).alloc (.cells #[.int .i64 pd, .int .i64 pu] 60)).alloc (.cells #[.int .i64 qd, .int .i64 qu] 60)) := (((Below.refl _ _).alloc (Nat.le_refl _) _).alloc (by simp) _).alloc (by simp; omega) _
  have HB0 := Lib.hid hb0
  have HX0 := Lib.hid (((Rb.new w w.heap.size rfl 25 #[.int .i64 h.k, .int .i64 h.s, .int .i64 h.z, .int .u64 h.zc, .int .u64 h.ct, .int .i64 h.sm, .slice A h.P.length c, .slice B h.Q.length d]).alloc (.cells #[.int .i64 pd, .int .i64 pu] 60)).alloc (.cells #[.int .i64 qd, .int .i64 qu] 60))
  have HP0 := Lib.hid ((Rb.new (w.alloc (.cells #[.int .i64 h.k, .int .i64 h.s, .int .i64 h.z, .int .u64 h.zc, .int .u64 h.ct, .int .i64 h.sm, .slice A h.P.length c, .slice B h.Q.length d] 25)) (w.heap.size + 1) (by simp) 60 #[.int .i64 pd, .int .i64 pu]).alloc (.cells #[.int .i64 qd, .int .i64 qu] 60))
  have HQ0 := Lib.hid (Rb.new ((w.alloc (.cells #[.int .i64 h.k, .int .i64 h.s, .int .i64 h.z, .int .u64 h.zc, .int .u64 h.ct, .int .i64 h.sm, .slice A h.P.length c, .slice B h.Q.length d] 25)).alloc (.cells #[.int .i64 pd, .int .i64 pu] 60)) (w.heap.size + 2) (by simp) 60 #[.int .i64 qd, .int .i64 qu])
  have HK0 := Lib.hid (And.intro (hP.below hb0) (hQ.below hb0))
  have HW := Lib.hid (And.intro hP.2.1 hQ.2.1)
  have HZ := Lib.hid (And.intro (And.intro z0 z1) hsm)
  clear hP hQ hb0 z0 z1 hsm
  go_enter Try.func8, Try.ntmps8
  go_upto_region 1 with fail
  generalize (((w.alloc (.cells #[.int .i64 h.k, .int .i64 h.s, .int .i64 h.z, .int .u64 h.zc, .int .u64 h.ct, .int .i64 h.sm, .slice A h.P.length c, .slice B h.Q.length d] 25)).alloc (.cells #[.int .i64 pd, .int .i64 pu] 60)).alloc (.cells #[.int .i64 qd, .int .i64 qu] 60)) = w0 at *
  obtain ⟨x0, x1, x2, x3, x4, x5, x6, x7⟩ := HX0.out.eight
  have xl := HX0.out.lt
  go_wp2_with fail
  refine (right08 h A B c d w0 HK0.out.1 HK0.out.2 HZ.out.1.1 HZ.out.1.2).mono ?_
  rintro e w1 ⟨rfl, hb1⟩
  clear x0 x1 x2 x3 x4 x5 x6 x7 xl
  have HX1 := Lib.hid (HX0.out.below hb1)
  have HP1 := Lib.hid (HP0.out.below hb1)
  have HQ1 := Lib.hid (HQ0.out.below hb1)
  have HB1 := Lib.hid (HB0.out.trans (hb1.mono HB0.out.size))
  have HK1 := Lib.hid (And.intro (HK0.out.1.below hb1) (HK0.out.2.below hb1))
  clear HB0 HX0 HP0 HQ0 HK0
  clear hb1
  rcases hf : fewK h with _ | _
  · clear hf
    go_wp2_with fail
    refine (awake08 w1).mono ?_
    rintro e wz ⟨rfl, hbz⟩
    have HBz := Lib.hid (HB1.out.trans (hbz.mono HB1.out.size))
    clear hbz
    go_wp2_with fail
    go_ret
    exact ⟨rfl, HBz.out⟩
  · have HO := Lib.hid (fewK_ok hf HZ.out.1.1 HZ.out.2 HW.out.1 HW.out.2)
    clear hf
    obtain ⟨x0, x1, x2, x3, x4, x5, x6, x7⟩ := HX1.out.eight
    have xl := HX1.out.lt
    by_cases hc : h.ct = 0
    · have hc1 : (h.ct == 0) = true := by simpa using hc
      clear hc
      go_wp2_with fail
      refine (awake08 w1).mono ?_
      rintro e wz ⟨rfl, hbz⟩
      have HBz := Lib.hid (HB1.out.trans (hbz.mono HB1.out.size))
      clear hbz
      go_wp2_with fail
      go_ret
      exact ⟨rfl, HBz.out⟩
    · have hc1 : (h.ct == 0) = false := by simpa using hc
      by_cases hn : n = 0
      · subst hn
        clear hc
        go_wp2_with fail
        refine (awake08 w1).mono ?_
        rintro e wz ⟨rfl, hbz⟩
        have HBz := Lib.hid (HB1.out.trans (hbz.mono HB1.out.size))
        clear hbz
        go_wp2_with fail
        go_ret
        exact ⟨rfl, HBz.out⟩
      · have hn1 : (n == 0) = false := by simpa using hn
        have hnp : 0 < n := by omega
        have HC := Lib.hid hc
        have HN := Lib.hid hnp
        obtain ⟨m, hm⟩ : ∃ m, n / 2 + 1 = m := ⟨_, rfl⟩
        have hm1 : 0 < m := by omega
        have hm2 : m ≤ n ∨ n = 1 ∧ m = 1 := by omega
        have hmn : m ≤ n := by omega
        have hm3 : (m == 0) = false := by simp; omega
        obtain ⟨x, hx⟩ : ∃ x, a % m = x := ⟨_, rfl⟩
        obtain ⟨y, hy⟩ : ∃ y, b % m = y := ⟨_, rfl⟩
        have hx1 : 0 ≤ x := by rw [← hx]; exact Int.emod_nonneg _ (by omega)
        have hx2 : x < m := by rw [← hx]; exact Int.emod_lt_of_pos _ hm1
        have hy1 : 0 ≤ y := by rw [← hy]; exact Int.emod_nonneg _ (by omega)
        have hy2 : y < m := by rw [← hy]; exact Int.emod_lt_of_pos _ hm1
        clear hc
        go_wp2_with fail
        go_quiet (fail)
        go_wp2_with fail
        rw [hx, hy]
        have hb2 : Below w1.heap.size w1 (w1.drewN nq) := below_drewN (Below.refl _ _) nq
        clear x0 x1 x2 x3 x4 x5 x6 x7 xl
        have HX2 := Lib.hid (HX1.out.below hb2)
        have HP2 := Lib.hid (HP1.out.below hb2)
        have HQ2 := Lib.hid (HQ1.out.below hb2)
        have HB2 := Lib.hid (HB1.out.trans (hb2.mono HB1.out.size))
        have HK2 := Lib.hid (And.intro (HK1.out.1.below hb2) (HK1.out.2.below hb2))
        clear HB1 HX1 HP1 HQ1 HK1
        clear hb2
        generalize w1.drewN nq = w2 at *
        refine (order_any h A B c d w2 HK2.out.1 HK2.out.2 HO.out).mono ?_
        rintro e w3 ⟨A1, c1, rfl, hcs, hb3, hnw⟩
        have HX3 := Lib.hid (HX2.out.below hb3)
        have HP3 := Lib.hid (HP2.out.below hb3)
        have HQ3 := Lib.hid (HQ2.out.below hb3)
        have HB3 := Lib.hid (HB2.out.trans (hb3.mono HB2.out.size))
        have HK3 := Lib.hid (And.intro (HK2.out.1.below hb3) (HK2.out.2.below hb3))
        clear HB2 HX2 HP2 HQ2 HK2
        obtain ⟨l, hl⟩ : ∃ l, ordF h = l := ⟨_, rfl⟩
        rw [hl] at hcs
        rw [hl]
        have HL3 := Lib.hid hcs
        have HLE := Lib.hid hl
        have hll : (l.length : Int) ≤ 1025 := by have := ord_len HO.out; rw [hl] at this; omega
        clear hb3 hcs hnw hl
        obtain ⟨u, v, hmin, hmax, u0, uv, vn⟩ : ∃ u v, min x y = u ∧ max x y = v ∧ 0 ≤ u ∧ u ≤ v ∧ v ≤ n := ⟨min x y, max x y, rfl, rfl, by omega, by omega, by omega⟩
        obtain ⟨⟨e1, e2, e3, e4⟩, lpos, hcmp, hfst, hlst⟩ := rises_plain HO.out HC.out u0 uv vn hnp
        rw [HLE.out] at lpos hfst hlst
        have HR := Lib.hid (And.intro (And.intro e1 (And.intro e2 (And.intro e3 e4))) (And.intro hcmp (And.intro hfst hlst)))
        clear e1 e2 e3 e4 hcmp hfst hlst
        obtain ⟨x0, x1, x2, x3, x4, x5, x6, x7⟩ := HX3.out.eight
        have xl := HX3.out.lt
        go_wp2_with fail
        refine (quant_any h A B c d u n w3 HK3.out.1 HK3.out.2 HO.out (by omega) (by omega) (by omega) (by omega)).mono ?_
        rintro e w4 ⟨rfl, hb4⟩
        clear x0 x1 x2 x3 x4 x5 x6 x7 xl
        have HX4 := Lib.hid (HX3.out.below hb4)
        have HP4 := Lib.hid (HP3.out.below hb4)
        have HQ4 := Lib.hid (HQ3.out.below hb4)
        have HB4 := Lib.hid (HB3.out.trans (hb4.mono HB3.out.size))
        have HK4 := Lib.hid (And.intro (HK3.out.1.below hb4) (HK3.out.2.below hb4))
        have HL4 := Lib.hid (HL3.out.below hb4)
        clear HB3 HX3 HP3 HQ3 HK3 HL3
        obtain ⟨f1, hf1⟩ : ∃ q_, quC h u n = q_ := ⟨_, rfl⟩
        have HEf1 := Lib.hid hf1
        rw [hf1, HR.out.1.1]
        clear hb4 hf1
        obtain ⟨x0, x1, x2, x3, x4, x5, x6, x7⟩ := HX4.out.eight
        have xl := HX4.out.lt
        go_wp2_with fail
        clear x0 x1 x2 x3 x4 x5 x6 x7 xl
        have hb5 : Below w4.heap.size w4 (w4.alloc (.cells #[.int .i64 f1.d, .int .i64 f1.s, .int .i64 f1.i] 48)) := (Below.refl _ _).alloc (Nat.le_refl _) _
        obtain ⟨gf1, hgf1⟩ : ∃ g, w4.heap.size = g := ⟨_, rfl⟩
        have HNf1 := Lib.hid (Rb.new w4 gf1 hgf1 48 #[.int .i64 f1.d, .int .i64 f1.s, .int .i64 f1.i])
        have HX5 := Lib.hid (HX4.out.below hb5)
        have HP5 := Lib.hid (HP4.out.below hb5)
        have HQ5 := Lib.hid (HQ4.out.below hb5)
        have HB5 := Lib.hid (HB4.out.trans (hb5.mono HB4.out.size))
        have HK5 := Lib.hid (And.intro (HK4.out.1.below hb5) (HK4.out.2.below hb5))
        have HL5 := Lib.hid (HL4.out.below hb5)
        clear HB4 HX4 HP4 HQ4 HK4 HL4
        rw [hgf1]
        clear hb5 hgf1
        have Hf15 := HNf1
        clear HNf1
        generalize w4.alloc (.cells #[.int .i64 f1.d, .int .i64 f1.s, .int .i64 f1.i] 48) = w5 at *
        obtain ⟨x0, x1, x2, x3, x4, x5, x6, x7⟩ := HX5.out.eight
        have xl := HX5.out.lt
        go_wp2_with fail
        refine (quant_any h A B c d v n w5 HK5.out.1 HK5.out.2 HO.out (by omega) (by omega) (by omega) (by omega)).mono ?_
        rintro e w6 ⟨rfl, hb6⟩
        clear x0 x1 x2 x3 x4 x5 x6 x7 xl
        have HX6 := Lib.hid (HX5.out.below hb6)
        have HP6 := Lib.hid (HP5.out.below hb6)
        have HQ6 := Lib.hid (HQ5.out.below hb6)
        have Hf16 := Lib.hid (Hf15.out.below hb6)
        have HB6 := Lib.hid (HB5.out.trans (hb6.mono HB5.out.size))
        have HK6 := Lib.hid (And.intro (HK5.out.1.below hb6) (HK5.out.2.below hb6))
        have HL6 := Lib.hid (HL5.out.below hb6)
        clear HB5 HX5 HP5 HQ5 Hf15 HK5 HL5
        obtain ⟨f2, hf2⟩ : ∃ q_, quC h v n = q_ := ⟨_, rfl⟩
        have HEf2 := Lib.hid hf2
        rw [hf2, HR.out.1.2.1]
        clear hb6 hf2
        obtain ⟨x0, x1, x2, x3, x4, x5, x6, x7⟩ := HX6.out.eight
        have xl := HX6.out.lt
        go_wp2_with fail
        clear x0 x1 x2 x3 x4 x5 x6 x7 xl
        have hb7 : Below w6.heap.size w6 (w6.alloc (.cells #[.int .i64 f2.d, .int .i64 f2.s, .int .i64 f2.i] 48)) := (Below.refl _ _).alloc (Nat.le_refl _) _
        obtain ⟨gf2, hgf2⟩ : ∃ g, w6.heap.size = g := ⟨_, rfl⟩
        have HNf2 := Lib.hid (Rb.new w6 gf2 hgf2 48 #[.int .i64 f2.d, .int .i64 f2.s, .int .i64 f2.i])
        have HX7 := Lib.hid (HX6.out.below hb7)
        have HP7 := Lib.hid (HP6.out.below hb7)
        have HQ7 := Lib.hid (HQ6.out.below hb7)
        have Hf17 := Lib.hid (Hf16.out.below hb7)
        have HB7 := Lib.hid (HB6.out.trans (hb7.mono HB6.out.size))
        have HK7 := Lib.hid (And.intro (HK6.out.1.below hb7) (HK6.out.2.below hb7))
        have HL7 := Lib.hid (HL6.out.below hb7)
        clear HB6 HX6 HP6 HQ6 Hf16 HK6 HL6
        rw [hgf2]
        clear hb7 hgf2
        have Hf27 := HNf2
        clear HNf2
        generalize w6.alloc (.cells #[.int .i64 f2.d, .int .i64 f2.s, .int .i64 f2.i] 48) = w7 at *
        obtain ⟨x0, x1, x2, x3, x4, x5, x6, x7⟩ := HX7.out.eight
        have xl := HX7.out.lt
        go_wp2_with fail
        refine (quant_any h A B c d 0 n w7 HK7.out.1 HK7.out.2 HO.out (by omega) (by omega) (by omega) (by omega)).mono ?_
        rintro e w8 ⟨rfl, hb8⟩
        clear x0 x1 x2 x3 x4 x5 x6 x7 xl
        have HX8 := Lib.hid (HX7.out.below hb8)
        have HP8 := Lib.hid (HP7.out.below hb8)
        have HQ8 := Lib.hid (HQ7.out.below hb8)
        have Hf18 := Lib.hid (Hf17.out.below hb8)
        have Hf28 := Lib.hid (Hf27.out.below hb8)
        have HB8 := Lib.hid (HB7.out.trans (hb8.mono HB7.out.size))
        have HK8 := Lib.hid (And.intro (HK7.out.1.below hb8) (HK7.out.2.below hb8))
        have HL8 := Lib.hid (HL7.out.below hb8)
        clear HB7 HX7 HP7 HQ7 Hf17 Hf27 HK7 HL7
        obtain ⟨f3, hf3⟩ : ∃ q_, quC h 0 n = q_ := ⟨_, rfl⟩
        have HEf3 := Lib.hid hf3
        rw [hf3, HR.out.1.2.2.1]
        clear hb8 hf3
        obtain ⟨x0, x1, x2, x3, x4, x5, x6, x7⟩ := HX8.out.eight
        have xl := HX8.out.lt
        go_wp2_with fail
        clear x0 x1 x2 x3 x4 x5 x6 x7 xl
        have hb9 : Below w8.heap.size w8 (w8.alloc (.cells #[.int .i64 f3.d, .int .i64 f3.s, .int .i64 f3.i] 48)) := (Below.refl _ _).alloc (Nat.le_refl _) _
        obtain ⟨gf3, hgf3⟩ : ∃ g, w8.heap.size = g := ⟨_, rfl⟩
        have HNf3 := Lib.hid (Rb.new w8 gf3 hgf3 48 #[.int .i64 f3.d, .int .i64 f3.s, .int .i64 f3.i])
        have HX9 := Lib.hid (HX8.out.below hb9)
        have HP9 := Lib.hid (HP8.out.below hb9)
        have HQ9 := Lib.hid (HQ8.out.below hb9)
        have Hf19 := Lib.hid (Hf18.out.below hb9)
        have Hf29 := Lib.hid (Hf28.out.below hb9)
        have HB9 := Lib.hid (HB8.out.trans (hb9.mono HB8.out.size))
        have HK9 := Lib.hid (And.intro (HK8.out.1.below hb9) (HK8.out.2.below hb9))
        have HL9 := Lib.hid (HL8.out.below hb9)
        clear HB8 HX8 HP8 HQ8 Hf18 Hf28 HK8 HL8
        rw [hgf3]
        clear hb9 hgf3
        have Hf39 := HNf3
        clear HNf3
        generalize w8.alloc (.cells #[.int .i64 f3.d, .int .i64 f3.s, .int .i64 f3.i] 48) = w9 at *
        obtain ⟨x0, x1, x2, x3, x4, x5, x6, x7⟩ := HX9.out.eight
        have xl := HX9.out.lt
        go_wp2_with fail
        refine (quant_any h A B c d n n w9 HK9.out.1 HK9.out.2 HO.out (by omega) (by omega) (by omega) (by omega)).mono ?_
        rintro e w10 ⟨rfl, hb10⟩
        clear x0 x1 x2 x3 x4 x5 x6 x7 xl
        have HX10 := Lib.hid (HX9.out.below hb10)
        have HP10 := Lib.hid (HP9.out.below hb10)
        have HQ10 := Lib.hid (HQ9.out.below hb10)
        have Hf110 := Lib.hid (Hf19.out.below hb10)
        have Hf210 := Lib.hid (Hf29.out.below hb10)
        have Hf310 := Lib.hid (Hf39.out.below hb10)
        have HB10 := Lib.hid (HB9.out.trans (hb10.mono HB9.out.size))
        have HK10 := Lib.hid (And.intro (HK9.out.1.below hb10) (HK9.out.2.below hb10))
        have HL10 := Lib.hid (HL9.out.below hb10)
        clear HB9 HX9 HP9 HQ9 Hf19 Hf29 Hf39 HK9 HL9
        obtain ⟨f4, hf4⟩ : ∃ q_, quC h n n = q_ := ⟨_, rfl⟩
        have HEf4 := Lib.hid hf4
        rw [hf4, HR.out.1.2.2.2]
        clear hb10 hf4
        obtain ⟨x0, x1, x2, x3, x4, x5, x6, x7⟩ := HX10.out.eight
        have xl := HX10.out.lt
        go_wp2_with fail
        clear x0 x1 x2 x3 x4 x5 x6 x7 xl
        have hb11 : Below w10.heap.size w10 (w10.alloc (.cells #[.int .i64 f4.d, .int .i64 f4.s, .int .i64 f4.i] 48)) := (Below.refl _ _).alloc (Nat.le_refl _) _
        obtain ⟨gf4, hgf4⟩ : ∃ g, w10.heap.size = g := ⟨_, rfl⟩
        have HNf4 := Lib.hid (Rb.new w10 gf4 hgf4 48 #[.int .i64 f4.d, .int .i64 f4.s, .int .i64 f4.i])
        have HX11 := Lib.hid (HX10.out.below hb11)
        have HP11 := Lib.hid (HP10.out.below hb11)
        have HQ11 := Lib.hid (HQ10.out.below hb11)
        have Hf111 := Lib.hid (Hf110.out.below hb11)
        have Hf211 := Lib.hid (Hf210.out.below hb11)
        have Hf311 := Lib.hid (Hf310.out.below hb11)
        have HB11 := Lib.hid (HB10.out.trans (hb11.mono HB10.out.size))
        have HK11 := Lib.hid (And.intro (HK10.out.1.below hb11) (HK10.out.2.below hb11))
        have HL11 := Lib.hid (HL10.out.below hb11)
        clear HB10 HX10 HP10 HQ10 Hf110 Hf210 Hf310 HK10 HL10
        rw [hgf4]
        clear hb11 hgf4
        have Hf411 := HNf4
        clear HNf4
        generalize w10.alloc (.cells #[.int .i64 f4.d, .int .i64 f4.s, .int .i64 f4.i] 48) = w11 at *
        have hf3 := HR.out.2.2.1
        rw [HEf3.out] at hf3
        have hf4 := HR.out.2.2.2
        rw [HEf4.out] at hf4
        have hcm := HR.out.2.1
        rw [HEf1.out, HEf2.out] at hcm
        have hl0 : ((l.length : Int) == 0) = false := by rw [beq_eq_false_iff_ne]; omega
        obtain ⟨K9, hK9⟩ : ∃ K : Nat, (l.length : Int) - 1 = K := ⟨l.length - 1, by omega⟩
        have hK9' : l.length - 1 = K9 := by omega
        have hK8 : (K9 : Int) < (l.length : Int) := by omega
        rw [hK9'] at hf4
        have HF3 := Lib.hid hf3
        have HF4 := Lib.hid hf4
        clear hf3 hf4 hK9'
        obtain ⟨ab, ao, rfl, _⟩ := HL11.out.some_ lpos
        have HCM := Lib.hid hcm
        clear hcm
        obtain ⟨x0, x1, x2, x3, x4, x5, x6, x7⟩ := HX11.out.eight
        have xl := HX11.out.lt
        obtain ⟨p0, p1, _, _⟩ := HP11.out.two
        have pl := HP11.out.lt
        obtain ⟨f10, f11, f12, _, _, _⟩ := Hf111.out.three
        have f1l := Hf111.out.lt
        obtain ⟨f20, f21, f22, _, _, _⟩ := Hf211.out.three
        have f2l := Hf211.out.lt
        obtain ⟨f30, f31, f32, _, _, _⟩ := Hf311.out.three
        have f3l := Hf311.out.lt
        obtain ⟨f40, f41, f42, _, _, _⟩ := Hf411.out.three
        have f4l := Hf411.out.lt
        have HCO := Lib.hid (fun (W : World) => compare_any f1 f2 W)
        obtain ⟨cq, hcq⟩ : ∃ z, cmpK f1 f2 = z := ⟨_, rfl⟩
        have hcq0 := HCM.out
        rw [hcq] at hcq0
        rw [hcq] at HCO
        clear hcq
        have hcq1 : ¬ 0 < cq := by omega
        obtain ⟨_, _, hab, hcell⟩ := HL11.out.some_ lpos
        injection hab with hab
        injection hab with hab1 hab2 hab3
        subst hab1 hab2
        obtain ⟨z0, z1, z2, z3⟩ := hcell 0 f3 HF3.out
        obtain ⟨t0, t1, t2, t3⟩ := hcell K9 f4 HF4.out
        simp only [Nat.zero_mul, Nat.add_zero] at z0 z1 z2 z3
        have hlb := block_lt_of_cell z0
        simp only at hlb
        clear hcell
        have heq3 := fun d os => eqK f3.d f3.s f3.i (grow (redrawn w11 d) os)
        have heq4 := fun d os => eqK f4.d f4.s f4.i (grow (redrawn w11 d) os)
        have f10' := cell_regrown f10
        have f11' := cell_regrown f11
        have f12' := cell_regrown f12
        have f20' := cell_regrown f20
        have f21' := cell_regrown f21
        have f22' := cell_regrown f22
        have f30' := cell_regrown f30
        have f31' := cell_regrown f31
        have f32' := cell_regrown f32
        have f40' := cell_regrown f40
        have f41' := cell_regrown f41
        have f42' := cell_regrown f42
        have z0' := cell_regrown z0
        have z1' := cell_regrown z1
        have z2' := cell_regrown z2
        have t0' := cell_regrown t0
        have t1' := cell_regrown t1
        have t2' := cell_regrown t2
        refine wp_region_quiet_below (by kernel_rfl) (by kernel_rfl) ?_
        repeat (any_goals (first | go_big_quiet_step (first | (go_at_call 29; (with_reducible exact Calls.regrown_of (HCO.out _)))) | quiet_step (first | (go_at_call 29; (with_reducible exact Calls.regrown_of (HCO.out _))))))
        refine wpQuiet_nil ?_
        intro _ hw'
        obtain ⟨⟨dq, osq⟩, hw2⟩ := hw'
        subst hw2
        have hb12 := below_regrown w11 dq osq
        clear f10' f11' f12' f20' f21' f22' f30' f31' f32' f40' f41' f42' z0' z1' z2' t0' t1' t2' z0 z1 z2 z3 t0 t1 t2 t3 hlb heq3 heq4
        clear x0 x1 x2 x3 x4 x5 x6 x7 xl p0 p1 pl f10 f11 f12 f1l f20 f21 f22 f2l f30 f31 f32 f3l f40 f41 f42 f4l
        have HX12 := Lib.hid (HX11.out.below hb12)
        have HP12 := Lib.hid (HP11.out.below hb12)
        have HQ12 := Lib.hid (HQ11.out.below hb12)
        have Hf112 := Lib.hid (Hf111.out.below hb12)
        have Hf212 := Lib.hid (Hf211.out.below hb12)
        have Hf312 := Lib.hid (Hf311.out.below hb12)
        have Hf412 := Lib.hid (Hf411.out.below hb12)
        have HB12 := Lib.hid (HB11.out.trans (hb12.mono HB11.out.size))
        have HK12 := Lib.hid (And.intro (HK11.out.1.below hb12) (HK11.out.2.below hb12))
        have HL12 := Lib.hid (HL11.out.below hb12)
        clear HB11 HX11 HP11 HQ11 Hf111 Hf211 Hf311 Hf411 HK11 HL11
        clear hb12
        generalize grow (redrawn w11 dq) osq = w12 at *
        obtain ⟨x0, x1, x2, x3, x4, x5, x6, x7⟩ := HX12.out.eight
        have xl := HX12.out.lt
        obtain ⟨p0, p1, _, _⟩ := HP12.out.two
        have pl := HP12.out.lt
        go_wp2_with fail
        clear x0 x1 x2 x3 x4 x5 x6 x7 xl p0 p1 pl
        refine (below_any h A B c d pd pu w12 HK12.out.1 HK12.out.2 HO.out).mono ?_
        rintro e w13 ⟨rfl, hb13⟩
        have HX13 := Lib.hid (HX12.out.below hb13)
        have HP13 := Lib.hid (HP12.out.below hb13)
        have HQ13 := Lib.hid (HQ12.out.below hb13)
        have HB13 := Lib.hid (HB12.out.trans (hb13.mono HB12.out.size))
        have HK13 := Lib.hid (And.intro (HK12.out.1.below hb13) (HK12.out.2.below hb13))
        clear HB12 HX12 HP12 HQ12 HK12
        obtain ⟨Xu, hXu⟩ : ∃ q_, belX h pd pu = q_ := ⟨_, rfl⟩
        obtain ⟨Mu, hMu⟩ : ∃ q_, belM h pd pu = q_ := ⟨_, rfl⟩
        obtain ⟨Au, hAu⟩ : ∃ q_, belA h pd pu = q_ := ⟨_, rfl⟩
        obtain ⟨Eu, hEu⟩ : ∃ q_, belE h pd pu = q_ := ⟨_, rfl⟩
        rw [hXu, hMu, hAu, hEu]
        have HVu := Lib.hid (And.intro hEu (And.intro hXu (And.intro hMu hAu)))
        clear hb13 hXu hMu hAu hEu
        obtain ⟨x0, x1, x2, x3, x4, x5, x6, x7⟩ := HX13.out.eight
        have xl := HX13.out.lt
        obtain ⟨q0, q1, _, _⟩ := HQ13.out.two
        have ql := HQ13.out.lt
        go_wp2_with fail
        clear x0 x1 x2 x3 x4 x5 x6 x7 xl q0 q1 ql
        have hb14 : Below w13.heap.size w13 (w13.alloc (.cells #[.int .u64 Xu, .int .u64 Mu, .int .u64 Au] 62)) := (Below.refl _ _).alloc (Nat.le_refl _) _
        obtain ⟨gu, hgu⟩ : ∃ g, w13.heap.size = g := ⟨_, rfl⟩
        have HNu := Lib.hid (Rb.new w13 gu hgu 62 #[.int .u64 Xu, .int .u64 Mu, .int .u64 Au])
        have HX14 := Lib.hid (HX13.out.below hb14)
        have HP14 := Lib.hid (HP13.out.below hb14)
        have HQ14 := Lib.hid (HQ13.out.below hb14)
        have HB14 := Lib.hid (HB13.out.trans (hb14.mono HB13.out.size))
        have HK14 := Lib.hid (And.intro (HK13.out.1.below hb14) (HK13.out.2.below hb14))
        clear HB13 HX13 HP13 HQ13 HK13
        rw [hgu]
        clear hb14 hgu
        have Hu14 := HNu
        clear HNu
        generalize w13.alloc (.cells #[.int .u64 Xu, .int .u64 Mu, .int .u64 Au] 62) = w14 at *
        refine (below_any h A B c d qd qu w14 HK14.out.1 HK14.out.2 HO.out).mono ?_
        rintro e w15 ⟨rfl, hb15⟩
        have HX15 := Lib.hid (HX14.out.below hb15)
        have HP15 := Lib.hid (HP14.out.below hb15)
        have HQ15 := Lib.hid (HQ14.out.below hb15)
        have Hu15 := Lib.hid (Hu14.out.below hb15)
        have HB15 := Lib.hid (HB14.out.trans (hb15.mono HB14.out.size))
        have HK15 := Lib.hid (And.intro (HK14.out.1.below hb15) (HK14.out.2.below hb15))
        clear HB14 HX14 HP14 HQ14 Hu14 HK14
        obtain ⟨Xv, hXv⟩ : ∃ q_, belX h qd qu = q_ := ⟨_, rfl⟩
        obtain ⟨Mv, hMv⟩ : ∃ q_, belM h qd qu = q_ := ⟨_, rfl⟩
        obtain ⟨Av, hAv⟩ : ∃ q_, belA h qd qu = q_ := ⟨_, rfl⟩
        obtain ⟨Ev, hEv⟩ : ∃ q_, belE h qd qu = q_ := ⟨_, rfl⟩
        rw [hXv, hMv, hAv, hEv]
        have HVv := Lib.hid (And.intro hEv (And.intro hXv (And.intro hMv hAv)))
        clear hb15 hXv hMv hAv hEv
        by_cases g1 : Eu = 0
        · by_cases g2 : Ev = 0
          · subst g1 g2
            have hpl : plB pd pu = true := by
              rcases hb : plB pd pu with _ | _
              · have := (belE_no (h := h) hb).1; rw [HVu.out.1] at this; cases this
              · rfl
            have hql : plB qd qu = true := by
              rcases hb : plB qd qu with _ | _
              · have := (belE_no (h := h) hb).1; rw [HVv.out.1] at this; cases this
              · rfl
            obtain ⟨pp1, pp2, pp3, pp4⟩ := plU_of hpl
            obtain ⟨qq1, qq2, qq3, qq4⟩ := plU_of hql
            have hpm : -262144 ≤ pd * pu ∧ pd * pu ≤ 262144 := by rcases pp1 with rfl | rfl | rfl <;> omega
            have hqm : -262144 ≤ qd * qu ∧ qd * qu ≤ 262144 := by rcases qq1 with rfl | rfl | rfl <;> omega
            have hbu := bel_bd HO.out pd pu
            have hbu2 := bel_two HO.out (d := pd) (u := pu) HVu.out.1
            rw [HVu.out.2.1, HVu.out.2.2.1] at hbu hbu2
            have hAu := HVu.out.2.2.2
            unfold belA at hAu
            rw [if_pos HVu.out.1] at hAu
            have hbv := bel_bd HO.out qd qu
            rw [HVv.out.2.1, HVv.out.2.2.1] at hbv
            have hct1 := HO.out.big
            have HLE2 := Lib.hid (fun (g : pd < qd ∨ (qd = pd ∧ pd * pu ≤ qd * qu)) => show Xu ≤ Xv from by
              have := bel_le HO.out HVu.out.1 HVv.out.1 (num_higher hpl hql g)
              rw [HVu.out.2.1, HVv.out.2.1] at this
              exact this)
            subst hAu
            obtain ⟨x0, x1, x2, x3, x4, x5, x6, x7⟩ := HX15.out.eight
            have xl := HX15.out.lt
            obtain ⟨p0, p1, _, _⟩ := HP15.out.two
            have pl := HP15.out.lt
            obtain ⟨q0, q1, _, _⟩ := HQ15.out.two
            have ql := HQ15.out.lt
            clear hpl hql pp4 qq4
            by_cases g3 : pd < qd
            · have g3d : decide (pd < qd) = true := decide_eq_true g3
              have g3e : True := trivial
              go_wp2_with fail
              clear x0 x1 x2 x3 x4 x5 x6 x7 xl p0 p1 pl q0 q1 ql
              have hb16 : Below w15.heap.size w15 (w15.alloc (.cells #[.int .u64 Xv, .int .u64 Mv, .int .u64 Av] 62)) := (Below.refl _ _).alloc (Nat.le_refl _) _
              obtain ⟨gv, hgv⟩ : ∃ g, w15.heap.size = g := ⟨_, rfl⟩
              have HNv := Lib.hid (Rb.new w15 gv hgv 62 #[.int .u64 Xv, .int .u64 Mv, .int .u64 Av])
              have HX16 := Lib.hid (HX15.out.below hb16)
              have HP16 := Lib.hid (HP15.out.below hb16)
              have HQ16 := Lib.hid (HQ15.out.below hb16)
              have Hu16 := Lib.hid (Hu15.out.below hb16)
              have HB16 := Lib.hid (HB15.out.trans (hb16.mono HB15.out.size))
              have HK16 := Lib.hid (And.intro (HK15.out.1.below hb16) (HK15.out.2.below hb16))
              clear HB15 HX15 HP15 HQ15 Hu15 HK15
              rw [hgv]
              clear hb16 hgv
              have Hv16 := HNv
              clear HNv
              generalize w15.alloc (.cells #[.int .u64 Xv, .int .u64 Mv, .int .u64 Av] 62) = w16 at *
              refine (awake08 w16).mono ?_
              rintro e w17 ⟨rfl, hb17⟩
              have HX17 := Lib.hid (HX16.out.below hb17)
              have HP17 := Lib.hid (HP16.out.below hb17)
              have HQ17 := Lib.hid (HQ16.out.below hb17)
              have Hu17 := Lib.hid (Hu16.out.below hb17)
              have Hv17 := Lib.hid (Hv16.out.below hb17)
              have HB17 := Lib.hid (HB16.out.trans (hb17.mono HB16.out.size))
              have HK17 := Lib.hid (And.intro (HK16.out.1.below hb17) (HK16.out.2.below hb17))
              clear HB16 HX16 HP16 HQ16 Hu16 Hv16 HK16
              clear hb17
              obtain ⟨x0, x1, x2, x3, x4, x5, x6, x7⟩ := HX17.out.eight
              have xl := HX17.out.lt
              obtain ⟨u0, u1, u2, _, _, _⟩ := Hu17.out.three
              have ul := Hu17.out.lt
              obtain ⟨v0, v1, v2, _, _, _⟩ := Hv17.out.three
              have vl := Hv17.out.lt
              have hle := HLE2.out (Or.inl g3)
              have HBz := Lib.hid HB17.out
              go_wp2_with fail
              go_ret
              exact ⟨rfl, HBz.out⟩
            · by_cases g4 : qd = pd
              · have g4e : (qd == pd) = true := by simpa using g4
                by_cases g5 : pd * pu ≤ qd * qu
                · have hg4 := Lib.hid g4
                  clear g4
                  have g3e : True := trivial
                  go_wp2_with fail
                  clear x0 x1 x2 x3 x4 x5 x6 x7 xl p0 p1 pl q0 q1 ql
                  have hb16 : Below w15.heap.size w15 (w15.alloc (.cells #[.int .u64 Xv, .int .u64 Mv, .int .u64 Av] 62)) := (Below.refl _ _).alloc (Nat.le_refl _) _
                  obtain ⟨gv, hgv⟩ : ∃ g, w15.heap.size = g := ⟨_, rfl⟩
                  have HNv := Lib.hid (Rb.new w15 gv hgv 62 #[.int .u64 Xv, .int .u64 Mv, .int .u64 Av])
                  have HX16 := Lib.hid (HX15.out.below hb16)
                  have HP16 := Lib.hid (HP15.out.below hb16)
                  have HQ16 := Lib.hid (HQ15.out.below hb16)
                  have Hu16 := Lib.hid (Hu15.out.below hb16)
                  have HB16 := Lib.hid (HB15.out.trans (hb16.mono HB15.out.size))
                  have HK16 := Lib.hid (And.intro (HK15.out.1.below hb16) (HK15.out.2.below hb16))
                  clear HB15 HX15 HP15 HQ15 Hu15 HK15
                  rw [hgv]
                  clear hb16 hgv
                  have Hv16 := HNv
                  clear HNv
                  generalize w15.alloc (.cells #[.int .u64 Xv, .int .u64 Mv, .int .u64 Av] 62) = w16 at *
                  refine (awake08 w16).mono ?_
                  rintro e w17 ⟨rfl, hb17⟩
                  have HX17 := Lib.hid (HX16.out.below hb17)
                  have HP17 := Lib.hid (HP16.out.below hb17)
                  have HQ17 := Lib.hid (HQ16.out.below hb17)
                  have Hu17 := Lib.hid (Hu16.out.below hb17)
                  have Hv17 := Lib.hid (Hv16.out.below hb17)
                  have HB17 := Lib.hid (HB16.out.trans (hb17.mono HB16.out.size))
                  have HK17 := Lib.hid (And.intro (HK16.out.1.below hb17) (HK16.out.2.below hb17))
                  clear HB16 HX16 HP16 HQ16 Hu16 Hv16 HK16
                  clear hb17
                  obtain ⟨x0, x1, x2, x3, x4, x5, x6, x7⟩ := HX17.out.eight
                  have xl := HX17.out.lt
                  obtain ⟨u0, u1, u2, _, _, _⟩ := Hu17.out.three
                  have ul := Hu17.out.lt
                  obtain ⟨v0, v1, v2, _, _, _⟩ := Hv17.out.three
                  have vl := Hv17.out.lt
                  have hle := HLE2.out (Or.inr ⟨hg4.out, g5⟩)
                  have HBz := Lib.hid HB17.out
                  go_wp2_with fail
                  go_ret
                  exact ⟨rfl, HBz.out⟩
                · clear g4
                  have g3e : True := trivial
                  go_wp2_with fail
                  clear x0 x1 x2 x3 x4 x5 x6 x7 xl p0 p1 pl q0 q1 ql
                  have hb16 : Below w15.heap.size w15 (w15.alloc (.cells #[.int .u64 Xv, .int .u64 Mv, .int .u64 Av] 62)) := (Below.refl _ _).alloc (Nat.le_refl _) _
                  obtain ⟨gv, hgv⟩ : ∃ g, w15.heap.size = g := ⟨_, rfl⟩
                  have HNv := Lib.hid (Rb.new w15 gv hgv 62 #[.int .u64 Xv, .int .u64 Mv, .int .u64 Av])
                  have HX16 := Lib.hid (HX15.out.below hb16)
                  have HP16 := Lib.hid (HP15.out.below hb16)
                  have HQ16 := Lib.hid (HQ15.out.below hb16)
                  have Hu16 := Lib.hid (Hu15.out.below hb16)
                  have HB16 := Lib.hid (HB15.out.trans (hb16.mono HB15.out.size))
                  have HK16 := Lib.hid (And.intro (HK15.out.1.below hb16) (HK15.out.2.below hb16))
                  clear HB15 HX15 HP15 HQ15 Hu15 HK15
                  rw [hgv]
                  clear hb16 hgv
                  have Hv16 := HNv
                  clear HNv
                  generalize w15.alloc (.cells #[.int .u64 Xv, .int .u64 Mv, .int .u64 Av] 62) = w16 at *
                  refine (awake08 w16).mono ?_
                  rintro e w17 ⟨rfl, hb17⟩
                  have HX17 := Lib.hid (HX16.out.below hb17)
                  have HP17 := Lib.hid (HP16.out.below hb17)
                  have HQ17 := Lib.hid (HQ16.out.below hb17)
                  have Hu17 := Lib.hid (Hu16.out.below hb17)
                  have Hv17 := Lib.hid (Hv16.out.below hb17)
                  have HB17 := Lib.hid (HB16.out.trans (hb17.mono HB16.out.size))
                  have HK17 := Lib.hid (And.intro (HK16.out.1.below hb17) (HK16.out.2.below hb17))
                  clear HB16 HX16 HP16 HQ16 Hu16 Hv16 HK16
                  clear hb17
                  obtain ⟨x0, x1, x2, x3, x4, x5, x6, x7⟩ := HX17.out.eight
                  have xl := HX17.out.lt
                  obtain ⟨u0, u1, u2, _, _, _⟩ := Hu17.out.three
                  have ul := Hu17.out.lt
                  obtain ⟨v0, v1, v2, _, _, _⟩ := Hv17.out.three
                  have vl := Hv17.out.lt

                  have HBz := Lib.hid HB17.out
                  go_wp2_with fail
                  go_ret
                  exact ⟨rfl, HBz.out⟩
              · have g4e : (qd == pd) = false := by simpa using g4
                clear g4
                go_wp2_with fail
                clear x0 x1 x2 x3 x4 x5 x6 x7 xl p0 p1 pl q0 q1 ql
                have hb16 : Below w15.heap.size w15 (w15.alloc (.cells #[.int .u64 Xv, .int .u64 Mv, .int .u64 Av] 62)) := (Below.refl _ _).alloc (Nat.le_refl _) _
                obtain ⟨gv, hgv⟩ : ∃ g, w15.heap.size = g := ⟨_, rfl⟩
                have HNv := Lib.hid (Rb.new w15 gv hgv 62 #[.int .u64 Xv, .int .u64 Mv, .int .u64 Av])
                have HX16 := Lib.hid (HX15.out.below hb16)
                have HP16 := Lib.hid (HP15.out.below hb16)
                have HQ16 := Lib.hid (HQ15.out.below hb16)
                have Hu16 := Lib.hid (Hu15.out.below hb16)
                have HB16 := Lib.hid (HB15.out.trans (hb16.mono HB15.out.size))
                have HK16 := Lib.hid (And.intro (HK15.out.1.below hb16) (HK15.out.2.below hb16))
                clear HB15 HX15 HP15 HQ15 Hu15 HK15
                rw [hgv]
                clear hb16 hgv
                have Hv16 := HNv
                clear HNv
                generalize w15.alloc (.cells #[.int .u64 Xv, .int .u64 Mv, .int .u64 Av] 62) = w16 at *
                refine (awake08 w16).mono ?_
                rintro e w17 ⟨rfl, hb17⟩
                have HX17 := Lib.hid (HX16.out.below hb17)
                have HP17 := Lib.hid (HP16.out.below hb17)
                have HQ17 := Lib.hid (HQ16.out.below hb17)
                have Hu17 := Lib.hid (Hu16.out.below hb17)
                have Hv17 := Lib.hid (Hv16.out.below hb17)
                have HB17 := Lib.hid (HB16.out.trans (hb17.mono HB16.out.size))
                have HK17 := Lib.hid (And.intro (HK16.out.1.below hb17) (HK16.out.2.below hb17))
                clear HB16 HX16 HP16 HQ16 Hu16 Hv16 HK16
                clear hb17
                obtain ⟨x0, x1, x2, x3, x4, x5, x6, x7⟩ := HX17.out.eight
                have xl := HX17.out.lt
                obtain ⟨u0, u1, u2, _, _, _⟩ := Hu17.out.three
                have ul := Hu17.out.lt
                obtain ⟨v0, v1, v2, _, _, _⟩ := Hv17.out.three
                have vl := Hv17.out.lt

                have HBz := Lib.hid HB17.out
                go_wp2_with fail
                go_ret
                exact ⟨rfl, HBz.out⟩
          · subst g1
            have g2e : (Ev != 0) = true := by simpa using g2
            clear g2
            go_wp2_with fail
            have hb16 : Below w15.heap.size w15 (w15.alloc (.cells #[.int .u64 Xv, .int .u64 Mv, .int .u64 Av] 62)) := (Below.refl _ _).alloc (Nat.le_refl _) _
            obtain ⟨gv, hgv⟩ : ∃ g, w15.heap.size = g := ⟨_, rfl⟩
            have HNv := Lib.hid (Rb.new w15 gv hgv 62 #[.int .u64 Xv, .int .u64 Mv, .int .u64 Av])
            have HX16 := Lib.hid (HX15.out.below hb16)
            have HP16 := Lib.hid (HP15.out.below hb16)
            have HQ16 := Lib.hid (HQ15.out.below hb16)
            have Hu16 := Lib.hid (Hu15.out.below hb16)
            have HB16 := Lib.hid (HB15.out.trans (hb16.mono HB15.out.size))
            have HK16 := Lib.hid (And.intro (HK15.out.1.below hb16) (HK15.out.2.below hb16))
            clear HB15 HX15 HP15 HQ15 Hu15 HK15
            rw [hgv]
            clear hb16 hgv
            have Hv16 := HNv
            clear HNv
            generalize w15.alloc (.cells #[.int .u64 Xv, .int .u64 Mv, .int .u64 Av] 62) = w16 at *
            refine (awake08 w16).mono ?_
            rintro e wz ⟨rfl, hbz⟩
            have HBz := Lib.hid (HB16.out.trans (hbz.mono HB16.out.size))
            clear hbz
            go_wp2_with fail
            go_ret
            exact ⟨rfl, HBz.out⟩
        · have g1e : (Eu != 0) = true := by simpa using g1
          clear g1
          go_wp2_with fail
          have hb16 : Below w15.heap.size w15 (w15.alloc (.cells #[.int .u64 Xv, .int .u64 Mv, .int .u64 Av] 62)) := (Below.refl _ _).alloc (Nat.le_refl _) _
          obtain ⟨gv, hgv⟩ : ∃ g, w15.heap.size = g := ⟨_, rfl⟩
          have HNv := Lib.hid (Rb.new w15 gv hgv 62 #[.int .u64 Xv, .int .u64 Mv, .int .u64 Av])
          have HX16 := Lib.hid (HX15.out.below hb16)
          have HP16 := Lib.hid (HP15.out.below hb16)
          have HQ16 := Lib.hid (HQ15.out.below hb16)
          have Hu16 := Lib.hid (Hu15.out.below hb16)
          have HB16 := Lib.hid (HB15.out.trans (hb16.mono HB15.out.size))
          have HK16 := Lib.hid (And.intro (HK15.out.1.below hb16) (HK15.out.2.below hb16))
          clear HB15 HX15 HP15 HQ15 Hu15 HK15
          rw [hgv]
          clear hb16 hgv
          have Hv16 := HNv
          clear HNv
          generalize w15.alloc (.cells #[.int .u64 Xv, .int .u64 Mv, .int .u64 Av] 62) = w16 at *
          refine (awake08 w16).mono ?_
          rintro e wz ⟨rfl, hbz⟩
          have HBz := Lib.hid (HB16.out.trans (hbz.mono HB16.out.size))
          clear hbz
          go_wp2_with fail
          go_ret
          exact ⟨rfl, HBz.out⟩
end Go.Proofs.Ytbibhjcmdehdbaa
