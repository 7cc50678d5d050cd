/- The law RankEnds: its walk. -/
import Derived.Test.YtbibhjcmdehdbaaRkL
namespace Go.Proofs.Ytbibhjcmdehdbaa
open Go.RowKit Go.Sort
set_option linter.unusedVariables false

theorem hi_bd {h : HV} (o : Ok h) {p : Cel} (hp : p ∈ ordF h) : -524289 < numF (hiD p h.z) (hiU p h.z) ∧ numF (hiD p h.z) (hiU p h.z) ≤ 524289 := by
  obtain ⟨⟨_, l1, l2, _⟩, hd, h1, h2, h3⟩ := ends_u o p hp
  have oc := (ord_cel o p hp).1
  have hw := (uw_bd oc.s).1
  have hp' := un_pred p.s p.i
  unfold numF
  by_cases e : p.d < 0
  · have a1 : hiD p h.z = -1 := by unfold hiD; rw [if_neg (by omega), if_pos e]
    have a2 : hiU p h.z = un p.s (p.i - 1) := by unfold hiU; rw [if_neg (by omega), if_pos e]
    have a3 : loU p h.z = un p.s p.i := by unfold loU; rw [if_neg (by omega), if_pos e]
    rw [a3] at l2
    rw [a2] at h1 h2
    rw [a1, a2]
    omega
  · rcases hd with e1 | e1 | e1
    · exfalso
      unfold hiD at e1
      split at e1
      · omega
      · split at e1 <;> omega
    · rw [e1]; omega
    · rw [e1]; omega
theorem sumB_none {f : Cel → Bool} : ∀ {l : List Cel}, (∀ p ∈ l, f p = false) → sumB f l = 0
  | [], _ => rfl
  | a :: l, h => by
    have e2 : sumB f (a :: l) = sumB f l := by simp [sumB, h a (List.mem_cons_self ..)]
    rw [e2]; exact sumB_none fun p hp => h p (List.mem_cons_of_mem _ hp)
theorem sumB_all {f : Cel → Bool} : ∀ {l : List Cel}, (∀ p ∈ l, f p = true) → sumB f l = totC l
  | [], _ => rfl
  | a :: l, h => by
    have e2 : sumB f (a :: l) = a.n + sumB f l := by simp [sumB, h a (List.mem_cons_self ..)]
    have e : totC (a :: l) = a.n + totC l := by simp [totC]
    rw [e2, e, sumB_all fun p hp => h p (List.mem_cons_of_mem _ hp)]
theorem sumB_mono {f g : Cel → Bool} : ∀ {l : List Cel}, (∀ p ∈ l, 0 ≤ p.n) → (∀ p ∈ l, f p = true → g p = true) → sumB f l ≤ sumB g l
  | [], _, _ => Int.le_refl _
  | a :: l, hn, h => by
    have ih := sumB_mono (fun p hp => hn p (List.mem_cons_of_mem _ hp)) fun p hp => h p (List.mem_cons_of_mem _ hp)
    have h0 := hn a (List.mem_cons_self ..)
    have h1 := h a (List.mem_cons_self ..)
    rcases hf : f a with _ | _ <;> rcases hg : g a with _ | _ <;> simp [sumB, hf, hg] at ih h1 ⊢ <;> omega
theorem sumB_two {f g : Cel → Bool} : ∀ {l : List Cel}, (∀ p ∈ l, 0 ≤ p.n) → (∀ p ∈ l, f p = true → g p = false) → sumB f l + sumB g l ≤ totC l
  | [], _, _ => Int.le_refl _
  | a :: l, hn, h => by
    have ih := sumB_two (fun p hp => hn p (List.mem_cons_of_mem _ hp)) fun p hp => h p (List.mem_cons_of_mem _ hp)
    have h0 := hn a (List.mem_cons_self ..)
    have h1 := h a (List.mem_cons_self ..)
    rcases hf : f a with _ | _ <;> rcases hg : g a with _ | _ <;> simp [sumB, totC, hf, hg] at ih h1 ⊢ <;> omega
theorem bel_le {h : HV} (o : Ok h) {d u d' u' : Int} (e : belE h d u = 0) (e' : belE h d' u' = 0) (hn : numF d u ≤ numF d' u') : belX h d u ≤ belX h d' u' := by
  unfold belX
  rw [if_pos e, if_pos e']
  refine sumB_mono (fun p hp => (ord_cel o p hp).2) fun p hp hb => ?_
  unfold belB at *
  rw [decide_eq_true_eq] at *
  omega
theorem bel_two {h : HV} (o : Ok h) {d u : Int} (e : belE h d u = 0) : belX h d u + belM h d u ≤ h.ct := by
  unfold belX belM
  rw [if_pos e, if_pos e, ← tot_ord o]
  refine sumB_two (fun p hp => (ord_cel o p hp).2) fun p hp hb => ?_
  unfold midB
  rw [hb]; rfl
theorem bel_bd {h : HV} (o : Ok h) (d u : Int) : 0 ≤ belX h d u ∧ 0 ≤ belM h d u := by
  unfold belX belM
  split
  · exact ⟨(sumB_bd _ fun p hp => (ord_cel o p hp).2).1, (sumB_bd _ fun p hp => (ord_cel o p hp).2).1⟩
  · exact ⟨by omega, by omega⟩
theorem bel_low {h : HV} (o : Ok h) (hc : h.ct ≠ 0) : belE h (-1) 262144 = 0 ∧ belX h (-1) 262144 = 0 := by
  obtain ⟨e1, e2, _⟩ := belE_yes (h := h) (d := -1) (u := 262144) (by decide) hc
  refine ⟨e1, e2.trans (sumB_none fun p hp => ?_)⟩
  have hb := (hi_bd o hp).1
  unfold belB
  have e : numF (-1) 262144 = -524289 := by decide
  rw [e, decide_eq_false_iff_not]
  omega
theorem bel_high {h : HV} (o : Ok h) (hc : h.ct ≠ 0) : belE h 1 262144 = 0 ∧ belX h 1 262144 = h.ct ∧ belM h 1 262144 = 0 := by
  obtain ⟨e1, e2, e3, _⟩ := belE_yes (h := h) (d := 1) (u := 262144) (by decide) hc
  have e : numF 1 262144 = 524289 := by decide
  have hb : ∀ p ∈ ordF h, belB h.z 1 262144 p = true := fun p hp => by
    have hb := (hi_bd o hp).2
    unfold belB
    rw [e, decide_eq_true_eq]
    omega
  refine ⟨e1, e2.trans ((sumB_all hb).trans (tot_ord o)), e3.trans (sumB_none fun p hp => ?_)⟩
  unfold midB
  rw [hb p hp]; rfl
theorem bel_some {h : HV} (hc : h.ct ≠ 0) {u : Int} (h1 : -262144 < u) (h2 : u ≤ 262144) : belE h 1 u = 0 ∧ belE h (-1) u = 0 ∧ belE h 0 0 = 0 :=
  ⟨(belE_yes (by unfold plB; simp; omega) hc).1, (belE_yes (by unfold plB; simp; omega) hc).1, (belE_yes (by decide) hc).1⟩
theorem bel_bad {h : HV} {u : Int} (h1 : u ≤ -262144 ∨ 262144 < u) : belE h 1 u = 1 ∧ belE h (-1) u = 1 :=
  ⟨(belE_no (by unfold plB; simp; omega)).1, (belE_no (by unfold plB; simp; omega)).1⟩
theorem bel_all {h : HV} (o : Ok h) (hc : h.ct ≠ 0) {u : Int} (h1 : -262144 < u) (h2 : u ≤ 262144) :
    belX h (-1) u ≤ belX h 0 0 ∧ belX h 0 0 ≤ belX h 1 u ∧ belX h 1 u + belM h 1 u ≤ h.ct ∧ belX h (-1) u + belM h (-1) u ≤ h.ct := by
  obtain ⟨e1, e2, e3⟩ := bel_some hc h1 h2
  exact ⟨bel_le o e2 e3 (by unfold numF; omega), bel_le o e3 e1 (by unfold numF; omega), bel_two o e1, bel_two o e2⟩

set_option maxHeartbeats 4000000 in
set_option maxRecDepth 100000 in
theorem rankEnds_walk (h : HV) (A B : Option Addr) (c d : Nat) (u : Int) (w : World) (hP : Bk w A h.P) (hQ : Bk w B h.Q) (z0 : 0 ≤ h.zc) (z1 : h.zc ≤ 18446744073709551615) (hsm : inI64 h.sm) (u0 : -2147483648 ≤ u) (u1 : u ≤ 2147483647) :
    Calls Try.prog 11 #[.agg #[.int .i64 h.k, .int .i64 h.s, .int .i64 h.z, .int .u64 h.zc, .int .u64 h.ct, .int .i64 h.sm, .slice A h.P.length c, .slice B h.Q.length d], .int .i32 u] w fun e w' => e = .returned (.bool true) ∧ Below w.heap.size w w' := by
  have hb0 : Below w.heap.size w (w.alloc (.cells #[.int .i64 h.k, .int .i64 h.s, .int .i64 h.z, .int .u64 h.zc, .int .u64 h.ct, .int .i64 h.sm, .slice A h.P.length c, .slice B h.Q.length d] 25)) := (Below.refl _ _).alloc (Nat.le_refl _) _
  have HB0 := Lib.hid hb0
  have HX0 := Lib.hid (Rb.new w w.heap.size rfl 25 #[.int .i64 h.k, .int .i64 h.s, .int .i64 h.z, .int .u64 h.zc, .int .u64 h.ct, .int .i64 h.sm, .slice A h.P.length c, .slice B h.Q.length d])
  have HK0 := Lib.hid (And.intro (hP.below hb0) (hQ.below hb0))
  have HW := Lib.hid (And.intro hP.2.1 hQ.2.1)
  have HZ := Lib.hid (And.intro (And.intro z0 z1) hsm)
  clear hP hQ hb0 z0 z1 hsm
  go_enter Try.func11, Try.ntmps11
  go_upto_region 1 with fail
  generalize (w.alloc (.cells #[.int .i64 h.k, .int .i64 h.s, .int .i64 h.z, .int .u64 h.zc, .int .u64 h.ct, .int .i64 h.sm, .slice A h.P.length c, .slice B h.Q.length d] 25)) = w0 at *
  obtain ⟨x0, x1, x2, x3, x4, x5, x6, x7⟩ := HX0.out.eight
  have lx := HX0.out.lt
  go_wp2_with fail
  refine (right08 h A B c d w0 HK0.out.1 HK0.out.2 HZ.out.1.1 HZ.out.1.2).mono ?_
  rintro e w1 ⟨rfl, hb1⟩
  have HX1 := Lib.hid (HX0.out.below hb1)
  have HB1 := Lib.hid (HB0.out.trans (hb1.mono HB0.out.size))
  have HK1 := Lib.hid (And.intro (HK0.out.1.below hb1) (HK0.out.2.below hb1))
  clear hb1 HX0 HB0 HK0 x0 x1 x2 x3 x4 x5 x6 x7 lx
  rcases hf : fewK h with _ | _
  · clear hf
    go_wp2_with fail
    refine (awake08 w1).mono ?_
    rintro e wz ⟨rfl, hbz⟩
    have HBz := Lib.hid (HB1.out.trans (hbz.mono HB1.out.size))
    clear hbz
    go_wp2_with fail
    go_ret
    exact ⟨rfl, HBz.out⟩
  · have HO := Lib.hid (fewK_ok hf HZ.out.1.1 HZ.out.2 HW.out.1 HW.out.2)
    clear hf
    obtain ⟨x0, x1, x2, x3, x4, x5, x6, x7⟩ := HX1.out.eight
    have lx := HX1.out.lt
    by_cases hc : h.ct = 0
    · have hc1 : (h.ct == 0) = true := by simpa using hc
      clear hc
      go_wp2_with fail
      refine (awake08 w1).mono ?_
      rintro e wz ⟨rfl, hbz⟩
      have HBz := Lib.hid (HB1.out.trans (hbz.mono HB1.out.size))
      clear hbz
      go_wp2_with fail
      go_ret
      exact ⟨rfl, HBz.out⟩
    · have hc1 : (h.ct == 0) = false := by simpa using hc
      have HC := Lib.hid hc
      have hll := bel_low HO.out hc
      have hhh := bel_high HO.out hc
      have HLO := Lib.hid hll
      have HHI := Lib.hid hhh
      clear hc hll hhh
      go_wp2_with fail
      refine (below_any h A B c d (-1) 262144 w1 HK1.out.1 HK1.out.2 HO.out).mono ?_
      rintro e w2 ⟨rfl, hb2⟩
      obtain ⟨Xl, hXl⟩ : ∃ v, belX h (-1) 262144 = v := ⟨_, rfl⟩
      obtain ⟨Ml, hMl⟩ : ∃ v, belM h (-1) 262144 = v := ⟨_, rfl⟩
      obtain ⟨Al, hAl⟩ : ∃ v, belA h (-1) 262144 = v := ⟨_, rfl⟩
      obtain ⟨El, hEl⟩ : ∃ v, belE h (-1) 262144 = v := ⟨_, rfl⟩
      rw [hXl, hMl, hAl, hEl]
      have HVl := Lib.hid (And.intro hEl (And.intro hXl hMl))
      have HX2 := Lib.hid (HX1.out.below hb2)
      have HB2 := Lib.hid (HB1.out.trans (hb2.mono HB1.out.size))
      have HK2 := Lib.hid (And.intro (HK1.out.1.below hb2) (HK1.out.2.below hb2))
      clear hb2 hXl hMl hAl hEl HX1 HB1 HK1 x0 x1 x2 x3 x4 x5 x6 x7 lx
      have e1 := HVl.out.1.symm.trans HLO.out.1
      have e2 := HVl.out.2.1.symm.trans HLO.out.2
      subst e1 e2
      obtain ⟨x0, x1, x2, x3, x4, x5, x6, x7⟩ := HX2.out.eight
      have lx := HX2.out.lt
      go_wp2_with fail
      have hb3 : Below w2.heap.size w2 (w2.alloc (.cells #[.int .u64 0, .int .u64 Ml, .int .u64 Al] 62)) := (Below.refl _ _).alloc (Nat.le_refl _) _
      obtain ⟨gl, hgl⟩ : ∃ g, w2.heap.size = g := ⟨_, rfl⟩
      have HRl3 := Lib.hid (Rb.new w2 gl hgl 62 #[.int .u64 0, .int .u64 Ml, .int .u64 Al])
      have HX3 := Lib.hid (HX2.out.below hb3)
      have HB3 := Lib.hid (HB2.out.trans (hb3.mono HB2.out.size))
      have HK3 := Lib.hid (And.intro (HK2.out.1.below hb3) (HK2.out.2.below hb3))
      rw [hgl]
      clear hb3 hgl HX2 HB2 HK2 x0 x1 x2 x3 x4 x5 x6 x7 lx
      generalize w2.alloc (.cells #[.int .u64 0, .int .u64 Ml, .int .u64 Al] 62) = w3 at *
      refine (below_any h A B c d 1 262144 w3 HK3.out.1 HK3.out.2 HO.out).mono ?_
      rintro e w4 ⟨rfl, hb4⟩
      obtain ⟨Xh, hXh⟩ : ∃ v, belX h 1 262144 = v := ⟨_, rfl⟩
      obtain ⟨Mh, hMh⟩ : ∃ v, belM h 1 262144 = v := ⟨_, rfl⟩
      obtain ⟨Ah, hAh⟩ : ∃ v, belA h 1 262144 = v := ⟨_, rfl⟩
      obtain ⟨Eh, hEh⟩ : ∃ v, belE h 1 262144 = v := ⟨_, rfl⟩
      rw [hXh, hMh, hAh, hEh]
      have HVh := Lib.hid (And.intro hEh (And.intro hXh hMh))
      have HX4 := Lib.hid (HX3.out.below hb4)
      have HB4 := Lib.hid (HB3.out.trans (hb4.mono HB3.out.size))
      have HK4 := Lib.hid (And.intro (HK3.out.1.below hb4) (HK3.out.2.below hb4))
      have HRl4 := Lib.hid (HRl3.out.below hb4)
      clear hb4 hXh hMh hAh hEh HX3 HB3 HK3 HRl3
      have e1 := HVh.out.1.symm.trans HHI.out.1
      have e2 := HVh.out.2.1.symm.trans HHI.out.2.1
      have e3 := HVh.out.2.2.symm.trans HHI.out.2.2
      subst e1 e2 e3
      obtain ⟨x0, x1, x2, x3, x4, x5, x6, x7⟩ := HX4.out.eight
      have lx := HX4.out.lt
      obtain ⟨l0, l1, l2, _, _, _⟩ := HRl4.out.three
      have ll := HRl4.out.lt
      go_wp2_with fail
      have hb5 : Below w4.heap.size w4 (w4.alloc (.cells #[.int .u64 h.ct, .int .u64 0, .int .u64 Ah] 62)) := (Below.refl _ _).alloc (Nat.le_refl _) _
      obtain ⟨gh, hgh⟩ : ∃ g, w4.heap.size = g := ⟨_, rfl⟩
      have HRh5 := Lib.hid (Rb.new w4 gh hgh 62 #[.int .u64 h.ct, .int .u64 0, .int .u64 Ah])
      have HX5 := Lib.hid (HX4.out.below hb5)
      have HB5 := Lib.hid (HB4.out.trans (hb5.mono HB4.out.size))
      have HK5 := Lib.hid (And.intro (HK4.out.1.below hb5) (HK4.out.2.below hb5))
      have HRl5 := Lib.hid (HRl4.out.below hb5)
      rw [hgh]
      clear hb5 hgh HX4 HB4 HK4 x0 x1 x2 x3 x4 x5 x6 x7 lx l0 l1 l2 ll HRl4
      generalize w4.alloc (.cells #[.int .u64 h.ct, .int .u64 0, .int .u64 Ah] 62) = w5 at *
      by_cases hu : -262144 < u ∧ u ≤ 262144
      · have HU := Lib.hid (bel_some HC.out hu.1 hu.2)
        have HA := Lib.hid (bel_all HO.out HC.out hu.1 hu.2)
        clear hu
        refine (below_any h A B c d 1 u w5 HK5.out.1 HK5.out.2 HO.out).mono ?_
        rintro e w6 ⟨rfl, hb6⟩
        obtain ⟨Xa, hXa⟩ : ∃ v, belX h 1 u = v := ⟨_, rfl⟩
        obtain ⟨Ma, hMa⟩ : ∃ v, belM h 1 u = v := ⟨_, rfl⟩
        obtain ⟨Aa, hAa⟩ : ∃ v, belA h 1 u = v := ⟨_, rfl⟩
        obtain ⟨Ea, hEa⟩ : ∃ v, belE h 1 u = v := ⟨_, rfl⟩
        rw [hXa, hMa, hAa, hEa]
        have HVa := Lib.hid (And.intro hEa (And.intro hXa hMa))
        have HX6 := Lib.hid (HX5.out.below hb6)
        have HB6 := Lib.hid (HB5.out.trans (hb6.mono HB5.out.size))
        have HK6 := Lib.hid (And.intro (HK5.out.1.below hb6) (HK5.out.2.below hb6))
        have HRl6 := Lib.hid (HRl5.out.below hb6)
        have HRh6 := Lib.hid (HRh5.out.below hb6)
        clear hb6 hXa hMa hAa hEa HX5 HB5 HK5 HRl5 HRh5
        have e1 := HVa.out.1.symm.trans HU.out.1
        subst e1
        obtain ⟨x0, x1, x2, x3, x4, x5, x6, x7⟩ := HX6.out.eight
        have lx := HX6.out.lt
        obtain ⟨l0, l1, l2, _, _, _⟩ := HRl6.out.three
        have ll := HRl6.out.lt
        obtain ⟨h0, h1, h2, _, _, _⟩ := HRh6.out.three
        have hl := HRh6.out.lt
        go_wp2_with fail
        have hb7 : Below w6.heap.size w6 (w6.alloc (.cells #[.int .u64 Xa, .int .u64 Ma, .int .u64 Aa] 62)) := (Below.refl _ _).alloc (Nat.le_refl _) _
        obtain ⟨ga, hga⟩ : ∃ g, w6.heap.size = g := ⟨_, rfl⟩
        have HRa7 := Lib.hid (Rb.new w6 ga hga 62 #[.int .u64 Xa, .int .u64 Ma, .int .u64 Aa])
        have HX7 := Lib.hid (HX6.out.below hb7)
        have HB7 := Lib.hid (HB6.out.trans (hb7.mono HB6.out.size))
        have HK7 := Lib.hid (And.intro (HK6.out.1.below hb7) (HK6.out.2.below hb7))
        have HRl7 := Lib.hid (HRl6.out.below hb7)
        have HRh7 := Lib.hid (HRh6.out.below hb7)
        rw [hga]
        clear hb7 hga HX6 HB6 HK6 x0 x1 x2 x3 x4 x5 x6 x7 lx l0 l1 l2 ll h0 h1 h2 hl HRl6 HRh6
        generalize w6.alloc (.cells #[.int .u64 Xa, .int .u64 Ma, .int .u64 Aa] 62) = w7 at *
        refine (below_any h A B c d (-1) u w7 HK7.out.1 HK7.out.2 HO.out).mono ?_
        rintro e w8 ⟨rfl, hb8⟩
        obtain ⟨Xb, hXb⟩ : ∃ v, belX h (-1) u = v := ⟨_, rfl⟩
        obtain ⟨Mb, hMb⟩ : ∃ v, belM h (-1) u = v := ⟨_, rfl⟩
        obtain ⟨Ab, hAb⟩ : ∃ v, belA h (-1) u = v := ⟨_, rfl⟩
        obtain ⟨Eb, hEb⟩ : ∃ v, belE h (-1) u = v := ⟨_, rfl⟩
        rw [hXb, hMb, hAb, hEb]
        have HVb := Lib.hid (And.intro hEb (And.intro hXb hMb))
        have HX8 := Lib.hid (HX7.out.below hb8)
        have HB8 := Lib.hid (HB7.out.trans (hb8.mono HB7.out.size))
        have HK8 := Lib.hid (And.intro (HK7.out.1.below hb8) (HK7.out.2.below hb8))
        have HRl8 := Lib.hid (HRl7.out.below hb8)
        have HRh8 := Lib.hid (HRh7.out.below hb8)
        have HRa8 := Lib.hid (HRa7.out.below hb8)
        clear hb8 hXb hMb hAb hEb HX7 HB7 HK7 HRl7 HRh7 HRa7
        have e1 := HVb.out.1.symm.trans HU.out.2.1
        subst e1
        obtain ⟨x0, x1, x2, x3, x4, x5, x6, x7⟩ := HX8.out.eight
        have lx := HX8.out.lt
        obtain ⟨l0, l1, l2, _, _, _⟩ := HRl8.out.three
        have ll := HRl8.out.lt
        obtain ⟨h0, h1, h2, _, _, _⟩ := HRh8.out.three
        have hl := HRh8.out.lt
        obtain ⟨a0, a1, a2, _, _, _⟩ := HRa8.out.three
        have al := HRa8.out.lt
        go_wp2_with fail
        have hb9 : Below w8.heap.size w8 (w8.alloc (.cells #[.int .u64 Xb, .int .u64 Mb, .int .u64 Ab] 62)) := (Below.refl _ _).alloc (Nat.le_refl _) _
        obtain ⟨gb, hgb⟩ : ∃ g, w8.heap.size = g := ⟨_, rfl⟩
        have HRb9 := Lib.hid (Rb.new w8 gb hgb 62 #[.int .u64 Xb, .int .u64 Mb, .int .u64 Ab])
        have HX9 := Lib.hid (HX8.out.below hb9)
        have HB9 := Lib.hid (HB8.out.trans (hb9.mono HB8.out.size))
        have HK9 := Lib.hid (And.intro (HK8.out.1.below hb9) (HK8.out.2.below hb9))
        have HRl9 := Lib.hid (HRl8.out.below hb9)
        have HRh9 := Lib.hid (HRh8.out.below hb9)
        have HRa9 := Lib.hid (HRa8.out.below hb9)
        rw [hgb]
        clear hb9 hgb HX8 HB8 HK8 x0 x1 x2 x3 x4 x5 x6 x7 lx l0 l1 l2 ll h0 h1 h2 hl a0 a1 a2 al HRl8 HRh8 HRa8
        generalize w8.alloc (.cells #[.int .u64 Xb, .int .u64 Mb, .int .u64 Ab] 62) = w9 at *
        refine (below_any h A B c d 0 0 w9 HK9.out.1 HK9.out.2 HO.out).mono ?_
        rintro e w10 ⟨rfl, hb10⟩
        obtain ⟨Xz, hXz⟩ : ∃ v, belX h 0 0 = v := ⟨_, rfl⟩
        obtain ⟨Mz, hMz⟩ : ∃ v, belM h 0 0 = v := ⟨_, rfl⟩
        obtain ⟨Az, hAz⟩ : ∃ v, belA h 0 0 = v := ⟨_, rfl⟩
        obtain ⟨Ez, hEz⟩ : ∃ v, belE h 0 0 = v := ⟨_, rfl⟩
        rw [hXz, hMz, hAz, hEz]
        have HVz := Lib.hid (And.intro hEz (And.intro hXz hMz))
        have HX10 := Lib.hid (HX9.out.below hb10)
        have HB10 := Lib.hid (HB9.out.trans (hb10.mono HB9.out.size))
        have HK10 := Lib.hid (And.intro (HK9.out.1.below hb10) (HK9.out.2.below hb10))
        have HRl10 := Lib.hid (HRl9.out.below hb10)
        have HRh10 := Lib.hid (HRh9.out.below hb10)
        have HRa10 := Lib.hid (HRa9.out.below hb10)
        have HRb10 := Lib.hid (HRb9.out.below hb10)
        clear hb10 hXz hMz hAz hEz HX9 HB9 HK9 HRl9 HRh9 HRa9 HRb9
        have e1 := HVz.out.1.symm.trans HU.out.2.2
        subst e1
        obtain ⟨x0, x1, x2, x3, x4, x5, x6, x7⟩ := HX10.out.eight
        have lx := HX10.out.lt
        obtain ⟨l0, l1, l2, _, _, _⟩ := HRl10.out.three
        have ll := HRl10.out.lt
        obtain ⟨h0, h1, h2, _, _, _⟩ := HRh10.out.three
        have hl := HRh10.out.lt
        obtain ⟨a0, a1, a2, _, _, _⟩ := HRa10.out.three
        have al := HRa10.out.lt
        obtain ⟨b0, b1, b2, _, _, _⟩ := HRb10.out.three
        have bl := HRb10.out.lt
        go_wp2_with fail
        have hb11 : Below w10.heap.size w10 (w10.alloc (.cells #[.int .u64 Xz, .int .u64 Mz, .int .u64 Az] 62)) := (Below.refl _ _).alloc (Nat.le_refl _) _
        obtain ⟨gz, hgz⟩ : ∃ g, w10.heap.size = g := ⟨_, rfl⟩
        have HRz11 := Lib.hid (Rb.new w10 gz hgz 62 #[.int .u64 Xz, .int .u64 Mz, .int .u64 Az])
        have HX11 := Lib.hid (HX10.out.below hb11)
        have HB11 := Lib.hid (HB10.out.trans (hb11.mono HB10.out.size))
        have HK11 := Lib.hid (And.intro (HK10.out.1.below hb11) (HK10.out.2.below hb11))
        have HRl11 := Lib.hid (HRl10.out.below hb11)
        have HRh11 := Lib.hid (HRh10.out.below hb11)
        have HRa11 := Lib.hid (HRa10.out.below hb11)
        have HRb11 := Lib.hid (HRb10.out.below hb11)
        rw [hgz]
        clear hb11 hgz HX10 HB10 HK10 x0 x1 x2 x3 x4 x5 x6 x7 lx l0 l1 l2 ll h0 h1 h2 hl a0 a1 a2 al b0 b1 b2 bl HRl10 HRh10 HRa10 HRb10
        generalize w10.alloc (.cells #[.int .u64 Xz, .int .u64 Mz, .int .u64 Az] 62) = w11 at *
        refine (awake08 w11).mono ?_
        rintro e wz ⟨rfl, hbz⟩
        have HBz := Lib.hid (HB11.out.trans (hbz.mono HB11.out.size))
        have HXz := Lib.hid (HX11.out.below hbz)
        have ha := HA.out
        rw [HVb.out.2.1, HVz.out.2.1, HVa.out.2.1, HVa.out.2.2, HVb.out.2.2] at ha
        have hba := bel_bd HO.out 1 u
        have hbb := bel_bd HO.out (-1) u
        rw [HVa.out.2.1, HVa.out.2.2] at hba
        rw [HVb.out.2.1, HVb.out.2.2] at hbb
        have hct1 := HO.out.big
        obtain ⟨hd1, hd2, hd3, hd4⟩ := ha
        obtain ⟨x0, x1, x2, x3, x4, x5, x6, x7⟩ := HXz.out.eight
        have lx := HXz.out.lt
        obtain ⟨a0, a1, a2, _, _, _⟩ := (HRa11.out.below hbz).three
        have al := (HRa11.out.below hbz).lt
        obtain ⟨b0, b1, b2, _, _, _⟩ := (HRb11.out.below hbz).three
        have bl := (HRb11.out.below hbz).lt
        obtain ⟨z0, z1, z2, _, _, _⟩ := (HRz11.out.below hbz).three
        have zl := (HRz11.out.below hbz).lt
        clear hbz
        go_wp2_with fail
        go_ret
        exact ⟨rfl, HBz.out⟩
      · have hu' : u ≤ -262144 ∨ 262144 < u := by omega
        have HU := Lib.hid (bel_bad (h := h) hu')
        have HU' := Lib.hid hu'
        clear hu hu'
        refine (below_any h A B c d 1 u w5 HK5.out.1 HK5.out.2 HO.out).mono ?_
        rintro e w6 ⟨rfl, hb6⟩
        obtain ⟨Xa, hXa⟩ : ∃ v, belX h 1 u = v := ⟨_, rfl⟩
        obtain ⟨Ma, hMa⟩ : ∃ v, belM h 1 u = v := ⟨_, rfl⟩
        obtain ⟨Aa, hAa⟩ : ∃ v, belA h 1 u = v := ⟨_, rfl⟩
        obtain ⟨Ea, hEa⟩ : ∃ v, belE h 1 u = v := ⟨_, rfl⟩
        rw [hXa, hMa, hAa, hEa]
        have HVa := Lib.hid (And.intro hEa (And.intro hXa hMa))
        have HX6 := Lib.hid (HX5.out.below hb6)
        have HB6 := Lib.hid (HB5.out.trans (hb6.mono HB5.out.size))
        have HK6 := Lib.hid (And.intro (HK5.out.1.below hb6) (HK5.out.2.below hb6))
        have HRl6 := Lib.hid (HRl5.out.below hb6)
        have HRh6 := Lib.hid (HRh5.out.below hb6)
        clear hb6 hXa hMa hAa hEa HX5 HB5 HK5 HRl5 HRh5
        have e1 := HVa.out.1.symm.trans HU.out.1
        subst e1
        obtain ⟨x0, x1, x2, x3, x4, x5, x6, x7⟩ := HX6.out.eight
        have lx := HX6.out.lt
        obtain ⟨l0, l1, l2, _, _, _⟩ := HRl6.out.three
        have ll := HRl6.out.lt
        obtain ⟨h0, h1, h2, _, _, _⟩ := HRh6.out.three
        have hl := HRh6.out.lt
        go_wp2_with fail
        have hb7 : Below w6.heap.size w6 (w6.alloc (.cells #[.int .u64 Xa, .int .u64 Ma, .int .u64 Aa] 62)) := (Below.refl _ _).alloc (Nat.le_refl _) _
        obtain ⟨ga, hga⟩ : ∃ g, w6.heap.size = g := ⟨_, rfl⟩
        have HRa7 := Lib.hid (Rb.new w6 ga hga 62 #[.int .u64 Xa, .int .u64 Ma, .int .u64 Aa])
        have HX7 := Lib.hid (HX6.out.below hb7)
        have HB7 := Lib.hid (HB6.out.trans (hb7.mono HB6.out.size))
        have HK7 := Lib.hid (And.intro (HK6.out.1.below hb7) (HK6.out.2.below hb7))
        have HRl7 := Lib.hid (HRl6.out.below hb7)
        have HRh7 := Lib.hid (HRh6.out.below hb7)
        rw [hga]
        clear hb7 hga HX6 HB6 HK6 x0 x1 x2 x3 x4 x5 x6 x7 lx l0 l1 l2 ll h0 h1 h2 hl HRl6 HRh6
        generalize w6.alloc (.cells #[.int .u64 Xa, .int .u64 Ma, .int .u64 Aa] 62) = w7 at *
        refine (below_any h A B c d (-1) u w7 HK7.out.1 HK7.out.2 HO.out).mono ?_
        rintro e w8 ⟨rfl, hb8⟩
        obtain ⟨Xb, hXb⟩ : ∃ v, belX h (-1) u = v := ⟨_, rfl⟩
        obtain ⟨Mb, hMb⟩ : ∃ v, belM h (-1) u = v := ⟨_, rfl⟩
        obtain ⟨Ab, hAb⟩ : ∃ v, belA h (-1) u = v := ⟨_, rfl⟩
        obtain ⟨Eb, hEb⟩ : ∃ v, belE h (-1) u = v := ⟨_, rfl⟩
        rw [hXb, hMb, hAb, hEb]
        have HVb := Lib.hid (And.intro hEb (And.intro hXb hMb))
        have HX8 := Lib.hid (HX7.out.below hb8)
        have HB8 := Lib.hid (HB7.out.trans (hb8.mono HB7.out.size))
        have HK8 := Lib.hid (And.intro (HK7.out.1.below hb8) (HK7.out.2.below hb8))
        have HRl8 := Lib.hid (HRl7.out.below hb8)
        have HRh8 := Lib.hid (HRh7.out.below hb8)
        have HRa8 := Lib.hid (HRa7.out.below hb8)
        clear hb8 hXb hMb hAb hEb HX7 HB7 HK7 HRl7 HRh7 HRa7
        have e1 := HVb.out.1.symm.trans HU.out.2
        subst e1
        obtain ⟨x0, x1, x2, x3, x4, x5, x6, x7⟩ := HX8.out.eight
        have lx := HX8.out.lt
        obtain ⟨l0, l1, l2, _, _, _⟩ := HRl8.out.three
        have ll := HRl8.out.lt
        obtain ⟨h0, h1, h2, _, _, _⟩ := HRh8.out.three
        have hl := HRh8.out.lt
        obtain ⟨a0, a1, a2, _, _, _⟩ := HRa8.out.three
        have al := HRa8.out.lt
        go_wp2_with fail
        have hb9 : Below w8.heap.size w8 (w8.alloc (.cells #[.int .u64 Xb, .int .u64 Mb, .int .u64 Ab] 62)) := (Below.refl _ _).alloc (Nat.le_refl _) _
        obtain ⟨gb, hgb⟩ : ∃ g, w8.heap.size = g := ⟨_, rfl⟩
        have HRb9 := Lib.hid (Rb.new w8 gb hgb 62 #[.int .u64 Xb, .int .u64 Mb, .int .u64 Ab])
        have HX9 := Lib.hid (HX8.out.below hb9)
        have HB9 := Lib.hid (HB8.out.trans (hb9.mono HB8.out.size))
        have HK9 := Lib.hid (And.intro (HK8.out.1.below hb9) (HK8.out.2.below hb9))
        have HRl9 := Lib.hid (HRl8.out.below hb9)
        have HRh9 := Lib.hid (HRh8.out.below hb9)
        have HRa9 := Lib.hid (HRa8.out.below hb9)
        rw [hgb]
        clear hb9 hgb HX8 HB8 HK8 x0 x1 x2 x3 x4 x5 x6 x7 lx l0 l1 l2 ll h0 h1 h2 hl a0 a1 a2 al HRl8 HRh8 HRa8
        generalize w8.alloc (.cells #[.int .u64 Xb, .int .u64 Mb, .int .u64 Ab] 62) = w9 at *
        refine (awake08 w9).mono ?_
        rintro e wz ⟨rfl, hbz⟩
        have HBz := Lib.hid (HB9.out.trans (hbz.mono HB9.out.size))
        clear hbz
        by_cases hlo : u ≤ -262144
        · go_wp2_with fail
          go_ret
          exact ⟨rfl, HBz.out⟩
        · have hhi : 262144 < u := by have := HU'.out; omega
          go_wp2_with fail
          go_ret
          exact ⟨rfl, HBz.out⟩
end Go.Proofs.Ytbibhjcmdehdbaa
