/- The law HistAdds: its walk. -/
import Derived.Test.YtoombgjjdkocjaaHsY
import Derived.Test.YtoombgjjdkocjaaHsT
namespace Go.Proofs.Ytoombgjjdkocjaa
open Go.RowKit Go.Sort Go.Maps
set_option linter.unusedVariables false

theorem checkN (k s z zc ct : Int) (sm : Value) (A B : Option Addr) (c d : Nat) (P Q : List (Int × Int)) (w : World) (z0 : 0 ≤ zc) (z1 : zc ≤ 18446744073709551615) (hP : Bk w A P) (hQ : Bk w B Q) (e0 : Int) (h : checkF k s z zc ct P Q = e0) :
    Calls Try.prog 16 #[.agg #[.int .i64 k, .int .i64 s, .int .i64 z, .int .u64 zc, .int .u64 ct, sm, .slice A P.length c, .slice B Q.length d]] w fun e w' => e = .returned (.int .i64 e0) ∧ Below w.heap.size w w' := by
  refine (check_any k s z zc ct sm A B c d P Q w z0 z1 hP hQ).mono ?_
  rintro e w' ⟨rfl, hb⟩
  exact ⟨by rw [h], hb⟩
theorem atN (k s z zc ct : Int) (sm : Value) (A B : Option Addr) (c d : Nat) (P Q : List (Int × Int)) (side idx : Int) (w : World) (hP : Bk w A P) (hQ : Bk w B Q) (aP : Asc P) (aQ : Asc Q) (lP : P.length ≤ 1000) (lQ : Q.length ≤ 1000) (v : Int) (hv : atV zc side idx P Q = v) :
    Calls Try.prog 11 #[.agg #[.int .i64 k, .int .i64 s, .int .i64 z, .int .u64 zc, .int .u64 ct, sm, .slice A P.length c, .slice B Q.length d], .int .i64 side, .int .i64 idx] w fun e w' => e = .returned (.int .u64 v) ∧ Below w.heap.size w w' := by
  refine (at_any k s z zc ct sm A B c d P Q side idx w hP hQ aP aQ lP lQ).mono ?_
  rintro e w' ⟨rfl, hb⟩
  exact ⟨by rw [hv], hb⟩
/-- is there a bucket of an index? -/
def hasI (l : List (Int × Int)) (i : Int) : Bool := l.any fun p => p.1 == i
theorem hasI_snoc (l : List (Int × Int)) (p : Int × Int) (i : Int) : hasI (l ++ [p]) i = (hasI l i || (p.1 == i)) := by simp [hasI]
theorem hasI_pos {l : List (Int × Int)} (ha : Asc l) (hn : ∀ p ∈ l, 0 < p.2) (i : Int) : decide (0 < atI l i) = hasI l i := by
  by_cases h : ∃ p ∈ l, p.1 = i
  · obtain ⟨p, hp, rfl⟩ := h
    rw [atI_asc ha (i := p.1) (n := p.2) hp]
    have h1 : hasI l p.1 = true := by
      unfold hasI
      rw [List.any_eq_true]
      exact ⟨p, hp, by simp⟩
    rw [h1]
    simpa using hn p hp
  · rw [atI_none (fun p hp e => h ⟨p, hp, e⟩)]
    have h1 : hasI l i = false := by
      unfold hasI
      rw [List.any_eq_false]
      intro p hp
      simp
      exact fun e => h ⟨p, hp, e⟩
    rw [h1]
    rfl
def AdRel (w3 : World) (b r n : Nat) (D : DataW Unit) (K : List K3) (f : F3) (tot : Int) (s5 : Value) (wr : World) : Prop :=
  ∃ (left : Lit → Bool) (cnt : Nat) (S : Int), s5 = .int .u64 S ∧ wr.ranges Try.prog 32 (plainElem Try.prog 22) b r n D left cnt ∧ (∀ kl, left kl = true → has D kl = true) ∧ S + rem K f left = tot ∧ 0 ≤ S ∧ Below w3.heap.size w3 wr
def HsRel (P : List (Int × Int)) (idx : Int) (w3 : World) (s8 s46 : Value) (wr : World) : Prop := ∃ j : Nat, j ≤ P.length ∧ s46 = .int .i64 j ∧ s8 = .bool (hasI (P.take j) idx) ∧ Below w3.heap.size w3 wr
set_option maxHeartbeats 8000000 in
set_option maxRecDepth 100000 in
theorem adds_main (k s z zc ct sm : Int) (A B : Option Addr) (c d : Nat) (P Q : List (Int × Int)) (idx : Int) (w : World) (hs : I64 s) (z0 : 0 ≤ zc) (z1 : zc ≤ 18446744073709551615) (hP : Bk w A P) (hQ : Bk w B Q) (hck : checkF k s z zc ct P Q = 0) :
    Calls Try.prog 6 #[.agg #[.int .i64 k, .int .i64 s, .int .i64 z, .int .u64 zc, .int .u64 ct, .int .i64 sm, .slice A P.length c, .slice B Q.length d], .int .i64 idx] w fun e w' => e = .returned (.bool true) ∧ Below w.heap.size w w' := by
  have hb0 : Below w.heap.size w (w.alloc (.cells #[.int .i64 k, .int .i64 s, .int .i64 z, .int .u64 zc, .int .u64 ct, .int .i64 sm, .slice A P.length c, .slice B Q.length d] 25)) := (Below.refl _ _).alloc (Nat.le_refl _) _
  have HBX := Lib.hid (box8b (heap_alloc_new w (.cells #[.int .i64 k, .int .i64 s, .int .i64 z, .int .u64 zc, .int .u64 ct, .int .i64 sm, .slice A P.length c, .slice B Q.length d] 25)))
  have HP := Lib.hid (hP.below hb0)
  have HQ := Lib.hid (hQ.below hb0)
  have HB0 := Lib.hid hb0
  have HCK := Lib.hid hck
  obtain ⟨_, q1, q2, q3, q4⟩ := check_zero hck
  obtain ⟨l1, aP, m1⟩ := side_zero q1
  obtain ⟨l2, aQ, m2⟩ := side_zero q2
  have nP : ∀ p ∈ P, 0 < p.2 := fun p hp => by have := (hP.2.1 p hp).2.2.1; have := m1 p hp; omega
  have nQ : ∀ p ∈ Q, 0 < p.2 := fun p hp => by have := (hQ.2.1 p hp).2.2.1; have := m2 p hp; omega
  have HA := Lib.hid (And.intro aP aQ)
  have HN := Lib.hid (And.intro nP nQ)
  have HK := Lib.hid (show (keysF s zc P Q).Nodup ∧ Ins (keysF s zc P Q) ∧ (∀ k ∈ keysF s zc P Q, 0 < cF s zc P Q k.1 k.2.1 k.2.2) ∧ ((keysF s zc P Q).map (fun k => cF s zc P Q k.1 k.2.1 k.2.2)).sum = ct from
    ⟨keys_nodup aP aQ, keys_ins hs hP.2.1 hQ.2.1, keys_pos aP aQ z0 nP nQ, (keys_sum aP aQ).trans q4⟩)
  have hct : 0 ≤ ct ∧ ct ≤ 18446744073709551615 := by
    have := cnt_nonneg (l := P ++ Q) (fun p hp => (List.mem_append.1 hp).elim (hP.2.1 p) (hQ.2.1 p))
    omega
  have HT := Lib.hid (show cnt (P ++ Q) ≤ 18446744073709551615 by omega)
  have HCT := Lib.hid hct
  have HS := Lib.hid hs
  clear hP hQ hb0 hck q1 q2 q3 q4 aP aQ m1 m2 nP nQ hct hs
  go_enter Try.func6, Try.ntmps6
  go_wp2_with fail
  refine (light_any _ _ _ _ _ _ _ _ _ _ _ _ _ true (by rw [decide_eq_true (show P.length ≤ 600 by omega), decide_eq_true (show Q.length ≤ 600 by omega)]; rfl)).mono ?_
  rintro e w1 ⟨rfl, hb1⟩
  have HB1 := Lib.hid hb1
  obtain ⟨x0, x1, x2, x3, x4, x5, x6, x7⟩ := HBX.out w1 hb1
  clear hb1
  go_wp2_with fail
  refine (checkN _ _ _ _ _ _ _ _ _ _ _ _ _ z0 z1 (HP.out.below HB1.out) (HQ.out.below HB1.out) 0 HCK.out).mono ?_
  rintro e w2 ⟨rfl, hb2⟩
  have HB2 := Lib.hid (HB1.out.trans (hb2.mono HB1.out.size))
  clear x0 x1 x2 x3 x4 x5 x6 x7 hb2
  obtain ⟨x0, x1, x2, x3, x4, x5, x6, x7⟩ := HBX.out w2 HB2.out
  go_wp2_with fail
  refine (cells_any _ _ _ _ _ _ _ _ _ _ _ _ _ HS.out z0 z1 (HP.out.below HB2.out) (HQ.out.below HB2.out) (by omega) (by omega) HT.out).mono ?_
  rintro e w3 ⟨b, n, rfl, hn, hM⟩
  have HB3 := Lib.hid (HB2.out.trans (hM.2.2.mono HB2.out.size))
  have hbl : b < w3.heap.size := by
    obtain ⟨D, ho, _⟩ := hM.1
    exact ho.lt
  obtain ⟨D, hown, hrd⟩ := hM.1
  have HRD := Lib.hid hrd
  have HO := Lib.hid hown
  clear x0 x1 x2 x3 x4 x5 x6 x7 hM hown hrd
  go_wp2_with (refine wpList_range_own _ rfl _ _ rfl 32 22 lawK Try.underlying29 (plainElem Try.prog 22) b n D rfl HO.out ?_)
  intro w4 hrg4 hg4 hs4
  have HG4 := Lib.hid (And.intro hrg4 (And.intro hg4 hs4))
  clear hrg4 hg4 hs4
  obtain ⟨r, hr⟩ : ∃ r, w3.heap.size = r := ⟨_, rfl⟩
  rw [hr] at HG4
  rw [hr]
  have HF := Lib.hid (fun (W : World) (hW : Below w3.heap.size w3 W) => HB3.out.trans (hW.mono HB3.out.size))
  have HRS := Lib.hid hr
  have hbr : b < r := by omega
  have hst : AdRel w3 b r n D (keysF s zc P Q) (cF s zc P Q) ct (.int .u64 0) w4 := by
    refine ⟨has D, size D, 0, rfl, HG4.out.1, fun _ h => h, ?_, by omega, ?_⟩
    · rw [rem_all (fun q hq => ?_)]
      · have := HK.out.2.2.2; omega
      · have hi := HK.out.2.1 q hq
        have hp := HK.out.2.2.1 q hq
        exact (HRD.out.2.1 q.1 q.2.1 q.2.2 hi.1 hi.2.1 hi.2.2).2.2 (by omega)
    · exact (Below.refl w3.heap.size w3).grown HG4.out.2.1 (Nat.le_refl _) (fun k hk => by cases hk)
  have HST := Lib.hid hst
  clear hst hr HG4
  go_wp2_with fail
  go_loopw [5] (fun s5 wr => AdRel w3 b r n D (keysF s zc P Q) (cF s zc P Q) ct s5 wr) (fun _ wr => wr.rangeLeft b r)
  case atStart => exact HST.out
  case round =>
    obtain ⟨left, cnt, S, rfl, hrng, hsub, hsum, hS0, hb⟩ := hrel
    have HB := Lib.hid hb
    have HL := Lib.hid (And.intro hsub hsum)
    have HR := Lib.hid hrng
    clear hsub hsum hb
    go_wp2_with (first
      | (at_next; refine wpList_next_ranges _ rfl _ rfl 32 lawK (plainElem Try.prog 22) mkKey (Value.int .u64) (fun key kl hk => by obtain ⟨s, c, i, rfl, _⟩ := key_inv hk; exact ⟨(s, c, i), rfl⟩) (fun v y hv => by obtain ⟨c, rfl, _⟩ := plainElem_int_inv Try.underlying22 hv; exact ⟨c, rfl⟩) b r n D left cnt rfl hrng ?_ ?_))
    · intro hc0 hl0
      have hSS : S = ct := by have h := HL.out.2; rw [rem_none hl0] at h; omega
      subst hSS
      clear hc0 hl0 hrng
      obtain ⟨x0, x1, x2, x3, x4, x5, x6, x7⟩ := HBX.out wr (HF.out wr HB.out)
      go_wp2_with fail
      go_loopw [8, 46] (fun s8 s46 wr => HsRel P idx w3 s8 s46 wr) (fun _ s46 _ => P.length - (intOf s46).toNat)
      case atStart => exact ⟨0, by omega, rfl, rfl, HB.out⟩
      case round =>
        obtain ⟨j, hj, rfl, rfl, hb2⟩ := hrel
        have HB2' := Lib.hid hb2
        clear hb2 x0 x1 x2 x3 x4 x5 x6 x7
        by_cases hlt : j < P.length
        · obtain ⟨b', off', rfl, hc'⟩ := (HP.out.below (HF.out _ HB2'.out)).some_ (by omega)
          obtain ⟨p, hp⟩ := getElem?_lt hlt
          obtain ⟨q1, q2⟩ := hc' j p hp
          have HN' := Lib.hid (show hasI (P.take (j + 1)) idx = (hasI (P.take j) idx || (p.1 == idx)) from by rw [take_snoc _ _ _ hp, hasI_snoc])
          obtain ⟨pi, pc⟩ := p
          simp only at q1 q2
          have hlb := block_lt_of_cell q1
          simp only at hlb
          have hjI : (j : Int) < (P.length : Int) := by omega
          clear hc' hp
          obtain ⟨hv, hhv⟩ : ∃ v, hasI (P.take j) idx = v := ⟨_, rfl⟩
          rw [hhv] at HN'
          rw [hhv]
          clear hhv
          cases hv with
          | true =>
            go_wp2_with fail
            go_roundw
            case rel => exact ⟨j + 1, by omega, by go_num, by rw [HN'.out]; rfl, HB2'.out.alloc HB2'.out.size _⟩
            case measure => simp [intOf]; omega
          | false =>
            obtain ⟨v, hv⟩ : ∃ v, (pi == idx) = v := ⟨_, rfl⟩
            have HV := Lib.hid hv
            go_wp2_with fail
            go_roundw
            case rel => exact ⟨j + 1, by omega, by go_num, by rw [HN'.out]; simp [HV.out], HB2'.out.alloc HB2'.out.size _⟩
            case measure => simp [intOf]; omega
        · obtain rfl : j = P.length := by omega
          have hjI : ¬ (P.length : Int) < (P.length : Int) := by omega
          obtain ⟨hv, hhv⟩ : ∃ v, hasI (P.take P.length) idx = v := ⟨_, rfl⟩
          have HH := Lib.hid (show hasI P idx = hv from by rw [← hhv, List.take_length])
          rw [hhv]
          clear hhv
          go_wp2_with fail
          refine (awake05 _).mono ?_
          rintro e w8 ⟨rfl, hb8⟩
          have HB8 := Lib.hid (HB2'.out.trans (hb8.mono HB2'.out.size))
          clear hb8
          obtain ⟨x0, x1, x2, x3, x4, x5, x6, x7⟩ := HBX.out _ (HF.out _ HB8.out)
          have hcc : (S == S) = true := by simp
          go_wp2_with fail
          have HAT := Lib.hid (show atV zc 1 idx P Q = atI P idx from by unfold atV; simp)
          refine (atN _ _ _ _ _ _ _ _ _ _ _ _ _ _ _ (HP.out.below (HF.out _ HB8.out)) (HQ.out.below (HF.out _ HB8.out)) HA.out.1 HA.out.2 (by omega) (by omega) _ HAT.out).mono ?_
          rintro e w9 ⟨rfl, hb9⟩
          have HB9 := Lib.hid (HB8.out.trans (hb9.mono HB8.out.size))
          clear hb9 x0 x1 x2 x3 x4 x5 x6 x7
          obtain ⟨v, hvv⟩ : ∃ v, atI P idx = v := ⟨_, rfl⟩
          have hgt : decide (0 < v) = hv := by rw [← hvv, hasI_pos HA.out.1 HN.out.1 idx, HH.out]
          rw [hvv]
          clear hvv
          cases hv with
          | true =>
            go_wp2_with fail
            go_ret
            exact ⟨rfl, HB0.out.trans ((HF.out _ HB9.out).mono HB0.out.size)⟩
          | false =>
            go_wp2_with fail
            go_ret
            exact ⟨rfl, HB0.out.trans ((HF.out _ HB9.out).mono HB0.out.size)⟩
    · intro s0 c0 i nn kl yd yp w5 cnt2 hkey hlk hv hat hrg2 hlt hg2 hs2 hen
      have hkey2 : ∃ s c j, mkKey (s0, c0, i) = .agg #[.int .i64 s, .int .i64 c, .int .i64 j] ∧ I64 s ∧ I64 c ∧ I64 j ∧ kl = kL s c j := key_inv hkey
      obtain ⟨s', c', i', he, hss, hcc, hii, hkl⟩ := hkey2
      simp [mkKey] at he
      obtain ⟨rfl, rfl, rfl⟩ := he
      obtain ⟨nn', en, hy, _⟩ := plainElem_int_inv Try.underlying22 hv
      have hnn' : nn = nn' := by simpa using en
      subst hnn'
      have hfn : cF s zc P Q s0 c0 i = nn := by
        have h1 := (HRD.out.2.1 s0 c0 i hss hcc hii).1
        rw [← hkl, hat] at h1
        simp at hy h1
        rw [hy.1] at h1
        simpa using h1.symm
      have hf0 : cF s zc P Q s0 c0 i ≠ 0 := (HRD.out.2.1 s0 c0 i hss hcc hii).2.1 (by rw [← hkl]; exact HL.out.1 kl hlk)
      obtain ⟨hmem, hatv⟩ := keys_mem hf0
      have hpos : 0 < nn := by have := HK.out.2.2.1 _ hmem; simp only at this; rw [hfn] at this; exact this
      have hstep := rem_step (f := cF s zc P Q) (left := left) HK.out.1 HK.out.2.1 hmem (by simp only; rw [← hkl]; exact hlk)
      simp only at hstep
      rw [← hkl, hfn] at hstep
      have hrem := rem_nonneg (K := keysF s zc P Q) (f := cF s zc P Q) (fun z => left z && !z.sameKey kl) (fun k hk => by have := HK.out.2.2.1 k hk; omega)
      have hle : S + nn ≤ 18446744073709551615 := by have := HL.out.2; have := HCT.out.2; omega
      have HV := Lib.hid (show atV zc s0 i P Q = nn from hatv.trans hfn)
      have HSUM := Lib.hid (show (S + nn) + rem (keysF s zc P Q) (cF s zc P Q) (fun z => left z && !z.sameKey kl) = ct by have := HL.out.2; omega)
      have hB5 : Below w3.heap.size w3 w5 := HB.out.grown hg2 HB.out.size (fun k hk => by cases hk; rw [HRS.out]; exact Nat.le_refl _)
      have HB5 := Lib.hid (hB5.alloc hB5.size (.cells #[.int .i64 s0, .int .i64 c0, .int .i64 i] 32))
      have HR2 := Lib.hid (And.intro hrg2 hlt)
      have hn0 : (nn == 0) = false := by simp; omega
      have hnn : (nn != nn) = false := by simp
      obtain ⟨x0, x1, x2, x3, x4, x5, x6, x7⟩ := HBX.out _ (HF.out _ HB5.out)
      clear hs2 hfn hf0 hy en hcc hss hii hmem hatv hstep hrem hkey hlk hv hat hrg2 hlt hg2 hB5 hrng hkl
      change (Instr.entry (.pointer (some ⟨r, 0, none⟩))).run Try.prog w5 = .ok (.tuple #[.agg #[.int .i64 s0, .int .i64 c0, .int .i64 i], .int .u64 nn]) w5 at hen
      go_wp2_with fail
      refine (atN _ _ _ _ _ _ _ _ _ _ _ _ _ _ _ (HP.out.below (HF.out _ HB5.out)) (HQ.out.below (HF.out _ HB5.out)) HA.out.1 HA.out.2 (by omega) (by omega) nn HV.out).mono ?_
      rintro e w6 ⟨rfl, hb6⟩
      have HB6 := Lib.hid (HB5.out.trans (hb6.mono HB5.out.size))
      have HR6 := Lib.hid ((HR2.out.1.alloc (.cells #[.int .i64 s0, .int .i64 c0, .int .i64 i] 32)).kept (below_grownBy hb6) (by simp) (by simp))
      clear x0 x1 x2 x3 x4 x5 x6 x7 hb6 hen
      go_wp2_with fail
      go_roundw
      case rel => exact ⟨_, cnt2, S + nn, rfl, HR6.out, fun kl' h' => HL.out.1 kl' (by simp only [Bool.and_eq_true] at h'; exact h'.1), HSUM.out, by omega, HB6.out⟩
      case measure => rw [HR6.out.left_eq, HR.out.left_eq]; exact HR2.out.2
set_option maxHeartbeats 2000000 in
set_option maxRecDepth 100000 in
theorem adds_heavy (k s z zc ct sm : Int) (A B : Option Addr) (c d n m : Nat) (idx : Int) (w : World) (h : ¬ (n ≤ 600 ∧ m ≤ 600)) :
    Calls Try.prog 6 #[.agg #[.int .i64 k, .int .i64 s, .int .i64 z, .int .u64 zc, .int .u64 ct, .int .i64 sm, .slice A n c, .slice B m d], .int .i64 idx] w fun e w' => e = .returned (.bool true) ∧ Below w.heap.size w w' := by
  have hb0 : Below w.heap.size w (w.alloc (.cells #[.int .i64 k, .int .i64 s, .int .i64 z, .int .u64 zc, .int .u64 ct, .int .i64 sm, .slice A n c, .slice B m d] 25)) := (Below.refl _ _).alloc (Nat.le_refl _) _
  have HB0 := Lib.hid hb0
  have HL := Lib.hid (show false = (decide (n ≤ 600) && decide (m ≤ 600)) from by
    symm
    rw [Bool.and_eq_false_iff, decide_eq_false_iff_not, decide_eq_false_iff_not]
    omega)
  clear hb0 h
  go_enter Try.func6, Try.ntmps6
  go_wp2_with fail
  refine (light_any _ _ _ _ _ _ _ _ _ _ _ _ _ false HL.out).mono ?_
  rintro e w1 ⟨rfl, hb1⟩
  have HB1 := Lib.hid (HB0.out.trans (hb1.mono HB0.out.size))
  clear hb1
  go_wp2_with fail
  refine (awake05 _).mono ?_
  rintro e w2 ⟨rfl, hb2⟩
  have HB2 := Lib.hid (HB1.out.trans (hb2.mono HB1.out.size))
  clear hb2
  go_wp2_with fail
  go_ret
  exact ⟨rfl, HB2.out⟩
set_option maxHeartbeats 2000000 in
set_option maxRecDepth 100000 in
theorem adds_bad (k s z zc ct sm : Int) (A B : Option Addr) (c d : Nat) (P Q : List (Int × Int)) (idx : Int) (w : World) (z0 : 0 ≤ zc) (z1 : zc ≤ 18446744073709551615) (hP : Bk w A P) (hQ : Bk w B Q) (hl : P.length ≤ 600 ∧ Q.length ≤ 600) (hck : checkF k s z zc ct P Q ≠ 0) :
    Calls Try.prog 6 #[.agg #[.int .i64 k, .int .i64 s, .int .i64 z, .int .u64 zc, .int .u64 ct, .int .i64 sm, .slice A P.length c, .slice B Q.length d], .int .i64 idx] w fun e w' => e = .returned (.bool true) ∧ Below w.heap.size w w' := by
  have hb0 : Below w.heap.size w (w.alloc (.cells #[.int .i64 k, .int .i64 s, .int .i64 z, .int .u64 zc, .int .u64 ct, .int .i64 sm, .slice A P.length c, .slice B Q.length d] 25)) := (Below.refl _ _).alloc (Nat.le_refl _) _
  have HBX := Lib.hid (box8b (heap_alloc_new w (.cells #[.int .i64 k, .int .i64 s, .int .i64 z, .int .u64 zc, .int .u64 ct, .int .i64 sm, .slice A P.length c, .slice B Q.length d] 25)))
  have HP := Lib.hid (hP.below hb0)
  have HQ := Lib.hid (hQ.below hb0)
  have HB0 := Lib.hid hb0
  have HL := Lib.hid (show true = (decide (P.length ≤ 600) && decide (Q.length ≤ 600)) from by rw [decide_eq_true hl.1, decide_eq_true hl.2]; rfl)
  obtain ⟨E, hE⟩ : ∃ E, checkF k s z zc ct P Q = E := ⟨_, rfl⟩
  have HE := Lib.hid hE
  rw [hE] at hck
  have hn : (E != 0) = true := by simpa using hck
  clear hP hQ hb0 hl hE hck
  go_enter Try.func6, Try.ntmps6
  go_wp2_with fail
  refine (light_any _ _ _ _ _ _ _ _ _ _ _ _ _ true HL.out).mono ?_
  rintro e w1 ⟨rfl, hb1⟩
  have HB1 := Lib.hid hb1
  obtain ⟨x0, x1, x2, x3, x4, x5, x6, x7⟩ := HBX.out w1 hb1
  clear hb1
  go_wp2_with fail
  refine (checkN _ _ _ _ _ _ _ _ _ _ _ _ _ z0 z1 (HP.out.below HB1.out) (HQ.out.below HB1.out) _ HE.out).mono ?_
  rintro e w2 ⟨rfl, hb2⟩
  have HB2 := Lib.hid (HB1.out.trans (hb2.mono HB1.out.size))
  clear x0 x1 x2 x3 x4 x5 x6 x7 hb2
  go_wp2_with fail
  refine (awake05 _).mono ?_
  rintro e w3 ⟨rfl, hb3⟩
  have HB3 := Lib.hid (HB2.out.trans (hb3.mono HB2.out.size))
  clear hb3
  go_wp2_with fail
  go_ret
  exact ⟨rfl, HB0.out.trans (HB3.out.mono HB0.out.size)⟩
theorem adds_walk (k s z zc ct sm : Int) (A B : Option Addr) (c d : Nat) (P Q : List (Int × Int)) (idx : Int) (w : World) (hs : I64 s) (z0 : 0 ≤ zc) (z1 : zc ≤ 18446744073709551615) (hP : Bk w A P) (hQ : Bk w B Q) :
    Calls Try.prog 6 #[.agg #[.int .i64 k, .int .i64 s, .int .i64 z, .int .u64 zc, .int .u64 ct, .int .i64 sm, .slice A P.length c, .slice B Q.length d], .int .i64 idx] w fun e w' => e = .returned (.bool true) ∧ Below w.heap.size w w' := by
  by_cases hl : P.length ≤ 600 ∧ Q.length ≤ 600
  · by_cases hck : checkF k s z zc ct P Q = 0
    · exact adds_main k s z zc ct sm A B c d P Q idx w hs z0 z1 hP hQ hck
    · exact adds_bad k s z zc ct sm A B c d P Q idx w z0 z1 hP hQ hl hck
  · exact adds_heavy k s z zc ct sm A B c d P.length Q.length idx w hl
end Go.Proofs.Ytoombgjjdkocjaa
