/- The walk of the law RegexStars. -/
import Derived.Test.YtfnmbembclgknaaRxCw
namespace Go.Proofs.Ytfnmbembclgknaa
open Go.RowKit
set_option linter.unusedVariables false

theorem parseF_ok {s q : List UInt8} {x : Rx} (h : parseF s = .ok x q) : q = [] := by
  unfold parseF at h
  split at h
  · cases h
  · split at h
    · cases h
    · split at h
      · injection h with _ h2
        exact h2.symm
      · cases h
theorem parse_is {s : List UInt8} (hne : ∀ e, parseF s = .err e → e ≠ 0) (h : errN (parseF s) = 0) : ∃ x, parseF s = .ok x [] := by
  cases hr : parseF s with
  | err e =>
    rw [hr] at h
    exact absurd h (hne e hr)
  | ok x q =>
    have := parseF_ok hr
    subst this
    exact ⟨x, rfl⟩
set_option maxHeartbeats 1000000 in
theorem is_any (q s : ByteArray) (r : Res) (h : Nat) (w : World) (hr : parseF q.data.toList = r) (hc : w.cell? ⟨h, 0, none⟩ = some (.string s)) (hs : s.size ≤ 1000) :
    Calls Try.prog 15 #[.string q, .pointer (some ⟨h, 0, none⟩)] w fun y w' => y = .returned (.tuple #[.bool (mtR r s.data.toList), .bool (errN r == 0)]) ∧ (∀ e, r = .err e → e ≠ 0) ∧ Below w.heap.size w w' := by
  have HC := Lib.hid hc
  have HR := Lib.hid hr
  clear hc hr
  go_enter Try.func15, Try.ntmps15
  go_wp2_with fail
  refine (parse_any q _).mono ?_
  rw [HR.out]
  intro y w1 hp
  obtain ⟨A, n, c, f, l, e, rfl, HRG, HNE, hb⟩ := par_open hp
  obtain ⟨E, hE⟩ : ∃ E, errN r = E := ⟨_, rfl⟩
  have HE := Lib.hid hE
  rw [hE]
  obtain ⟨W, hW⟩ : ∃ W, w1.alloc (.cells #[.slice A n c, .int .u64 (f : Nat), .int .u64 (l : Nat), .bool e] 28 (0, 0)) = W := ⟨_, rfl⟩
  obtain ⟨g, hg⟩ : ∃ g, w1.heap.size = g := ⟨_, rfl⟩
  have b1 : Below w1.heap.size w1 W := hW ▸ (Below.refl _ _).alloc (Nat.le_refl _) _
  have VB := Lib.hid (show Vb W g A n c f l e from hg ▸ hW ▸ Vb.new w1 A n c f l e)
  have RG := Lib.hid (HRG.out.below b1)
  have HB := Lib.hid (hb.trans (b1.mono hb.size))
  have hc2 : W.cell? ⟨h, 0, none⟩ = some (.string s) := (HB.out.cell (block_lt_of_cell HC.out)).trans HC.out
  obtain ⟨z0, z1, z2, z3⟩ := VB.out.cells
  clear hp hb b1 HRG hE
  go_wp2_with fail
  clear hW hg
  refine (rmatch_any r _ s _ RG.out (by omega)).mono ?_
  rintro y w2 ⟨rfl, hb⟩
  have HB2 := Lib.hid (HB.out.trans (hb.mono HB.out.size))
  clear hb
  go_wp2_with fail
  go_ret2
  exact ⟨by rw [HE.out]; rfl, HNE.out, HB2.out⟩
set_option maxHeartbeats 4000000 in
set_option maxRecDepth 100000 in
theorem regexStars_walk (a0 a1 : ByteArray) (w0 : a0.size ≤ maxLen) (w1 : a1.size ≤ maxLen) (w : World) :
    Calls Try.prog 6 #[.string a0, .string a1] w fun e w' => e = .returned (.bool true) ∧ Below w.heap.size w w' := by
  unfold maxLen at w0 w1
  obtain ⟨W0, hW0⟩ : ∃ W0, w.alloc (.cells #[.string a1] 9 (0, 0)) = W0 := ⟨_, rfl⟩
  obtain ⟨h, hh⟩ : ∃ h, w.heap.size = h := ⟨_, rfl⟩
  have hk0 : W0.heap[h]? = some (.cells #[.string a1] 9 (0, 0)) := hh ▸ hW0 ▸ heap_alloc_new w _
  have hc0 : W0.cell? ⟨h, 0, none⟩ = some (.string a1) := by rw [cell_of_row _ _ _ _ _ _ hk0]; rfl
  have B0 := Lib.hid (show Below w.heap.size w W0 from hW0 ▸ (Below.refl _ _).alloc (Nat.le_refl _) _)
  have HC0 := Lib.hid hc0
  clear hk0
  by_cases h0 : 20 < a0.size
  · have h0i : (20 : Int) < (a0.size : Int) := by omega
    go_enter Try.func6, Try.ntmps6
    go_wp2_with fail
    refine (awake_any _).mono ?_
    rintro y w3 ⟨rfl, hb⟩
    have B1 := Lib.hid (B0.out.trans (hb.mono B0.out.size))
    clear hb
    go_wp2_with fail
    go_ret
    exact ⟨rfl, B1.out⟩
  have h0i : ¬ (20 : Int) < (a0.size : Int) := by omega
  by_cases h1 : 20 < a1.size
  · have h1i : (20 : Int) < (a1.size : Int) := by omega
    go_enter Try.func6, Try.ntmps6
    go_wp2_with fail
    refine (awake_any _).mono ?_
    rintro y w3 ⟨rfl, hb⟩
    have B1 := Lib.hid (B0.out.trans (hb.mono B0.out.size))
    clear hb
    go_wp2_with fail
    go_ret
    exact ⟨rfl, B1.out⟩
  have h1i : ¬ (20 : Int) < (a1.size : Int) := by omega
  have hs1 : a1.size ≤ 1000 := by omega
  obtain ⟨P, hP⟩ : ∃ P, a0.data.toList = P := ⟨_, rfl⟩
  have hPl : P.length ≤ 20 := by rw [← hP, Array.length_toList]; show a0.size ≤ 20; omega
  have hax : a0 = tx P := by rw [← hP, tx_of]
  obtain ⟨u, hu, s1⟩ := add_tx (s := ⟨#[40]⟩) (t := a0) (X := [40]) (Y := P) rfl hax (by simp; omega)
  obtain ⟨ua, hua, s2⟩ := add_tx (s := u) (t := ⟨#[41]⟩) (X := [40] ++ P) (Y := [41]) hu rfl (by simp; omega)
  obtain ⟨ub, hub, s3⟩ := add_tx (s := u) (t := ⟨#[41, 42]⟩) (X := [40] ++ P) (Y := [41, 42]) hu rfl (by simp; omega)
  obtain ⟨v1, hv1, s4⟩ := add_tx (s := u) (t := ⟨#[41, 40]⟩) (X := [40] ++ P) (Y := [41, 40]) hu rfl (by simp; omega)
  obtain ⟨v2, hv2, s5⟩ := add_tx (s := v1) (t := a0) (X := [40] ++ P ++ [41, 40]) (Y := P) hv1 hax (by simp; omega)
  obtain ⟨uc, huc, s6⟩ := add_tx (s := v2) (t := ⟨#[41, 42]⟩) (X := [40] ++ P ++ [41, 40] ++ P) (Y := [41, 42]) hv2 rfl (by simp; omega)
  obtain ⟨ud, hud, s7⟩ := add_tx (s := u) (t := ⟨#[41, 43]⟩) (X := [40] ++ P) (Y := [41, 43]) hu rfl (by simp; omega)
  obtain ⟨ue, hue, s8⟩ := add_tx (s := u) (t := ⟨#[41, 63]⟩) (X := [40] ++ P) (Y := [41, 63]) hu rfl (by simp; omega)
  have Ra := Lib.hid (show parseF ua.data.toList = parseF (40 :: (P ++ [41])) by rw [hua, tx_data]; rfl)
  have Rb := Lib.hid (show parseF ub.data.toList = parseF (40 :: (P ++ [41, 42])) by rw [hub, tx_data]; rfl)
  have Rc := Lib.hid (show parseF uc.data.toList = parseF (40 :: (P ++ 41 :: 40 :: (P ++ [41, 42]))) by rw [huc, tx_data]; congr 1; simp)
  have Rd := Lib.hid (show parseF ud.data.toList = parseF (40 :: (P ++ [41, 43])) by rw [hud, tx_data]; rfl)
  have Re := Lib.hid (show parseF ue.data.toList = parseF (40 :: (P ++ [41, 63])) by rw [hue, tx_data]; rfl)
  have HP := Lib.hid hP
  have HPL := Lib.hid hPl
  obtain ⟨SL, hSL⟩ : ∃ SL, a1.data.toList = SL := ⟨_, rfl⟩
  have HSL := Lib.hid hSL
  have HEM := Lib.hid (show a1.toList.isEmpty = (decide (SL = [])) by
    rw [Lib.toList_data, hSL]
    cases SL <;> rfl)
  clear hP hPl hax hu hua hub hv1 hv2 huc hud hue hSL h0 h1
  go_enter Try.func6, Try.ntmps6
  go_wp2_with fail
  clear hW0 hc0
  refine (parse_any a0 _).mono ?_
  rw [HP.out]
  intro y w3 hp
  obtain ⟨A, n, c, f, l, ee, rfl, _, HNE, hb⟩ := par_open hp
  have B1 := Lib.hid (B0.out.trans (hb.mono B0.out.size))
  have hc1 : w3.cell? ⟨h, 0, none⟩ = some (.string a1) := (hb.cell (block_lt_of_cell HC0.out)).trans HC0.out
  have HC1 := Lib.hid hc1
  clear hp hb hc1
  obtain ⟨E, hE⟩ : ∃ E, errN (parseF P) = E := ⟨_, rfl⟩
  have HE := Lib.hid hE
  rw [hE]
  clear hE
  obtain ⟨W4, hW4⟩ : ∃ W4, w3.alloc (.cells #[.slice A n c, .int .u64 (f : Nat), .int .u64 (l : Nat), .bool ee] 28 (0, 0)) = W4 := ⟨_, rfl⟩
  have b34 : Below w3.heap.size w3 W4 := hW4 ▸ (Below.refl _ _).alloc (Nat.le_refl _) _
  have B4 := Lib.hid (B1.out.trans (b34.mono B1.out.size))
  have HC4 := Lib.hid ((b34.cell (block_lt_of_cell HC1.out)).trans HC1.out)
  clear b34
  by_cases hE0 : E = 0
  · subst hE0
    obtain ⟨x, hx⟩ := parse_is HNE.out HE.out
    have HX := Lib.hid hx
    go_wp2_with fail
    clear hW4
    clear hh
    rcases brack_cases HX.out (by have := HPL.out; omega) with hd | ⟨e, hbad⟩
    · have D : Deep P x := hd
      have e1 := parse_one D (by have := HPL.out; omega)
      have e2 := parse_star D (by have := HPL.out; omega)
      have e3 := parse_long D HPL.out
      have e4 := parse_plus D (by have := HPL.out; omega)
      have e5 := parse_opt D (by have := HPL.out; omega)
      obtain ⟨m1, hm1⟩ : ∃ m, mtR (.ok (.cat .eps x) []) SL = m := ⟨_, rfl⟩
      obtain ⟨m4, hm4⟩ : ∃ m, mtR (.ok (.cat .eps (.plus x)) []) SL = m := ⟨_, rfl⟩
      have hm3 : mtR (.ok (.cat (.cat .eps x) (.star x)) []) SL = m4 := by
        rw [← hm4]
        apply bool_iff
        rw [mtR_ok, mtR_ok, lang_long]
      obtain ⟨z, hz⟩ : ∃ z, decide (SL = []) = z := ⟨_, rfl⟩
      have hzz : z = true ↔ SL = [] := by rw [← hz, decide_eq_true_eq]
      have hm2 : mtR (.ok (.cat .eps (.star x)) []) SL = (z || m4) := by
        apply bool_iff
        rw [mtR_ok, lang_star, Bool.or_eq_true, ← hm4, mtR_ok, hzz]
      have hm5 : mtR (.ok (.cat .eps (.opt x)) []) SL = (z || m1) := by
        apply bool_iff
        rw [mtR_ok, lang_opt, Bool.or_eq_true, ← hm1, mtR_ok, hzz]
      have hem : a1.toList.isEmpty = z := by rw [HEM.out, hz]
      have Ea := Lib.hid (Ra.out.trans e1)
      have Eb := Lib.hid (Rb.out.trans e2)
      have Ec := Lib.hid (Rc.out.trans e3)
      have Ed := Lib.hid (Rd.out.trans e4)
      have Ee := Lib.hid (Re.out.trans e5)
      have M1 := Lib.hid hm1
      have M2 := Lib.hid hm2
      have M3 := Lib.hid hm3
      have M4 := Lib.hid hm4
      have M5 := Lib.hid hm5
      clear hd D e1 e2 e3 e4 e5 hm1 hm2 hm3 hm4 hm5 hz hzz
      have en : ∀ (y : Rx), (errN (.ok y []) == 0) = true := fun _ => rfl
      refine (is_any ua a1 _ h _ Ea.out HC4.out hs1).mono ?_
      rw [HSL.out, M1.out, en]
      rintro y w5 ⟨rfl, _, hb⟩
      have B5 := Lib.hid (B4.out.trans (hb.mono B4.out.size))
      have hc5 := (hb.cell (block_lt_of_cell HC4.out)).trans HC4.out
      have HC5 := Lib.hid hc5
      clear hb hc5
      go_wp2_with fail
      refine (is_any ub a1 _ h _ Eb.out HC5.out hs1).mono ?_
      rw [HSL.out, M2.out, en]
      rintro y w6 ⟨rfl, _, hb⟩
      have B6 := Lib.hid (B5.out.trans (hb.mono B5.out.size))
      have hc6 := (hb.cell (block_lt_of_cell HC5.out)).trans HC5.out
      have HC6 := Lib.hid hc6
      clear hb hc6
      go_wp2_with fail
      refine (is_any uc a1 _ h _ Ec.out HC6.out hs1).mono ?_
      rw [HSL.out, M3.out, en]
      rintro y w7 ⟨rfl, _, hb⟩
      have B7 := Lib.hid (B6.out.trans (hb.mono B6.out.size))
      have hc7 := (hb.cell (block_lt_of_cell HC6.out)).trans HC6.out
      have HC7 := Lib.hid hc7
      clear hb hc7
      go_wp2_with fail
      refine (is_any ud a1 _ h _ Ed.out HC7.out hs1).mono ?_
      rw [HSL.out, M4.out, en]
      rintro y w8 ⟨rfl, _, hb⟩
      have B8 := Lib.hid (B7.out.trans (hb.mono B7.out.size))
      have hc8 := (hb.cell (block_lt_of_cell HC7.out)).trans HC7.out
      have HC8 := Lib.hid hc8
      clear hb hc8
      go_wp2_with fail
      refine (is_any ue a1 _ h _ Ee.out HC8.out hs1).mono ?_
      rw [HSL.out, M5.out, en]
      rintro y w9 ⟨rfl, _, hb⟩
      have B9 := Lib.hid (B8.out.trans (hb.mono B8.out.size))
      have hc9 := (hb.cell (block_lt_of_cell HC8.out)).trans HC8.out
      have HC9 := Lib.hid hc9
      clear hb hc9
      go_wp2_with fail
      refine (awake_any _).mono ?_
      rintro y wa ⟨rfl, hb⟩
      have Ba := Lib.hid (B9.out.trans (hb.mono B9.out.size))
      have hca := (hb.cell (block_lt_of_cell HC9.out)).trans HC9.out
      clear hb en s1 s2 s3 s4 s5 s6 s7 s8
      cases z <;> cases m1 <;> cases m4
      all_goals
        go_wp2_with fail
        go_ret
        exact ⟨rfl, Ba.out⟩
    · have e1 := parseF_bad hbad [] rfl (by have := HPL.out; omega)
      have Ea := Lib.hid (Ra.out.trans e1)
      clear hbad e1
      refine (is_any ua a1 _ h _ Ea.out HC4.out hs1).mono ?_
      rw [HSL.out]
      rintro y w5 ⟨rfl, hne, hb⟩
      have B5 := Lib.hid (B4.out.trans (hb.mono B4.out.size))
      have hc5 := (hb.cell (block_lt_of_cell HC4.out)).trans HC4.out
      have HC5 := Lib.hid hc5
      clear hb hc5
      have hef : (errN (Res.err e) == 0) = false := by
        rw [beq_eq_false_iff_ne]
        exact hne e rfl
      rw [hef]
      clear hef hne
      go_wp2_with fail
      refine (is_any ub a1 _ h _ Rb.out HC5.out hs1).mono ?_
      rw [HSL.out]
      rintro y w6 ⟨rfl, hne, hb⟩
      have B6 := Lib.hid (B5.out.trans (hb.mono B5.out.size))
      have hc6 := (hb.cell (block_lt_of_cell HC5.out)).trans HC5.out
      have HC6 := Lib.hid hc6
      clear hb hc6
      clear hne
      generalize mtR _ SL = m6
      generalize (errN _ == 0) = n6
      go_wp2_with fail
      refine (is_any uc a1 _ h _ Rc.out HC6.out hs1).mono ?_
      rw [HSL.out]
      rintro y w7 ⟨rfl, hne, hb⟩
      have B7 := Lib.hid (B6.out.trans (hb.mono B6.out.size))
      have hc7 := (hb.cell (block_lt_of_cell HC6.out)).trans HC6.out
      have HC7 := Lib.hid hc7
      clear hb hc7
      clear hne
      generalize mtR _ SL = m7
      generalize (errN _ == 0) = n7
      go_wp2_with fail
      refine (is_any ud a1 _ h _ Rd.out HC7.out hs1).mono ?_
      rw [HSL.out]
      rintro y w8 ⟨rfl, hne, hb⟩
      have B8 := Lib.hid (B7.out.trans (hb.mono B7.out.size))
      have hc8 := (hb.cell (block_lt_of_cell HC7.out)).trans HC7.out
      have HC8 := Lib.hid hc8
      clear hb hc8
      clear hne
      generalize mtR _ SL = m8
      generalize (errN _ == 0) = n8
      go_wp2_with fail
      refine (is_any ue a1 _ h _ Re.out HC8.out hs1).mono ?_
      rw [HSL.out]
      rintro y w9 ⟨rfl, hne, hb⟩
      have B9 := Lib.hid (B8.out.trans (hb.mono B8.out.size))
      have hc9 := (hb.cell (block_lt_of_cell HC8.out)).trans HC8.out
      have HC9 := Lib.hid hc9
      clear hb hc9
      clear hne
      generalize mtR _ SL = m9
      generalize (errN _ == 0) = n9
      go_wp2_with fail
      refine (awake_any _).mono ?_
      rintro y wa ⟨rfl, hb⟩
      have Ba := Lib.hid (B9.out.trans (hb.mono B9.out.size))
      clear hb
      go_wp2_with fail
      go_ret
      exact ⟨rfl, Ba.out⟩
  · have hE1 : (E != 0) = true := by simp [hE0]
    go_wp2_with fail
    refine (awake_any _).mono ?_
    rintro y w5 ⟨rfl, hb⟩
    have B5 := Lib.hid (B4.out.trans (hb.mono B4.out.size))
    clear hb
    go_wp2_with fail
    go_ret
    exact ⟨rfl, B5.out⟩
end Go.Proofs.Ytfnmbembclgknaa
