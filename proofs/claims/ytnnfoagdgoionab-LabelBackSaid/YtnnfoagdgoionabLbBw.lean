/- The walk of the law LabelBack. -/
import Derived.Test.YtnnfoagdgoionabLbPp
import Derived.Test.YtnnfoagdgoionabLbPk
import Derived.Test.YtnnfoagdgoionabLbFr
import Derived.Test.YtnnfoagdgoionabLbIs
namespace Go.Proofs.Ytnnfoagdgoionab
open Go.RowKit
set_option linter.unusedVariables false

theorem ix_all (s : ByteArray) (hs : s.size ≤ 4000) (m : List UInt8) (h : m <:+ s.data.toList) : IX (tx m) := by
  have := h.length_le
  rw [data_len] at this
  exact ix_any _ (by rw [tx_size]; omega)
theorem key_un (l : List Lab) : keyL l = (unT l).flatMap keyT := by
  conv => lhs; rw [← unT_lab l]
  exact keyL_labT (unT l)
theorem good_un {l : List Lab} (h : chk l = 0) : chk ((unT l).map labT) = 0 := by rw [unT_lab]; exact h
theorem from_key {l : List Lab} (h : chk l = 0) : fromK 17 (keyL l) = unT l := by
  obtain ⟨h1, h2⟩ := good_ne (good_un h)
  rw [key_un]
  exact fromK_key 16 (unT l) h1 (fun p hp => (h2 p hp).2)
theorem key_from {s : List UInt8} (h : chk ((fromK 17 s).map labT) = 0) : keyL ((fromK 17 s).map labT) = s := by
  obtain ⟨h1, h2⟩ := good_ne h
  rw [keyL_labT]
  exact fromK_back 17 s (by omega) (fun p hp => (h2 p hp).1)
theorem key_le {l : List Lab} (h16 : l.length ≤ 16) (hs : Small l) : (keyL l).length ≤ 4000 := by
  have := keyL_len hs
  omega
theorem print_le {l : List Lab} (h16 : l.length ≤ 16) (hs : Small l) : (printT (unT l)).length ≤ 4000 := by
  have := pP_len hs h16 l.length
  unfold pP at this
  rw [List.take_length, List.length_cons] at this
  unfold printT
  rw [List.length_cons, List.length_append, List.length_singleton]
  omega
theorem parE_un {l : List UInt8} {L : List LabL} (h : readL l = some L) : parE l = chk (L.map labT) := by unfold parE; rw [h]
theorem unT_map (L : List LabL) : unT (L.map labT) = L := by
  unfold unT
  rw [List.map_map]
  have : ((fun p : Lab => ((p.1.data.toList, p.2.data.toList) : LabL)) ∘ labT) = id := by funext p; rfl
  rw [this, List.map_id]
/-- what the law asks of any text -/
theorem parE_cases (l : List UInt8) : parE l = 0 ∨ parE l = 6 ∨ parE l = 9 ∨ parE l = 26 := by
  unfold parE
  cases readL l with
  | none => simp
  | some L => rcases chk_cases (L.map labT) with h | h | h <;> simp [h]
set_option maxRecDepth 100000 in
set_option maxHeartbeats 8000000 in
theorem labelBack_walk (A : Option Addr) (n c : Nat) (l : List Lab) (s : ByteArray) (w : World) (hn : n = l.length) (ha : Lw w A l) (hsm : s.size ≤ maxLen) (hal : l.length ≤ 4398046510976) :
    Calls Try.prog 4 #[.slice A n c, .string s] w fun e w' => e = .returned (.bool true) ∧ Below w.heap.size w w' := by
  subst hn
  unfold maxLen at hsm
  have HA := Lib.hid ha
  clear ha
  go_enter Try.func4, Try.ntmps4
  go_wp2_with fail
  refine (light_any A l.length c l _ rfl HA.out).mono ?_
  rintro e w1 ⟨⟨z1, rfl⟩, hb1⟩
  have H1 := Lib.hid hb1
  clear hb1
  cases z1 with
  | false =>
    go_wp2_with fail
    refine (awake_any _).mono ?_
    rintro e w2 ⟨rfl, hb2⟩
    have H2 := Lib.hid (H1.out.trans (hb2.mono H1.out.size))
    clear hb2
    go_wp2_with fail
    go_ret
    exact ⟨rfl, H2.out⟩
  | true =>
    by_cases hz : 2000 < s.size
    · have hz1 : (2000 : Int) < (s.size : Int) := by omega
      go_wp2_with fail
      refine (awake_any _).mono ?_
      rintro e w3 ⟨rfl, hb3⟩
      have H3 := Lib.hid (H1.out.trans (hb3.mono H1.out.size))
      clear hb3
      go_wp2_with fail
      go_ret
      exact ⟨rfl, H3.out⟩
    · have hz1 : ¬ ((2000 : Int) < (s.size : Int)) := by omega
      have hs4 : s.size ≤ 4000 := by omega
      obtain ⟨E, hE⟩ : ∃ E, chk l = E := ⟨_, rfl⟩
      have HE := Lib.hid hE
      clear hE hz
      go_wp2_with fail
      refine (rcheck_any A l.length c l _ rfl (HA.out.below H1.out)).mono ?_
      rw [HE.out]
      rintro e w2 ⟨rfl, q2, rfl⟩
      have H2 := Lib.hid (below_drewN H1.out q2)
      by_cases h0 : E = 0
      · subst h0
        obtain ⟨g16l, gsml⟩ := good_small HE.out
        have HSL := Lib.hid gsml
        have hkle := key_le g16l gsml
        have hple := print_le g16l gsml
        have HFK := Lib.hid (from_key HE.out)
        have HRP := Lib.hid (read_print (unT l) (good_nosign (good_un HE.out)))
        obtain ⟨K, hK⟩ : ∃ K, tx (keyL l) = K := ⟨_, rfl⟩
        obtain ⟨T, hT⟩ : ∃ T, tx (printT (unT l)) = T := ⟨_, rfl⟩
        have hKd : K.data.toList = keyL l := by rw [← hK]; rfl
        have hTd : T.data.toList = printT (unT l) := by rw [← hT]; rfl
        have hKs : K.size ≤ 4000 := by rw [← hK, tx_size]; exact hkle
        have hTs : T.size ≤ 4000 := by rw [← hT, tx_size]; exact hple
        rw [← hKd] at HFK
        rw [← hTd] at HRP
        have HK := Lib.hid hK
        have HT := Lib.hid hT
        have HKS := Lib.hid hKs
        have HTS := Lib.hid hTs
        have hkk : (!(K.toList == K.toList)) = false := by simp
        have htt : (!(T.toList == T.toList)) = false := by simp
        clear gsml hkle hple hK hT hKd hTd hKs hTs
        go_wp2_with fail
        refine (key_any A l.length c l _ rfl (HA.out.below H2.out) g16l HSL.out).mono ?_
        rw [show (⟨(keyL l).toArray⟩ : ByteArray) = K from HK.out]
        rintro e w3 ⟨rfl, hb3⟩
        have H3 := Lib.hid (H2.out.trans (hb3.mono H2.out.size))
        clear hb3
        go_wp2_with fail
        refine (print_any A l.length c l _ rfl (HA.out.below H3.out) g16l HSL.out).mono ?_
        rw [HT.out]
        rintro e w4 ⟨rfl, hb4⟩
        have H4 := Lib.hid (H3.out.trans (hb4.mono H3.out.size))
        clear hb4
        go_wp2_with fail
        refine (from_any K _ HKS.out).mono ?_
        rintro e w5 ⟨hfp, hb5⟩
        have H5 := Lib.hid (H4.out.trans (hb5.mono H4.out.size))
        unfold FromP at hfp
        rw [HFK.out, unT_lab] at hfp
        have HFP0 := Lib.hid hfp
        clear hb5 hfp
        rcases HFP0.out with ⟨_, A1, n1, c1, rfl, hn1, hL1⟩ | ⟨hc, _⟩
        · have HN1 := Lib.hid (show n1 = l.length by rw [hn1]; unfold unT; rw [List.length_map])
          have HL1 := Lib.hid hL1
          clear hn1 hL1 HFP0
          go_wp2_with fail
          refine (parse_any T _ HTS.out (ix_all T HTS.out)).mono ?_
          rintro e w6 ⟨hpp, hb6⟩
          have H6 := Lib.hid (H5.out.trans (hb6.mono H5.out.size))
          have HL6 := Lib.hid (HL1.out.below hb6)
          clear hb6
          have HPP := Lib.hid hpp
          clear hpp
          rcases HPP.out with ⟨L, A2, n2, c2, hr, _, rfl, hn2, hL2⟩ | ⟨hne, _⟩
          · rw [HRP.out] at hr
            injection hr with hr
            subst hr
            rw [unT_lab] at hL2
            have HN2 := Lib.hid (show n2 = l.length by rw [hn2]; unfold unT; rw [List.length_map])
            have HL2 := Lib.hid hL2
            clear hn2 hL2 HPP
            go_wp2_with fail
            refine (rkey_any A l.length c l _ rfl (HA.out.below H6.out) g16l HSL.out).mono ?_
            rw [HK.out]
            rintro e w7 ⟨rfl, hb7⟩
            have H7 := Lib.hid (H6.out.trans (hb7.mono H6.out.size))
            have HL7 := Lib.hid (HL6.out.below hb7)
            have HM7 := Lib.hid (HL2.out.below hb7)
            clear hb7
            go_wp2_with fail
            refine (rprint_any A l.length c l _ rfl (HA.out.below H7.out) g16l HSL.out).mono ?_
            rw [HT.out]
            rintro e w8 ⟨rfl, q8, rfl⟩
            have H8 := Lib.hid (below_drewN H7.out q8)
            go_wp2_with fail
            refine (same_any A1 A n1 l.length c1 c l l _ HN1.out rfl (HL7.out.below (below_drewN (Below.refl _ _) _)) (HA.out.below H8.out)).mono ?_
            rw [(cmpLs_zero l l).2 rfl]
            rintro e w9 ⟨rfl, q9, rfl⟩
            go_wp2_with fail
            refine (same_any A2 A n2 l.length c2 c l l _ HN2.out rfl (HM7.out.below (below_drewN (Below.refl _ _) _)) (HA.out.below (below_drewN H7.out _))).mono ?_
            rw [(cmpLs_zero l l).2 rfl]
            rintro e w10 ⟨rfl, q10, rfl⟩
            go_wp2_with fail
            refine (from_any s _ hs4).mono ?_
            rintro e w20 ⟨hfp, hb20⟩
            have H20 := Lib.hid ((below_drewN H7.out (q8 + q9 + q10)).trans (hb20.mono ((below_drewN H7.out (q8 + q9 + q10))).size))
            clear hb20
            have HFP := Lib.hid hfp
            clear hfp
            rcases HFP.out with ⟨hc, A5, n5, c5, rfl, hn5, hL5⟩ | ⟨hc, rfl⟩
            · obtain ⟨g16, gsm⟩ := good_small hc
              have HLX := Lib.hid hL5
              have HNX := Lib.hid (show n5 = ((fromK 17 s.data.toList).map labT).length by rw [List.length_map]; exact hn5)
              have HKX := Lib.hid (show tx (keyL ((fromK 17 s.data.toList).map labT)) = s by rw [key_from hc, tx_of])
              obtain ⟨XL, hXL⟩ : ∃ X, (fromK 17 s.data.toList).map labT = X := ⟨_, rfl⟩
              rw [hXL] at hc g16 gsm HLX HNX HKX
              have HC := Lib.hid hc
              have HSX := Lib.hid gsm
              clear hc gsm hL5 hn5 hXL HFP
              go_wp2_with fail
              refine (rcheck_any A5 n5 c5 XL _ HNX.out HLX.out).mono ?_
              rw [HC.out]
              rintro e w21 ⟨rfl, q21, rfl⟩
              go_wp2_with fail
              refine (rkey_any A5 n5 c5 XL _ HNX.out (HLX.out.below (below_drewN (Below.refl _ _) _)) g16 HSX.out).mono ?_
              rw [HKX.out]
              rintro e w22 ⟨rfl, hb22⟩
              have H22 := Lib.hid ((below_drewN H20.out q21).trans (hb22.mono (below_drewN H20.out q21).size))
              clear hb22
              go_wp2_with fail
              refine (parse_any s _ hs4 (ix_all s hs4)).mono ?_
              rintro e w30 ⟨hpp, hb30⟩
              have H30 := Lib.hid (H22.out.trans (hb30.mono (H22.out).size))
              clear hb30
              rcases hpp with ⟨L, A6, n6, c6, hr, hc, rfl, hn6, hL6⟩ | ⟨hne, rfl⟩
              · obtain ⟨g16', gsm'⟩ := good_small hc
                have HLY := Lib.hid hL6
                have HNY := Lib.hid (show n6 = (L.map labT).length by rw [List.length_map]; exact hn6)
                have HPY := Lib.hid (show tx (printT (unT (L.map labT))) = s by rw [unT_map, print_read hr, tx_of])
                obtain ⟨YL, hYL⟩ : ∃ X, L.map labT = X := ⟨_, rfl⟩
                rw [hYL] at hc g16' gsm' HLY HNY HPY
                have HCY := Lib.hid hc
                have HSY := Lib.hid gsm'
                clear hc gsm' hL6 hn6 hYL hr
                go_wp2_with fail
                refine (awake_any _).mono ?_
                rintro e w31 ⟨rfl, hb31⟩
                have H31 := Lib.hid (H30.out.trans (hb31.mono H30.out.size))
                have HLZ := Lib.hid (HLY.out.below hb31)
                clear hb31
                go_wp2_with fail
                refine (rcheck_any A6 n6 c6 YL _ HNY.out HLZ.out).mono ?_
                rw [HCY.out]
                rintro e w32 ⟨rfl, q32, rfl⟩
                go_wp2_with fail
                refine (rprint_any A6 n6 c6 YL _ HNY.out (HLZ.out.below (below_drewN (Below.refl _ _) _)) g16' HSY.out).mono ?_
                rw [HPY.out]
                rintro e w33 ⟨rfl, q33, rfl⟩
                have hss : (s.toList == s.toList) = true := by simp
                go_wp2_with fail
                go_ret
                exact ⟨rfl, below_drewN H31.out _⟩
              · obtain ⟨E, hE⟩ : ∃ E, parE s.data.toList = E := ⟨_, rfl⟩
                have hc4 := parE_cases s.data.toList
                rw [hE] at hne hc4
                rw [hE]
                clear hE
                rcases hc4 with rfl | rfl | rfl | rfl
                · exact absurd rfl hne
                all_goals
                  clear hne
                  go_wp2_with fail
                  refine (awake_any _).mono ?_
                  rintro e w31 ⟨rfl, hb31⟩
                  have H31 := Lib.hid (H30.out.trans (hb31.mono H30.out.size))
                  clear hb31
                  go_wp2_with fail
                  go_ret
                  exact ⟨rfl, H31.out⟩
            · clear HFP
              go_wp2_with fail
              refine (parse_any s _ hs4 (ix_all s hs4)).mono ?_
              rintro e w30 ⟨hpp, hb30⟩
              have H30 := Lib.hid (H20.out.trans (hb30.mono (H20.out).size))
              clear hb30
              rcases hpp with ⟨L, A6, n6, c6, hr, hc, rfl, hn6, hL6⟩ | ⟨hne, rfl⟩
              · obtain ⟨g16', gsm'⟩ := good_small hc
                have HLY := Lib.hid hL6
                have HNY := Lib.hid (show n6 = (L.map labT).length by rw [List.length_map]; exact hn6)
                have HPY := Lib.hid (show tx (printT (unT (L.map labT))) = s by rw [unT_map, print_read hr, tx_of])
                obtain ⟨YL, hYL⟩ : ∃ X, L.map labT = X := ⟨_, rfl⟩
                rw [hYL] at hc g16' gsm' HLY HNY HPY
                have HCY := Lib.hid hc
                have HSY := Lib.hid gsm'
                clear hc gsm' hL6 hn6 hYL hr
                go_wp2_with fail
                refine (awake_any _).mono ?_
                rintro e w31 ⟨rfl, hb31⟩
                have H31 := Lib.hid (H30.out.trans (hb31.mono H30.out.size))
                have HLZ := Lib.hid (HLY.out.below hb31)
                clear hb31
                go_wp2_with fail
                refine (rcheck_any A6 n6 c6 YL _ HNY.out HLZ.out).mono ?_
                rw [HCY.out]
                rintro e w32 ⟨rfl, q32, rfl⟩
                go_wp2_with fail
                refine (rprint_any A6 n6 c6 YL _ HNY.out (HLZ.out.below (below_drewN (Below.refl _ _) _)) g16' HSY.out).mono ?_
                rw [HPY.out]
                rintro e w33 ⟨rfl, q33, rfl⟩
                have hss : (s.toList == s.toList) = true := by simp
                go_wp2_with fail
                go_ret
                exact ⟨rfl, below_drewN H31.out _⟩
              · obtain ⟨E, hE⟩ : ∃ E, parE s.data.toList = E := ⟨_, rfl⟩
                have hc4 := parE_cases s.data.toList
                rw [hE] at hne hc4
                rw [hE]
                clear hE
                rcases hc4 with rfl | rfl | rfl | rfl
                · exact absurd rfl hne
                all_goals
                  clear hne
                  go_wp2_with fail
                  refine (awake_any _).mono ?_
                  rintro e w31 ⟨rfl, hb31⟩
                  have H31 := Lib.hid (H30.out.trans (hb31.mono H30.out.size))
                  clear hb31
                  go_wp2_with fail
                  go_ret
                  exact ⟨rfl, H31.out⟩
          · exact absurd (by rw [parE_un HRP.out, unT_lab]; exact HE.out) hne
        · exact absurd HE.out hc
      · have h0' : (E == 0) = false := by simp [h0]
        go_wp2_with fail
        refine (from_any s _ hs4).mono ?_
        rintro e w20 ⟨hfp, hb20⟩
        have H20 := Lib.hid (H2.out.trans (hb20.mono (H2.out).size))
        clear hb20
        have HFP := Lib.hid hfp
        clear hfp
        rcases HFP.out with ⟨hc, A5, n5, c5, rfl, hn5, hL5⟩ | ⟨hc, rfl⟩
        · obtain ⟨g16, gsm⟩ := good_small hc
          have HLX := Lib.hid hL5
          have HNX := Lib.hid (show n5 = ((fromK 17 s.data.toList).map labT).length by rw [List.length_map]; exact hn5)
          have HKX := Lib.hid (show tx (keyL ((fromK 17 s.data.toList).map labT)) = s by rw [key_from hc, tx_of])
          obtain ⟨XL, hXL⟩ : ∃ X, (fromK 17 s.data.toList).map labT = X := ⟨_, rfl⟩
          rw [hXL] at hc g16 gsm HLX HNX HKX
          have HC := Lib.hid hc
          have HSX := Lib.hid gsm
          clear hc gsm hL5 hn5 hXL HFP
          go_wp2_with fail
          refine (rcheck_any A5 n5 c5 XL _ HNX.out HLX.out).mono ?_
          rw [HC.out]
          rintro e w21 ⟨rfl, q21, rfl⟩
          go_wp2_with fail
          refine (rkey_any A5 n5 c5 XL _ HNX.out (HLX.out.below (below_drewN (Below.refl _ _) _)) g16 HSX.out).mono ?_
          rw [HKX.out]
          rintro e w22 ⟨rfl, hb22⟩
          have H22 := Lib.hid ((below_drewN H20.out q21).trans (hb22.mono (below_drewN H20.out q21).size))
          clear hb22
          go_wp2_with fail
          refine (parse_any s _ hs4 (ix_all s hs4)).mono ?_
          rintro e w30 ⟨hpp, hb30⟩
          have H30 := Lib.hid (H22.out.trans (hb30.mono (H22.out).size))
          clear hb30
          rcases hpp with ⟨L, A6, n6, c6, hr, hc, rfl, hn6, hL6⟩ | ⟨hne, rfl⟩
          · obtain ⟨g16', gsm'⟩ := good_small hc
            have HLY := Lib.hid hL6
            have HNY := Lib.hid (show n6 = (L.map labT).length by rw [List.length_map]; exact hn6)
            have HPY := Lib.hid (show tx (printT (unT (L.map labT))) = s by rw [unT_map, print_read hr, tx_of])
            obtain ⟨YL, hYL⟩ : ∃ X, L.map labT = X := ⟨_, rfl⟩
            rw [hYL] at hc g16' gsm' HLY HNY HPY
            have HCY := Lib.hid hc
            have HSY := Lib.hid gsm'
            clear hc gsm' hL6 hn6 hYL hr
            go_wp2_with fail
            refine (awake_any _).mono ?_
            rintro e w31 ⟨rfl, hb31⟩
            have H31 := Lib.hid (H30.out.trans (hb31.mono H30.out.size))
            have HLZ := Lib.hid (HLY.out.below hb31)
            clear hb31
            go_wp2_with fail
            refine (rcheck_any A6 n6 c6 YL _ HNY.out HLZ.out).mono ?_
            rw [HCY.out]
            rintro e w32 ⟨rfl, q32, rfl⟩
            go_wp2_with fail
            refine (rprint_any A6 n6 c6 YL _ HNY.out (HLZ.out.below (below_drewN (Below.refl _ _) _)) g16' HSY.out).mono ?_
            rw [HPY.out]
            rintro e w33 ⟨rfl, q33, rfl⟩
            have hss : (s.toList == s.toList) = true := by simp
            go_wp2_with fail
            go_ret
            exact ⟨rfl, below_drewN H31.out _⟩
          · obtain ⟨E, hE⟩ : ∃ E, parE s.data.toList = E := ⟨_, rfl⟩
            have hc4 := parE_cases s.data.toList
            rw [hE] at hne hc4
            rw [hE]
            clear hE
            rcases hc4 with rfl | rfl | rfl | rfl
            · exact absurd rfl hne
            all_goals
              clear hne
              go_wp2_with fail
              refine (awake_any _).mono ?_
              rintro e w31 ⟨rfl, hb31⟩
              have H31 := Lib.hid (H30.out.trans (hb31.mono H30.out.size))
              clear hb31
              go_wp2_with fail
              go_ret
              exact ⟨rfl, H31.out⟩
        · clear HFP
          go_wp2_with fail
          refine (parse_any s _ hs4 (ix_all s hs4)).mono ?_
          rintro e w30 ⟨hpp, hb30⟩
          have H30 := Lib.hid (H20.out.trans (hb30.mono (H20.out).size))
          clear hb30
          rcases hpp with ⟨L, A6, n6, c6, hr, hc, rfl, hn6, hL6⟩ | ⟨hne, rfl⟩
          · obtain ⟨g16', gsm'⟩ := good_small hc
            have HLY := Lib.hid hL6
            have HNY := Lib.hid (show n6 = (L.map labT).length by rw [List.length_map]; exact hn6)
            have HPY := Lib.hid (show tx (printT (unT (L.map labT))) = s by rw [unT_map, print_read hr, tx_of])
            obtain ⟨YL, hYL⟩ : ∃ X, L.map labT = X := ⟨_, rfl⟩
            rw [hYL] at hc g16' gsm' HLY HNY HPY
            have HCY := Lib.hid hc
            have HSY := Lib.hid gsm'
            clear hc gsm' hL6 hn6 hYL hr
            go_wp2_with fail
            refine (awake_any _).mono ?_
            rintro e w31 ⟨rfl, hb31⟩
            have H31 := Lib.hid (H30.out.trans (hb31.mono H30.out.size))
            have HLZ := Lib.hid (HLY.out.below hb31)
            clear hb31
            go_wp2_with fail
            refine (rcheck_any A6 n6 c6 YL _ HNY.out HLZ.out).mono ?_
            rw [HCY.out]
            rintro e w32 ⟨rfl, q32, rfl⟩
            go_wp2_with fail
            refine (rprint_any A6 n6 c6 YL _ HNY.out (HLZ.out.below (below_drewN (Below.refl _ _) _)) g16' HSY.out).mono ?_
            rw [HPY.out]
            rintro e w33 ⟨rfl, q33, rfl⟩
            have hss : (s.toList == s.toList) = true := by simp
            go_wp2_with fail
            go_ret
            exact ⟨rfl, below_drewN H31.out _⟩
          · obtain ⟨E, hE⟩ : ∃ E, parE s.data.toList = E := ⟨_, rfl⟩
            have hc4 := parE_cases s.data.toList
            rw [hE] at hne hc4
            rw [hE]
            clear hE
            rcases hc4 with rfl | rfl | rfl | rfl
            · exact absurd rfl hne
            all_goals
              clear hne
              go_wp2_with fail
              refine (awake_any _).mono ?_
              rintro e w31 ⟨rfl, hb31⟩
              have H31 := Lib.hid (H30.out.trans (hb31.mono H30.out.size))
              clear hb31
              go_wp2_with fail
              go_ret
              exact ⟨rfl, H31.out⟩
end Go.Proofs.Ytnnfoagdgoionab
