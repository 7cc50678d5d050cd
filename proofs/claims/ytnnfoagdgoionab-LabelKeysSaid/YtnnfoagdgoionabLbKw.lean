/- The walk of the law LabelKeys. -/
import Derived.Test.YtnnfoagdgoionabLbKm
namespace Go.Proofs.Ytnnfoagdgoionab
open Go.RowKit
set_option linter.unusedVariables false

/-- what the law's loop knows -/
def XRel (a : List Lab) (s : Nat) (w : World) (k : Nat) (t v : Value) (wr : World) : Prop :=
  ∃ (A : Option Addr) (n c : Nat) (B : Option Addr) (m d : Nat), t = .slice A n c ∧ v = .slice B m d ∧ n = k ∧ m = k ∧ wr.ownsRow w.heap.size 36 2 (.slice A n c) n (labC (rotK a s k)) ∧ wr.ownsRow w.heap.size 9 1 (.slice B m d) m (stC ((a.take k).map (·.1))) ∧ Below w.heap.size w wr
theorem bool_of {e : Ending} (h : LiteP e) : ∃ z : Bool, e = .returned (.bool z) := h
set_option maxRecDepth 100000 in
set_option maxHeartbeats 8000000 in
theorem labelKeys_walk (A : Option Addr) (n c : Nat) (a : List Lab) (B : Option Addr) (m d : Nat) (b : List Lab) (by_ : Int) (w : World) (hn : n = a.length) (hm : m = b.length) (ha : Lw w A a) (hb : Lw w B b)
    (hal : a.length ≤ 4398046510976) (hbl : b.length ≤ 4398046510976) (h0 : 0 ≤ by_) (h255 : by_ ≤ 255) :
    Calls Try.prog 6 #[.slice A n c, .slice B m d, .int .u8 by_] w fun e w' => e = .returned (.bool true) ∧ Below w.heap.size w w' := by
  subst hn hm
  have HA := Lib.hid ha
  have HB := Lib.hid hb
  clear ha hb
  go_enter Try.func6, Try.ntmps6
  go_wp2_with fail
  refine (light_any A a.length c a _ rfl HA.out).mono ?_
  rintro e w1 ⟨⟨z1, rfl⟩, hb1⟩
  have H1 := Lib.hid hb1
  clear hb1
  cases z1 with
  | false =>
    go_wp2_with fail
    refine (awake_any _).mono ?_
    rintro e w2 ⟨rfl, hb2⟩
    have H2 := Lib.hid (H1.out.trans (hb2.mono H1.out.size))
    clear hb2
    go_wp2_with fail
    go_ret
    exact ⟨rfl, H2.out⟩
  | true =>
    go_wp2_with fail
    refine (light_any B b.length d b _ rfl (HB.out.below H1.out)).mono ?_
    rintro e w2 ⟨⟨z2, rfl⟩, hb2⟩
    have H2 := Lib.hid (H1.out.trans (hb2.mono H1.out.size))
    clear hb2
    cases z2 with
    | false =>
      go_wp2_with fail
      refine (awake_any _).mono ?_
      rintro e w3 ⟨rfl, hb3⟩
      have H3 := Lib.hid (H2.out.trans (hb3.mono H2.out.size))
      clear hb3
      go_wp2_with fail
      go_ret
      exact ⟨rfl, H3.out⟩
    | true =>
      by_cases hz : a.length = 0
      · have hz1 : ((a.length : Int) == 0) = true := by simp [hz]
        clear hz
        go_wp2_with fail
        refine (awake_any _).mono ?_
        rintro e w3 ⟨rfl, hb3⟩
        have H3 := Lib.hid (H2.out.trans (hb3.mono H2.out.size))
        clear hb3
        go_wp2_with fail
        go_ret
        exact ⟨rfl, H3.out⟩
      · have hz1 : ((a.length : Int) == 0) = false := beq_eq_false_iff_ne.2 (by omega)
        have hpos : 0 < a.length := by omega
        obtain ⟨s, rfl⟩ : ∃ s : Nat, by_ = (s : Int) := ⟨by_.toNat, by omega⟩
        have hs : s ≤ 255 := by omega
        clear hz
        go_wp2_with fail
        clear hz1
        go_loopw [7, 8, 30] (fun t v i wr => ∃ k : Nat, k ≤ a.length ∧ i = .int .i64 k ∧ Hid (XRel a s w k t v wr)) (fun _ _ i _ => a.length - (intOf i).toNat)
        case atStart => exact ⟨0, by omega, rfl, Lib.hid ⟨none, 0, 0, none, 0, 0, rfl, rfl, rfl, rfl, own_nil _ _ _ _, own_nil _ _ _ _, H2.out⟩⟩
        case round =>
          obtain ⟨k, hk, rfl, HR⟩ := hrel
          obtain ⟨A1, n1, c1, B1, m1, d1, rfl, rfl, hn1, hm1, hownA, hownB, hbw⟩ := HR.out
          obtain rfl : n1 = k := hn1
          obtain rfl : m1 = n1 := hm1
          by_cases hlt : m1 < a.length
          · have hki : (m1 : Int) < (a.length : Int) := by omega
            obtain ⟨R, hR⟩ : ∃ R, (m1 + s) % a.length = R := ⟨_, rfl⟩
            have hRl : R < a.length := by rw [← hR]; exact Nat.mod_lt _ hpos
            have hRi : ((m1 : Int) + (s : Int)) % (a.length : Int) = (R : Int) := by rw [← hR, Int.natCast_emod, Int.natCast_add]
            have hRj : (R : Int) < (a.length : Int) := by omega
            obtain ⟨p, hp⟩ := getElem?_lt hRl
            obtain ⟨q, hq⟩ := getElem?_lt hlt
            obtain ⟨bA, oA, rfl, hcell⟩ := (HA.out.below hbw).some_ (by omega)
            obtain ⟨p0, p1⟩ := hcell R p hp
            obtain ⟨q0, q1⟩ := hcell m1 q hq
            have hlb := block_lt_of_cell p0
            simp only at hlb
            have HS := Lib.hid (show rotK a s (m1 + 1) = rotK a s m1 ++ [p] by
              rw [rotK_snoc, hR, List.getD_eq_getElem?_getD, hp]; rfl)
            have HT := Lib.hid (show (a.take (m1 + 1)).map (·.1) = (a.take m1).map (·.1) ++ [q.1] by rw [take_snoc a m1 q hq]; simp)
            have HO := Lib.hid hownA
            have HP := Lib.hid hownB
            have HW := Lib.hid hbw
            have hw0 := hbw.size
            have HQ := Lib.hid hq
            obtain ⟨X0, hX0⟩ : ∃ X, rotK a s m1 = X := ⟨_, rfl⟩
            rw [hX0] at HS HO
            obtain ⟨Y0, hY0⟩ : ∃ X, (a.take m1).map (·.1) = X := ⟨_, rfl⟩
            rw [hY0] at HT HP
            have hkk : (m1 : Int) + (s : Int) ≤ 9223372036854775807 := by omega
            clear hp hq hownA hownB hbw HR hR hX0 hY0 hcell
            go_wp2_with (at_builtin; refine put_labT (W := w) rfl _ _ rfl w.heap.size A1 m1 c1 X0 rfl HO.out HW.out hw0 (by omega) wr.heap.size rfl rfl p ?_)
            intro A2 c2 w3 hown3 hb3 hw3 hk3
            rw [← HS.out] at hown3
            have HO3 := Lib.hid hown3
            have HP3 := Lib.hid (own_keepT HP.out hk3)
            have HW3 := Lib.hid hb3
            obtain ⟨bB, oB, hA', hcell3⟩ := (HA.out.below hb3).some_ (by omega)
            obtain ⟨rfl, rfl⟩ : bA = bB ∧ oA = oB := by simpa using hA'
            obtain ⟨r0, r1⟩ := hcell3 m1 q HQ.out
            clear hown3 hb3 hk3 hcell3 hA' p0 p1 q0 q1
            go_wp2_with (at_builtin; refine put_strT (W := w) rfl _ _ rfl w.heap.size B1 m1 d1 Y0 rfl HP3.out HW3.out hw3 (by omega) w3.heap.size rfl rfl q.1 ?_)
            intro B2 d2 w4 hown4 hb4 hw4 hk4
            rw [← HT.out] at hown4
            have HX := Lib.hid (show XRel a s w (m1 + 1) (.slice A2 (m1 + 1) c2) (.slice B2 (m1 + 1) d2) w4 from ⟨A2, _, c2, B2, _, d2, rfl, rfl, rfl, rfl, own_keepT HO3.out hk4, hown4, hb4⟩)
            clear hown4 hb4 hk4 r0 r1 hlb
            go_wp2_with fail
            go_roundw
            case rel => exact ⟨m1 + 1, by omega, by go_num, HX⟩
            case measure => simp [intOf]; omega
          · obtain rfl : m1 = a.length := by omega
            have hki : ¬ ((a.length : Int) < (a.length : Int)) := by omega
            rw [List.take_length] at hownB
            have hrw := rot_wl s a.length HA.out.2.1 hpos
            have HT := Lib.hid (own_lw2 hownA hrw (by rw [rotK_len]; omega))
            have HRL := Lib.hid (rotK_len a s a.length)
            have HNS := Lib.hid (own_cl hownB)
            have HRP := Lib.hid (rot_perm a s hpos)
            have HW := Lib.hid hbw
            obtain ⟨T, hT⟩ : ∃ T, rotK a s a.length = T := ⟨_, rfl⟩
            rw [hT] at HT HRL HRP
            obtain ⟨NS, hNS⟩ : ∃ X, a.map (·.1) = X := ⟨_, rfl⟩
            rw [hNS] at HNS
            have HNL := Lib.hid (show NS.length = a.length by rw [← hNS, List.length_map])
            have HFA := Lib.hid (show a.filter (inN NS) = a by rw [← hNS]; exact filter_all a)
            clear hownA hownB hrw hbw HR hT hNS
            go_wp2_with fail
            refine (make_any A a.length c a _ rfl (HA.out.below HW.out) (by omega)).mono ?_
            rintro e w3 ⟨⟨Y, hp1, hs1, hr1⟩, hb3⟩
            have H3 := Lib.hid (HW.out.trans (hb3.mono HW.out.size))
            have HT3 := Lib.hid (HT.out.below hb3)
            have HN3 := Lib.hid (HNS.out.below hb3)
            have HP1 := Lib.hid (And.intro hp1 hs1)
            have HR1 := Lib.hid hr1
            clear hb3 hp1 hs1 hr1
            rcases HR1.out with ⟨hc1, A3, n3, c3, rfl, hn3, hY3⟩ | ⟨hc1, rfl⟩
            · have HC1 := Lib.hid hc1
              have HY3 := Lib.hid hY3
              have HNY := Lib.hid hn3
              clear hc1 hY3 hn3 HR1
              go_wp2_with fail
              refine (make_any A1 a.length c1 T _ HRL.out.symm HT3.out (by rw [HRL.out]; omega)).mono ?_
              rintro e w4 ⟨⟨Y2, hp2, hs2, hr2⟩, hb4⟩
              obtain rfl : Y = Y2 := srt_unique Y Y2 ((HP1.out.1.trans ((HRP.out.filter _).symm)).trans hp2.symm) HP1.out.2 hs2
              have H4 := Lib.hid (H3.out.trans (hb4.mono H3.out.size))
              have HN4 := Lib.hid (HN3.out.below hb4)
              have HY4 := Lib.hid (HY3.out.below hb4)
              have HR2 := Lib.hid hr2
              clear hb4 hp2 hs2 hr2
              rcases HR2.out with ⟨_, A4, n4, c4, rfl, hn4, hY5⟩ | ⟨hc2, _⟩
              · have HY5 := Lib.hid hY5
                have HNZ := Lib.hid hn4
                clear hY5 hn4 HR2
                go_wp2_with fail
                refine (same_any A3 A4 n3 n4 c3 c4 Y Y _ HNY.out HNZ.out HY4.out HY5.out).mono ?_
                rw [(cmpLs_zero Y Y).2 rfl]
                rintro e w5 ⟨rfl, q5, rfl⟩
                go_wp2_with fail
                refine (by_any A a.length c a B1 a.length d1 NS _ rfl (HA.out.below (below_drewN H4.out q5)) (by omega) HNL.out.symm HN4.out (by rw [HNL.out]; omega)).mono ?_
                rintro e w6 ⟨A6, n6, c6, rfl, hn6, hL6, hb6⟩
                rw [HFA.out] at hn6 hL6
                have H6 := Lib.hid ((below_drewN H4.out q5).trans (hb6.mono ((below_drewN H4.out q5)).size))
                have HN6 := Lib.hid hn6
                have HL6 := Lib.hid hL6
                clear hn6 hL6 hb6
                go_wp2_with fail
                refine (same_any A6 A n6 a.length c6 c a a _ HN6.out rfl HL6.out (HA.out.below H6.out)).mono ?_
                rw [(cmpLs_zero a a).2 rfl]
                rintro e w7 ⟨rfl, q7, rfl⟩
                go_wp2_with fail
                refine (by_any A a.length c a none 0 0 [] _ rfl (HA.out.below (below_drewN H6.out _)) (by omega) rfl (Cl.nil _ _) (by simp)).mono ?_
                rintro e w8 ⟨A8, n8, c8, rfl, hn8, _, hb8⟩
                rw [filter_none] at hn8
                obtain rfl : n8 = 0 := hn8
                have H8 := Lib.hid ((below_drewN H6.out q7).trans (hb8.mono (below_drewN H6.out q7).size))
                clear hb8
                go_wp2_with fail
                refine (rcheck_any A a.length c a _ rfl (HA.out.below H8.out)).mono ?_
                obtain ⟨E, hE⟩ : ∃ E, chk a = E := ⟨_, rfl⟩
                rw [hE]
                have HE := Lib.hid hE
                clear hE
                rintro e w9 ⟨rfl, q9, rfl⟩
                by_cases h0 : E = 0
                · subst h0
                  go_wp2_with fail
                  refine (rcheck_any B b.length d b _ rfl (HB.out.below (below_drewN H8.out _))).mono ?_
                  obtain ⟨F, hF⟩ : ∃ F, chk b = F := ⟨_, rfl⟩
                  rw [hF]
                  have HF := Lib.hid hF
                  clear hF
                  rintro e w10 ⟨rfl, q10, rfl⟩
                  by_cases h1 : F = 0
                  · subst h1
                    go_wp2_with fail
                    refine (awake_any _).mono ?_
                    rintro e w11 ⟨rfl, hb11⟩
                    have H11 := Lib.hid ((below_drewN H8.out (q9 + q10)).trans (hb11.mono (below_drewN H8.out (q9 + q10)).size))
                    clear hb11
                    obtain ⟨ga, sa⟩ := good_small HE.out
                    obtain ⟨gb, sb⟩ := good_small HF.out
                    have SA := Lib.hid sa
                    have SB := Lib.hid sb
                    obtain ⟨K1, hK1⟩ : ∃ K : ByteArray, ⟨(keyL a).toArray⟩ = K := ⟨_, rfl⟩
                    obtain ⟨K2, hK2⟩ : ∃ K : ByteArray, ⟨(keyL b).toArray⟩ = K := ⟨_, rfl⟩
                    obtain ⟨V, hV⟩ : ∃ V, cmpLs a b = V := ⟨_, rfl⟩
                    have hv3 := cmpLs_three a b
                    rw [hV] at hv3
                    obtain ⟨z, hz⟩ : ∃ z, decide (a = b) = z := ⟨_, rfl⟩
                    have hkz : (K1.toList == K2.toList) = z := by
                      rw [← hz]
                      by_cases hab : a = b
                      · rw [eqS_true (by rw [← hK1, ← hK2, hab])]; simp [hab]
                      · rw [eqS_false (fun e => hab (keyL_inj a b sa sb (tx_inj (by unfold tx; rw [hK1, hK2, e]))))]; simp [hab]
                    have hvz : (V == 0) = z := by
                      rw [← hz, ← hV]
                      by_cases hab : a = b
                      · rw [(cmpLs_zero a b).2 hab]; simp [hab]
                      · have hne : cmpLs a b ≠ 0 := fun e => hab ((cmpLs_zero a b).1 e)
                        simp [hab, hne]
                    have HK1 := Lib.hid hK1
                    have HK2 := Lib.hid hK2
                    have HVV := Lib.hid hV
                    have HNG := Lib.hid (show cmpLs b a = -V by rw [cmpLs_neg a b, hV])
                    have ga' := ga
                    have gb' := gb
                    clear sa sb hK1 hK2 hV hz
                    go_wp2_with fail
                    refine (key_any A a.length c a _ rfl (HA.out.below H11.out) ga SA.out).mono ?_
                    rw [HK1.out]
                    rintro e w12 ⟨rfl, hb12⟩
                    have H12 := Lib.hid (H11.out.trans (hb12.mono H11.out.size))
                    clear hb12
                    go_wp2_with fail
                    refine (key_any B b.length d b _ rfl (HB.out.below H12.out) gb SB.out).mono ?_
                    rw [HK2.out]
                    rintro e w13 ⟨rfl, hb13⟩
                    have H13 := Lib.hid (H12.out.trans (hb13.mono H12.out.size))
                    clear hb13
                    go_wp2_with fail
                    refine (comp_any A B a.length b.length c d a b _ rfl rfl (HA.out.below H13.out) (HB.out.below H13.out)).mono ?_
                    rw [HVV.out]
                    rintro e w14 ⟨rfl, hb14⟩
                    have H14 := Lib.hid (H13.out.trans (hb14.mono H13.out.size))
                    clear hb14
                    go_wp2_with fail
                    refine (comp_any A B a.length b.length c d a b _ rfl rfl (HA.out.below H14.out) (HB.out.below H14.out)).mono ?_
                    rw [HVV.out]
                    rintro e w15 ⟨rfl, hb15⟩
                    have H15 := Lib.hid (H14.out.trans (hb15.mono H14.out.size))
                    clear hb15
                    go_wp2_with fail
                    refine (comp_any B A b.length a.length d c b a _ rfl rfl (HB.out.below H15.out) (HA.out.below H15.out)).mono ?_
                    rw [HNG.out]
                    rintro e w16 ⟨rfl, hb16⟩
                    have H16 := Lib.hid (H15.out.trans (hb16.mono H15.out.size))
                    obtain ⟨v1, v2⟩ := hv3
                    clear hb16
                    go_wp2_with fail
                    go_ret
                    exact ⟨by simp, H16.out⟩
                  · have h1' : (F != 0) = true := by simp [h1]
                    go_wp2_with fail
                    refine (awake_any _).mono ?_
                    rintro e w11 ⟨rfl, hb11⟩
                    have H11 := Lib.hid ((below_drewN H8.out (q9 + q10)).trans (hb11.mono (below_drewN H8.out (q9 + q10)).size))
                    clear hb11
                    go_wp2_with fail
                    go_ret
                    exact ⟨rfl, H11.out⟩
                · have h0' : (E != 0) = true := by simp [h0]
                  go_wp2_with fail
                  refine (awake_any _).mono ?_
                  rintro e w11 ⟨rfl, hb11⟩
                  have H11 := Lib.hid ((below_drewN H8.out q9).trans (hb11.mono (below_drewN H8.out q9).size))
                  clear hb11
                  go_wp2_with fail
                  go_ret
                  exact ⟨rfl, H11.out⟩
              · exact absurd HC1.out hc2
            · have HC1 := Lib.hid hc1
              obtain ⟨E0, hE0⟩ : ∃ E, chk Y = E := ⟨_, rfl⟩
              have HE0 := Lib.hid hE0
              rw [hE0]
              have hne0 : ¬ E0 = 0 := by rw [← hE0]; exact hc1
              have hnb : (E0 == 0) = false := by simp [hne0]
              have hnc : (E0 != E0) = false := by simp
              clear hc1 HR1 hE0
              go_wp2_with fail
              refine (make_any A1 a.length c1 T _ HRL.out.symm HT3.out (by rw [HRL.out]; omega)).mono ?_
              rintro e w4 ⟨⟨Y2, hp2, hs2, hr2⟩, hb4⟩
              obtain rfl : Y = Y2 := srt_unique Y Y2 ((HP1.out.1.trans ((HRP.out.filter _).symm)).trans hp2.symm) HP1.out.2 hs2
              have H4 := Lib.hid (H3.out.trans (hb4.mono H3.out.size))
              have HN4 := Lib.hid (HN3.out.below hb4)
              have HR2 := Lib.hid hr2
              clear hb4 hp2 hs2 hr2
              rcases HR2.out with ⟨hc2, _⟩ | ⟨_, rfl⟩
              · exact absurd hc2 HC1.out
              · rw [HE0.out]
                clear HR2
                go_wp2_with fail
                refine (by_any A a.length c a B1 a.length d1 NS _ rfl (HA.out.below H4.out) (by omega) HNL.out.symm HN4.out (by rw [HNL.out]; omega)).mono ?_
                rintro e w6 ⟨A6, n6, c6, rfl, hn6, hL6, hb6⟩
                rw [HFA.out] at hn6 hL6
                have H6 := Lib.hid (H4.out.trans (hb6.mono (H4.out).size))
                have HN6 := Lib.hid hn6
                have HL6 := Lib.hid hL6
                clear hn6 hL6 hb6
                go_wp2_with fail
                refine (same_any A6 A n6 a.length c6 c a a _ HN6.out rfl HL6.out (HA.out.below H6.out)).mono ?_
                rw [(cmpLs_zero a a).2 rfl]
                rintro e w7 ⟨rfl, q7, rfl⟩
                go_wp2_with fail
                refine (by_any A a.length c a none 0 0 [] _ rfl (HA.out.below (below_drewN H6.out _)) (by omega) rfl (Cl.nil _ _) (by simp)).mono ?_
                rintro e w8 ⟨A8, n8, c8, rfl, hn8, _, hb8⟩
                rw [filter_none] at hn8
                obtain rfl : n8 = 0 := hn8
                have H8 := Lib.hid ((below_drewN H6.out q7).trans (hb8.mono (below_drewN H6.out q7).size))
                clear hb8
                go_wp2_with fail
                refine (rcheck_any A a.length c a _ rfl (HA.out.below H8.out)).mono ?_
                obtain ⟨E, hE⟩ : ∃ E, chk a = E := ⟨_, rfl⟩
                rw [hE]
                have HE := Lib.hid hE
                clear hE
                rintro e w9 ⟨rfl, q9, rfl⟩
                by_cases h0 : E = 0
                · subst h0
                  go_wp2_with fail
                  refine (rcheck_any B b.length d b _ rfl (HB.out.below (below_drewN H8.out _))).mono ?_
                  obtain ⟨F, hF⟩ : ∃ F, chk b = F := ⟨_, rfl⟩
                  rw [hF]
                  have HF := Lib.hid hF
                  clear hF
                  rintro e w10 ⟨rfl, q10, rfl⟩
                  by_cases h1 : F = 0
                  · subst h1
                    go_wp2_with fail
                    refine (awake_any _).mono ?_
                    rintro e w11 ⟨rfl, hb11⟩
                    have H11 := Lib.hid ((below_drewN H8.out (q9 + q10)).trans (hb11.mono (below_drewN H8.out (q9 + q10)).size))
                    clear hb11
                    obtain ⟨ga, sa⟩ := good_small HE.out
                    obtain ⟨gb, sb⟩ := good_small HF.out
                    have SA := Lib.hid sa
                    have SB := Lib.hid sb
                    obtain ⟨K1, hK1⟩ : ∃ K : ByteArray, ⟨(keyL a).toArray⟩ = K := ⟨_, rfl⟩
                    obtain ⟨K2, hK2⟩ : ∃ K : ByteArray, ⟨(keyL b).toArray⟩ = K := ⟨_, rfl⟩
                    obtain ⟨V, hV⟩ : ∃ V, cmpLs a b = V := ⟨_, rfl⟩
                    have hv3 := cmpLs_three a b
                    rw [hV] at hv3
                    obtain ⟨z, hz⟩ : ∃ z, decide (a = b) = z := ⟨_, rfl⟩
                    have hkz : (K1.toList == K2.toList) = z := by
                      rw [← hz]
                      by_cases hab : a = b
                      · rw [eqS_true (by rw [← hK1, ← hK2, hab])]; simp [hab]
                      · rw [eqS_false (fun e => hab (keyL_inj a b sa sb (tx_inj (by unfold tx; rw [hK1, hK2, e]))))]; simp [hab]
                    have hvz : (V == 0) = z := by
                      rw [← hz, ← hV]
                      by_cases hab : a = b
                      · rw [(cmpLs_zero a b).2 hab]; simp [hab]
                      · have hne : cmpLs a b ≠ 0 := fun e => hab ((cmpLs_zero a b).1 e)
                        simp [hab, hne]
                    have HK1 := Lib.hid hK1
                    have HK2 := Lib.hid hK2
                    have HVV := Lib.hid hV
                    have HNG := Lib.hid (show cmpLs b a = -V by rw [cmpLs_neg a b, hV])
                    have ga' := ga
                    have gb' := gb
                    clear sa sb hK1 hK2 hV hz
                    go_wp2_with fail
                    refine (key_any A a.length c a _ rfl (HA.out.below H11.out) ga SA.out).mono ?_
                    rw [HK1.out]
                    rintro e w12 ⟨rfl, hb12⟩
                    have H12 := Lib.hid (H11.out.trans (hb12.mono H11.out.size))
                    clear hb12
                    go_wp2_with fail
                    refine (key_any B b.length d b _ rfl (HB.out.below H12.out) gb SB.out).mono ?_
                    rw [HK2.out]
                    rintro e w13 ⟨rfl, hb13⟩
                    have H13 := Lib.hid (H12.out.trans (hb13.mono H12.out.size))
                    clear hb13
                    go_wp2_with fail
                    refine (comp_any A B a.length b.length c d a b _ rfl rfl (HA.out.below H13.out) (HB.out.below H13.out)).mono ?_
                    rw [HVV.out]
                    rintro e w14 ⟨rfl, hb14⟩
                    have H14 := Lib.hid (H13.out.trans (hb14.mono H13.out.size))
                    clear hb14
                    go_wp2_with fail
                    refine (comp_any A B a.length b.length c d a b _ rfl rfl (HA.out.below H14.out) (HB.out.below H14.out)).mono ?_
                    rw [HVV.out]
                    rintro e w15 ⟨rfl, hb15⟩
                    have H15 := Lib.hid (H14.out.trans (hb15.mono H14.out.size))
                    clear hb15
                    go_wp2_with fail
                    refine (comp_any B A b.length a.length d c b a _ rfl rfl (HB.out.below H15.out) (HA.out.below H15.out)).mono ?_
                    rw [HNG.out]
                    rintro e w16 ⟨rfl, hb16⟩
                    have H16 := Lib.hid (H15.out.trans (hb16.mono H15.out.size))
                    obtain ⟨v1, v2⟩ := hv3
                    clear hb16
                    go_wp2_with fail
                    go_ret
                    exact ⟨by simp, H16.out⟩
                  · have h1' : (F != 0) = true := by simp [h1]
                    go_wp2_with fail
                    refine (awake_any _).mono ?_
                    rintro e w11 ⟨rfl, hb11⟩
                    have H11 := Lib.hid ((below_drewN H8.out (q9 + q10)).trans (hb11.mono (below_drewN H8.out (q9 + q10)).size))
                    clear hb11
                    go_wp2_with fail
                    go_ret
                    exact ⟨rfl, H11.out⟩
                · have h0' : (E != 0) = true := by simp [h0]
                  go_wp2_with fail
                  refine (awake_any _).mono ?_
                  rintro e w11 ⟨rfl, hb11⟩
                  have H11 := Lib.hid ((below_drewN H8.out q9).trans (hb11.mono (below_drewN H8.out q9).size))
                  clear hb11
                  go_wp2_with fail
                  go_ret
                  exact ⟨rfl, H11.out⟩
end Go.Proofs.Ytnnfoagdgoionab
