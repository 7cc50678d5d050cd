/- The walk of the law MatchTurns. -/
import Derived.Test.YtppkejobioadcaaDoorMaT
namespace Go.Proofs.YtppkejobioadcaaDoor
open Go.RowKit Go.Sort
set_option linter.unusedVariables false

set_option maxHeartbeats 8000000 in
set_option maxRecDepth 100000 in
theorem turns_main (A B : Option Addr) (n m c d b : Nat) (ms : List Mt) (a : List Lb.Lab) (w : World) (hn : n = ms.length) (hm : m = a.length) (h : Mq w A ms) (ha : Lb.Lw w B a) (hT : Tab w) (hb : b ≤ 255) :
    Calls Tryd.prog 5 #[.slice A n c, .slice B m d, .int .u8 (b : Int)] w fun e w' => e = .returned (.bool true) ∧ Below w.heap.size w w' := by
  subst hn hm
  have HM := Lib.hid h
  have HA := Lib.hid ha
  have HT := Lib.hid hT
  obtain ⟨N, hN⟩ : ∃ N, ms.length = N := ⟨_, rfl⟩
  obtain ⟨M, hMM⟩ : ∃ M, a.length = M := ⟨_, rfl⟩
  have HN := Lib.hid hN
  have HMM := Lib.hid hMM
  have HLI := Lib.hid (light_any A B N M c d ms a w hN.symm hMM.symm h ha)
  rw [hN, hMM]
  clear h ha hT hN hMM
  go_enter Tryd.func5, Tryd.ntmps5
  go_wp2_with fail
  refine HLI.out.mono ?_
  rintro y w2 ⟨q, rfl, hsm, hb2⟩
  have HSM := Lib.hid hsm
  have B2 := Lib.hid hb2
  clear hsm hb2
  cases q with
  | false =>
    go_wp2_with fail
    refine (awake_any _ (HT.out.below B2.out)).mono ?_
    rintro y w3 ⟨rfl, hb3⟩
    have B3' := Lib.hid (B2.out.trans (hb3.mono B2.out.size))
    clear hb3
    go_wp2_with fail
    go_ret
    exact ⟨rfl, B3'.out⟩
  | true =>
    have HS := Lib.hid (HSM.out (by simp))
    by_cases h0 : N = 0
    · have h0i : ((N : Int) == 0) = true := by simp [h0]
      clear h0
      go_wp2_with fail
      refine (awake_any _ (HT.out.below B2.out)).mono ?_
      rintro y w3 ⟨rfl, hb3⟩
      have B3' := Lib.hid (B2.out.trans (hb3.mono B2.out.size))
      clear hb3
      go_wp2_with fail
      go_ret
      exact ⟨rfl, B3'.out⟩
    have h0i : ((N : Int) == 0) = false := by simp [h0]
    have HPOS := Lib.hid (show 0 < N by omega)
    obtain ⟨E, hE⟩ : ∃ E, newE ms = E := ⟨_, rfl⟩
    have HE := Lib.hid hE
    have HCK := Lib.hid (rcheck_any A N c ms w2 HN.out.symm (HM.out.below B2.out))
    rw [hE] at HCK
    clear hE h0
    go_wp2_with fail
    refine HCK.out.mono ?_
    rintro y w3 ⟨rfl, hb3⟩
    have B3' := Lib.hid (B2.out.trans (hb3.mono B2.out.size))
    clear hb3
    by_cases hE0 : E = 0
    case neg =>
      have hEb : (E != 0) = true := z_ne 0 hE0
      clear hE0
      go_wp2_with fail
      refine (awake_any _ (HT.out.below B3'.out)).mono ?_
      rintro y w4 ⟨rfl, hb4⟩
      have B4 := Lib.hid (B3'.out.trans (hb4.mono B3'.out.size))
      clear hb4
      go_wp2_with fail
      go_ret
      exact ⟨rfl, B4.out⟩
    subst hE0
    have HOK := Lib.hid (newE_all HE.out)
    have hN16 : N ≤ 16 := by have := HOK.out.1; have := HN.out; omega
    have hNpos : 0 < N := HPOS.out
    have R0 := Lib.hid (show TuRel w ms b (.slice none 0 0) (.int .i64 ((0 : Nat) : Int)) w3 from ⟨0, 0, none, rfl, rfl, by omega, World.ownsRow_nil _ _ _ _, B3'.out⟩)
    go_wp2_with fail
    go_loopw [7, 37] (fun v7 v37 wr => Hid (TuRel w ms b v7 v37 wr)) (fun _ v37 _ => N - (intOf v37).toNat)
    case atStart => exact R0
    case round =>
      clear R0
      obtain ⟨i, c1, A1, rfl, rfl, hi, hown, hbl⟩ := hrel.out
      clear hrel
      have HOWN := Lib.hid hown
      have BL := Lib.hid hbl
      by_cases hlt : i < N
      · have hki : (i : Int) < (N : Int) := by omega
        have hib : i ≤ 16 := by omega
        obtain ⟨K, hK⟩ : ∃ K, (i + b) % N = K := ⟨_, rfl⟩
        have hKN : K < N := by rw [← hK]; exact Nat.mod_lt _ hNpos
        have hKi : ((i : Int) + (b : Int)) % (N : Int) = (K : Int) := by rw [← hK]; simp
        have hk1 : (K : Int) < (N : Int) := by omega
        have hN0 : ¬ ((N : Int) = 0) := by omega
        obtain ⟨x, hx⟩ : ∃ x, ms[K]? = some x := ⟨_, List.getElem?_eq_getElem (by rw [HN.out]; exact hKN)⟩
        obtain ⟨b1, off, hA1, hc⟩ := (HM.out.below BL.out).some_ (by rw [HN.out]; omega)
        subst hA1
        obtain ⟨k0, k1, k2⟩ := hc K x hx
        have HROT := Lib.hid (show rotM ms b (i + 1) = rotM ms b i ++ [x] by
          rw [rotM_snoc, HN.out, hK, List.getD_eq_getElem?_getD, hx]
          rfl)
        obtain ⟨W6, hW6⟩ : ∃ W6, wr.alloc (.cells #[.string x.nm, .int .i64 x.op, .string x.vl] 39 (0, 0)) = W6 := ⟨_, rfl⟩
        obtain ⟨g6, hg6⟩ : ∃ g6, wr.heap.size = g6 := ⟨_, rfl⟩
        have b6 : Below wr.heap.size wr W6 := hW6 ▸ (Below.refl _ _).alloc (Nat.le_refl _) _
        have O6 := Lib.hid (own_below HOWN.out b6)
        have B6 := Lib.hid (BL.out.trans (b6.mono BL.out.size))
        have HY := Lib.hid (new_d3 hg6 hW6)
        have HLT := Lib.hid hlt
        clear hown hbl hc hx b6 hlt hi hK hKN
        go_wp2_with (at_builtin; refine app_dm rfl _ _ rfl w.heap.size A1 i c1 (rotM ms b i) rfl O6.out g6 rfl x HY.out (by omega) B6.out.size ?_; intro A7 c7 w7 ho7 hg7; have HO7 := Lib.hid ho7; have HB7 := Lib.hid (B6.out.grown hg7 B6.out.size (fun k hk => (O6.out.lt k hk).1)); clear ho7 hg7)
        clear hW6 hg6
        go_roundw
        case rel => exact Lib.hid ⟨i + 1, c7, A7, rfl, by go_num, by have := HLT.out; have := HN.out; omega, by rw [HROT.out]; exact HO7.out, HB7.out⟩
        case measure => simp [intOf]; have := HLT.out; omega
      · obtain rfl : i = N := by have := HN.out; omega
        have hki : ¬ ((i : Nat) : Int) < (i : Int) := by omega
        have HRN := Lib.hid (rotM_len ms b i)
        have HMR := Lib.hid (show Mq wr A1 (rotM ms b i) from ⟨by rw [rotM_len]; omega, fun x hx => HM.out.2.1 x (rotM_mem (by rw [HN.out]; omega) hx), own_cl HOWN.out⟩)
        have HNR := Lib.hid (show newE (rotM ms b i) = 0 from newE_ok (by rw [rotM_len]; omega) (fun x hx => HOK.out.2 x (rotM_mem (by rw [HN.out]; omega) hx)))
        have HT1 := Lib.hid (to_any A i c ms wr HN.out.symm (HM.out.below BL.out) (by omega))
        clear hown hbl
        go_wp2_with fail
        refine HT1.out.mono ?_
        rintro y w5 ⟨A5, c5, rfl, hm5, hb5⟩
        rw [HN.out]
        have HN5 := Lib.hid (new_any A5 i c5 ms w5 HN.out.symm ((HT.out.below BL.out).below hb5) hm5)
        have B5 := Lib.hid (BL.out.trans (hb5.mono BL.out.size))
        have HMR5 := Lib.hid (HMR.out.below hb5)
        clear hm5 hb5
        go_wp2_with fail
        refine HN5.out.mono ?_
        intro y w6 hp
        obtain ⟨g6, rfl, hs6, hb6⟩ := newP_ok hp HE.out
        have HS6 := Lib.hid hs6
        have B6 := Lib.hid (B5.out.trans (hb6.mono B5.out.size))
        have HMR6 := Lib.hid (HMR5.out.below hb6)
        have HT2 := Lib.hid (to_any A1 i c1 (rotM ms b i) w6 HRN.out.symm HMR6.out (by omega))
        clear hp hs6 hb6
        go_wp2_with fail
        refine HT2.out.mono ?_
        rintro y w7 ⟨A7, c7, rfl, hm7, hb7⟩
        rw [HRN.out]
        have B7' := Lib.hid (B6.out.trans (hb7.mono B6.out.size))
        have HS7 := Lib.hid (HS6.out.below hb7)
        have HN7 := Lib.hid (new_any A7 i c7 (rotM ms b i) w7 HRN.out.symm (HT.out.below B7'.out) hm7)
        clear hm7 hb7
        go_wp2_with fail
        refine HN7.out.mono ?_
        intro y w8 hp
        obtain ⟨g8, rfl, hs8, hb8⟩ := newP_ok hp HNR.out
        have HS8 := Lib.hid hs8
        have B8 := Lib.hid (B7'.out.trans (hb8.mono B7'.out.size))
        have HSA := Lib.hid (HS7.out.below hb8)
        obtain ⟨z, hz⟩ : ∃ z, allM ms a = z := ⟨_, rfl⟩
        have HZ := Lib.hid hz
        have HZR := Lib.hid (show allM (rotM ms b i) a = z from by
          rw [← hz]
          unfold allM
          rw [← HN.out]
          exact rotM_all _ (by rw [HN.out]; omega))
        have HMA := Lib.hid (match_sel g6 ms B M d a w8 (HT.out.below B8.out) HSA.out HMM.out.symm (HA.out.below B8.out) HS.out.lv)
        rw [hz] at HMA
        clear hp hs8 hb8 hz
        go_wp2_with fail
        refine HMA.out.mono ?_
        rintro y w9 ⟨rfl, hb9⟩
        have B9 := Lib.hid (B8.out.trans (hb9.mono B8.out.size))
        have HMB := Lib.hid (match_sel g8 (rotM ms b i) B M d a w9 (HT.out.below B9.out) (HS8.out.below hb9) HMM.out.symm (HA.out.below B9.out) HS.out.lv)
        rw [HZR.out] at HMB
        clear hb9
        go_wp2_with fail
        refine HMB.out.mono ?_
        rintro y w10 ⟨rfl, hb10⟩
        have B10 := Lib.hid (B9.out.trans (hb10.mono B9.out.size))
        clear hb10
        have R1 := Lib.hid (show TvRel w i (.int .i64 ((0 : Nat) : Int)) w10 from ⟨0, rfl, by omega, B10.out⟩)
        cases z
        all_goals
          go_wp2_with fail
          go_loopw [83] (fun v83 wr => Hid (TvRel w i v83 wr)) (fun v83 _ => i - (intOf v83).toNat)
          case atStart => exact R1
          case round =>
            clear R1
            obtain ⟨j, rfl, hj, hbl⟩ := hrel.out
            clear hrel
            have BL2 := Lib.hid hbl
            by_cases hlt2 : j < i
            · have hkj : (j : Int) < (i : Int) := by omega
              have hjb : j ≤ 16 := by omega
              obtain ⟨x, hx⟩ : ∃ x, ms[j]? = some x := ⟨_, List.getElem?_eq_getElem (by rw [HN.out]; exact hlt2)⟩
              obtain ⟨b1, off, hA1, hc⟩ := (HM.out.below BL2.out).some_ (by rw [HN.out]; omega)
              subst hA1
              obtain ⟨k0, k1, k2⟩ := hc j x hx
              have HPX := Lib.hid (HOK.out.2 x (List.mem_of_getElem? hx))
              have HWX := Lib.hid (HM.out.2.1 x (List.mem_of_getElem? hx))
              obtain ⟨nm, op, vl⟩ := x
              have hop := prep_op_ok HPX.out
              obtain ⟨k, hk⟩ : ∃ k : Nat, op = (k : Int) := ⟨op.toNat, by have : (0 : Int) ≤ op := hop.1; omega⟩
              have hk4 : k < 4 := by have h4 : op < 4 := hop.2; omega
              obtain ⟨o, ho⟩ : ∃ o : Int, ((opp k : Nat) : Int) = o := ⟨_, rfl⟩
              have hxo := xor_opp hk4
              rw [← hk, ho] at hxo
              have HPO := Lib.hid (show prepE ⟨nm, o, vl⟩ = 0 from ho ▸ prep_opp hk4 (hk ▸ HPX.out))
              obtain ⟨zx, hzx⟩ : ∃ zx, holdsM ⟨nm, op, vl⟩ (Lb.getV a nm) = zx := ⟨_, rfl⟩
              have HZX := Lib.hid (show allM [⟨nm, op, vl⟩] a = zx from (allM_one _ _).trans hzx)
              have HZO := Lib.hid (show allM [⟨nm, o, vl⟩] a = !zx from (allM_one _ _).trans (by rw [← hzx, ← ho, hk]; exact holds_opp hk4))
              obtain ⟨W14, hW14⟩ : ∃ W14, wr.alloc (.cells #[.string nm, .int .i64 op, .string vl] 39 (0, 0)) = W14 := ⟨_, rfl⟩
              obtain ⟨g14, hg14⟩ : ∃ g14, wr.heap.size = g14 := ⟨_, rfl⟩
              obtain ⟨W16, hW16⟩ : ∃ W16, W14.alloc (.cells #[.string nm, .int .i64 o, .string vl] 39 (0, 0)) = W16 := ⟨_, rfl⟩
              obtain ⟨W17, hW17⟩ : ∃ W17, W16.alloc (.cells #[.string nm, .int .i64 op, .string vl] 40 (0, 0)) = W17 := ⟨_, rfl⟩
              have s14 : W14.heap.size = g14 + 1 := by rw [← hW14, ← hg14]; simp
              have s16 : W16.heap.size = g14 + 1 + 1 := by rw [← hW16]; simp [s14]
              have b14 : Below wr.heap.size wr W14 := hW14 ▸ (Below.refl _ _).alloc (Nat.le_refl _) _
              have b16 : Below W14.heap.size W14 W16 := hW16 ▸ (Below.refl _ _).alloc (Nat.le_refl _) _
              have b17 : Below W16.heap.size W16 W17 := hW17 ▸ (Below.refl _ _).alloc (Nat.le_refl _) _
              have X16 : D3 W16 (g14 + 1) nm o vl := s14 ▸ hW16 ▸ D3.new W14 _ _ _
              have B16 := (BL2.out.trans (b14.mono BL2.out.size)).trans (b16.mono (Nat.le_trans BL2.out.size b14.size))
              have B17 := Lib.hid (B16.trans (b17.mono B16.size))
              have Y17 := Lib.hid (X16.below b17)
              have HN17 := Lib.hid (new_any (some ⟨g14 + 1 + 1, 0, none⟩) 1 1 [⟨nm, op, vl⟩] W17 rfl (HT.out.below B17.out) (mq_one s16 hW17 HWX.out))
              have HLT2 := Lib.hid hlt2
              have HOP := Lib.hid (And.intro hk ho)
              have HW14 := Lib.hid hW14
              have HW16 := Lib.hid hW16
              have HW17 := Lib.hid hW17
              clear hc hx hop hzx b14 b16 b17 X16 B16 hbl hlt2 hj hk ho hW14 hW16 hW17 s14 s16
              simp only at k0 k1 k2
              go_wp2_with fail
              rw [HW14.out, HW16.out, HW17.out]
              refine HN17.out.mono ?_
              intro y w18 hp
              obtain ⟨g18, rfl, hs18, hb18⟩ := newP_ok hp (newE_one HPX.out)
              have B18 := Lib.hid (B17.out.trans (hb18.mono B17.out.size))
              have HS18 := Lib.hid hs18
              have Y18 := Y17.out.below hb18
              obtain ⟨⟨y0, y1, y2⟩, _⟩ := Y18.cells
              obtain ⟨W19, hW19⟩ : ∃ W19, w18.alloc (.cells #[.string nm, .int .i64 o, .string vl] 40 (0, 0)) = W19 := ⟨_, rfl⟩
              obtain ⟨g19, hg19⟩ : ∃ g19, w18.heap.size = g19 := ⟨_, rfl⟩
              have b19 : Below w18.heap.size w18 W19 := hW19 ▸ (Below.refl _ _).alloc (Nat.le_refl _) _
              have B19 := Lib.hid (B18.out.trans (b19.mono B18.out.size))
              have HN19 := Lib.hid (new_any (some ⟨g19, 0, none⟩) 1 1 [⟨nm, o, vl⟩] W19 rfl (HT.out.below B19.out) (mq_one hg19 hW19 HWX.out))
              have HS19 := Lib.hid (HS18.out.below b19)
              clear hp hs18 hb18 Y18 b19 k0 k1 k2 hg14
              go_wp2_with fail
              clear hW19 hg19
              refine HN19.out.mono ?_
              intro y w20 hp
              obtain ⟨g20, rfl, hs20, hb20⟩ := newP_ok hp (newE_one HPO.out)
              have B20 := Lib.hid (B19.out.trans (hb20.mono B19.out.size))
              have HS20 := Lib.hid hs20
              have HSX := Lib.hid (HS19.out.below hb20)
              have HMX := Lib.hid (match_sel g18 [⟨nm, op, vl⟩] B M d a w20 (HT.out.below B20.out) HSX.out HMM.out.symm (HA.out.below B20.out) HS.out.lv)
              rw [HZX.out] at HMX
              clear hp hs20 hb20 y0 y1 y2
              go_wp2_with fail
              refine HMX.out.mono ?_
              rintro y w21 ⟨rfl, hb21⟩
              have B21 := Lib.hid (B20.out.trans (hb21.mono B20.out.size))
              have HMO := Lib.hid (match_sel g20 [⟨nm, o, vl⟩] B M d a w21 (HT.out.below B21.out) (HS20.out.below hb21) HMM.out.symm (HA.out.below B21.out) HS.out.lv)
              rw [HZO.out] at HMO
              clear hb21
              go_wp2_with fail
              refine HMO.out.mono ?_
              rintro y w22 ⟨rfl, hb22⟩
              have B22 := Lib.hid (B21.out.trans (hb22.mono B21.out.size))
              clear hb22
              cases zx
              all_goals
                go_wp2_with fail
                go_roundw
                case rel => exact Lib.hid ⟨j + 1, by go_num, by have := HLT2.out; omega, B22.out⟩
                case measure => simp [intOf]; have := HLT2.out; omega
            · obtain rfl : j = i := by omega
              have hkj : ¬ ((j : Nat) : Int) < (j : Int) := by omega
              clear hbl
              go_wp2_with fail
              refine (awake_any _ (HT.out.below BL2.out)).mono ?_
              rintro y w11 ⟨rfl, hb11⟩
              have B11 := Lib.hid (BL2.out.trans (hb11.mono BL2.out.size))
              clear hb11
              go_wp2_with fail
              go_ret
              exact ⟨rfl, B11.out⟩
end Go.Proofs.YtppkejobioadcaaDoor
