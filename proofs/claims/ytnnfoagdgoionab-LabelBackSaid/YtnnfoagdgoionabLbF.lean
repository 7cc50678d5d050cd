/- The program's read. -/
import Derived.Test.YtnnfoagdgoionabLbE
namespace Go.Proofs.Ytnnfoagdgoionab
open Go.RowKit
set_option linter.unusedVariables false

set_option maxHeartbeats 2000000 in
theorem read_any (s : ByteArray) (w : World) (hs : s.size ≤ 4000) (hi : ∀ m, m <:+ s.data.toList → IX (tx m)) : Calls Try.prog 41 #[.string s] w fun e w' => ReadP (readL s.data.toList) e w' ∧ Below w.heap.size w w' := by
  obtain ⟨O, hO⟩ : ∃ O, readL s.data.toList = O := ⟨_, rfl⟩
  have HO := Lib.hid hO
  rw [hO]
  clear hO
  have HI := Lib.hid hi
  clear hi
  by_cases h1 : hdB s.data.toList 123 = true
  · have H1 := Lib.hid h1
    by_cases h2 : s.data.toList.drop 1 = [125]
    · have HE := Lib.hid (show O = some [] by rw [← HO.out]; unfold readL; rw [if_pos h1, if_pos h2])
      have hq := is_125 (s.data.toList.drop 1) true (decide_eq_true h2)
      obtain ⟨T, hT⟩ : ∃ T, tx (s.data.toList.drop 1) = T := ⟨_, rfl⟩
      rw [hT] at hq
      have HT := Lib.hid hT
      clear h1 h2 hT
      go_enter Try.func41, Try.ntmps41
      go_wp2_with fail
      refine (cut_is _ 123 _ true H1.out).mono ?_
      simp only [if_true]
      rw [HT.out]
      rintro e w' ⟨rfl, rfl⟩
      go_wp2_with fail
      go_ret2
      refine ⟨?_, Below.refl _ _⟩
      rw [HE.out]
      exact ⟨none, 0, 0, rfl, rfl, Lw.nil _ _⟩
    · have HE := Lib.hid (show O = readN s.data.toList.length (s.data.toList.drop 1) by rw [← HO.out]; unfold readL; rw [if_pos h1, if_neg h2])
      have hq := is_125 (s.data.toList.drop 1) false (decide_eq_false h2)
      obtain ⟨m0, hm0⟩ : ∃ m, s.data.toList.drop 1 = m := ⟨_, rfl⟩
      have HM0 := Lib.hid (show m0 <:+ s.data.toList from hm0 ▸ List.drop_suffix _ _)
      have hml : m0.length < s.data.toList.length := by
        rw [← hm0, List.length_drop]
        obtain ⟨h0, _⟩ := hd_at h1
        rw [data_len]; omega
      rw [hm0] at hq HE
      have HML := Lib.hid hml
      have HMM := Lib.hid hm0
      obtain ⟨L0, hL0⟩ : ∃ L, s.data.toList = L := ⟨_, rfl⟩
      have hln : L0.length ≤ 4000 := by rw [← hL0, data_len]; exact hs
      have HLN := Lib.hid hln
      have HL0 := Lib.hid hL0
      rw [hL0] at HM0 HI HE HML
      clear h1 h2 hm0 hml hln hL0
      go_enter Try.func41, Try.ntmps41
      go_wp2_with fail
      refine (cut_is _ 123 _ true H1.out).mono ?_
      simp only [if_true]
      rw [HMM.out]
      rintro e w' ⟨rfl, rfl⟩
      go_wp2_with fail
      go_loopw [0, 5] (fun sv lv wr => Hid (DRel L0 O w sv lv wr)) (fun sv _ _ => strSz sv)
      case atStart => exact Lib.hid ⟨m0, L0.length, [], none, 0, 0, rfl, rfl, HM0.out, HML.out, by have := HML.out; have := HLN.out; simp; omega, by rw [HE.out, preL_nil], fun p hp => by simp at hp, own_nil _ _ _ _, Below.refl _ _⟩
      case round =>
        obtain ⟨m, g, P, A, n, c, rfl, rfl, hsuf, hg, hpl, ho, hwl, hown, hb⟩ := hrel.out
        obtain ⟨g, rfl⟩ : ∃ k, g = k + 1 := ⟨g - 1, by omega⟩
        have hn := own_nl hown
        rw [List.length_map] at hn
        have HSU := Lib.hid hsuf
        have HO2 := Lib.hid ho
        have HWL := Lib.hid hwl
        have HOwr := Lib.hid hown
        have HBwr := Lib.hid hb
        have hwwr := hb.size
        have HIX := Lib.hid (HI.out m hsuf)
        have HPL := Lib.hid hpl
        have HGG := Lib.hid hg
        have hn4 : n ≤ 4000 := by omega
        have hmz : m.length ≤ 4000 := by omega
        obtain ⟨u, hu⟩ : ∃ u, oneF m = u := ⟨_, rfl⟩
        have HU := Lib.hid hu
        clear hrel hsuf hg hpl ho hwl hown hb hn hu
        go_wp2_with fail
        refine (one_any (tx m) _ (by rw [tx_size]; exact hmz) HIX.out).mono ?_
        rw [tx_data, HU.out]
        rintro e w1 ⟨hone, hb1⟩
        cases u with
        | none =>
          obtain ⟨x, y, z, rfl⟩ := hone
          have HE2 := Lib.hid (show O = none by rw [HO2.out, readN, HU.out]; rfl)
          have HB1 := Lib.hid (HBwr.out.trans (hb1.mono HBwr.out.size))
          have hz1 := hb1.size
          clear hb1
          go_wp2_with fail
          go_ret2
          refine ⟨?_, HB1.out.alloc HB1.out.size _⟩
          rw [HE2.out]; exact rfl
        | some q =>
          obtain ⟨a, v, r⟩ := q
          simp only [OneP] at hone
          subst hone
          have HB1 := Lib.hid (HBwr.out.trans (hb1.mono HBwr.out.size))
          have hz1 := hb1.size
          have HO1 := Lib.hid (own_below HOwr.out hb1)
          obtain ⟨hl1, hl2⟩ := oneF_len HU.out
          have HWQ := Lib.hid (show Wl ((P ++ [(a, v)]).map labT) by
            intro p hp
            rw [List.map_append] at hp
            rcases List.mem_append.1 hp with hp | hp
            · exact HWL.out p hp
            · simp at hp
              subst hp
              exact ⟨by show (tx a).size ≤ _; rw [tx_size]; omega, by show (tx v).size ≤ _; rw [tx_size]; omega⟩)
          have HPM := Lib.hid (show P.map labT ++ [(tx a, tx v)] = (P ++ [(a, v)]).map labT by simp [labT])
          clear hb1 hl1 hl2
          obtain ⟨j, hj1, hj2, hj3⟩ := oneF_sub HU.out
          have HJ := Lib.hid hj3
          have hw1 : w.heap.size ≤ w1.heap.size := HB1.out.size
          by_cases hr : r = [125]
          · have hq2 := is_125 r true (decide_eq_true hr)
            have HE2 := Lib.hid (show O = some (P ++ [(a, v)]) by rw [HO2.out, readN, HU.out]; simp only; rw [if_pos hr]; rfl)
            clear hj1 hj2 hj3 hr
            go_wp2_with (at_builtin; refine put_lab (W := w) rfl _ _ rfl w.heap.size A n c (P.map labT) rfl (own_below HO1.out ((Below.refl _ _).alloc (Nat.le_refl _) _)) (HB1.out.alloc hw1 _) (Nat.le_trans hw1 (by simp)) ?g3 (w1.heap.size + 1) (by simp) rfl (tx a, tx v) ?_)
            case g3 => omega
            intro A2 c2 w2 hown2 hb2 hw2
            rw [HPM.out] at hown2
            have HO3 := Lib.hid hown2
            have HB3 := Lib.hid hb2
            clear hown2 hb2
            go_wp2_with fail
            go_ret2
            refine ⟨?_, HB3.out⟩
            rw [HE2.out]
            have hn3 := own_nl HO3.out
            rw [List.length_map] at hn3
            exact ⟨A2, n + 1, c2, rfl, hn3, own_lw HO3.out HWQ.out (by have := HPL.out; simp; omega)⟩
          · have hq2 := is_125 r false (decide_eq_false hr)
            by_cases hc : hdB r 44 = true
            · have HC := Lib.hid hc
              have HE2 := Lib.hid (show O = preL (P ++ [(a, v)]) (readN g (r.drop 1)) by rw [HO2.out, readN, HU.out]; simp only; rw [if_neg hr, if_pos hc, preL_snoc])
              have hrl : 0 < r.length := by
                cases r with
                | nil => cases hc
                | cons x y => simp
              have hrm : r.length + j = m.length := by rw [hj3, List.length_drop]; omega
              have HS2 := Lib.hid (show r.drop 1 <:+ L0 from (List.drop_suffix 1 r).trans ((hj3 ▸ List.drop_suffix j m : r <:+ m).trans HSU.out))
              have hL1 : (r.drop 1).length + 1 = r.length := by rw [List.length_drop]; omega
              obtain ⟨m2, hm2⟩ : ∃ m2, r.drop 1 = m2 := ⟨_, rfl⟩
              rw [hm2] at HE2 HS2 hL1
              have HM2 := Lib.hid hm2
              have HLL := Lib.hid (show m2.length < g ∧ (P ++ [(a, v)]).length + m2.length ≤ 4000 ∧ m2.length < m.length by
                have := HGG.out
                have := HPL.out
                rw [List.length_append, List.length_singleton]
                omega)
              clear hj1 hj2 hj3 hr hc hrl hrm hm2 hL1
              go_wp2_with (at_builtin; refine put_lab (W := w) rfl _ _ rfl w.heap.size A n c (P.map labT) rfl (own_below HO1.out ((Below.refl _ _).alloc (Nat.le_refl _) _)) (HB1.out.alloc hw1 _) (Nat.le_trans hw1 (by simp)) ?h3 (w1.heap.size + 1) (by simp) rfl (tx a, tx v) ?_)
              case h3 => omega
              intro A2 c2 w2 hown2 hb2 hw2
              rw [HPM.out] at hown2
              have HO3 := Lib.hid hown2
              have HB3 := Lib.hid hb2
              clear hown2 hb2
              go_wp2_with fail
              refine (cut_is (tx r) 44 _ true HC.out).mono ?_
              simp only [if_true]
              rw [tx_data, HM2.out]
              rintro e w' ⟨rfl, rfl⟩
              go_wp2_with fail
              go_roundw
              case rel => exact Lib.hid ⟨m2, g, P ++ [(a, v)], A2, n + 1, c2, rfl, rfl, HS2.out, HLL.out.1, HLL.out.2.1, HE2.out, HWQ.out, HO3.out, HB3.out⟩
              case measure => simp only [strSz, tx_size]; exact HLL.out.2.2
            · have hc' : hdB r 44 = false := by simpa using hc
              have HC := Lib.hid hc'
              have HE2 := Lib.hid (show O = none by rw [HO2.out, readN, HU.out]; simp only; rw [if_neg hr, if_neg hc]; rfl)
              clear hj1 hj2 hj3 hr hc hc'
              go_wp2_with (at_builtin; refine put_lab (W := w) rfl _ _ rfl w.heap.size A n c (P.map labT) rfl (own_below HO1.out ((Below.refl _ _).alloc (Nat.le_refl _) _)) (HB1.out.alloc hw1 _) (Nat.le_trans hw1 (by simp)) ?i3 (w1.heap.size + 1) (by simp) rfl (tx a, tx v) ?_)
              case i3 => omega
              intro A2 c2 w2 hown2 hb2 hw2
              have HB3 := Lib.hid hb2
              clear hown2 hb2
              go_wp2_with fail
              refine (cut_is (tx r) 44 _ false HC.out).mono ?_
              simp only [Bool.false_eq_true, if_false]
              rintro e w' ⟨rfl, rfl⟩
              go_wp2_with fail
              go_ret2
              refine ⟨?_, HB3.out⟩
              rw [HE2.out]; exact rfl
  · have h1' : hdB s.data.toList 123 = false := by simpa using h1
    have HE := Lib.hid (show O = none by rw [← HO.out]; unfold readL; rw [if_neg h1])
    have H1 := Lib.hid h1'
    clear h1 h1'
    go_enter Try.func41, Try.ntmps41
    go_wp2_with fail
    refine (cut_is _ 123 _ false H1.out).mono ?_
    simp only [Bool.false_eq_true, if_false]
    rintro e w' ⟨rfl, rfl⟩
    go_wp2_with fail
    go_ret2
    refine ⟨?_, Below.refl _ _⟩
    rw [HE.out]
    exact rfl
end Go.Proofs.Ytnnfoagdgoionab
