/- The document's own answer of what is wrong with a histogram: kind 0, the threshold z. -/
import Derived.Test.YtjnienlidmmhdaaGreatDoorHsQ
namespace Go.Proofs.YtjnienlidmmhdaaGreatDoor
open Go.RowKit Go.Sort
set_option linter.unusedVariables false

set_option maxHeartbeats 8000000 in
set_option maxRecDepth 100000 in
theorem refcheck_0z (s z zc ct : Int) (sm : Value) (A B : Option Addr) (c d : Nat) (P Q : List (Int × Int)) (w : World) (z0 : 0 ≤ zc) (z1 : zc ≤ 18446744073709551615) (hP : Bk w A P) (hQ : Bk w B Q) (hke : kindE (0) s (z) = 0) (hz : z ≠ -524288) (hz1 : -262144 < z) (hz2 : z ≤ 262144) :
    Calls Tryz.prog 21 #[.agg #[.int .i64 (0), .int .i64 s, .int .i64 (z), .int .u64 zc, .int .u64 ct, sm, .slice A P.length c, .slice B Q.length d]] w fun e w' => e = .returned (.int .i64 (checkF (0) s (z) zc ct P Q)) ∧ Below w.heap.size w w' := by
  have hb0 : Below w.heap.size w (w.alloc (.cells #[.int .i64 (0), .int .i64 s, .int .i64 (z), .int .u64 zc, .int .u64 ct, sm, .slice A P.length c, .slice B Q.length d] 39)) := (Below.refl _ _).alloc (Nat.le_refl _) _
  have hbx := box8q (heap_alloc_new w (.cells #[.int .i64 (0), .int .i64 s, .int .i64 (z), .int .u64 zc, .int .u64 ct, sm, .slice A P.length c, .slice B Q.length d] 39))
  obtain ⟨w0, hw0⟩ : ∃ W, w.alloc (.cells #[.int .i64 (0), .int .i64 s, .int .i64 (z), .int .u64 zc, .int .u64 ct, sm, .slice A P.length c, .slice B Q.length d] 39) = W := ⟨_, rfl⟩
  rw [hw0] at hb0 hbx
  have HBX := Lib.hid hbx
  have HW0 := Lib.hid hw0
  have HP := Lib.hid (hP.below hb0)
  have HQ := Lib.hid (hQ.below hb0)
  have HF := Lib.hid (fun (W : World) (hW : Below w0.heap.size w0 W) => hb0.trans (hW.mono hb0.size))
  have HKE := Lib.hid hke
  have R : rightB s = true := (kindE_zero hke).2.1
  obtain ⟨x0, x1, x2, x3, x4, x5, x6, x7⟩ := hbx w0 (Below.refl _ _)
  clear hP hQ hb0 hbx hke
  have t2 : (z != -524288) = true := by simpa using hz
  have t3 : decide (z ≤ -262144) = false := by simp; omega
  have t4 : decide (262144 < z) = false := by simp; omega
  go_enter Tryz.func21, Tryz.ntmps21
  go_upto_region 1 with fail
  try rw [hw0]
  clear hw0
  go_wp2_with (go_at_call 66; refine (refright_any _ _).mono ?_; rintro e w' ⟨rfl, rfl⟩)
  go_loopw [3, 4] (fun s3 s4 wr => RcRel s (z) zc P Q w0 s3 s4 wr) (fun _ s4 _ => 2 - (intOf s4).toNat)
  case atStart => exact ⟨0, _, 1, by omega, rfl, rfl, by simpa [lk] using ownsU_one w0 zc, fun h => by omega, fun h => by omega, (Below.refl _ _).alloc (Nat.le_refl _) _⟩
  case round =>
    obtain ⟨k, A', c', hk, rfl, rfl, hown, hp1, hp2, hb⟩ := hrel
    have HO := Lib.hid hown
    have HB := Lib.hid hb
    clear hown hb x0 x1 x2 x3 x4 x5 x6 x7
    obtain ⟨x0, x1, x2, x3, x4, x5, x6, x7⟩ := HBX.out _ HB.out
    by_cases hk0 : k = 0
    · subst hk0
      clear hp1 hp2
      by_cases hbig : 512 < P.length
      · have HE := Lib.hid (chk_P (ct := ct) (zc := zc) (P := P) (Q := Q) HKE.out (side_big hbig) (by decide))
        go_wp2_with fail
        go_ret
        exact ⟨ret_i HE.out, HF.out _ HB.out⟩
      · have HE := Lib.hid (side_small (s := s) (z := z) hbig)
        go_wp2_with fail
        go_loopw [3, 6] (fun s3 s6 wr => InRel s (z) (lk zc 0 P Q) P w0 s3 s6 wr) (fun _ s6 _ => P.length - (intOf s6).toNat)
        case atStart => exact ⟨0, A', c', by omega, rfl, rfl, by simpa using HO.out, by simp [prevO], HB.out⟩
        case round =>
          obtain ⟨j, A2, c2, hj, rfl, rfl, hown, hwalk, hb2⟩ := hrel
          have HO2 := Lib.hid hown
          have HW := Lib.hid hwalk
          have HB2 := Lib.hid hb2
          clear hown hwalk hb2 x0 x1 x2 x3 x4 x5 x6 x7
          obtain ⟨x0, x1, x2, x3, x4, x5, x6, x7⟩ := HBX.out _ HB2.out
          by_cases hlj : j < P.length
          · obtain ⟨b', off', rfl, hc'⟩ := (HP.out.below HB2.out).some_ (by omega)
            obtain ⟨p, hp⟩ := getElem?_lt hlj
            obtain ⟨q1, q2⟩ := hc' j p hp
            obtain ⟨w1, w2, w3, w4⟩ := HP.out.2.1 p (mem_of_at hp)
            have HN := Lib.hid (walk_step (s := s) (z := z) hp)
            have HTK := Lib.hid (show lk zc 0 P Q ++ (P.take (j + 1)).map (·.2) = (lk zc 0 P Q ++ (P.take j).map (·.2)) ++ [p.2] from by rw [take_snoc _ _ _ hp]; simp)
            have hji : (j : Int) < (P.length : Int) := by omega
            have hblt := block_lt_of_cell q1
            simp only at hblt
            obtain ⟨i0, hi_, hz0_, hz1_, hz2_⟩ := info_parts infoU
            have hlk : (lk zc 0 P Q).length ≤ 600 := by simp [lk]
            have HOD := Lib.hid (fun n => show (wr.drewN n).ownsRow w0.heap.size 36 1 (.slice A2 ((lk zc 0 P Q).length + j) c2) ((lk zc 0 P Q).length + j) (cellsU (lk zc 0 P Q ++ (P.take j).map (·.2))) from HO2.out)
            rcases hi : inB s p.1 with _ | _
            · have HX := Lib.hid (chk_P (ct := ct) (zc := zc) (P := P) (Q := Q) HKE.out (show (4 : Int) = sideE s (z) P by rw [← HE.out, HW.out, HN.out]; unfold bktE; rw [hi]; simp) (by decide))
              obtain ⟨pi, pc⟩ := p
              simp only at q1 q2 w1 w2 w3 w4 hi
              clear hc' hp HN
              go_wp2_with fail
              go_quiet ((go_at_call 67; exact stays rfl (refin_any _ _ _)))
              go_wp2_with fail
              go_ret
              exact ⟨ret_i HX.out, HF.out _ (by (repeat apply below_drewN); exact HB2.out)⟩
            · have HI := Lib.hid hi
              obtain ⟨i1, i2⟩ := in_bd hi
              have hun := un_bd (i := p.1 - 1) R 262145 (by omega) (by omega)
              by_cases h0 : j = 0
              · subst h0
                obtain ⟨pi, pc⟩ := p
                simp only at q1 q2 w1 w2 w3 w4 hi i1 i2 hun
                have hg : ¬ (0 : Int) < 0 := by omega
                simp only [Nat.zero_mul, Nat.add_zero] at q1 q2
                by_cases h2 : pc = 0
                · have d2 : (pc == 0) = true := by simpa using h2
                  have HX := Lib.hid (chk_P (ct := ct) (zc := zc) (P := P) (Q := Q) HKE.out (show (21 : Int) = sideE s (z) P by rw [← HE.out, HW.out, HN.out]; unfold bktE; simp only [hi, prevO]; simp [h2]) (by decide))
                  clear hc' hp HN h2
                  go_wp2_with fail
                  go_quiet ((go_at_call 67; exact stays rfl (refin_any _ _ _)))
                  go_wp2_with fail
                  go_quiet (fail)
                  go_wp2_with fail
                  go_ret
                  exact ⟨ret_i HX.out, HF.out _ (by (repeat apply below_drewN); exact HB2.out)⟩
                · have d2 : (pc == 0) = false := by simpa using h2
                  by_cases h3 : un s (pi - 1) < (z)
                  · have d3 : decide (un s (pi - 1) < (z)) = true := by simpa using h3
                    have HX := Lib.hid (chk_P (ct := ct) (zc := zc) (P := P) (Q := Q) HKE.out (show (31 : Int) = sideE s (z) P by rw [← HE.out, HW.out, HN.out]; unfold bktE; simp only [hi, prevO]; simp [h2, h3]) (by decide))
                    clear hc' hp HN h2 h3
                    go_wp2_with fail
                    go_quiet ((go_at_call 67; exact stays rfl (refin_any _ _ _)))
                    go_wp2_with fail
                    go_quiet (fail)
                    go_wp2_with fail
                    go_quiet ((go_at_call 68; exact stays rfl (refunits_yes _ _ _ R (by omega) (by omega))))
                    go_wp2_with fail
                    go_ret
                    exact ⟨ret_i HX.out, HF.out _ (by (repeat apply below_drewN); exact HB2.out)⟩
                  · have d3 : decide (un s (pi - 1) < (z)) = false := by simpa using h3
                    have HX := Lib.hid (show walkE s (z) none P = walkE s (z) (prevO P (0 + 1)) (P.drop (0 + 1)) by
                      rw [HW.out, HN.out]; unfold bktE; simp only [hi, prevO]; simp [h2, h3])
                    clear hc' hp HN h2 h3
                    go_wp2_with fail
                    go_quiet ((go_at_call 67; exact stays rfl (refin_any _ _ _)))
                    go_wp2_with fail
                    go_quiet (fail)
                    go_wp2_with fail
                    go_quiet ((go_at_call 68; exact stays rfl (refunits_yes _ _ _ R (by omega) (by omega))))
                    go_wp2_with (at_builtin; refine wpList_append_lies _ rfl _ _ 102 rfl w0.heap.size 36 i0 (.int .u64 0) 1 8 Tryz.underlying102 hi_ hz0_ hz1_ hz2_ rfl (by decide) (.slice A2 ((lk zc 0 P Q).length + 0) c2) ((lk zc 0 P Q).length + 0) (cellsU (lk zc 0 P Q ++ (P.take 0).map (·.2))) rfl ((HOD.out _).alloc _) ⟨_, 0, none⟩ 1 1 [.int .u64 pc] rfl rfl (World.news_of_block (heap_alloc_new _ _)) ?n1 (by decide) (by unfold maxLen; omega) (by omega) ?n2 _ rfl ?_)
                    case n1 => intro u hu; simp at hu; subst hu; rfl
                    case n2 => have := HB2.out.size; simp; omega
                    intro g cap w4 hown4 hgrow4 hat4 hlt4
                    have HN4 := Lib.hid (show w4.ownsRow w0.heap.size 36 1 (.slice (some ⟨g, 0, none⟩) ((lk zc 0 P Q).length + (0 + 1)) cap) ((lk zc 0 P Q).length + (0 + 1)) (cellsU (lk zc 0 P Q ++ (P.take (0 + 1)).map (·.2))) ∧ Below w0.heap.size w0 w4 from
                      ⟨by rw [HTK.out, cellsU_snoc]; first | exact hown4 | (rw [List.map_take]; exact hown4) | (simp only [List.take_zero, List.map_nil, List.append_nil]; exact hown4), ((below_drewN HB2.out _).alloc HB2.out.size _).grown hgrow4 (by have := HB2.out.size; simp; omega) (fun k hk => (HO2.out.lt k hk).1)⟩)
                    clear hown4 hgrow4 hat4 hlt4
                    go_wp2_with fail
                    go_roundw
                    case rel => first | exact ⟨0 + 1, _, cap, by omega, by go_num, rfl, HN4.out.1, HX.out, HN4.out.2⟩ | ((repeat apply Exists.intro); exact ⟨⟨0 + 1, _, cap, by omega, by go_num, rfl, HN4.out.1, HX.out, HN4.out.2⟩, rfl⟩)
                    case measure => simp [intOf]; omega
              · obtain ⟨m, rfl⟩ : ∃ m, j = m + 1 := ⟨j - 1, by omega⟩
                obtain ⟨q, hq⟩ := getElem?_lt (l := P) (k := m) (by omega)
                obtain ⟨q3, q4⟩ := hc' m q hq
                have hpo : prevO P (m + 1) = some q.1 := by simp [prevO, hq]
                have q5 : -9223372036854775808 ≤ q.1 ∧ q.1 ≤ 9223372036854775807 := ⟨(HP.out.2.1 q (mem_of_at hq)).1, (HP.out.2.1 q (mem_of_at hq)).2.1⟩
                have hg : (0 : Int) < (m : Int) + 1 := by omega
                have hmi : (m : Int) < (P.length : Int) := by omega
                have hb' := block_lt_of_cell q3
                simp only at hb'
                obtain ⟨pi, pc⟩ := p
                obtain ⟨qi, qc⟩ := q
                simp only at q1 q2 q3 q4 q5 w1 w2 w3 w4 hi i1 i2 hun hpo
                by_cases h1 : pi ≤ qi
                · have d1 : decide (pi ≤ qi) = true := by simpa using h1
                  have HX := Lib.hid (chk_P (ct := ct) (zc := zc) (P := P) (Q := Q) HKE.out (show (32 : Int) = sideE s (z) P by rw [← HE.out, HW.out, HN.out]; unfold bktE; rw [hpo]; simp only [hi]; simp [h1]) (by decide))
                  clear hc' hp hq HN hpo h1
                  go_wp2_with fail
                  go_quiet ((go_at_call 67; exact stays rfl (refin_any _ _ _)))
                  go_wp2_with fail
                  go_quiet (fail)
                  go_wp2_with fail
                  go_ret
                  exact ⟨ret_i HX.out, HF.out _ (by (repeat apply below_drewN); exact HB2.out)⟩
                · have d1 : decide (pi ≤ qi) = false := by simpa using h1
                  by_cases h2 : pc = 0
                  · have d2 : (pc == 0) = true := by simpa using h2
                    have HX := Lib.hid (chk_P (ct := ct) (zc := zc) (P := P) (Q := Q) HKE.out (show (21 : Int) = sideE s (z) P by rw [← HE.out, HW.out, HN.out]; unfold bktE; rw [hpo]; simp only [hi]; simp [h1, h2]) (by decide))
                    clear hc' hp hq hpo h1 HN h2
                    go_wp2_with fail
                    go_quiet ((go_at_call 67; exact stays rfl (refin_any _ _ _)))
                    go_wp2_with fail
                    go_quiet (fail)
                    go_wp2_with fail
                    go_ret
                    exact ⟨ret_i HX.out, HF.out _ (by (repeat apply below_drewN); exact HB2.out)⟩
                  · have d2 : (pc == 0) = false := by simpa using h2
                    by_cases h3 : un s (pi - 1) < (z)
                    · have d3 : decide (un s (pi - 1) < (z)) = true := by simpa using h3
                      have HX := Lib.hid (chk_P (ct := ct) (zc := zc) (P := P) (Q := Q) HKE.out (show (31 : Int) = sideE s (z) P by rw [← HE.out, HW.out, HN.out]; unfold bktE; rw [hpo]; simp only [hi]; simp [h1, h2, h3]) (by decide))
                      clear hc' hp hq hpo h1 HN h2 h3
                      go_wp2_with fail
                      go_quiet ((go_at_call 67; exact stays rfl (refin_any _ _ _)))
                      go_wp2_with fail
                      go_quiet (fail)
                      go_wp2_with fail
                      go_quiet ((go_at_call 68; exact stays rfl (refunits_yes _ _ _ R (by omega) (by omega))))
                      go_wp2_with fail
                      go_ret
                      exact ⟨ret_i HX.out, HF.out _ (by (repeat apply below_drewN); exact HB2.out)⟩
                    · have d3 : decide (un s (pi - 1) < (z)) = false := by simpa using h3
                      have HX := Lib.hid (show walkE s (z) none P = walkE s (z) (prevO P ((m + 1) + 1)) (P.drop ((m + 1) + 1)) by
                        rw [HW.out, HN.out]; unfold bktE; rw [hpo]; simp only [hi]; simp [h1, h2, h3])
                      clear hc' hp hq hpo h1 HN h2 h3
                      go_wp2_with fail
                      go_quiet ((go_at_call 67; exact stays rfl (refin_any _ _ _)))
                      go_wp2_with fail
                      go_quiet (fail)
                      go_wp2_with fail
                      go_quiet ((go_at_call 68; exact stays rfl (refunits_yes _ _ _ R (by omega) (by omega))))
                      go_wp2_with (at_builtin; refine wpList_append_lies _ rfl _ _ 102 rfl w0.heap.size 36 i0 (.int .u64 0) 1 8 Tryz.underlying102 hi_ hz0_ hz1_ hz2_ rfl (by decide) (.slice A2 ((lk zc 0 P Q).length + (m + 1)) c2) ((lk zc 0 P Q).length + (m + 1)) (cellsU (lk zc 0 P Q ++ (P.take (m + 1)).map (·.2))) rfl ((HOD.out _).alloc _) ⟨_, 0, none⟩ 1 1 [.int .u64 pc] rfl rfl (World.news_of_block (heap_alloc_new _ _)) ?n1 (by decide) (by unfold maxLen; omega) (by omega) ?n2 _ rfl ?_)
                      case n1 => intro u hu; simp at hu; subst hu; rfl
                      case n2 => have := HB2.out.size; simp; omega
                      intro g cap w4 hown4 hgrow4 hat4 hlt4
                      have HN4 := Lib.hid (show w4.ownsRow w0.heap.size 36 1 (.slice (some ⟨g, 0, none⟩) ((lk zc 0 P Q).length + ((m + 1) + 1)) cap) ((lk zc 0 P Q).length + ((m + 1) + 1)) (cellsU (lk zc 0 P Q ++ (P.take ((m + 1) + 1)).map (·.2))) ∧ Below w0.heap.size w0 w4 from
                        ⟨by rw [HTK.out, cellsU_snoc]; first | exact hown4 | (rw [List.map_take]; exact hown4) | (simp only [List.take_zero, List.map_nil, List.append_nil]; exact hown4), ((below_drewN HB2.out _).alloc HB2.out.size _).grown hgrow4 (by have := HB2.out.size; simp; omega) (fun k hk => (HO2.out.lt k hk).1)⟩)
                      clear hown4 hgrow4 hat4 hlt4
                      go_wp2_with fail
                      go_roundw
                      case rel => first | exact ⟨(m + 1) + 1, _, cap, by omega, by go_num, rfl, HN4.out.1, HX.out, HN4.out.2⟩ | ((repeat apply Exists.intro); exact ⟨⟨(m + 1) + 1, _, cap, by omega, by go_num, rfl, HN4.out.1, HX.out, HN4.out.2⟩, rfl⟩)
                      case measure => simp [intOf]; omega
          · obtain rfl : j = P.length := by omega
            have hji : ¬ ((P.length : Int) < (P.length : Int)) := by omega
            have HX := Lib.hid (show (0 : Int) = sideE s (z) P by rw [← HE.out, HW.out, List.drop_length]; rfl)
            go_wp2_with fail
            go_roundw
            case rel =>
              exact ⟨1, A2, c2, by omega, by go_num, by simp [lk]; omega, by have h := HO2.out; simpa [lk, Nat.add_comm] using h, fun _ => ⟨HX.out.symm, by omega⟩, fun h => by omega, HB2.out⟩
            case measure => simp [intOf]
    · by_cases hk1 : k = 1
      · subst hk1
        have HPP := Lib.hid (hp1 (by omega))
        clear hp1 hp2
        by_cases hbig : 512 < Q.length
        · have HE := Lib.hid (chk_Q (ct := ct) (zc := zc) (P := P) (Q := Q) HKE.out HPP.out.1 (side_big hbig) (by decide))
          go_wp2_with fail
          go_ret
          exact ⟨ret_i HE.out, HF.out _ HB.out⟩
        · have HE := Lib.hid (side_small (s := s) (z := z) hbig)
          go_wp2_with fail
          go_loopw [3, 6] (fun s3 s6 wr => InRel s (z) (lk zc 1 P Q) Q w0 s3 s6 wr) (fun _ s6 _ => Q.length - (intOf s6).toNat)
          case atStart => exact ⟨0, A', c', by omega, rfl, rfl, by simpa using HO.out, by simp [prevO], HB.out⟩
          case round =>
            obtain ⟨j, A2, c2, hj, rfl, rfl, hown, hwalk, hb2⟩ := hrel
            have HO2 := Lib.hid hown
            have HW := Lib.hid hwalk
            have HB2 := Lib.hid hb2
            clear hown hwalk hb2 x0 x1 x2 x3 x4 x5 x6 x7
            obtain ⟨x0, x1, x2, x3, x4, x5, x6, x7⟩ := HBX.out _ HB2.out
            by_cases hlj : j < Q.length
            · obtain ⟨b', off', rfl, hc'⟩ := (HQ.out.below HB2.out).some_ (by omega)
              obtain ⟨p, hp⟩ := getElem?_lt hlj
              obtain ⟨q1, q2⟩ := hc' j p hp
              obtain ⟨w1, w2, w3, w4⟩ := HQ.out.2.1 p (mem_of_at hp)
              have HN := Lib.hid (walk_step (s := s) (z := z) hp)
              have HTK := Lib.hid (show lk zc 1 P Q ++ (Q.take (j + 1)).map (·.2) = (lk zc 1 P Q ++ (Q.take j).map (·.2)) ++ [p.2] from by rw [take_snoc _ _ _ hp]; simp)
              have hji : (j : Int) < (Q.length : Int) := by omega
              have hblt := block_lt_of_cell q1
              simp only at hblt
              obtain ⟨i0, hi_, hz0_, hz1_, hz2_⟩ := info_parts infoU
              have hlk : (lk zc 1 P Q).length ≤ 600 := by have := HPP.out.2; simp [lk]; omega
              have HOD := Lib.hid (fun n => show (wr.drewN n).ownsRow w0.heap.size 36 1 (.slice A2 ((lk zc 1 P Q).length + j) c2) ((lk zc 1 P Q).length + j) (cellsU (lk zc 1 P Q ++ (Q.take j).map (·.2))) from HO2.out)
              rcases hi : inB s p.1 with _ | _
              · have HX := Lib.hid (chk_Q (ct := ct) (zc := zc) (P := P) (Q := Q) HKE.out HPP.out.1 (show (4 : Int) = sideE s (z) Q by rw [← HE.out, HW.out, HN.out]; unfold bktE; rw [hi]; simp) (by decide))
                obtain ⟨pi, pc⟩ := p
                simp only at q1 q2 w1 w2 w3 w4 hi
                clear hc' hp HN
                go_wp2_with fail
                go_quiet ((go_at_call 67; exact stays rfl (refin_any _ _ _)))
                go_wp2_with fail
                go_ret
                exact ⟨ret_i HX.out, HF.out _ (by (repeat apply below_drewN); exact HB2.out)⟩
              · have HI := Lib.hid hi
                obtain ⟨i1, i2⟩ := in_bd hi
                have hun := un_bd (i := p.1 - 1) R 262145 (by omega) (by omega)
                by_cases h0 : j = 0
                · subst h0
                  obtain ⟨pi, pc⟩ := p
                  simp only at q1 q2 w1 w2 w3 w4 hi i1 i2 hun
                  have hg : ¬ (0 : Int) < 0 := by omega
                  simp only [Nat.zero_mul, Nat.add_zero] at q1 q2
                  by_cases h2 : pc = 0
                  · have d2 : (pc == 0) = true := by simpa using h2
                    have HX := Lib.hid (chk_Q (ct := ct) (zc := zc) (P := P) (Q := Q) HKE.out HPP.out.1 (show (21 : Int) = sideE s (z) Q by rw [← HE.out, HW.out, HN.out]; unfold bktE; simp only [hi, prevO]; simp [h2]) (by decide))
                    clear hc' hp HN h2
                    go_wp2_with fail
                    go_quiet ((go_at_call 67; exact stays rfl (refin_any _ _ _)))
                    go_wp2_with fail
                    go_quiet (fail)
                    go_wp2_with fail
                    go_ret
                    exact ⟨ret_i HX.out, HF.out _ (by (repeat apply below_drewN); exact HB2.out)⟩
                  · have d2 : (pc == 0) = false := by simpa using h2
                    by_cases h3 : un s (pi - 1) < (z)
                    · have d3 : decide (un s (pi - 1) < (z)) = true := by simpa using h3
                      have HX := Lib.hid (chk_Q (ct := ct) (zc := zc) (P := P) (Q := Q) HKE.out HPP.out.1 (show (31 : Int) = sideE s (z) Q by rw [← HE.out, HW.out, HN.out]; unfold bktE; simp only [hi, prevO]; simp [h2, h3]) (by decide))
                      clear hc' hp HN h2 h3
                      go_wp2_with fail
                      go_quiet ((go_at_call 67; exact stays rfl (refin_any _ _ _)))
                      go_wp2_with fail
                      go_quiet (fail)
                      go_wp2_with fail
                      go_quiet ((go_at_call 68; exact stays rfl (refunits_yes _ _ _ R (by omega) (by omega))))
                      go_wp2_with fail
                      go_ret
                      exact ⟨ret_i HX.out, HF.out _ (by (repeat apply below_drewN); exact HB2.out)⟩
                    · have d3 : decide (un s (pi - 1) < (z)) = false := by simpa using h3
                      have HX := Lib.hid (show walkE s (z) none Q = walkE s (z) (prevO Q (0 + 1)) (Q.drop (0 + 1)) by
                        rw [HW.out, HN.out]; unfold bktE; simp only [hi, prevO]; simp [h2, h3])
                      clear hc' hp HN h2 h3
                      go_wp2_with fail
                      go_quiet ((go_at_call 67; exact stays rfl (refin_any _ _ _)))
                      go_wp2_with fail
                      go_quiet (fail)
                      go_wp2_with fail
                      go_quiet ((go_at_call 68; exact stays rfl (refunits_yes _ _ _ R (by omega) (by omega))))
                      go_wp2_with (at_builtin; refine wpList_append_lies _ rfl _ _ 102 rfl w0.heap.size 36 i0 (.int .u64 0) 1 8 Tryz.underlying102 hi_ hz0_ hz1_ hz2_ rfl (by decide) (.slice A2 ((lk zc 1 P Q).length + 0) c2) ((lk zc 1 P Q).length + 0) (cellsU (lk zc 1 P Q ++ (Q.take 0).map (·.2))) rfl ((HOD.out _).alloc _) ⟨_, 0, none⟩ 1 1 [.int .u64 pc] rfl rfl (World.news_of_block (heap_alloc_new _ _)) ?n1 (by decide) (by unfold maxLen; omega) (by omega) ?n2 _ rfl ?_)
                      case n1 => intro u hu; simp at hu; subst hu; rfl
                      case n2 => have := HB2.out.size; simp; omega
                      intro g cap w4 hown4 hgrow4 hat4 hlt4
                      have HN4 := Lib.hid (show w4.ownsRow w0.heap.size 36 1 (.slice (some ⟨g, 0, none⟩) ((lk zc 1 P Q).length + (0 + 1)) cap) ((lk zc 1 P Q).length + (0 + 1)) (cellsU (lk zc 1 P Q ++ (Q.take (0 + 1)).map (·.2))) ∧ Below w0.heap.size w0 w4 from
                        ⟨by rw [HTK.out, cellsU_snoc]; first | exact hown4 | (rw [List.map_take]; exact hown4) | (simp only [List.take_zero, List.map_nil, List.append_nil]; exact hown4), ((below_drewN HB2.out _).alloc HB2.out.size _).grown hgrow4 (by have := HB2.out.size; simp; omega) (fun k hk => (HO2.out.lt k hk).1)⟩)
                      clear hown4 hgrow4 hat4 hlt4
                      go_wp2_with fail
                      go_roundw
                      case rel => first | exact ⟨0 + 1, _, cap, by omega, by go_num, rfl, HN4.out.1, HX.out, HN4.out.2⟩ | ((repeat apply Exists.intro); exact ⟨⟨0 + 1, _, cap, by omega, by go_num, rfl, HN4.out.1, HX.out, HN4.out.2⟩, rfl⟩)
                      case measure => simp [intOf]; omega
                · obtain ⟨m, rfl⟩ : ∃ m, j = m + 1 := ⟨j - 1, by omega⟩
                  obtain ⟨q, hq⟩ := getElem?_lt (l := Q) (k := m) (by omega)
                  obtain ⟨q3, q4⟩ := hc' m q hq
                  have hpo : prevO Q (m + 1) = some q.1 := by simp [prevO, hq]
                  have q5 : -9223372036854775808 ≤ q.1 ∧ q.1 ≤ 9223372036854775807 := ⟨(HQ.out.2.1 q (mem_of_at hq)).1, (HQ.out.2.1 q (mem_of_at hq)).2.1⟩
                  have hg : (0 : Int) < (m : Int) + 1 := by omega
                  have hmi : (m : Int) < (Q.length : Int) := by omega
                  have hb' := block_lt_of_cell q3
                  simp only at hb'
                  obtain ⟨pi, pc⟩ := p
                  obtain ⟨qi, qc⟩ := q
                  simp only at q1 q2 q3 q4 q5 w1 w2 w3 w4 hi i1 i2 hun hpo
                  by_cases h1 : pi ≤ qi
                  · have d1 : decide (pi ≤ qi) = true := by simpa using h1
                    have HX := Lib.hid (chk_Q (ct := ct) (zc := zc) (P := P) (Q := Q) HKE.out HPP.out.1 (show (32 : Int) = sideE s (z) Q by rw [← HE.out, HW.out, HN.out]; unfold bktE; rw [hpo]; simp only [hi]; simp [h1]) (by decide))
                    clear hc' hp hq HN hpo h1
                    go_wp2_with fail
                    go_quiet ((go_at_call 67; exact stays rfl (refin_any _ _ _)))
                    go_wp2_with fail
                    go_quiet (fail)
                    go_wp2_with fail
                    go_ret
                    exact ⟨ret_i HX.out, HF.out _ (by (repeat apply below_drewN); exact HB2.out)⟩
                  · have d1 : decide (pi ≤ qi) = false := by simpa using h1
                    by_cases h2 : pc = 0
                    · have d2 : (pc == 0) = true := by simpa using h2
                      have HX := Lib.hid (chk_Q (ct := ct) (zc := zc) (P := P) (Q := Q) HKE.out HPP.out.1 (show (21 : Int) = sideE s (z) Q by rw [← HE.out, HW.out, HN.out]; unfold bktE; rw [hpo]; simp only [hi]; simp [h1, h2]) (by decide))
                      clear hc' hp hq hpo h1 HN h2
                      go_wp2_with fail
                      go_quiet ((go_at_call 67; exact stays rfl (refin_any _ _ _)))
                      go_wp2_with fail
                      go_quiet (fail)
                      go_wp2_with fail
                      go_ret
                      exact ⟨ret_i HX.out, HF.out _ (by (repeat apply below_drewN); exact HB2.out)⟩
                    · have d2 : (pc == 0) = false := by simpa using h2
                      by_cases h3 : un s (pi - 1) < (z)
                      · have d3 : decide (un s (pi - 1) < (z)) = true := by simpa using h3
                        have HX := Lib.hid (chk_Q (ct := ct) (zc := zc) (P := P) (Q := Q) HKE.out HPP.out.1 (show (31 : Int) = sideE s (z) Q by rw [← HE.out, HW.out, HN.out]; unfold bktE; rw [hpo]; simp only [hi]; simp [h1, h2, h3]) (by decide))
                        clear hc' hp hq hpo h1 HN h2 h3
                        go_wp2_with fail
                        go_quiet ((go_at_call 67; exact stays rfl (refin_any _ _ _)))
                        go_wp2_with fail
                        go_quiet (fail)
                        go_wp2_with fail
                        go_quiet ((go_at_call 68; exact stays rfl (refunits_yes _ _ _ R (by omega) (by omega))))
                        go_wp2_with fail
                        go_ret
                        exact ⟨ret_i HX.out, HF.out _ (by (repeat apply below_drewN); exact HB2.out)⟩
                      · have d3 : decide (un s (pi - 1) < (z)) = false := by simpa using h3
                        have HX := Lib.hid (show walkE s (z) none Q = walkE s (z) (prevO Q ((m + 1) + 1)) (Q.drop ((m + 1) + 1)) by
                          rw [HW.out, HN.out]; unfold bktE; rw [hpo]; simp only [hi]; simp [h1, h2, h3])
                        clear hc' hp hq hpo h1 HN h2 h3
                        go_wp2_with fail
                        go_quiet ((go_at_call 67; exact stays rfl (refin_any _ _ _)))
                        go_wp2_with fail
                        go_quiet (fail)
                        go_wp2_with fail
                        go_quiet ((go_at_call 68; exact stays rfl (refunits_yes _ _ _ R (by omega) (by omega))))
                        go_wp2_with (at_builtin; refine wpList_append_lies _ rfl _ _ 102 rfl w0.heap.size 36 i0 (.int .u64 0) 1 8 Tryz.underlying102 hi_ hz0_ hz1_ hz2_ rfl (by decide) (.slice A2 ((lk zc 1 P Q).length + (m + 1)) c2) ((lk zc 1 P Q).length + (m + 1)) (cellsU (lk zc 1 P Q ++ (Q.take (m + 1)).map (·.2))) rfl ((HOD.out _).alloc _) ⟨_, 0, none⟩ 1 1 [.int .u64 pc] rfl rfl (World.news_of_block (heap_alloc_new _ _)) ?n1 (by decide) (by unfold maxLen; omega) (by omega) ?n2 _ rfl ?_)
                        case n1 => intro u hu; simp at hu; subst hu; rfl
                        case n2 => have := HB2.out.size; simp; omega
                        intro g cap w4 hown4 hgrow4 hat4 hlt4
                        have HN4 := Lib.hid (show w4.ownsRow w0.heap.size 36 1 (.slice (some ⟨g, 0, none⟩) ((lk zc 1 P Q).length + ((m + 1) + 1)) cap) ((lk zc 1 P Q).length + ((m + 1) + 1)) (cellsU (lk zc 1 P Q ++ (Q.take ((m + 1) + 1)).map (·.2))) ∧ Below w0.heap.size w0 w4 from
                          ⟨by rw [HTK.out, cellsU_snoc]; first | exact hown4 | (rw [List.map_take]; exact hown4) | (simp only [List.take_zero, List.map_nil, List.append_nil]; exact hown4), ((below_drewN HB2.out _).alloc HB2.out.size _).grown hgrow4 (by have := HB2.out.size; simp; omega) (fun k hk => (HO2.out.lt k hk).1)⟩)
                        clear hown4 hgrow4 hat4 hlt4
                        go_wp2_with fail
                        go_roundw
                        case rel => first | exact ⟨(m + 1) + 1, _, cap, by omega, by go_num, rfl, HN4.out.1, HX.out, HN4.out.2⟩ | ((repeat apply Exists.intro); exact ⟨⟨(m + 1) + 1, _, cap, by omega, by go_num, rfl, HN4.out.1, HX.out, HN4.out.2⟩, rfl⟩)
                        case measure => simp [intOf]; omega
            · obtain rfl : j = Q.length := by omega
              have hji : ¬ ((Q.length : Int) < (Q.length : Int)) := by omega
              have HX := Lib.hid (show (0 : Int) = sideE s (z) Q by rw [← HE.out, HW.out, List.drop_length]; rfl)
              go_wp2_with fail
              go_roundw
              case rel =>
                exact ⟨2, A2, c2, by omega, by go_num, by simp [lk]; omega, by have h := HO2.out; simpa [lk, Nat.add_comm, Nat.add_assoc, Nat.add_left_comm] using h, fun _ => HPP.out, fun _ => ⟨HX.out.symm, by omega⟩, HB2.out⟩
              case measure => simp [intOf]
      · obtain rfl : k = 2 := by omega
        have HPP := Lib.hid (And.intro (hp1 (by omega)) (hp2 (by omega)))
        clear hp1 hp2
        obtain ⟨hs1, hl1⟩ := HPP.out.1
        obtain ⟨hs2, hl2⟩ := HPP.out.2
        have HCE := Lib.hid (chk_end (zc := zc) (ct := ct) HKE.out hs1 hs2)
        have hlen : (lk zc 2 P Q).length ≤ 100000 := by simp [lk]; omega
        obtain ⟨_, b, rfl, hrow⟩ := own_rowU HO.out (by simp [lk]) hlen (fun x hx => by
          simp [lk] at hx
          rcases hx with rfl | ⟨i, hx⟩ | ⟨i, hx⟩
          · exact ⟨z0, z1⟩
          · exact ⟨(HP.out.2.1 _ hx).2.2.1, (HP.out.2.1 _ hx).2.2.2⟩
          · exact ⟨(HQ.out.2.1 _ hx).2.2.1, (HQ.out.2.1 _ hx).2.2.2⟩)
        have HROW := Lib.hid hrow
        have hsum : sumTo (fun i => (lk zc 2 P Q).getD i 0) (lk zc 2 P Q).length = zc + cnt (P ++ Q) := by
          rw [sumTo_list _ _ (Nat.le_refl _), List.take_length]
          simp [lk, cnt]
        clear hs1 hs2 hl1 hl2 hrow
        by_cases hfit : zc + cnt (P ++ Q) ≤ 18446744073709551615
        · obtain ⟨a1, a2⟩ := add_fits (f := fun i => (lk zc 2 P Q).getD i 0) (n := (lk zc 2 P Q).length) (by rw [hsum]; exact hfit)
          rw [hsum] at a1
          obtain ⟨V, hV⟩ : ∃ V, zc + cnt (P ++ Q) = V := ⟨_, rfl⟩
          have HA := Lib.hid (And.intro (a1.trans hV) a2)
          rw [hV] at HCE
          rw [hV] at hfit
          by_cases hvc : V = ct
          · have HE := Lib.hid (show (0 : Int) = checkF (0) s (z) zc ct P Q by rw [HCE.out, if_pos hfit, if_pos hvc])
            have d1 : (V != ct) = false := by simpa using hvc
            clear hsum a1 a2 hV hfit hvc
            go_wp2_with fail
            refine (refaddL _ _ _ _ _ _ _ HROW.out HA.out.1 HA.out.2).mono ?_
            rintro e w' ⟨rfl, rfl⟩
            go_wp2_with fail
            go_ret
            exact ⟨ret_i HE.out, HF.out _ HB.out⟩
          · have HE := Lib.hid (show (21 : Int) = checkF (0) s (z) zc ct P Q by rw [HCE.out, if_pos hfit, if_neg hvc])
            have d1 : (V != ct) = true := by simpa using hvc
            clear hsum a1 a2 hV hfit hvc
            go_wp2_with fail
            refine (refaddL _ _ _ _ _ _ _ HROW.out HA.out.1 HA.out.2).mono ?_
            rintro e w' ⟨rfl, rfl⟩
            go_wp2_with fail
            go_ret
            exact ⟨ret_i HE.out, HF.out _ HB.out⟩
        · have HE := Lib.hid (show (5 : Int) = checkF (0) s (z) zc ct P Q by rw [HCE.out, if_neg hfit])
          have a : addV (fun i => (lk zc 2 P Q).getD i 0) (lk zc 2 P Q).length = 0 ∧ addE (fun i => (lk zc 2 P Q).getD i 0) (lk zc 2 P Q).length = 5 := by
            unfold addV addE maxU
            rw [hsum, if_neg hfit, if_neg hfit]
            exact ⟨rfl, rfl⟩
          have HA := Lib.hid a
          clear hsum a hfit
          go_wp2_with fail
          refine (refaddL _ _ _ _ _ _ _ HROW.out HA.out.1 HA.out.2).mono ?_
          rintro e w' ⟨rfl, rfl⟩
          go_wp2_with fail
          go_ret
          exact ⟨ret_i HE.out, HF.out _ HB.out⟩
end Go.Proofs.YtjnienlidmmhdaaGreatDoor
