/- The contract of what is wrong with a histogram, whole. -/
import Derived.Test.YtjnienlidmmhdaaGreatDoorHsDa
namespace Go.Proofs.YtjnienlidmmhdaaGreatDoor
open Go.RowKit Go.Sort
set_option linter.unusedVariables false

/-- the eight cells of a histogram that the call laid -/
theorem hist_cells {w W : World} {v0 v1 v2 v3 v4 v5 v6 v7 : Value} (hb : Below (w.alloc (.cells #[v0, v1, v2, v3, v4, v5, v6, v7] 39)).heap.size (w.alloc (.cells #[v0, v1, v2, v3, v4, v5, v6, v7] 39)) W) :
    W.cell? ⟨w.heap.size, 0, none⟩ = some v0 ∧ W.cell? ⟨w.heap.size, 1, none⟩ = some v1 ∧ W.cell? ⟨w.heap.size, 2, none⟩ = some v2 ∧ W.cell? ⟨w.heap.size, 3, none⟩ = some v3 ∧
      W.cell? ⟨w.heap.size, 4, none⟩ = some v4 ∧ W.cell? ⟨w.heap.size, 5, none⟩ = some v5 ∧ W.cell? ⟨w.heap.size, 6, none⟩ = some v6 ∧ W.cell? ⟨w.heap.size, 7, none⟩ = some v7 := by
  have k := Kept.of_below hb
  exact ⟨k _ _ (by simp [go_sem]), k _ _ (by simp [go_sem]), k _ _ (by simp [go_sem]), k _ _ (by simp [go_sem]), k _ _ (by simp [go_sem]), k _ _ (by simp [go_sem]), k _ _ (by simp [go_sem]), k _ _ (by simp [go_sem])⟩

def checkF (k s z zc ct : Int) (P Q : List (Int × Int)) : Int :=
  if kindE k s z ≠ 0 then kindE k s z else if sideE s z P ≠ 0 then sideE s z P else if sideE s z Q ≠ 0 then sideE s z Q else
  if zc + cnt (P ++ Q) ≤ 18446744073709551615 then (if zc + cnt (P ++ Q) = ct then 0 else 21) else 5
def ChkRel (s z : Int) (P Q : List (Int × Int)) (w0 : World) (i : Value) (wr : World) : Prop := ∃ k : Nat, k ≤ 2 ∧ i = .int .i64 k ∧ (1 ≤ k → sideE s z P = 0) ∧ (2 ≤ k → sideE s z Q = 0) ∧ Below w0.heap.size w0 wr

set_option maxHeartbeats 2000000 in
set_option maxRecDepth 100000 in
theorem check_any (k s z zc ct : Int) (sm : Value) (A B : Option Addr) (c d : Nat) (P Q : List (Int × Int)) (w : World) (z0 : 0 ≤ zc) (z1 : zc ≤ 18446744073709551615) (hP : Bk w A P) (hQ : Bk w B Q) :
    Calls Tryz.prog 25 #[.agg #[.int .i64 k, .int .i64 s, .int .i64 z, .int .u64 zc, .int .u64 ct, sm, .slice A P.length c, .slice B Q.length d]] w fun e w' => e = .returned (.int .i64 (checkF k s z zc ct P Q)) ∧ Below w.heap.size w w' := by
  have hb0 : Below w.heap.size w (w.alloc (.cells #[.int .i64 k, .int .i64 s, .int .i64 z, .int .u64 zc, .int .u64 ct, sm, .slice A P.length c, .slice B Q.length d] 39)) := (Below.refl _ _).alloc (Nat.le_refl _) _
  have HP := Lib.hid (hP.below hb0)
  have HQ := Lib.hid (hQ.below hb0)
  have HB0 := Lib.hid hb0
  clear hP hQ hb0
  by_cases hk : kindE k s z = 0
  · obtain ⟨_, R, _⟩ := kindE_zero hk
    have HK := Lib.hid hk
    have hk' : (kindE k s z != 0) = false := by simpa using hk
    clear hk
    go_enter Tryz.func25, Tryz.ntmps25
    go_wp2_with fail
    refine (kinds_any _ _ _ _ _ _ _ _ _).mono ?_
    rintro e w1 ⟨rfl, hb1⟩
    obtain ⟨c0, c1, c2, c3, c4, c5, c6, c7⟩ := hist_cells hb1
    have hlt := block_lt_of_cell c0
    simp only at hlt
    have HB1 := Lib.hid hb1
    clear hb1
    go_wp2_with fail
    refine (both_any _ _ _ _ _ _ _ _ _ _ _ _ _).mono ?_
    rintro e w2 ⟨rfl, hb2⟩
    have HB2 := Lib.hid (HB1.out.trans (hb2.mono HB1.out.size))
    clear hb2 c0 c1 c2 c3 c4 c5 c6 c7 hlt
    go_wp2_with fail
    go_loopw [16] (fun i wr => ChkRel s z P Q w2 i wr) (fun i _ => 2 - (intOf i).toNat)
    case atStart => exact ⟨0, by omega, rfl, by omega, by omega, Below.refl _ _⟩
    case round =>
      obtain ⟨j, hj, rfl, hg1, hg2, hb⟩ := hrel
      have HBr := Lib.hid (HB2.out.trans (hb.mono HB2.out.size))
      have HB := Lib.hid hb
      have HG := Lib.hid (And.intro hg1 hg2)
      obtain ⟨c0, c1, c2, c3, c4, c5, c6, c7⟩ := hist_cells HBr.out
      have hlt := block_lt_of_cell c0
      simp only at hlt
      clear hb hg1 hg2
      by_cases hlj : j < 2
      · obtain ⟨C, e, l, hix, hl, hwho⟩ := side_at A B P.length c Q.length d P Q j hlj rfl rfl (HP.out.below HBr.out) (HQ.out.below HBr.out)
        have hll := hl.1
        have HL := Lib.hid hl
        have HW := Lib.hid hwho
        have hji : (j : Int) < 2 := by omega
        clear hl hwho
        by_cases he : sideE s z l = 0
        · have he' : (sideE s z l != 0) = false := by simpa using he
          have HE := Lib.hid he
          clear he
          go_wp2_with fail
          refine (side_any _ _ _ _ _ _ _ _ _ _ _ _ R HL.out).mono ?_
          rintro e' w3 ⟨rfl, hb3⟩
          have HB3 := Lib.hid (HB.out.trans (hb3.mono HB.out.size))
          clear hb3
          go_wp2_with fail
          have HX := Lib.hid (show (1 ≤ j + 1 → sideE s z P = 0) ∧ (2 ≤ j + 1 → sideE s z Q = 0) by
            rcases HW.out with ⟨rfl, rfl⟩ | ⟨rfl, rfl⟩
            · exact ⟨fun _ => HE.out, fun h => by omega⟩
            · exact ⟨fun _ => HG.out.1 (by omega), fun _ => HE.out⟩)
          go_roundw
          case rel => exact ⟨j + 1, by omega, by go_num, HX.out.1, HX.out.2, HB3.out⟩
          case measure => simp [intOf]; omega
        · have he' : (sideE s z l != 0) = true := by simpa using he
          have HE := Lib.hid (show sideE s z l = checkF k s z zc ct P Q by
            unfold checkF
            rw [if_neg (by rw [HK.out]; simp)]
            rcases HW.out with ⟨rfl, rfl⟩ | ⟨rfl, rfl⟩
            · rw [if_pos he]
            · rw [if_neg (by rw [HG.out.1 (by omega)]; simp), if_pos he])
          clear he
          go_wp2_with fail
          refine (side_any _ _ _ _ _ _ _ _ _ _ _ _ R HL.out).mono ?_
          rintro e' w3 ⟨rfl, hb3⟩
          have HB3 := Lib.hid (HBr.out.trans (hb3.mono HBr.out.size))
          clear hb3
          go_wp2_with fail
          go_ret
          exact ⟨ret_i HE.out, HB0.out.trans (HB3.out.mono HB0.out.size)⟩
      · obtain rfl : j = 2 := by omega
        have HPr := Lib.hid (fun (dq : Nat) (osq : Array Obj) => (HP.out.below HBr.out).below (below_regrown wr dq osq))
        have HQr := Lib.hid (fun (dq : Nat) (osq : Array Obj) => (HQ.out.below HBr.out).below (below_regrown wr dq osq))
        have hji : ¬ (2 : Int) < 2 := by omega
        have HC := Lib.hid (show checkF k s z zc ct P Q = if zc + cnt (P ++ Q) ≤ 18446744073709551615 then (if zc + cnt (P ++ Q) = ct then 0 else 21) else 5 by
          unfold checkF
          rw [if_neg (by rw [HK.out]; simp), if_neg (by rw [HG.out.1 (by omega)]; simp), if_neg (by rw [HG.out.2 (by omega)]; simp)])
        by_cases hs : zc + cnt (P ++ Q) ≤ 18446744073709551615
        · have ht1 : totV zc (P ++ Q) = zc + cnt (P ++ Q) := by unfold totV; rw [if_pos hs]
          have ht2 : totE zc (P ++ Q) = 0 := by unfold totE; rw [if_pos hs]
          have ht2' : (totE zc (P ++ Q) != 0) = false := by rw [ht2]; rfl
          by_cases hct : zc + cnt (P ++ Q) = ct
          · have ht1' : (totV zc (P ++ Q) != ct) = false := by rw [ht1]; simpa using hct
            have HE := Lib.hid (show (0 : Int) = checkF k s z zc ct P Q by rw [HC.out, if_pos hs, if_pos hct])
            clear ht1 ht2 hs hct
            go_wp2_with fail
            have c0' := cell_regrown c0
            have c1' := cell_regrown c1
            have c2' := cell_regrown c2
            have c3' := cell_regrown c3
            have c4' := cell_regrown c4
            have c5' := cell_regrown c5
            have c6' := cell_regrown c6
            have c7' := cell_regrown c7
            refine wp_region_quiet_below (by kernel_rfl) (by kernel_rfl) ?_
            repeat (any_goals (first | go_big_quiet_step (first | (go_at_call 75; ((with_reducible exact Calls.regrown_of (both_any _ _ _ _ _ _ _ _ _ _ _ _ _)))) | (go_at_call 77; (with_reducible exact Calls.regrown_of (total_any _ _ _ _ _ _ _ _ z0 z1 (HPr.out _ _) (HQr.out _ _))))) | quiet_step (first | (go_at_call 75; ((with_reducible exact Calls.regrown_of (both_any _ _ _ _ _ _ _ _ _ _ _ _ _)))) | (go_at_call 77; (with_reducible exact Calls.regrown_of (total_any _ _ _ _ _ _ _ _ z0 z1 (HPr.out _ _) (HQr.out _ _)))))))
            refine wpQuiet_nil ?_
            intro _ hw'
            obtain ⟨⟨dq, osq⟩, hw''⟩ := hw'
            subst hw''
            have HB4 := Lib.hid (HBr.out.trans ((below_regrown wr dq osq).mono HBr.out.size))
            have g4 := c4' dq osq
            clear c0' c1' c2' c3' c4' c5' c6' c7'
            generalize grow (redrawn wr dq) osq = w4 at *
            go_wp2_with fail
            go_ret
            exact ⟨ret_i HE.out, HB0.out.trans (HB4.out.mono HB0.out.size)⟩
          · have ht1' : (totV zc (P ++ Q) != ct) = true := by rw [ht1]; simpa using hct
            have HE := Lib.hid (show (21 : Int) = checkF k s z zc ct P Q by rw [HC.out, if_pos hs, if_neg hct])
            clear ht1 ht2 hs hct
            go_wp2_with fail
            have c0' := cell_regrown c0
            have c1' := cell_regrown c1
            have c2' := cell_regrown c2
            have c3' := cell_regrown c3
            have c4' := cell_regrown c4
            have c5' := cell_regrown c5
            have c6' := cell_regrown c6
            have c7' := cell_regrown c7
            refine wp_region_quiet_below (by kernel_rfl) (by kernel_rfl) ?_
            repeat (any_goals (first | go_big_quiet_step (first | (go_at_call 75; ((with_reducible exact Calls.regrown_of (both_any _ _ _ _ _ _ _ _ _ _ _ _ _)))) | (go_at_call 77; (with_reducible exact Calls.regrown_of (total_any _ _ _ _ _ _ _ _ z0 z1 (HPr.out _ _) (HQr.out _ _))))) | quiet_step (first | (go_at_call 75; ((with_reducible exact Calls.regrown_of (both_any _ _ _ _ _ _ _ _ _ _ _ _ _)))) | (go_at_call 77; (with_reducible exact Calls.regrown_of (total_any _ _ _ _ _ _ _ _ z0 z1 (HPr.out _ _) (HQr.out _ _)))))))
            refine wpQuiet_nil ?_
            intro _ hw'
            obtain ⟨⟨dq, osq⟩, hw''⟩ := hw'
            subst hw''
            have HB4 := Lib.hid (HBr.out.trans ((below_regrown wr dq osq).mono HBr.out.size))
            have g4 := c4' dq osq
            clear c0' c1' c2' c3' c4' c5' c6' c7'
            generalize grow (redrawn wr dq) osq = w4 at *
            go_wp2_with fail
            go_ret
            exact ⟨ret_i HE.out, HB0.out.trans (HB4.out.mono HB0.out.size)⟩
        · have ht2 : totE zc (P ++ Q) = 5 := by unfold totE; rw [if_neg hs]
          have ht2' : (totE zc (P ++ Q) != 0) = true := by rw [ht2]; rfl
          have HE := Lib.hid (show totE zc (P ++ Q) = checkF k s z zc ct P Q by rw [HC.out, if_neg hs, ht2])
          clear ht2 hs
          go_wp2_with fail
          have c0' := cell_regrown c0
          have c1' := cell_regrown c1
          have c2' := cell_regrown c2
          have c3' := cell_regrown c3
          have c4' := cell_regrown c4
          have c5' := cell_regrown c5
          have c6' := cell_regrown c6
          have c7' := cell_regrown c7
          refine wp_region_quiet_below (by kernel_rfl) (by kernel_rfl) ?_
          repeat (any_goals (first | go_big_quiet_step (first | (go_at_call 75; ((with_reducible exact Calls.regrown_of (both_any _ _ _ _ _ _ _ _ _ _ _ _ _)))) | (go_at_call 77; (with_reducible exact Calls.regrown_of (total_any _ _ _ _ _ _ _ _ z0 z1 (HPr.out _ _) (HQr.out _ _))))) | quiet_step (first | (go_at_call 75; ((with_reducible exact Calls.regrown_of (both_any _ _ _ _ _ _ _ _ _ _ _ _ _)))) | (go_at_call 77; (with_reducible exact Calls.regrown_of (total_any _ _ _ _ _ _ _ _ z0 z1 (HPr.out _ _) (HQr.out _ _)))))))
          refine wpQuiet_nil ?_
          intro _ hw'
          obtain ⟨⟨dq, osq⟩, hw''⟩ := hw'
          subst hw''
          have HB4 := Lib.hid (HBr.out.trans ((below_regrown wr dq osq).mono HBr.out.size))
          have g4 := c4' dq osq
          clear c0' c1' c2' c3' c4' c5' c6' c7'
          generalize grow (redrawn wr dq) osq = w4 at *
          go_wp2_with fail
          go_ret
          exact ⟨ret_i HE.out, HB0.out.trans (HB4.out.mono HB0.out.size)⟩
  · have hk' : (kindE k s z != 0) = true := by simpa using hk
    have HE := Lib.hid (show kindE k s z = checkF k s z zc ct P Q by unfold checkF; rw [if_pos hk])
    clear hk
    go_enter Tryz.func25, Tryz.ntmps25
    go_wp2_with fail
    refine (kinds_any _ _ _ _ _ _ _ _ _).mono ?_
    rintro e w1 ⟨rfl, hb1⟩
    have HB1 := Lib.hid hb1
    clear hb1
    go_wp2_with fail
    go_ret
    exact ⟨ret_i HE.out, HB0.out.trans (HB1.out.mono HB0.out.size)⟩
end Go.Proofs.YtjnienlidmmhdaaGreatDoor
