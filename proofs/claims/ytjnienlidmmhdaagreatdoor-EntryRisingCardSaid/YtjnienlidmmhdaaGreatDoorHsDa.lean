/- The contract of what is wrong with a side of a histogram. -/
import Derived.Test.YtjnienlidmmhdaaGreatDoorHsD
namespace Go.Proofs.YtjnienlidmmhdaaGreatDoor
open Go.RowKit Go.Sort
set_option linter.unusedVariables false

theorem ret_i {a b : Int} (h : a = b) : Ending.returned (.int .i64 a) = .returned (.int .i64 b) := by rw [h]
def SideRel (s z : Int) (l : List (Int × Int)) (w0 : World) (i : Value) (wr : World) : Prop := ∃ j : Nat, j ≤ l.length ∧ i = .int .i64 j ∧ walkE s z none l = walkE s z (prevO l j) (l.drop j) ∧ Below w0.heap.size w0 wr
set_option maxHeartbeats 2000000 in
set_option maxRecDepth 100000 in
theorem side_any (s z : Int) (v0 v3 v4 v5 v6 v7 : Value) (A : Option Addr) (c : Nat) (l : List (Int × Int)) (w : World) (R : rightB s = true) (hl : Bk w A l) :
    Calls Tryz.prog 76 #[.agg #[v0, .int .i64 s, .int .i64 z, v3, v4, v5, v6, v7], .slice A l.length c] w fun e w' => e = .returned (.int .i64 (sideE s z l)) ∧ Below w.heap.size w w' := by
  have hll := hl.1
  obtain ⟨w0, hw0⟩ : ∃ w0, w.alloc (.cells #[v0, .int .i64 s, .int .i64 z, v3, v4, v5, v6, v7] 39) = w0 := ⟨_, rfl⟩
  have hb0 : Below w.heap.size w w0 := by rw [← hw0]; exact (Below.refl _ _).alloc (Nat.le_refl _) _
  have k1 : w0.cell? ⟨w.heap.size, 1, none⟩ = some (.int .i64 s) := by rw [← hw0]; simp [go_sem]
  have k2 : w0.cell? ⟨w.heap.size, 2, none⟩ = some (.int .i64 z) := by rw [← hw0]; simp [go_sem]
  have HL := Lib.hid (hl.below hb0)
  have HB0 := Lib.hid hb0
  clear hl hb0
  by_cases hbig : 512 < l.length
  · have HE := Lib.hid (show (9 : Int) = sideE s z l by unfold sideE; rw [if_pos hbig])
    go_enter Tryz.func76, Tryz.ntmps76
    go_wp2_with fail
    go_ret
    exact ⟨ret_i HE.out, HB0.out⟩
  · have HE := Lib.hid (show walkE s z none l = sideE s z l by unfold sideE; rw [if_neg hbig])
    go_enter Tryz.func76, Tryz.ntmps76
    go_wp2_with fail
    try rw [hw0]
    clear hw0
    go_loopw [12] (fun i wr => SideRel s z l w0 i wr) (fun i _ => l.length - (intOf i).toNat)
    case atStart => exact ⟨0, by omega, rfl, by simp [prevO], Below.refl _ _⟩
    case round =>
      obtain ⟨j, hj, rfl, hwalk, hb⟩ := hrel
      have HW := Lib.hid hwalk
      have HB := Lib.hid hb
      clear hwalk hb
      have k1' := Kept.of_below HB.out _ _ k1
      have k2' := Kept.of_below HB.out _ _ k2
      have hlt := block_lt_of_cell k2'
      simp only at hlt
      by_cases hlj : j < l.length
      · obtain ⟨b', off', rfl, hc'⟩ := (HL.out.below HB.out).some_ (by omega)
        obtain ⟨p, hp⟩ := getElem?_lt hlj
        obtain ⟨q1, q2⟩ := hc' j p hp
        obtain ⟨w1, w2, w3, w4⟩ := HL.out.2.1 p (mem_of_at hp)
        have HN := Lib.hid (walk_step (s := s) (z := z) hp)
        have hji : (j : Int) < (l.length : Int) := by omega
        rcases hi : inB s p.1 with _ | _
        · have HX := Lib.hid (show (4 : Int) = walkE s z none l by
            rw [HW.out, HN.out]; unfold bktE; rw [hi]; simp)
          obtain ⟨pi, pc⟩ := p
          simp only at q1 q2 w1 w2 w3 w4 hi
          clear hc' hp HN
          go_wp2_with (go_at_call 134; refine (in_any _ _ _).mono ?_; rintro e w' ⟨rfl, rfl⟩)
          go_ret
          exact ⟨ret_i (HX.out.trans HE.out), (HB0.out.trans (HB.out.mono HB0.out.size)).alloc (Nat.le_trans HB0.out.size HB.out.size) _⟩
        · have HI := Lib.hid hi
          obtain ⟨i1, i2⟩ := in_bd hi
          have hun := un_bd (i := p.1 - 1) R 262145 (by omega) (by omega)
          by_cases h0 : j = 0
          · subst h0
            obtain ⟨pi, pc⟩ := p
            simp only at q1 q2 w1 w2 w3 w4 hi i1 i2 hun
            have hg : ¬ (0 : Int) < 0 := by omega
            simp only [Nat.zero_mul, Nat.add_zero] at q1 q2
            by_cases h2 : pc = 0
            · have d2 : (pc == 0) = true := by simpa using h2
              have HX := Lib.hid (show (21 : Int) = walkE s z none l by
                rw [HW.out, HN.out]; unfold bktE; simp only [hi, prevO]; simp [h2])
              clear hc' hp HN h2
              go_wp2_with (go_at_call 134; refine (in_any _ _ _).mono ?_; rintro e w' ⟨rfl, rfl⟩)
              go_quiet (fail)
              go_wp2_with fail
              go_ret
              exact ⟨ret_i (HX.out.trans HE.out), by (repeat apply below_drewN); exact (HB0.out.trans (HB.out.mono HB0.out.size)).alloc (Nat.le_trans HB0.out.size HB.out.size) _⟩
            · have d2 : (pc == 0) = false := by simpa using h2
              by_cases h3 : un s (pi - 1) < z
              · have d3 : decide (un s (pi - 1) < z) = true := by simpa using h3
                have HX := Lib.hid (show (31 : Int) = walkE s z none l by
                  rw [HW.out, HN.out]; unfold bktE; simp only [hi, prevO]; simp [h2, h3])
                clear hc' hp HN h2 h3
                go_wp2_with (go_at_call 134; refine (in_any _ _ _).mono ?_; rintro e w' ⟨rfl, rfl⟩)
                go_quiet (fail)
                go_wp2_with fail
                go_quiet ((go_at_call 135; first | exact stays rfl (low_yes _ _ _ R (by omega) (by omega) (by omega) (by omega)) | exact stays rfl (low_yes _ _ _ R (by omega) (by omega) (by omega) (by omega))))
                go_wp2_with fail
                go_ret
                exact ⟨ret_i (HX.out.trans HE.out), by (repeat apply below_drewN); exact (HB0.out.trans (HB.out.mono HB0.out.size)).alloc (Nat.le_trans HB0.out.size HB.out.size) _⟩
              · have d3 : decide (un s (pi - 1) < z) = false := by simpa using h3
                have HX := Lib.hid (show walkE s z none l = walkE s z (prevO l (0 + 1)) (l.drop (0 + 1)) by
                  rw [HW.out, HN.out]; unfold bktE; simp only [hi, prevO]; simp [h2, h3])
                clear hc' hp HN h2 h3
                go_wp2_with (go_at_call 134; refine (in_any _ _ _).mono ?_; rintro e w' ⟨rfl, rfl⟩)
                go_quiet (fail)
                go_wp2_with fail
                go_quiet ((go_at_call 135; first | exact stays rfl (low_yes _ _ _ R (by omega) (by omega) (by omega) (by omega)) | exact stays rfl (low_yes _ _ _ R (by omega) (by omega) (by omega) (by omega))))
                go_wp2_with fail
                go_roundw
                case rel => exact ⟨0 + 1, by omega, by rfl, HX.out, by (repeat apply below_drewN); exact HB.out.alloc HB.out.size _⟩
                case measure => simp [intOf]; omega
          · obtain ⟨m, rfl⟩ : ∃ m, j = m + 1 := ⟨j - 1, by omega⟩
            obtain ⟨q, hq⟩ := getElem?_lt (l := l) (k := m) (by omega)
            obtain ⟨q3, q4⟩ := hc' m q hq
            have hpo : prevO l (m + 1) = some q.1 := by simp [prevO, hq]
            have q5 : -9223372036854775808 ≤ q.1 ∧ q.1 ≤ 9223372036854775807 := ⟨(HL.out.2.1 q (mem_of_at hq)).1, (HL.out.2.1 q (mem_of_at hq)).2.1⟩
            have hg : (0 : Int) < (m : Int) + 1 := by omega
            have hmi : (m : Int) < (l.length : Int) := by omega
            have hb' := block_lt_of_cell q3
            simp only at hb'
            obtain ⟨pi, pc⟩ := p
            obtain ⟨qi, qc⟩ := q
            simp only at q1 q2 q3 q4 q5 w1 w2 w3 w4 hi i1 i2 hun hpo
            by_cases h1 : pi ≤ qi
            · have d1 : decide (pi ≤ qi) = true := by simpa using h1
              have HX := Lib.hid (show (32 : Int) = walkE s z none l by
                rw [HW.out, HN.out]; unfold bktE; rw [hpo]; simp only [hi]; simp [h1])
              clear hc' hp hq HN hpo h1
              go_wp2_with (go_at_call 134; refine (in_any _ _ _).mono ?_; rintro e w' ⟨rfl, rfl⟩)
              go_quiet (fail)
              go_wp2_with fail
              go_ret
              exact ⟨ret_i (HX.out.trans HE.out), by (repeat apply below_drewN); exact (HB0.out.trans (HB.out.mono HB0.out.size)).alloc (Nat.le_trans HB0.out.size HB.out.size) _⟩
            · have d1 : decide (pi ≤ qi) = false := by simpa using h1
              by_cases h2 : pc = 0
              · have d2 : (pc == 0) = true := by simpa using h2
                have HX := Lib.hid (show (21 : Int) = walkE s z none l by
                  rw [HW.out, HN.out]; unfold bktE; rw [hpo]; simp only [hi]; simp [h1, h2])
                clear hc' hp hq hpo h1 HN h2
                go_wp2_with (go_at_call 134; refine (in_any _ _ _).mono ?_; rintro e w' ⟨rfl, rfl⟩)
                go_quiet (fail)
                go_wp2_with fail
                go_ret
                exact ⟨ret_i (HX.out.trans HE.out), by (repeat apply below_drewN); exact (HB0.out.trans (HB.out.mono HB0.out.size)).alloc (Nat.le_trans HB0.out.size HB.out.size) _⟩
              · have d2 : (pc == 0) = false := by simpa using h2
                by_cases h3 : un s (pi - 1) < z
                · have d3 : decide (un s (pi - 1) < z) = true := by simpa using h3
                  have HX := Lib.hid (show (31 : Int) = walkE s z none l by
                    rw [HW.out, HN.out]; unfold bktE; rw [hpo]; simp only [hi]; simp [h1, h2, h3])
                  clear hc' hp hq hpo h1 HN h2 h3
                  go_wp2_with (go_at_call 134; refine (in_any _ _ _).mono ?_; rintro e w' ⟨rfl, rfl⟩)
                  go_quiet (fail)
                  go_wp2_with fail
                  go_quiet ((go_at_call 135; first | exact stays rfl (low_yes _ _ _ R (by omega) (by omega) (by omega) (by omega)) | exact stays rfl (low_yes _ _ _ R (by omega) (by omega) (by omega) (by omega))))
                  go_wp2_with fail
                  go_ret
                  exact ⟨ret_i (HX.out.trans HE.out), by (repeat apply below_drewN); exact (HB0.out.trans (HB.out.mono HB0.out.size)).alloc (Nat.le_trans HB0.out.size HB.out.size) _⟩
                · have d3 : decide (un s (pi - 1) < z) = false := by simpa using h3
                  have HX := Lib.hid (show walkE s z none l = walkE s z (prevO l ((m + 1) + 1)) (l.drop ((m + 1) + 1)) by
                    rw [HW.out, HN.out]; unfold bktE; rw [hpo]; simp only [hi]; simp [h1, h2, h3])
                  clear hc' hp hq hpo h1 HN h2 h3
                  go_wp2_with (go_at_call 134; refine (in_any _ _ _).mono ?_; rintro e w' ⟨rfl, rfl⟩)
                  go_quiet (fail)
                  go_wp2_with fail
                  go_quiet ((go_at_call 135; first | exact stays rfl (low_yes _ _ _ R (by omega) (by omega) (by omega) (by omega)) | exact stays rfl (low_yes _ _ _ R (by omega) (by omega) (by omega) (by omega))))
                  go_wp2_with fail
                  go_roundw
                  case rel => exact ⟨m + 1 + 1, by omega, by go_num, HX.out, by (repeat apply below_drewN); exact HB.out.alloc HB.out.size _⟩
                  case measure => simp [intOf]; omega
      · obtain rfl : j = l.length := by omega
        have hji : ¬ ((l.length : Int) < (l.length : Int)) := by omega
        have HX := Lib.hid (show (0 : Int) = walkE s z none l by rw [HW.out, List.drop_length]; rfl)
        go_wp2_with fail
        go_ret
        exact ⟨ret_i (HX.out.trans HE.out), HB0.out.trans (HB.out.mono HB0.out.size)⟩
end Go.Proofs.YtjnienlidmmhdaaGreatDoor
