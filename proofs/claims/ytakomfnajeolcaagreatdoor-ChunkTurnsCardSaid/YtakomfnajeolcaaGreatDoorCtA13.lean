import Derived.Test.YtakomfnajeolcaaGreatDoorCtA12
import Derived.Deep.Cut
import Derived.Deep.RegionLaw
import Derived.Maps.Ext
import Derived.Maps.RangeWalk
set_option linter.unusedVariables false
/- The contract of what is wrong with a side of a histogram. -/
namespace Go.Proofs.YtakomfnajeolcaaGreatDoor
open Go.RowKit Go.Sort
set_option linter.unusedVariables false

theorem ret_i {a b : Int} (h : a = b) : Ending.returned (.int .i64 a) = .returned (.int .i64 b) := by rw [h]
def SideRel (s z : Int) (l : List (Int × Int)) (w0 : World) (i : Value) (wr : World) : Prop := ∃ j : Nat, j ≤ l.length ∧ i = .int .i64 j ∧ walkE s z none l = walkE s z (prevO l j) (l.drop j) ∧ Below w0.heap.size w0 wr
set_option maxHeartbeats 2000000 in
set_option maxRecDepth 100000 in
theorem side_any (s z : Int) (v0 v3 v4 v5 v6 v7 : Value) (A : Option Addr) (c : Nat) (l : List (Int × Int)) (w : World) (R : rightB s = true) (hl : Bk w A l) :
    Calls Tryz.prog 51 #[.agg #[v0, .int .i64 s, .int .i64 z, v3, v4, v5, v6, v7], .slice A l.length c] w fun e w' => e = .returned (.int .i64 (sideE s z l)) ∧ Below w.heap.size w w' := by
  have hll := hl.1
  obtain ⟨w0, hw0⟩ : ∃ w0, w.alloc (.cells #[v0, .int .i64 s, .int .i64 z, v3, v4, v5, v6, v7] 39) = w0 := ⟨_, rfl⟩
  have hb0 : Below w.heap.size w w0 := by rw [← hw0]; exact (Below.refl _ _).alloc (Nat.le_refl _) _
  have k1 : w0.cell? ⟨w.heap.size, 1, none⟩ = some (.int .i64 s) := by rw [← hw0]; simp [go_sem]
  have k2 : w0.cell? ⟨w.heap.size, 2, none⟩ = some (.int .i64 z) := by rw [← hw0]; simp [go_sem]
  have HL := Lib.hid (hl.below hb0)
  have HB0 := Lib.hid hb0
  clear hl hb0
  by_cases hbig : 512 < l.length
  · have HE := Lib.hid (show (9 : Int) = sideE s z l by unfold sideE; rw [if_pos hbig])
    go_enter Tryz.func51, Tryz.ntmps51
    go_wp2_with fail
    go_ret
    exact ⟨ret_i HE.out, HB0.out⟩
  · have HE := Lib.hid (show walkE s z none l = sideE s z l by unfold sideE; rw [if_neg hbig])
    go_enter Tryz.func51, Tryz.ntmps51
    go_wp2_with fail
    try rw [hw0]
    clear hw0
    go_loopw [12] (fun i wr => SideRel s z l w0 i wr) (fun i _ => l.length - (intOf i).toNat)
    case atStart => exact ⟨0, by omega, rfl, by simp [prevO], Below.refl _ _⟩
    case round =>
      obtain ⟨j, hj, rfl, hwalk, hb⟩ := hrel
      have HW := Lib.hid hwalk
      have HB := Lib.hid hb
      clear hwalk hb
      have k1' := Kept.of_below HB.out _ _ k1
      have k2' := Kept.of_below HB.out _ _ k2
      have hlt := block_lt_of_cell k2'
      simp only at hlt
      by_cases hlj : j < l.length
      · obtain ⟨b', off', rfl, hc'⟩ := (HL.out.below HB.out).some_ (by omega)
        obtain ⟨p, hp⟩ := getElem?_lt hlj
        obtain ⟨q1, q2⟩ := hc' j p hp
        obtain ⟨w1, w2, w3, w4⟩ := HL.out.2.1 p (mem_of_at hp)
        have HN := Lib.hid (walk_step (s := s) (z := z) hp)
        have hji : (j : Int) < (l.length : Int) := by omega
        rcases hi : inB s p.1 with _ | _
        · have HX := Lib.hid (show (4 : Int) = walkE s z none l by
            rw [HW.out, HN.out]; unfold bktE; rw [hi]; simp)
          obtain ⟨pi, pc⟩ := p
          simp only at q1 q2 w1 w2 w3 w4 hi
          clear hc' hp HN
          go_wp2_with (go_at_call 84; refine (in_any _ _ _).mono ?_; rintro e w' ⟨rfl, rfl⟩)
          go_ret
          exact ⟨ret_i (HX.out.trans HE.out), (HB0.out.trans (HB.out.mono HB0.out.size)).alloc (Nat.le_trans HB0.out.size HB.out.size) _⟩
        · have HI := Lib.hid hi
          obtain ⟨i1, i2⟩ := in_bd hi
          have hun := un_bd (i := p.1 - 1) R 262145 (by omega) (by omega)
          by_cases h0 : j = 0
          · subst h0
            obtain ⟨pi, pc⟩ := p
            simp only at q1 q2 w1 w2 w3 w4 hi i1 i2 hun
            have hg : ¬ (0 : Int) < 0 := by omega
            simp only [Nat.zero_mul, Nat.add_zero] at q1 q2
            by_cases h2 : pc = 0
            · have d2 : (pc == 0) = true := by simpa using h2
              have HX := Lib.hid (show (21 : Int) = walkE s z none l by
                rw [HW.out, HN.out]; unfold bktE; simp only [hi, prevO]; simp [h2])
              clear hc' hp HN h2
              go_wp2_with (go_at_call 84; refine (in_any _ _ _).mono ?_; rintro e w' ⟨rfl, rfl⟩)
              go_quiet (fail)
              go_wp2_with fail
              go_ret
              exact ⟨ret_i (HX.out.trans HE.out), by (repeat apply below_drewN); exact (HB0.out.trans (HB.out.mono HB0.out.size)).alloc (Nat.le_trans HB0.out.size HB.out.size) _⟩
            · have d2 : (pc == 0) = false := by simpa using h2
              by_cases h3 : un s (pi - 1) < z
              · have d3 : decide (un s (pi - 1) < z) = true := by simpa using h3
                have HX := Lib.hid (show (31 : Int) = walkE s z none l by
                  rw [HW.out, HN.out]; unfold bktE; simp only [hi, prevO]; simp [h2, h3])
                clear hc' hp HN h2 h3
                go_wp2_with (go_at_call 84; refine (in_any _ _ _).mono ?_; rintro e w' ⟨rfl, rfl⟩)
                go_quiet (fail)
                go_wp2_with fail
                go_quiet ((go_at_call 85; first | exact stays rfl (low_yes _ _ _ R (by omega) (by omega) (by omega) (by omega)) | exact stays rfl (low_yes _ _ _ R (by omega) (by omega) (by omega) (by omega))))
                go_wp2_with fail
                go_ret
                exact ⟨ret_i (HX.out.trans HE.out), by (repeat apply below_drewN); exact (HB0.out.trans (HB.out.mono HB0.out.size)).alloc (Nat.le_trans HB0.out.size HB.out.size) _⟩
              · have d3 : decide (un s (pi - 1) < z) = false := by simpa using h3
                have HX := Lib.hid (show walkE s z none l = walkE s z (prevO l (0 + 1)) (l.drop (0 + 1)) by
                  rw [HW.out, HN.out]; unfold bktE; simp only [hi, prevO]; simp [h2, h3])
                clear hc' hp HN h2 h3
                go_wp2_with (go_at_call 84; refine (in_any _ _ _).mono ?_; rintro e w' ⟨rfl, rfl⟩)
                go_quiet (fail)
                go_wp2_with fail
                go_quiet ((go_at_call 85; first | exact stays rfl (low_yes _ _ _ R (by omega) (by omega) (by omega) (by omega)) | exact stays rfl (low_yes _ _ _ R (by omega) (by omega) (by omega) (by omega))))
                go_wp2_with fail
                go_roundw
                case rel => exact ⟨0 + 1, by omega, by rfl, HX.out, by (repeat apply below_drewN); exact HB.out.alloc HB.out.size _⟩
                case measure => simp [intOf]; omega
          · obtain ⟨m, rfl⟩ : ∃ m, j = m + 1 := ⟨j - 1, by omega⟩
            obtain ⟨q, hq⟩ := getElem?_lt (l := l) (k := m) (by omega)
            obtain ⟨q3, q4⟩ := hc' m q hq
            have hpo : prevO l (m + 1) = some q.1 := by simp [prevO, hq]
            have q5 : -9223372036854775808 ≤ q.1 ∧ q.1 ≤ 9223372036854775807 := ⟨(HL.out.2.1 q (mem_of_at hq)).1, (HL.out.2.1 q (mem_of_at hq)).2.1⟩
            have hg : (0 : Int) < (m : Int) + 1 := by omega
            have hmi : (m : Int) < (l.length : Int) := by omega
            have hb' := block_lt_of_cell q3
            simp only at hb'
            obtain ⟨pi, pc⟩ := p
            obtain ⟨qi, qc⟩ := q
            simp only at q1 q2 q3 q4 q5 w1 w2 w3 w4 hi i1 i2 hun hpo
            by_cases h1 : pi ≤ qi
            · have d1 : decide (pi ≤ qi) = true := by simpa using h1
              have HX := Lib.hid (show (32 : Int) = walkE s z none l by
                rw [HW.out, HN.out]; unfold bktE; rw [hpo]; simp only [hi]; simp [h1])
              clear hc' hp hq HN hpo h1
              go_wp2_with (go_at_call 84; refine (in_any _ _ _).mono ?_; rintro e w' ⟨rfl, rfl⟩)
              go_quiet (fail)
              go_wp2_with fail
              go_ret
              exact ⟨ret_i (HX.out.trans HE.out), by (repeat apply below_drewN); exact (HB0.out.trans (HB.out.mono HB0.out.size)).alloc (Nat.le_trans HB0.out.size HB.out.size) _⟩
            · have d1 : decide (pi ≤ qi) = false := by simpa using h1
              by_cases h2 : pc = 0
              · have d2 : (pc == 0) = true := by simpa using h2
                have HX := Lib.hid (show (21 : Int) = walkE s z none l by
                  rw [HW.out, HN.out]; unfold bktE; rw [hpo]; simp only [hi]; simp [h1, h2])
                clear hc' hp hq hpo h1 HN h2
                go_wp2_with (go_at_call 84; refine (in_any _ _ _).mono ?_; rintro e w' ⟨rfl, rfl⟩)
                go_quiet (fail)
                go_wp2_with fail
                go_ret
                exact ⟨ret_i (HX.out.trans HE.out), by (repeat apply below_drewN); exact (HB0.out.trans (HB.out.mono HB0.out.size)).alloc (Nat.le_trans HB0.out.size HB.out.size) _⟩
              · have d2 : (pc == 0) = false := by simpa using h2
                by_cases h3 : un s (pi - 1) < z
                · have d3 : decide (un s (pi - 1) < z) = true := by simpa using h3
                  have HX := Lib.hid (show (31 : Int) = walkE s z none l by
                    rw [HW.out, HN.out]; unfold bktE; rw [hpo]; simp only [hi]; simp [h1, h2, h3])
                  clear hc' hp hq hpo h1 HN h2 h3
                  go_wp2_with (go_at_call 84; refine (in_any _ _ _).mono ?_; rintro e w' ⟨rfl, rfl⟩)
                  go_quiet (fail)
                  go_wp2_with fail
                  go_quiet ((go_at_call 85; first | exact stays rfl (low_yes _ _ _ R (by omega) (by omega) (by omega) (by omega)) | exact stays rfl (low_yes _ _ _ R (by omega) (by omega) (by omega) (by omega))))
                  go_wp2_with fail
                  go_ret
                  exact ⟨ret_i (HX.out.trans HE.out), by (repeat apply below_drewN); exact (HB0.out.trans (HB.out.mono HB0.out.size)).alloc (Nat.le_trans HB0.out.size HB.out.size) _⟩
                · have d3 : decide (un s (pi - 1) < z) = false := by simpa using h3
                  have HX := Lib.hid (show walkE s z none l = walkE s z (prevO l ((m + 1) + 1)) (l.drop ((m + 1) + 1)) by
                    rw [HW.out, HN.out]; unfold bktE; rw [hpo]; simp only [hi]; simp [h1, h2, h3])
                  clear hc' hp hq hpo h1 HN h2 h3
                  go_wp2_with (go_at_call 84; refine (in_any _ _ _).mono ?_; rintro e w' ⟨rfl, rfl⟩)
                  go_quiet (fail)
                  go_wp2_with fail
                  go_quiet ((go_at_call 85; first | exact stays rfl (low_yes _ _ _ R (by omega) (by omega) (by omega) (by omega)) | exact stays rfl (low_yes _ _ _ R (by omega) (by omega) (by omega) (by omega))))
                  go_wp2_with fail
                  go_roundw
                  case rel => exact ⟨m + 1 + 1, by omega, by go_num, HX.out, by (repeat apply below_drewN); exact HB.out.alloc HB.out.size _⟩
                  case measure => simp [intOf]; omega
      · obtain rfl : j = l.length := by omega
        have hji : ¬ ((l.length : Int) < (l.length : Int)) := by omega
        have HX := Lib.hid (show (0 : Int) = walkE s z none l by rw [HW.out, List.drop_length]; rfl)
        go_wp2_with fail
        go_ret
        exact ⟨ret_i (HX.out.trans HE.out), HB0.out.trans (HB.out.mono HB0.out.size)⟩
end Go.Proofs.YtakomfnajeolcaaGreatDoor


/- The contract of what is wrong with a histogram, whole. -/
namespace Go.Proofs.YtakomfnajeolcaaGreatDoor
open Go.RowKit Go.Sort
set_option linter.unusedVariables false

/-- the eight cells of a histogram that the call laid -/
theorem hist_cells {w W : World} {v0 v1 v2 v3 v4 v5 v6 v7 : Value} (hb : Below (w.alloc (.cells #[v0, v1, v2, v3, v4, v5, v6, v7] 39)).heap.size (w.alloc (.cells #[v0, v1, v2, v3, v4, v5, v6, v7] 39)) W) :
    W.cell? ⟨w.heap.size, 0, none⟩ = some v0 ∧ W.cell? ⟨w.heap.size, 1, none⟩ = some v1 ∧ W.cell? ⟨w.heap.size, 2, none⟩ = some v2 ∧ W.cell? ⟨w.heap.size, 3, none⟩ = some v3 ∧
      W.cell? ⟨w.heap.size, 4, none⟩ = some v4 ∧ W.cell? ⟨w.heap.size, 5, none⟩ = some v5 ∧ W.cell? ⟨w.heap.size, 6, none⟩ = some v6 ∧ W.cell? ⟨w.heap.size, 7, none⟩ = some v7 := by
  have k := Kept.of_below hb
  exact ⟨k _ _ (by simp [go_sem]), k _ _ (by simp [go_sem]), k _ _ (by simp [go_sem]), k _ _ (by simp [go_sem]), k _ _ (by simp [go_sem]), k _ _ (by simp [go_sem]), k _ _ (by simp [go_sem]), k _ _ (by simp [go_sem])⟩

def checkF (k s z zc ct : Int) (P Q : List (Int × Int)) : Int :=
  if kindE k s z ≠ 0 then kindE k s z else if sideE s z P ≠ 0 then sideE s z P else if sideE s z Q ≠ 0 then sideE s z Q else
  if zc + cnt (P ++ Q) ≤ 18446744073709551615 then (if zc + cnt (P ++ Q) = ct then 0 else 21) else 5
def ChkRel (s z : Int) (P Q : List (Int × Int)) (w0 : World) (i : Value) (wr : World) : Prop := ∃ k : Nat, k ≤ 2 ∧ i = .int .i64 k ∧ (1 ≤ k → sideE s z P = 0) ∧ (2 ≤ k → sideE s z Q = 0) ∧ Below w0.heap.size w0 wr

set_option maxHeartbeats 2000000 in
set_option maxRecDepth 100000 in
theorem check_any (k s z zc ct : Int) (sm : Value) (A B : Option Addr) (c d : Nat) (P Q : List (Int × Int)) (w : World) (z0 : 0 ≤ zc) (z1 : zc ≤ 18446744073709551615) (hP : Bk w A P) (hQ : Bk w B Q) :
    Calls Tryz.prog 20 #[.agg #[.int .i64 k, .int .i64 s, .int .i64 z, .int .u64 zc, .int .u64 ct, sm, .slice A P.length c, .slice B Q.length d]] w fun e w' => e = .returned (.int .i64 (checkF k s z zc ct P Q)) ∧ Below w.heap.size w w' := by
  have hb0 : Below w.heap.size w (w.alloc (.cells #[.int .i64 k, .int .i64 s, .int .i64 z, .int .u64 zc, .int .u64 ct, sm, .slice A P.length c, .slice B Q.length d] 39)) := (Below.refl _ _).alloc (Nat.le_refl _) _
  have HP := Lib.hid (hP.below hb0)
  have HQ := Lib.hid (hQ.below hb0)
  have HB0 := Lib.hid hb0
  clear hP hQ hb0
  by_cases hk : kindE k s z = 0
  · obtain ⟨_, R, _⟩ := kindE_zero hk
    have HK := Lib.hid hk
    have hk' : (kindE k s z != 0) = false := by simpa using hk
    clear hk
    go_enter Tryz.func20, Tryz.ntmps20
    go_wp2_with fail
    refine (kinds_any _ _ _ _ _ _ _ _ _).mono ?_
    rintro e w1 ⟨rfl, hb1⟩
    obtain ⟨c0, c1, c2, c3, c4, c5, c6, c7⟩ := hist_cells hb1
    have hlt := block_lt_of_cell c0
    simp only at hlt
    have HB1 := Lib.hid hb1
    clear hb1
    go_wp2_with fail
    refine (both_any _ _ _ _ _ _ _ _ _ _ _ _ _).mono ?_
    rintro e w2 ⟨rfl, hb2⟩
    have HB2 := Lib.hid (HB1.out.trans (hb2.mono HB1.out.size))
    clear hb2 c0 c1 c2 c3 c4 c5 c6 c7 hlt
    go_wp2_with fail
    go_loopw [16] (fun i wr => ChkRel s z P Q w2 i wr) (fun i _ => 2 - (intOf i).toNat)
    case atStart => exact ⟨0, by omega, rfl, by omega, by omega, Below.refl _ _⟩
    case round =>
      obtain ⟨j, hj, rfl, hg1, hg2, hb⟩ := hrel
      have HBr := Lib.hid (HB2.out.trans (hb.mono HB2.out.size))
      have HB := Lib.hid hb
      have HG := Lib.hid (And.intro hg1 hg2)
      obtain ⟨c0, c1, c2, c3, c4, c5, c6, c7⟩ := hist_cells HBr.out
      have hlt := block_lt_of_cell c0
      simp only at hlt
      clear hb hg1 hg2
      by_cases hlj : j < 2
      · obtain ⟨C, e, l, hix, hl, hwho⟩ := side_at A B P.length c Q.length d P Q j hlj rfl rfl (HP.out.below HBr.out) (HQ.out.below HBr.out)
        have hll := hl.1
        have HL := Lib.hid hl
        have HW := Lib.hid hwho
        have hji : (j : Int) < 2 := by omega
        clear hl hwho
        by_cases he : sideE s z l = 0
        · have he' : (sideE s z l != 0) = false := by simpa using he
          have HE := Lib.hid he
          clear he
          go_wp2_with fail
          refine (side_any _ _ _ _ _ _ _ _ _ _ _ _ R HL.out).mono ?_
          rintro e' w3 ⟨rfl, hb3⟩
          have HB3 := Lib.hid (HB.out.trans (hb3.mono HB.out.size))
          clear hb3
          go_wp2_with fail
          have HX := Lib.hid (show (1 ≤ j + 1 → sideE s z P = 0) ∧ (2 ≤ j + 1 → sideE s z Q = 0) by
            rcases HW.out with ⟨rfl, rfl⟩ | ⟨rfl, rfl⟩
            · exact ⟨fun _ => HE.out, fun h => by omega⟩
            · exact ⟨fun _ => HG.out.1 (by omega), fun _ => HE.out⟩)
          go_roundw
          case rel => exact ⟨j + 1, by omega, by go_num, HX.out.1, HX.out.2, HB3.out⟩
          case measure => simp [intOf]; omega
        · have he' : (sideE s z l != 0) = true := by simpa using he
          have HE := Lib.hid (show sideE s z l = checkF k s z zc ct P Q by
            unfold checkF
            rw [if_neg (by rw [HK.out]; simp)]
            rcases HW.out with ⟨rfl, rfl⟩ | ⟨rfl, rfl⟩
            · rw [if_pos he]
            · rw [if_neg (by rw [HG.out.1 (by omega)]; simp), if_pos he])
          clear he
          go_wp2_with fail
          refine (side_any _ _ _ _ _ _ _ _ _ _ _ _ R HL.out).mono ?_
          rintro e' w3 ⟨rfl, hb3⟩
          have HB3 := Lib.hid (HBr.out.trans (hb3.mono HBr.out.size))
          clear hb3
          go_wp2_with fail
          go_ret
          exact ⟨ret_i HE.out, HB0.out.trans (HB3.out.mono HB0.out.size)⟩
      · obtain rfl : j = 2 := by omega
        have HPr := Lib.hid (fun (dq : Nat) (osq : Array Obj) => (HP.out.below HBr.out).below (below_regrown wr dq osq))
        have HQr := Lib.hid (fun (dq : Nat) (osq : Array Obj) => (HQ.out.below HBr.out).below (below_regrown wr dq osq))
        have hji : ¬ (2 : Int) < 2 := by omega
        have HC := Lib.hid (show checkF k s z zc ct P Q = if zc + cnt (P ++ Q) ≤ 18446744073709551615 then (if zc + cnt (P ++ Q) = ct then 0 else 21) else 5 by
          unfold checkF
          rw [if_neg (by rw [HK.out]; simp), if_neg (by rw [HG.out.1 (by omega)]; simp), if_neg (by rw [HG.out.2 (by omega)]; simp)])
        by_cases hs : zc + cnt (P ++ Q) ≤ 18446744073709551615
        · have ht1 : totV zc (P ++ Q) = zc + cnt (P ++ Q) := by unfold totV; rw [if_pos hs]
          have ht2 : totE zc (P ++ Q) = 0 := by unfold totE; rw [if_pos hs]
          have ht2' : (totE zc (P ++ Q) != 0) = false := by rw [ht2]; rfl
          by_cases hct : zc + cnt (P ++ Q) = ct
          · have ht1' : (totV zc (P ++ Q) != ct) = false := by rw [ht1]; simpa using hct
            have HE := Lib.hid (show (0 : Int) = checkF k s z zc ct P Q by rw [HC.out, if_pos hs, if_pos hct])
            clear ht1 ht2 hs hct
            go_wp2_with fail
            have c0' := cell_regrown c0
            have c1' := cell_regrown c1
            have c2' := cell_regrown c2
            have c3' := cell_regrown c3
            have c4' := cell_regrown c4
            have c5' := cell_regrown c5
            have c6' := cell_regrown c6
            have c7' := cell_regrown c7
            refine wp_region_quiet_below (by kernel_rfl) (by kernel_rfl) ?_
            repeat (any_goals (first | go_big_quiet_step (first | (go_at_call 50; ((with_reducible exact Calls.regrown_of (both_any _ _ _ _ _ _ _ _ _ _ _ _ _)))) | (go_at_call 52; (with_reducible exact Calls.regrown_of (total_any _ _ _ _ _ _ _ _ z0 z1 (HPr.out _ _) (HQr.out _ _))))) | quiet_step (first | (go_at_call 50; ((with_reducible exact Calls.regrown_of (both_any _ _ _ _ _ _ _ _ _ _ _ _ _)))) | (go_at_call 52; (with_reducible exact Calls.regrown_of (total_any _ _ _ _ _ _ _ _ z0 z1 (HPr.out _ _) (HQr.out _ _)))))))
            refine wpQuiet_nil ?_
            intro _ hw'
            obtain ⟨⟨dq, osq⟩, hw''⟩ := hw'
            subst hw''
            have HB4 := Lib.hid (HBr.out.trans ((below_regrown wr dq osq).mono HBr.out.size))
            have g4 := c4' dq osq
            clear c0' c1' c2' c3' c4' c5' c6' c7'
            generalize grow (redrawn wr dq) osq = w4 at *
            go_wp2_with fail
            go_ret
            exact ⟨ret_i HE.out, HB0.out.trans (HB4.out.mono HB0.out.size)⟩
          · have ht1' : (totV zc (P ++ Q) != ct) = true := by rw [ht1]; simpa using hct
            have HE := Lib.hid (show (21 : Int) = checkF k s z zc ct P Q by rw [HC.out, if_pos hs, if_neg hct])
            clear ht1 ht2 hs hct
            go_wp2_with fail
            have c0' := cell_regrown c0
            have c1' := cell_regrown c1
            have c2' := cell_regrown c2
            have c3' := cell_regrown c3
            have c4' := cell_regrown c4
            have c5' := cell_regrown c5
            have c6' := cell_regrown c6
            have c7' := cell_regrown c7
            refine wp_region_quiet_below (by kernel_rfl) (by kernel_rfl) ?_
            repeat (any_goals (first | go_big_quiet_step (first | (go_at_call 50; ((with_reducible exact Calls.regrown_of (both_any _ _ _ _ _ _ _ _ _ _ _ _ _)))) | (go_at_call 52; (with_reducible exact Calls.regrown_of (total_any _ _ _ _ _ _ _ _ z0 z1 (HPr.out _ _) (HQr.out _ _))))) | quiet_step (first | (go_at_call 50; ((with_reducible exact Calls.regrown_of (both_any _ _ _ _ _ _ _ _ _ _ _ _ _)))) | (go_at_call 52; (with_reducible exact Calls.regrown_of (total_any _ _ _ _ _ _ _ _ z0 z1 (HPr.out _ _) (HQr.out _ _)))))))
            refine wpQuiet_nil ?_
            intro _ hw'
            obtain ⟨⟨dq, osq⟩, hw''⟩ := hw'
            subst hw''
            have HB4 := Lib.hid (HBr.out.trans ((below_regrown wr dq osq).mono HBr.out.size))
            have g4 := c4' dq osq
            clear c0' c1' c2' c3' c4' c5' c6' c7'
            generalize grow (redrawn wr dq) osq = w4 at *
            go_wp2_with fail
            go_ret
            exact ⟨ret_i HE.out, HB0.out.trans (HB4.out.mono HB0.out.size)⟩
        · have ht2 : totE zc (P ++ Q) = 5 := by unfold totE; rw [if_neg hs]
          have ht2' : (totE zc (P ++ Q) != 0) = true := by rw [ht2]; rfl
          have HE := Lib.hid (show totE zc (P ++ Q) = checkF k s z zc ct P Q by rw [HC.out, if_neg hs, ht2])
          clear ht2 hs
          go_wp2_with fail
          have c0' := cell_regrown c0
          have c1' := cell_regrown c1
          have c2' := cell_regrown c2
          have c3' := cell_regrown c3
          have c4' := cell_regrown c4
          have c5' := cell_regrown c5
          have c6' := cell_regrown c6
          have c7' := cell_regrown c7
          refine wp_region_quiet_below (by kernel_rfl) (by kernel_rfl) ?_
          repeat (any_goals (first | go_big_quiet_step (first | (go_at_call 50; ((with_reducible exact Calls.regrown_of (both_any _ _ _ _ _ _ _ _ _ _ _ _ _)))) | (go_at_call 52; (with_reducible exact Calls.regrown_of (total_any _ _ _ _ _ _ _ _ z0 z1 (HPr.out _ _) (HQr.out _ _))))) | quiet_step (first | (go_at_call 50; ((with_reducible exact Calls.regrown_of (both_any _ _ _ _ _ _ _ _ _ _ _ _ _)))) | (go_at_call 52; (with_reducible exact Calls.regrown_of (total_any _ _ _ _ _ _ _ _ z0 z1 (HPr.out _ _) (HQr.out _ _)))))))
          refine wpQuiet_nil ?_
          intro _ hw'
          obtain ⟨⟨dq, osq⟩, hw''⟩ := hw'
          subst hw''
          have HB4 := Lib.hid (HBr.out.trans ((below_regrown wr dq osq).mono HBr.out.size))
          have g4 := c4' dq osq
          clear c0' c1' c2' c3' c4' c5' c6' c7'
          generalize grow (redrawn wr dq) osq = w4 at *
          go_wp2_with fail
          go_ret
          exact ⟨ret_i HE.out, HB0.out.trans (HB4.out.mono HB0.out.size)⟩
  · have hk' : (kindE k s z != 0) = true := by simpa using hk
    have HE := Lib.hid (show kindE k s z = checkF k s z zc ct P Q by unfold checkF; rw [if_pos hk])
    clear hk
    go_enter Tryz.func20, Tryz.ntmps20
    go_wp2_with fail
    refine (kinds_any _ _ _ _ _ _ _ _ _).mono ?_
    rintro e w1 ⟨rfl, hb1⟩
    have HB1 := Lib.hid hb1
    clear hb1
    go_wp2_with fail
    go_ret
    exact ⟨ret_i HE.out, HB0.out.trans (HB1.out.mono HB0.out.size)⟩
end Go.Proofs.YtakomfnajeolcaaGreatDoor


/- The document's own answer of what is wrong with a histogram. Written out by program: two kinds, two thresholds, two sides. -/
namespace Go.Proofs.YtakomfnajeolcaaGreatDoor
open Go.RowKit Go.Sort
set_option linter.unusedVariables false

theorem infoU : (Tryz.prog.info? 36).map (fun i => (i.zero, i.size, i.bytes)) = some (some (.int .u64 0), 1, 8) := by kernel_rfl
def cellsU (L : List Int) : List Value := L.map (Value.int .u64)
def InRel (s z : Int) (L0 : List Int) (l : List (Int × Int)) (w0 : World) (s3 s6 : Value) (wr : World) : Prop :=
  ∃ (j : Nat) (A' : Option Addr) (c' : Nat), j ≤ l.length ∧ s6 = .int .i64 j ∧ s3 = .slice A' (L0.length + j) c' ∧ wr.ownsRow w0.heap.size 36 1 (.slice A' (L0.length + j) c') (L0.length + j) (cellsU (L0 ++ (l.take j).map (·.2))) ∧ walkE s z none l = walkE s z (prevO l j) (l.drop j) ∧ Below w0.heap.size w0 wr
end Go.Proofs.YtakomfnajeolcaaGreatDoor


/- A histogram as plain data; what is wrong with it. -/
namespace Go.Proofs.YtakomfnajeolcaaGreatDoor
open Go.RowKit Go.Sort
set_option linter.unusedVariables false

structure HV where
  k : Int
  s : Int
  z : Int
  zc : Int
  ct : Int
  sm : Int
  P : List (Int × Int)
  Q : List (Int × Int)
theorem HV.eq {a b : HV} (h1 : a.k = b.k) (h2 : a.s = b.s) (h3 : a.z = b.z) (h4 : a.zc = b.zc) (h5 : a.ct = b.ct) (h6 : a.sm = b.sm) (h7 : a.P = b.P) (h8 : a.Q = b.Q) : a = b := by
  cases a; cases b; simp_all
def chk (h : HV) : Int := checkF h.k h.s h.z h.zc h.ct h.P h.Q
end Go.Proofs.YtakomfnajeolcaaGreatDoor


/- Samples in memory; when they may be a series', plainly; isTime, rightSample. -/
namespace Go.Proofs.YtakomfnajeolcaaGreatDoor.En
open Go.RowKit Go.Sort
set_option linter.unusedVariables false

structure SV where
  t : Int
  h : HV
def smC (s : SV) (A B : Option Addr) (c d : Nat) : List Value := [.int .i64 s.t, .int .i64 s.h.k, .int .i64 s.h.s, .int .i64 s.h.z, .int .u64 s.h.zc, .int .u64 s.h.ct, .int .i64 s.h.sm, .slice A s.h.P.length c, .slice B s.h.Q.length d]
/-- the buckets of a sample lie there -/
structure Sb (w : World) (s : SV) (A B : Option Addr) : Prop where
  P : Bk w A s.h.P
  Q : Bk w B s.h.Q
  z0 : 0 ≤ s.h.zc
  z1 : s.h.zc ≤ 18446744073709551615
theorem Sb.below {w w' : World} {s : SV} {A B : Option Addr} (h : Sb w s A B) (hb : Below w.heap.size w w') : Sb w' s A B := ⟨h.P.below hb, h.Q.below hb, h.z0, h.z1⟩
/-- a sample lies at block b, cell o -/
def Sm1 (w : World) (b o : Nat) (s : SV) : Prop := ∃ A B c d, (∀ i v, (smC s A B c d)[i]? = some v → w.cell? ⟨b, o + i, none⟩ = some v) ∧ Sb w s A B
theorem Sm1.below {w w' : World} {b o : Nat} {s : SV} (h : Sm1 w b o s) (hb : Below w.heap.size w w') : Sm1 w' b o s := by
  obtain ⟨A, B, c, d, h1, h2⟩ := h
  exact ⟨A, B, c, d, fun i v hv => by rw [hb.cell (block_lt_of_cell (h1 i v hv))]; exact h1 i v hv, h2.below hb⟩
theorem Sm1.cells {w : World} {b o : Nat} {s : SV} (h : Sm1 w b o s) : ∃ A B c d, (w.cell? ⟨b, o, none⟩ = some (.int .i64 s.t) ∧ w.cell? ⟨b, o + 1, none⟩ = some (.int .i64 s.h.k) ∧ w.cell? ⟨b, o + 2, none⟩ = some (.int .i64 s.h.s) ∧ w.cell? ⟨b, o + 3, none⟩ = some (.int .i64 s.h.z) ∧ w.cell? ⟨b, o + 4, none⟩ = some (.int .u64 s.h.zc) ∧ w.cell? ⟨b, o + 5, none⟩ = some (.int .u64 s.h.ct) ∧
    w.cell? ⟨b, o + 6, none⟩ = some (.int .i64 s.h.sm) ∧ w.cell? ⟨b, o + 7, none⟩ = some (.slice A s.h.P.length c) ∧ w.cell? ⟨b, o + 8, none⟩ = some (.slice B s.h.Q.length d)) ∧ Sb w s A B := by
  obtain ⟨A, B, c, d, h1, h2⟩ := h
  exact ⟨A, B, c, d, ⟨h1 0 _ rfl, h1 1 _ rfl, h1 2 _ rfl, h1 3 _ rfl, h1 4 _ rfl, h1 5 _ rfl, h1 6 _ rfl, h1 7 _ rfl, h1 8 _ rfl⟩, h2⟩
/-- a slice of samples -/
def Sm (w : World) (D : Option Addr) (l : List SV) : Prop := l = [] ∨ ∃ b o, D = some ⟨b, o, none⟩ ∧ ∀ j s, l[j]? = some s → Sm1 w b (o + j * 9) s
theorem Sm.below {w w' : World} {D : Option Addr} {l : List SV} (h : Sm w D l) (hb : Below w.heap.size w w') : Sm w' D l := by
  rcases h with h | ⟨b, o, e, hc⟩
  · exact .inl h
  · exact .inr ⟨b, o, e, fun j s hj => (hc j s hj).below hb⟩
theorem Sm.at_ {w : World} {D : Option Addr} {l : List SV} (h : Sm w D l) {j : Nat} {s : SV} (hj : l[j]? = some s) : ∃ b o, D = some ⟨b, o, none⟩ ∧ Sm1 w b (o + j * 9) s := by
  rcases h with rfl | ⟨b, o, e, hc⟩
  · cases hj
  · exact ⟨b, o, e, hc j s hj⟩
theorem Sm.some_ {w : World} {D : Option Addr} {l : List SV} (h : Sm w D l) (h0 : 0 < l.length) : ∃ b o, D = some ⟨b, o, none⟩ ∧ ∀ j s, l[j]? = some s → Sm1 w b (o + j * 9) s := by
  rcases h with rfl | h
  · cases h0
  · exact h
theorem Sm.nil (w : World) (D : Option Addr) : Sm w D [] := .inl rfl
theorem Sm.take {w : World} {D : Option Addr} {l : List SV} (h : Sm w D l) (n : Nat) : Sm w D (l.take n) := by
  rcases h with rfl | ⟨b, o, e, hc⟩
  · exact .inl (by simp)
  · exact .inr ⟨b, o, e, fun j s hj => hc j s (by
      rw [List.getElem?_take] at hj
      split at hj
      · exact hj
      · cases hj)⟩
theorem Sm.drop {w : World} {b o : Nat} {l : List SV} (h : Sm w (some ⟨b, o, none⟩) l) (n : Nat) : Sm w (some ⟨b, o + n * 9, none⟩) (l.drop n) := by
  rcases h with rfl | ⟨b', o', e, hc⟩
  · exact .inl (by simp)
  · injection e with e
    injection e with e1 e2 e3
    subst e1 e2
    refine .inr ⟨b, _, rfl, fun j s hj => ?_⟩
    rw [List.getElem?_drop] at hj
    have := hc (n + j) s hj
    rw [show o + n * 9 + j * 9 = o + (n + j) * 9 by omega]
    exact this
/-- plainly -/
def inT (t : Int) : Bool := decide (0 ≤ t) && decide (t ≤ 1099511627776)
def rightS (s : SV) : Bool := inT s.t && decide (chk s.h = 0)
def UpTo (l : List SV) (k : Nat) : Prop := ∀ i p s, i + 1 < k → l[i]? = some p → l[i + 1]? = some s → p.t < s.t
def RisP (l : List SV) : Prop := (∀ s ∈ l, rightS s = true) ∧ UpTo l l.length
theorem UpTo.mono {l : List SV} {k m : Nat} (h : UpTo l k) (hm : m ≤ k) : UpTo l m := fun i p s hi => h i p s (by omega)
theorem RisP.take {l : List SV} (h : RisP l) (n : Nat) : RisP (l.take n) := by
  refine ⟨fun s hs => h.1 s (List.mem_of_mem_take hs), fun i p s hi hp hs => ?_⟩
  rw [List.length_take] at hi
  rw [List.getElem?_take, if_pos (by omega)] at hp hs
  exact h.2 i p s (by omega) hp hs
/-! isTime, rightSample -/
end Go.Proofs.YtakomfnajeolcaaGreatDoor.En
