/- The contracts of what is wrong with a histogram. -/
import Derived.Test.YtjnienlidmmhdaaGreatDoorHsB
/-! The contract of the sum of all buckets. -/
namespace Go.Proofs.YtjnienlidmmhdaaGreatDoor
open Go.RowKit Go.Sort
set_option linter.unusedVariables false

/-- two slices, by their place -/
theorem side_at (A B : Option Addr) (n c m d : Nat) (P Q : List (Int × Int)) (k : Nat) (hk : k < 2) (hn : n = P.length) (hm : m = Q.length) {w : World} (hP : Bk w A P) (hQ : Bk w B Q) :
    ∃ (C : Option Addr) (e : Nat) (l : List (Int × Int)), (∀ w, (Instr.index 136 (.agg #[.slice A n c, .slice B m d]) (.int .i64 (k : Int))).run Tryz.prog w = .ok (.slice C l.length e) w) ∧ Bk w C l ∧ ((k = 0 ∧ l = P) ∨ (k = 1 ∧ l = Q)) := by
  subst hn hm
  rcases (show k = 0 ∨ k = 1 by omega) with rfl | rfl
  · exact ⟨A, c, P, fun _ => by kernel_rfl, hP, .inl ⟨rfl, rfl⟩⟩
  · exact ⟨B, d, Q, fun _ => by kernel_rfl, hQ, .inr ⟨rfl, rfl⟩⟩
/-- the sum of the sides ahead of the k-th -/
def before (P Q : List (Int × Int)) (k : Nat) : Int := if k = 0 then 0 else if k = 1 then cnt P else cnt P + cnt Q
theorem before_succ {P Q l : List (Int × Int)} {k : Nat} (h : (k = 0 ∧ l = P) ∨ (k = 1 ∧ l = Q)) : before P Q (k + 1) = before P Q k + cnt l := by
  rcases h with ⟨rfl, rfl⟩ | ⟨rfl, rfl⟩ <;> simp [before]
theorem before_le {P Q l : List (Int × Int)} {k : Nat} (hP : ∀ p ∈ P, Wb p) (hQ : ∀ p ∈ Q, Wb p) (h : (k = 0 ∧ l = P) ∨ (k = 1 ∧ l = Q)) : 0 ≤ before P Q k ∧ before P Q k + cnt l ≤ cnt (P ++ Q) := by
  have h1 := cnt_nonneg hP
  have h2 := cnt_nonneg hQ
  rw [cnt_append]
  rcases h with ⟨rfl, rfl⟩ | ⟨rfl, rfl⟩ <;> simp [before] <;> omega
theorem two_over {a b : Int} (h0 : 0 ≤ a) (h1 : 0 ≤ b) (h : 18446744073709551615 < a + b) (f : Nat → Int) (e0 : f 0 = a) (e1 : f 1 = b) : addV f 2 = 0 ∧ addE f 2 = 5 := by
  unfold addV addE maxU
  have e : sumTo f 2 = a + b := by simp [sumTo, e0, e1]
  rw [e, if_neg (by omega), if_neg (by omega)]
  exact ⟨rfl, rfl⟩
theorem two_fits {a b : Int} (h : a + b ≤ 18446744073709551615) (f : Nat → Int) (e0 : f 0 = a) (e1 : f 1 = b) : addV f 2 = a + b ∧ addE f 2 = 0 := by
  unfold addV addE maxU
  have e : sumTo f 2 = a + b := by simp [sumTo, e0, e1]
  rw [e, if_pos h, if_pos h]
  exact ⟨rfl, rfl⟩
/-- num.Add of two counts that lie one behind the other -/
theorem add_two (b cap : Nat) (x y : Int) (w : World) (hx : w.cell? ⟨b, 0, none⟩ = some (.int .u64 x)) (hy : w.cell? ⟨b, 1, none⟩ = some (.int .u64 y)) (x0 : 0 ≤ x) (x1 : x ≤ 18446744073709551615) (y0 : 0 ≤ y) (y1 : y ≤ 18446744073709551615) (s : Int) (hs : x + y = s) (h : s ≤ 18446744073709551615) :
    Calls Tryz.prog 136 #[.slice (some ⟨b, 0, none⟩) 2 cap] w fun e w' => e = .returned (.tuple #[.int .u64 s, .int .i64 0]) ∧ w = w' := by
  obtain ⟨e1, e2⟩ := two_fits (a := x) (b := y) (by omega) (fun i => if i = 0 then x else y) rfl rfl
  have := add_row b 0 2 cap (fun i => if i = 0 then x else y) w ⟨by omega, fun i hi => by
    rcases (show i = 0 ∨ i = 1 by omega) with rfl | rfl
    · exact ⟨by simpa using hx, by simpa using x0, by simpa using x1⟩
    · exact ⟨by simpa using hy, by simpa using y0, by simpa using y1⟩⟩
  rw [e1, e2, hs] at this
  exact this
theorem add_two_over (b cap : Nat) (x y : Int) (w : World) (hx : w.cell? ⟨b, 0, none⟩ = some (.int .u64 x)) (hy : w.cell? ⟨b, 1, none⟩ = some (.int .u64 y)) (x0 : 0 ≤ x) (x1 : x ≤ 18446744073709551615) (y0 : 0 ≤ y) (y1 : y ≤ 18446744073709551615) (h : 18446744073709551615 < x + y) :
    Calls Tryz.prog 136 #[.slice (some ⟨b, 0, none⟩) 2 cap] w fun e w' => e = .returned (.tuple #[.int .u64 0, .int .i64 5]) ∧ w = w' := by
  obtain ⟨e1, e2⟩ := two_over x0 y0 h (fun i => if i = 0 then x else y) rfl rfl
  have := add_row b 0 2 cap (fun i => if i = 0 then x else y) w ⟨by omega, fun i hi => by
    rcases (show i = 0 ∨ i = 1 by omega) with rfl | rfl
    · exact ⟨by simpa using hx, by simpa using x0, by simpa using x1⟩
    · exact ⟨by simpa using hy, by simpa using y0, by simpa using y1⟩⟩
  rw [e1, e2] at this
  exact this
theorem ret_tot {z : Int} {l : List (Int × Int)} {a b : Int} (h1 : a = totV z l) (h2 : b = totE z l) : Ending.returned (.tuple #[.int .u64 a, .int .i64 b]) = .returned (.tuple #[.int .u64 (totV z l), .int .i64 (totE z l)]) := by rw [h1, h2]

set_option maxHeartbeats 1000000 in
set_option maxRecDepth 100000 in
theorem total_any (z : Int) (A B : Option Addr) (c d : Nat) (P Q : List (Int × Int)) (w : World) (z0 : 0 ≤ z) (z1 : z ≤ 18446744073709551615) (hP : Bk w A P) (hQ : Bk w B Q) :
    Calls Tryz.prog 77 #[.int .u64 z, .agg #[.slice A P.length c, .slice B Q.length d]] w fun e w' => e = .returned (.tuple #[.int .u64 (totV z (P ++ Q)), .int .i64 (totE z (P ++ Q))]) ∧ Below w.heap.size w w' := by
  have HP := Lib.hid hP
  have HQ := Lib.hid hQ
  clear hP hQ
  go_enter Tryz.func77, Tryz.ntmps77
  go_wp2_with fail
  go_loopw [6, 15] (fun s i wr => ∃ k : Nat, k ≤ 2 ∧ i = .int .i64 k ∧ s = .int .u64 (z + before P Q k) ∧ z + before P Q k ≤ 18446744073709551615 ∧ Below w.heap.size w wr) (fun _ i _ => 2 - (intOf i).toNat)
  case atStart => exact ⟨0, by omega, rfl, by simp [before], by simp [before]; omega, (Below.refl _ _).alloc (Nat.le_refl _) _⟩
  case round =>
    obtain ⟨k, hk, rfl, rfl, hle, hb⟩ := hrel
    have HB := Lib.hid hb
    clear hb
    by_cases hlt : k < 2
    · obtain ⟨C, e, l, hix, hl, hwho⟩ := side_at A B P.length c Q.length d P Q k hlt rfl rfl (HP.out.below HB.out) (HQ.out.below HB.out)
      have hll := hl.1
      have HL := Lib.hid hl
      have HW := Lib.hid hwho
      obtain ⟨b0, b1⟩ := before_le HP.out.2.1 HQ.out.2.1 hwho
      have HS := Lib.hid (before_succ (P := P) (Q := Q) hwho)
      clear hl hwho
      obtain ⟨S, hS⟩ : ∃ S, before P Q k = S := ⟨_, rfl⟩
      rw [hS] at hle b0 b1 HS ⊢
      clear hS
      obtain ⟨T, hT⟩ : ∃ T, cnt (P ++ Q) = T := ⟨_, rfl⟩
      rw [hT] at b1
      have HT := Lib.hid hT
      clear hT
      have hki : (k : Int) < 2 := by omega
      go_wp2_with fail
      obtain ⟨wo, hwo⟩ : ∃ W, W = wr := ⟨_, rfl⟩
      subst hwo
      go_loopw [6, 20] (fun s i wr => ∃ j : Nat, j ≤ l.length ∧ i = .int .i64 j ∧ s = .int .u64 (z + S + cnt (l.take j)) ∧ z + S + cnt (l.take j) ≤ 18446744073709551615 ∧ Below wo.heap.size wo wr) (fun _ i _ => l.length - (intOf i).toNat)
      case atStart => exact ⟨0, by omega, rfl, by simp [cnt], by simp [cnt]; omega, Below.refl _ _⟩
      case round =>
        obtain ⟨j, hj, rfl, rfl, hle2, hb2⟩ := hrel
        have HB2 := Lib.hid hb2
        clear hb2
        by_cases hlj : j < l.length
        · obtain ⟨b', off', rfl, hc'⟩ := (HL.out.below HB2.out).some_ (by omega)
          obtain ⟨p, hp⟩ := getElem?_lt hlj
          obtain ⟨q1, q2⟩ := hc' j p hp
          obtain ⟨w1, w2, w3, w4⟩ := HL.out.2.1 p (mem_of_at hp)
          have HN := Lib.hid (show cnt (l.take (j + 1)) = cnt (l.take j) + p.2 by rw [take_snoc l j p hp, cnt_snoc])
          obtain ⟨t0, t1⟩ := cnt_take HL.out.2.1 j
          obtain ⟨t2, t3⟩ := cnt_take HL.out.2.1 (j + 1)
          have h5 : cnt (l.take j) + p.2 ≤ cnt l := by rw [← HN.out]; exact t3
          obtain ⟨R, hR⟩ : ∃ R, z + S + cnt (l.take j) = R := ⟨_, rfl⟩
          have HR := Lib.hid hR
          have r0 : 0 ≤ R := by omega
          rw [hR] at hle2 ⊢
          obtain ⟨pi, pc⟩ := p
          simp only at q1 q2 w1 w2 w3 w4 HN h5
          have hji : (j : Int) < (l.length : Int) := by omega
          clear hc' hp hR t0 t1 t2 t3
          by_cases hov : 18446744073709551615 < R + pc
          · go_wp2_with fail
            refine (add_two_over _ _ R pc _ (by simp [go_sem]) (by simp [go_sem]) r0 hle2 w3 w4 hov).mono ?_
            rintro e w5 ⟨rfl, rfl⟩
            have hbad : ¬ z + cnt (P ++ Q) ≤ 18446744073709551615 := by have h1 := HR.out; have h2 := HT.out; omega
            have HE := Lib.hid (show (0 : Int) = totV z (P ++ Q) ∧ (5 : Int) = totE z (P ++ Q) by unfold totV totE; rw [if_neg hbad, if_neg hbad]; exact ⟨rfl, rfl⟩)
            have HBB := Lib.hid (HB.out.trans (HB2.out.mono HB.out.size))
            clear hbad
            go_wp2_with fail
            go_ret2
            exact ⟨ret_tot HE.out.1 HE.out.2, (HBB.out.alloc HBB.out.size _).alloc (Nat.le_trans HBB.out.size (by simp)) _⟩
          · obtain ⟨U, hU⟩ : ∃ U, R + pc = U := ⟨_, rfl⟩
            have hU1 : U ≤ 18446744073709551615 := by omega
            have HU := Lib.hid hU
            clear hov hU
            go_wp2_with fail
            refine (add_two _ _ R pc _ (by simp [go_sem]) (by simp [go_sem]) r0 hle2 w3 w4 U HU.out hU1).mono ?_
            rintro e w5 ⟨rfl, rfl⟩
            go_wp2_with fail
            have HE := Lib.hid (show U = z + S + cnt (l.take (j + 1)) by have h1 := HR.out; have h2 := HU.out; rw [HN.out]; omega)
            go_roundw
            case rel => exact ⟨j + 1, by omega, by go_num, ret_val HE.out, by rw [← HE.out]; exact hU1, (HB2.out.alloc HB2.out.size _).alloc (Nat.le_trans HB2.out.size (by simp)) _⟩
            case measure => simp [intOf]; omega
        · obtain rfl : j = l.length := by omega
          have hji : ¬ ((l.length : Int) < (l.length : Int)) := by omega
          rw [List.take_length] at hle2 ⊢
          have HE := Lib.hid (show z + S + cnt l = z + before P Q (k + 1) by rw [HS.out]; omega)
          go_wp2_with fail
          go_roundw
          case rel => exact ⟨k + 1, by omega, by go_num, ret_val HE.out, by rw [← HE.out]; exact hle2, HB.out.trans (HB2.out.mono HB.out.size)⟩
          case measure => simp [intOf]; omega
    · obtain rfl : k = 2 := by omega
      have hgood : z + cnt (P ++ Q) ≤ 18446744073709551615 := by simpa [before, cnt_append] using hle
      have HE := Lib.hid (show z + before P Q 2 = totV z (P ++ Q) ∧ (0 : Int) = totE z (P ++ Q) by unfold totV totE; rw [if_pos hgood, if_pos hgood]; exact ⟨by simp [before, cnt_append], rfl⟩)
      clear hgood
      go_wp2_with fail
      go_ret2
      exact ⟨ret_tot HE.out.1 HE.out.2, HB.out⟩
end Go.Proofs.YtjnienlidmmhdaaGreatDoor

/-! The contracts of what is wrong with a histogram. -/
namespace Go.Proofs.YtjnienlidmmhdaaGreatDoor
open Go.RowKit Go.Sort
set_option linter.unusedVariables false

/-- what is wrong with a histogram, whatever it counts -/
def kindE (k s z : Int) : Int := if k ≠ 0 ∧ k ≠ 1 then 25 else if rightB s = false then 20 else if z ≠ -524288 ∧ (z ≤ -262144 ∨ 262144 < z) then 31 else 0
theorem kindE_zero {k s z : Int} (h : kindE k s z = 0) : (k = 0 ∨ k = 1) ∧ rightB s = true ∧ (z = -524288 ∨ (-262144 < z ∧ z ≤ 262144)) := by
  unfold kindE at h
  by_cases h1 : k ≠ 0 ∧ k ≠ 1
  · rw [if_pos h1] at h; cases h
  · rw [if_neg h1] at h
    by_cases h2 : rightB s = false
    · rw [if_pos h2] at h; cases h
    · rw [if_neg h2] at h
      by_cases h3 : z ≠ -524288 ∧ (z ≤ -262144 ∨ 262144 < z)
      · rw [if_pos h3] at h; cases h
      · exact ⟨by omega, by simpa using h2, by omega⟩
/-- what is wrong with a bucket behind another one -/
def bktE (s z : Int) (o : Option Int) (p : Int × Int) : Int :=
  if inB s p.1 = false then 4 else if (match o with | none => false | some q => decide (p.1 ≤ q)) = true then 32 else if p.2 = 0 then 21 else if un s (p.1 - 1) < z then 31 else 0
def walkE (s z : Int) : Option Int → List (Int × Int) → Int
  | _, [] => 0
  | o, p :: r => if bktE s z o p ≠ 0 then bktE s z o p else walkE s z (some p.1) r
def sideE (s z : Int) (l : List (Int × Int)) : Int := if 512 < l.length then 9 else walkE s z none l
/-- the index ahead of the j-th -/
def prevO (l : List (Int × Int)) (j : Nat) : Option Int := match j with | 0 => none | j + 1 => (l[j]?).map (·.1)
theorem walk_step {s z : Int} {l : List (Int × Int)} {j : Nat} {p : Int × Int} (h : l[j]? = some p) :
    walkE s z (prevO l j) (l.drop j) = if bktE s z (prevO l j) p ≠ 0 then bktE s z (prevO l j) p else walkE s z (prevO l (j + 1)) (l.drop (j + 1)) := by
  have hj : j < l.length := (List.getElem?_eq_some_iff.1 h).1
  have e : l.drop j = p :: l.drop (j + 1) := by
    rw [List.drop_eq_getElem_cons hj]
    congr 1
    exact (List.getElem?_eq_some_iff.1 h).2
  rw [e]
  show (if _ then _ else walkE s z (some p.1) (l.drop (j + 1))) = _
  have e2 : prevO l (j + 1) = some p.1 := by simp [prevO, h]
  rw [e2]

theorem kinds_any (k s z : Int) (v3 v4 v5 v6 v7 : Value) (w : World) :
    Calls Tryz.prog 74 #[.agg #[.int .i64 k, .int .i64 s, .int .i64 z, v3, v4, v5, v6, v7]] w fun e w' => e = .returned (.int .i64 (kindE k s z)) ∧ Below w.heap.size w w' := by
  by_cases h0 : k = 0
  all_goals by_cases h1 : k = 1
  · omega
  all_goals
    first
    | (have t0 : (k != 0) = false := by simpa using h0)
    | (have t0 : (k != 0) = true := by simpa using h0)
    first
    | (have t1 : (k != 1) = false := by simpa using h1)
    | (have t1 : (k != 1) = true := by simpa using h1)
    have HK := Lib.hid (show kindE k s z = if k ≠ 0 ∧ k ≠ 1 then 25 else if rightB s = false then 20 else if z ≠ -524288 ∧ (z ≤ -262144 ∨ 262144 < z) then 31 else 0 from rfl)
    have H0 := Lib.hid h0
    have H1 := Lib.hid h1
    clear h0 h1
    rcases hR : rightB s with _ | _
    all_goals
      by_cases h2 : z = -524288
      all_goals by_cases h3 : z ≤ -262144
      all_goals by_cases h4 : 262144 < z
      all_goals
        first
        | (exfalso; omega)
        | skip
      all_goals
        first
        | (have t2 : (z != -524288) = false := by simpa using h2)
        | (have t2 : (z != -524288) = true := by simpa using h2)
        first
        | (have t3 : decide (z ≤ -262144) = true := by simpa using h3)
        | (have t3 : decide (z ≤ -262144) = false := by simpa using h3)
        first
        | (have t4 : decide (262144 < z) = true := by simpa using h4)
        | (have t4 : decide (262144 < z) = false := by simpa using h4)
        have HR := Lib.hid hR
        have H2 := Lib.hid h2
        have H3 := Lib.hid h3
        have H4 := Lib.hid h4
        clear h2 h3 h4
        go_enter Tryz.func74, Tryz.ntmps74
        go_wp2_with (go_at_call 133; refine (right_any _ _).mono ?_; rintro e w' ⟨rfl, rfl⟩)
        go_ret
        refine ⟨ret_int ?_, (Below.refl _ _).alloc (Nat.le_refl _) _⟩
        have a0 := H0.out
        have a1 := H1.out
        have a2 := H2.out
        have a3 := H3.out
        have a4 := H4.out
        have aR := HR.out
        rw [HK.out]
        simp [a0, a1, a2, a3, a4, aR]
end Go.Proofs.YtjnienlidmmhdaaGreatDoor
