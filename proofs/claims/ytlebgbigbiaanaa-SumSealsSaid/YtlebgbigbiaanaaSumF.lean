/- Contracts of the document's Number and Four. -/
import Derived.Test.YtlebgbigbiaanaaSumD
import Derived.Test.YtlebgbigbiaanaaSumE
namespace Go.Proofs.Ytlebgbigbiaanaa
open Go.RowKit Go.Sort
set_option linter.unusedVariables false

def pw8 : Nat → Nat
  | 0 => 1
  | 1 => 256
  | 2 => 65536
  | 3 => 16777216
  | _ => 0

set_option maxHeartbeats 2000000 in
set_option maxRecDepth 100000 in
theorem refnumber_any (A : Option Addr) (c : Nat) (bs : List Nat) (w : World) (h : Bt w A bs) :
    Calls Try.prog 18 #[.slice A bs.length c] w fun e w' => e = .returned (.int .u32 ((numL bs : Nat) : Int)) ∧ w = w' := by
  have HB := Lib.hid h
  have hlen := h.2.1
  have H8 := Lib.hid h.1
  have NK := Lib.hid (numK_at bs)
  clear h
  go_enter Try.func18, Try.ntmps18
  go_wp2
  go_loop [3, 4, 5] (fun n p i => ∃ k : Nat, k ≤ 4 ∧ k ≤ bs.length ∧ i = .int .i64 k ∧ n = .int .u32 ((numK bs k : Nat) : Int) ∧ p = .int .u32 ((pw8 k : Nat) : Int)) (fun _ _ i => 4 - (intOf i).toNat)
  case atStart => exact ⟨0, by omega, by omega, rfl, rfl, rfl⟩
  case round =>
    obtain ⟨k, hk, hkl, rfl, rfl, rfl⟩ := hrel
    have g0 := getD_lt H8.out 0
    have g1 := getD_lt H8.out 1
    have g2 := getD_lt H8.out 2
    have g3 := getD_lt H8.out 3
    have G := Lib.hid (And.intro g0 (And.intro g1 (And.intro g2 g3)))
    clear g0 g1 g2 g3
    by_cases hlt : k < 4
    · have h4 : decide ((k : Int) < 4) = true := by simp; omega
      by_cases hl : k < bs.length
      · have h5 : decide ((k : Int) < (bs.length : Int)) = true := by simp; omega
        have h6 : decide (k < bs.length) = true := by simpa using hl
        obtain ⟨b, off, rfl, hc⟩ := HB.out.some_ (by omega)
        obtain ⟨x, hx⟩ := getElem?_lt (l := bs) (k := k) (by omega)
        have hcx := hc k x hx
        have hx8 : x < 256 := H8.out x (by
          obtain ⟨hi, rfl⟩ := List.getElem?_eq_some_iff.1 hx
          exact List.getElem_mem hi)
        have HD := Lib.hid (show bs.getD k 0 = x by rw [List.getD_eq_getElem?_getD, hx]; rfl)
        clear hc hx
        have hk4 : k = 0 ∨ k = 1 ∨ k = 2 ∨ k = 3 := by omega
        obtain ⟨N, hN⟩ : ∃ N, numK bs k = N := ⟨_, rfl⟩
        have hNlt : (k = 0 → N = 0) ∧ (k = 1 → N < 256) ∧ (k = 2 → N < 65536) ∧ (k = 3 → N < 16777216) := by
          obtain ⟨n0, n1, n2, n3, n4⟩ := NK.out
          have g := G.out
          subst hN
          refine ⟨?_, ?_, ?_, ?_⟩ <;> (rintro rfl; omega)
        have HN := Lib.hid hN
        have hM : numK bs (k + 1) = N + x * pw8 k := by
          rw [← HN.out, ← HD.out]
          rcases hk4 with rfl | rfl | rfl | rfl <;> rfl
        have HM := Lib.hid hM
        rw [hN]
        clear hN hM
        rcases hk4 with rfl | rfl | rfl | rfl
        · obtain rfl := hNlt.1 rfl
          clear hNlt
          simp only [Nat.add_zero] at hcx
          have ep : ((pw8 0 : Nat) : Int) = 1 := rfl
          rw [ep]
          clear ep
          go_wp2
          go_round
          case rel => exact ⟨1, by omega, by omega, by go_num, ret_val (by rw [show numK bs 1 = _ from HM.out]; simp [pw8]), rfl⟩
          case measure => simp [intOf] <;> omega
        · have hN1 := hNlt.2.1 rfl
          clear hNlt
          have ep : ((pw8 1 : Nat) : Int) = 256 := rfl
          rw [ep]
          clear ep
          go_wp2
          go_round
          case rel => exact ⟨2, by omega, by omega, by go_num, ret_val (by rw [show numK bs 2 = _ from HM.out]; simp [pw8]; omega), rfl⟩
          case measure => simp [intOf] <;> omega
        · have hN1 := hNlt.2.2.1 rfl
          clear hNlt
          have ep : ((pw8 2 : Nat) : Int) = 65536 := rfl
          rw [ep]
          clear ep
          go_wp2
          go_round
          case rel => exact ⟨3, by omega, by omega, by go_num, ret_val (by rw [show numK bs 3 = _ from HM.out]; simp [pw8]; omega), rfl⟩
          case measure => simp [intOf] <;> omega
        · have hN1 := hNlt.2.2.2 rfl
          clear hNlt
          have ep : ((pw8 3 : Nat) : Int) = 16777216 := rfl
          rw [ep]
          clear ep
          go_wp2
          go_round
          case rel => exact ⟨4, by omega, by omega, by go_num, ret_val (by rw [show numK bs 4 = _ from HM.out]; simp [pw8]; omega), rfl⟩
          case measure => simp [intOf] <;> omega
      · obtain rfl : k = bs.length := by omega
        have h5 : decide ((bs.length : Int) < (bs.length : Int)) = false := by simp
        have h6 : decide (bs.length < bs.length) = false := by simp
        have HE : Hid (numK bs bs.length = numL bs) := Lib.hid (numK_short (Nat.le_refl _) 4 (by omega)).symm
        go_wp2
        go_ret
        exact ⟨ret_int (by rw [HE.out]), rfl⟩
    · obtain rfl : k = 4 := by omega
      have HE : Hid (numK bs 4 = numL bs) := Lib.hid rfl
      go_wp2
      go_ret
      exact ⟨ret_int (by rw [HE.out]), rfl⟩
end Go.Proofs.Ytlebgbigbiaanaa
