/- Contracts of the document's own answers: the remainder bit by bit, a number's bytes, the bytes' number. -/
import Derived.Test.YtlebgbigbiaanaaSumC
import Derived.OwnWalk
import Derived.Laws.OwnMore
import Derived.Laws.AppendOwn
namespace Go.Proofs.Ytlebgbigbiaanaa
open Go.RowKit
set_option linter.unusedVariables false

theorem refl_lt {c s : Nat} (h : Refl c s) : c < 4294967296 := h.1
/-- one bit, in the walk's own words -/
theorem refBit_no {c x : Nat} (h : c / 2147483648 ≠ x % 2) : refBit c x = (c * 2 % 4294967296) ^^^ refQ := by unfold refBit; rw [if_neg h]
theorem refBit_yes {c x : Nat} (h : c / 2147483648 = x % 2) : refBit c x = c * 2 % 4294967296 := by unfold refBit; rw [if_pos h]
theorem refQ_int {c : Nat} (hc : c < 4294967296) : bits .xor .u64 ((c : Int) * 2 % 4294967296) 79764919 = (((c * 2 % 4294967296) ^^^ refQ : Nat) : Int) := by
  have := bits_xor_u64_nat (c * 2 % 4294967296) refQ (by omega) (by decide)
  rw [← this]
  congr 1

set_option maxHeartbeats 2000000 in
set_option maxRecDepth 100000 in
theorem refof_any (A : Option Addr) (cp : Nat) (bs : List Nat) (w : World) (h : Bt w A bs) :
    Calls Try.prog 14 #[.slice A bs.length cp] w fun e w' => e = .returned (.int .u32 ((crcOf bs : Nat) : Int)) ∧ w = w' := by
  have HB := Lib.hid h
  have hlen := h.2.1
  have H8 := Lib.hid h.1
  clear h
  go_enter Try.func14, Try.ntmps14
  go_wp2
  go_loop [3, 4] (fun v i => ∃ k : Nat, k ≤ bs.length ∧ i = .int .i64 k ∧ ∃ c : Nat, v = .int .u64 (c : Int) ∧ Refl c (crcRun 4294967295 (bs.take k))) (fun _ i => bs.length - (intOf i).toNat)
  case atStart => exact ⟨0, by omega, rfl, 4294967295, rfl, refl_init⟩
  case round =>
    obtain ⟨k, hk, rfl, c, rfl, hR⟩ := hrel
    by_cases hlt : k < bs.length
    · obtain ⟨b, off, rfl, hc⟩ := HB.out.some_ (by omega)
      obtain ⟨x, hx⟩ := getElem?_lt (l := bs) (k := k) (by omega)
      have hcx := hc k x hx
      have hx8 : x < 256 := H8.out x (by
        obtain ⟨hi, rfl⟩ := List.getElem?_eq_some_iff.1 hx
        exact List.getElem_mem hi)
      have HN := Lib.hid (show crcRun 4294967295 (bs.take (k + 1)) = crcStep (crcRun 4294967295 (bs.take k)) x by rw [take_snoc bs k x hx, crcRun_snoc])
      obtain ⟨s, hs⟩ : ∃ s, crcRun 4294967295 (bs.take k) = s := ⟨_, rfl⟩
      rw [hs] at hR HN
      have HR := Lib.hid (refl_start (x := x) hR)
      have hki : (k : Int) < (bs.length : Int) := by omega
      have hc0 := hR.1
      clear hc hx hs hR
      go_wp2_with fail
      go_loop [3, 5, 6] (fun v y i => ∃ j : Nat, j ≤ 8 ∧ i = .int .i64 j ∧ y = .int .u64 ((x / 2 ^ j : Nat) : Int) ∧ ∃ c : Nat, v = .int .u64 (c : Int) ∧ Refl c (tabK j (s ^^^ x) ^^^ (x / 2 ^ j))) (fun _ _ i => 8 - (intOf i).toNat)
      case atStart => exact ⟨0, by omega, rfl, by simp, c, rfl, HR.out⟩
      case round =>
        obtain ⟨j, hj, rfl, rfl, c', rfl, hR'⟩ := hrel
        have hc' := hR'.1
        by_cases h8 : j < 8
        · have h8i : (j : Int) < 8 := by omega
          have HR' := Lib.hid (refl_round hR')
          have HD := Lib.hid (show x / 2 ^ j / 2 = x / 2 ^ (j + 1) by rw [Nat.pow_succ, Nat.div_div_eq_div_mul])
          have hyx : x / 2 ^ j ≤ x := Nat.div_le_self _ _
          obtain ⟨y, hy⟩ : ∃ y, x / 2 ^ j = y := ⟨_, rfl⟩
          rw [hy] at HR' HD hyx ⊢
          clear hR' hy
          by_cases ht : c' / 2147483648 = y % 2
          · have e1 : ((c' : Int) / 2147483648 != (y : Int) % 2) = false := by simp; omega
            have HB1 := Lib.hid (refBit_yes ht)
            clear ht
            go_wp2
            go_round
            case rel => exact ⟨j + 1, by omega, by go_num, ret_val (by rw [← HD.out]; omega), refBit c' y, ret_val (by rw [HB1.out]; omega), HR'.out⟩
            case measure => simp [intOf] <;> omega
          · have e1 : ((c' : Int) / 2147483648 != (y : Int) % 2) = true := by simp; omega
            have HB1 := Lib.hid (refBit_no ht)
            have e2 := refQ_int hc'
            clear ht
            go_wp2
            go_round
            case rel => exact ⟨j + 1, by omega, by go_num, ret_val (by rw [← HD.out]; omega), refBit c' y, ret_val (by rw [HB1.out]), HR'.out⟩
            case measure => simp [intOf] <;> omega
        · obtain rfl : j = 8 := by omega
          have HE := Lib.hid (refl_byte hx8 hR')
          clear hR'
          go_wp2
          go_round
          case rel => exact ⟨k + 1, by omega, by go_num, c', rfl, by rw [HN.out]; exact HE.out⟩
          case measure => simp [intOf] <;> omega
    · obtain rfl : k = bs.length := by omega
      rw [List.take_length] at hR
      have HF := Lib.hid (show flipK c 32 = crcOf bs from flip_refl hR)
      have hc0 := hR.1
      have hki : ¬ ((bs.length : Int) < (bs.length : Int)) := by omega
      clear hR
      go_wp2_with fail
      go_loop [3, 8, 9] (fun v o i => ∃ j : Nat, j ≤ 32 ∧ i = .int .i64 j ∧ v = .int .u64 ((c / 2 ^ j : Nat) : Int) ∧ o = .int .u32 ((flipK c j : Nat) : Int)) (fun _ _ i => 32 - (intOf i).toNat)
      case atStart => exact ⟨0, by omega, rfl, by simp, rfl⟩
      case round =>
        obtain ⟨j, hj, rfl, rfl, rfl⟩ := hrel
        by_cases h32 : j < 32
        · have h32i : (j : Int) < 32 := by omega
          have hfl := flip_lt c j
          have hp : 2 ^ j ≤ 2147483648 := by
            have := Nat.pow_le_pow_right (show 0 < 2 by decide) (show j ≤ 31 by omega)
            simpa using this
          have hf : flipK c j < 2147483648 := by omega
          have HF1 := Lib.hid (show flipK c (j + 1) = flipK c j * 2 + (if c / 2 ^ j % 2 = 0 then 1 else 0) from rfl)
          have HD := Lib.hid (show c / 2 ^ j / 2 = c / 2 ^ (j + 1) by rw [Nat.pow_succ, Nat.div_div_eq_div_mul])
          have hyx : c / 2 ^ j ≤ c := Nat.div_le_self _ _
          obtain ⟨y, hy⟩ : ∃ y, c / 2 ^ j = y := ⟨_, rfl⟩
          obtain ⟨F, hF⟩ : ∃ F, flipK c j = F := ⟨_, rfl⟩
          rw [hF] at hf HF1
          rw [hy] at HF1 HD hyx
          rw [hy, hF]
          clear hy hF hfl hp
          by_cases ht : y % 2 = 0
          · have e1 : ((y : Int) % 2 == 0) = true := by simp; omega
            have HT := Lib.hid ht
            clear ht
            go_wp2
            go_round
            case rel => exact ⟨j + 1, by omega, by go_num, ret_val (by rw [← HD.out]; omega), ret_val (by rw [HF1.out, if_pos HT.out]; omega)⟩
            case measure => simp [intOf] <;> omega
          · have e1 : ((y : Int) % 2 == 0) = false := by simp; omega
            have HT := Lib.hid ht
            clear ht
            go_wp2
            go_round
            case rel => exact ⟨j + 1, by omega, by go_num, ret_val (by rw [← HD.out]; omega), ret_val (by rw [HF1.out, if_neg HT.out]; omega)⟩
            case measure => simp [intOf] <;> omega
        · obtain rfl : j = 32 := by omega
          go_wp2
          go_ret
          exact ⟨ret_int (by rw [HF.out]), rfl⟩
end Go.Proofs.Ytlebgbigbiaanaa
