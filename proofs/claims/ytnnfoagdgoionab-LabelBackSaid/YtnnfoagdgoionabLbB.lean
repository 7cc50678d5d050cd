/- What is a name, the program's and the document's. -/
import Derived.Test.YtnnfoagdgoionabLbA
namespace Go.Proofs.Ytnnfoagdgoionab
open Go.RowKit
set_option linter.unusedVariables false

theorem value_is (s : ByteArray) (w : World) (z : Bool) (h : valB s = z) : Calls Try.prog 28 #[.string s] w fun e w' => e = .returned (.bool z) ∧ w = w' := h ▸ value_any s w
theorem digit_is (c : Int) (w : World) (z : Bool) (h : dgB c = z) : Calls Try.prog 44 #[.int .u8 c] w fun e w' => e = .returned (.bool z) ∧ w = w' := h ▸ digit_any c w
theorem letter_is (c : Int) (w : World) (z : Bool) (h : ltB c = z) : Calls Try.prog 45 #[.int .u8 c] w fun e w' => e = .returned (.bool z) ∧ w = w' := h ▸ letter_any c w
set_option maxHeartbeats 1000000 in
theorem name_any (s : ByteArray) (w : World) (hs : Ws s) : Calls Try.prog 27 #[.string s] w fun e w' => e = .returned (.bool (nameB s)) ∧ w = w' := by
  unfold Ws at hs
  obtain ⟨z, hz⟩ : ∃ z, nameB s = z := ⟨_, rfl⟩
  have HZ := Lib.hid hz
  rw [hz]
  clear hz
  by_cases hv : valB s = true
  · have h0 := valB_pos hv
    have h0i : (0 : Int) < (s.size : Int) := by omega
    have HV := Lib.hid hv
    clear hv
    by_cases hd : dgB s[0].toNat = true
    · have HD := Lib.hid hd
      clear hd
      go_enter Try.func27, Try.ntmps27
      go_wp2_with (first | (go_at_call 28; refine (value_is _ _ true HV.out).mono ?_; rintro e w' ⟨rfl, rfl⟩) | (go_at_call 44; refine (digit_is _ _ true HD.out).mono ?_; rintro e w' ⟨rfl, rfl⟩) | fail)
      go_ret
      exact ⟨ret_bool (by
        rw [← HZ.out]
        symm
        rw [nameB_false]
        rintro ⟨_, h, _⟩
        have h' := h h0
        rw [HD.out] at h'
        cases h'), rfl⟩
    · have hd : dgB s[0].toNat = false := by simpa using hd
      have HD := Lib.hid hd
      clear hd
      go_enter Try.func27, Try.ntmps27
      go_wp2_with (first | (go_at_call 28; refine (value_is _ _ true HV.out).mono ?_; rintro e w' ⟨rfl, rfl⟩) | (go_at_call 44; refine (digit_is _ _ false HD.out).mono ?_; rintro e w' ⟨rfl, rfl⟩) | fail)
      go_loop [15] (fun i => ∃ k : Nat, k ≤ s.size ∧ i = .int .i64 k ∧ Hid (∀ j, j < k → nmAt s j)) (fun i => s.size - (intOf i).toNat)
      case atStart => exact ⟨0, by omega, rfl, Lib.hid (fun j hj => absurd hj (by omega))⟩
      case round =>
        obtain ⟨k, hk, rfl, HI⟩ := hrel
        by_cases hlt : k < s.size
        · have hki : (k : Int) < (s.size : Int) := by omega
          have hc := byte_lt s[k]
          by_cases h1 : s[k].toNat = 95
          · have h1a : ((s[k].toNat : Int) != 95) = false := by simp [h1]
            have HN := Lib.hid (show nmC s[k] = true by unfold nmC; simp [h1])
            clear h1
            go_wp2_with fail
            go_round
            case rel => exact ⟨k + 1, by omega, by go_num, Lib.hid (fun j hj => by
              by_cases e : j = k
              · subst e; exact fun _ => HN.out
              · exact HI.out j (by omega))⟩
            case measure => simp [intOf]; omega
          · have h1a : ((s[k].toNat : Int) != 95) = true := by simp; omega
            by_cases h2 : dgB s[k].toNat = true
            · have HN := Lib.hid (show nmC s[k] = true by unfold nmC; simp [h2])
              have H2 := Lib.hid h2
              clear h1 h2
              go_wp2_with (first | (go_at_call 44; refine (digit_is _ _ true H2.out).mono ?_; rintro e w' ⟨rfl, rfl⟩) | fail)
              go_round
              case rel => exact ⟨k + 1, by omega, by go_num, Lib.hid (fun j hj => by
                by_cases e : j = k
                · subst e; exact fun _ => HN.out
                · exact HI.out j (by omega))⟩
              case measure => simp [intOf]; omega
            · have h2' : dgB s[k].toNat = false := by simpa using h2
              by_cases h3 : ltB s[k].toNat = true
              · have HN := Lib.hid (show nmC s[k] = true by unfold nmC; simp [h3])
                have H2 := Lib.hid h2'
                have H3 := Lib.hid h3
                clear h1 h2 h2' h3
                go_wp2_with (first | (go_at_call 44; refine (digit_is _ _ false H2.out).mono ?_; rintro e w' ⟨rfl, rfl⟩) | (go_at_call 45; refine (letter_is _ _ true H3.out).mono ?_; rintro e w' ⟨rfl, rfl⟩) | fail)
                go_round
                case rel => exact ⟨k + 1, by omega, by go_num, Lib.hid (fun j hj => by
                  by_cases e : j = k
                  · subst e; exact fun _ => HN.out
                  · exact HI.out j (by omega))⟩
                case measure => simp [intOf]; omega
              · have h3' : ltB s[k].toNat = false := by simpa using h3
                have HN := Lib.hid (show nmC s[k] = false by unfold nmC; simp [h1, h2', h3'])
                have H2 := Lib.hid h2'
                have H3 := Lib.hid h3'
                clear h1 h2 h2' h3 h3'
                go_wp2_with (first | (go_at_call 44; refine (digit_is _ _ false H2.out).mono ?_; rintro e w' ⟨rfl, rfl⟩) | (go_at_call 45; refine (letter_is _ _ false H3.out).mono ?_; rintro e w' ⟨rfl, rfl⟩) | fail)
                go_ret
                exact ⟨ret_bool (by
                  rw [← HZ.out]
                  symm
                  rw [nameB_false]
                  rintro ⟨_, _, h⟩
                  have := h k hlt
                  rw [HN.out] at this
                  cases this), rfl⟩
        · obtain rfl : k = s.size := by omega
          have hki : ¬ ((s.size : Int) < (s.size : Int)) := by omega
          go_wp2_with fail
          go_ret
          exact ⟨ret_bool (by
            rw [← HZ.out]
            symm
            rw [nameB_iff]
            exact ⟨HV.out, fun _ => HD.out, fun i hi => HI.out i hi hi⟩), rfl⟩
  · have hv : valB s = false := by simpa using hv
    have HV := Lib.hid hv
    clear hv
    go_enter Try.func27, Try.ntmps27
    go_wp2_with (first | (go_at_call 28; refine (value_is _ _ false HV.out).mono ?_; rintro e w' ⟨rfl, rfl⟩) | fail)
    go_ret
    exact ⟨ret_bool (by
      rw [← HZ.out]
      symm
      rw [nameB_false]
      rintro ⟨h, _⟩
      rw [HV.out] at h
      cases h), rfl⟩
end Go.Proofs.Ytnnfoagdgoionab
