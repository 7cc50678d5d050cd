/- The document's Name and Check of labels. -/
import Derived.Test.YtnnfoagdgoionabLbK
namespace Go.Proofs.Ytnnfoagdgoionab
open Go.RowKit
set_option linter.unusedVariables false

def okAt (s : ByteArray) (k : Nat) : Prop := ∀ h : k < s.size, s[k].toNat = 95 ∨ ltB s[k].toNat = true ∨ 0 < k ∧ dgB s[k].toNat = true
theorem lt_not_dg {c : Int} (h : ltB c = true) : dgB c = false := by
  unfold ltB at h
  unfold dgB
  simp at h ⊢
  omega
theorem ok_name {s : ByteArray} (hv : valB s = true) (h : ∀ i, i < s.size → okAt s i) : NameP s := by
  refine ⟨hv, fun h0 => ?_, fun i hi => ?_⟩
  · rcases h 0 h0 h0 with e | e | ⟨e, _⟩
    · unfold dgB; simp [e]
    · exact lt_not_dg e
    · omega
  · unfold nmC
    rcases h i hi hi with e | e | ⟨_, e⟩
    · simp [e]
    · simp [e]
    · simp [e]
theorem bad_name {s : ByteArray} {k : Nat} (hk : k < s.size) (h1 : s[k].toNat ≠ 95) (h2 : ltB s[k].toNat = false) (h3 : k = 0 ∨ dgB s[k].toNat = false) : ¬ NameP s := by
  rintro ⟨_, hf, hn⟩
  have := hn k hk
  unfold nmC at this
  rcases h3 with h3 | h3
  · subst h3
    have := hf hk
    simp_all
  · simp_all
set_option maxHeartbeats 2000000 in
theorem rname_any (s : ByteArray) (w : World) (hs : Ws s) : Calls Try.prog 29 #[.string s] w fun e w' => e = .returned (.bool (nameB s)) ∧ w = w' := by
  unfold Ws at hs
  obtain ⟨z, hz⟩ : ∃ z, nameB s = z := ⟨_, rfl⟩
  have HZ := Lib.hid hz
  rw [hz]
  clear hz
  by_cases h1 : s.size < 1
  · have h1i : (s.size : Int) < 1 := by omega
    have HE := Lib.hid (show z = false by
      rw [← HZ.out, nameB_false]
      rintro ⟨h, _⟩
      have := valB_pos h
      omega)
    go_enter Try.func29, Try.ntmps29
    go_wp2_with fail
    go_ret
    exact ⟨ret_bool HE.out.symm, rfl⟩
  · have h1i : ¬ ((s.size : Int) < 1) := by omega
    by_cases h2 : 64 < s.size
    · have h2i : (64 : Int) < (s.size : Int) := by omega
      have HE := Lib.hid (show z = false by
        rw [← HZ.out, nameB_false]
        rintro ⟨h, _⟩
        have := valB_le h
        omega)
      go_enter Try.func29, Try.ntmps29
      go_wp2_with fail
      go_ret
      exact ⟨ret_bool HE.out.symm, rfl⟩
    · have h2i : ¬ ((64 : Int) < (s.size : Int)) := by omega
      have HV := Lib.hid (show valB s = true by unfold valB; simp; omega)
      go_enter Try.func29, Try.ntmps29
      go_wp2_with fail
      go_loop [3] (fun i => ∃ k : Nat, k ≤ s.size ∧ i = .int .i64 k ∧ Hid (∀ j, j < k → okAt s j)) (fun i => s.size - (intOf i).toNat)
      case atStart => exact ⟨0, by omega, rfl, Lib.hid (fun j hj => absurd hj (by omega))⟩
      case round =>
        obtain ⟨k, hk, rfl, HI⟩ := hrel
        by_cases hlt : k < s.size
        · have hki : (k : Int) < (s.size : Int) := by omega
          have hc := byte_lt s[k]
          have hmid : s[k].toNat = 95 ∨ (65 ≤ s[k].toNat ∧ s[k].toNat ≤ 90) ∨ (97 ≤ s[k].toNat ∧ s[k].toNat ≤ 122) ∨ (48 ≤ s[k].toNat ∧ s[k].toNat ≤ 57 ∧ 0 < k) ∨ (48 ≤ s[k].toNat ∧ s[k].toNat ≤ 57 ∧ k = 0) ∨ s[k].toNat < 48 ∨ (57 < s[k].toNat ∧ s[k].toNat < 65) ∨ (90 < s[k].toNat ∧ s[k].toNat < 97 ∧ s[k].toNat ≠ 95) ∨ 122 < s[k].toNat := by omega
          obtain ⟨x, hx⟩ : ∃ x, s[k].toNat = x := ⟨_, rfl⟩
          have HX := Lib.hid hx
          rw [hx] at hc hmid
          rcases hmid with h | ⟨h, h'⟩ | ⟨h, h'⟩ | ⟨h, h', h0⟩ | ⟨h, h', h0⟩ | h | ⟨h, h'⟩ | ⟨h, h', h0⟩ | h
          · have e1 : ((x : Int) == 95) = true := by simp; omega
            have g65 : ((65 : Int) ≤ (x : Int)) := by omega
            have g97 : ¬ ((97 : Int) ≤ (x : Int)) := by omega
            have g48 : ((48 : Int) ≤ (x : Int)) := by omega
            have l90 : ¬ ((x : Int) ≤ (90 : Int)) := by omega
            have l122 : ((x : Int) ≤ (122 : Int)) := by omega
            have l57 : ¬ ((x : Int) ≤ (57 : Int)) := by omega
            have HN := Lib.hid (show okAt s k from fun _ => .inl (by rw [HX.out]; exact h))
            clear h
            go_wp2_with fail
            go_round
            case rel => exact ⟨k + 1, by omega, by go_num, Lib.hid (fun j hj => by
              by_cases e : j = k
              · subst e; exact HN.out
              · exact HI.out j (by omega))⟩
            case measure => simp [intOf]; omega
          · have e1 : ((x : Int) == 95) = false := by simp; omega
            have g65 : ((65 : Int) ≤ (x : Int)) := by omega
            have g97 : ¬ ((97 : Int) ≤ (x : Int)) := by omega
            have g48 : ((48 : Int) ≤ (x : Int)) := by omega
            have l90 : ((x : Int) ≤ (90 : Int)) := by omega
            have l122 : ((x : Int) ≤ (122 : Int)) := by omega
            have l57 : ¬ ((x : Int) ≤ (57 : Int)) := by omega
            have HN := Lib.hid (show okAt s k from fun _ => .inr (.inl (by rw [HX.out]; unfold ltB; simp; omega)))
            clear h h'
            go_wp2_with fail
            go_round
            case rel => exact ⟨k + 1, by omega, by go_num, Lib.hid (fun j hj => by
              by_cases e : j = k
              · subst e; exact HN.out
              · exact HI.out j (by omega))⟩
            case measure => simp [intOf]; omega
          · have e1 : ((x : Int) == 95) = false := by simp; omega
            have g65 : ((65 : Int) ≤ (x : Int)) := by omega
            have g97 : ((97 : Int) ≤ (x : Int)) := by omega
            have g48 : ((48 : Int) ≤ (x : Int)) := by omega
            have l90 : ¬ ((x : Int) ≤ (90 : Int)) := by omega
            have l122 : ((x : Int) ≤ (122 : Int)) := by omega
            have l57 : ¬ ((x : Int) ≤ (57 : Int)) := by omega
            have HN := Lib.hid (show okAt s k from fun _ => .inr (.inl (by rw [HX.out]; unfold ltB; simp; omega)))
            clear h h'
            go_wp2_with fail
            go_round
            case rel => exact ⟨k + 1, by omega, by go_num, Lib.hid (fun j hj => by
              by_cases e : j = k
              · subst e; exact HN.out
              · exact HI.out j (by omega))⟩
            case measure => simp [intOf]; omega
          · have e1 : ((x : Int) == 95) = false := by simp; omega
            have g65 : ¬ ((65 : Int) ≤ (x : Int)) := by omega
            have g97 : ¬ ((97 : Int) ≤ (x : Int)) := by omega
            have g48 : ((48 : Int) ≤ (x : Int)) := by omega
            have l90 : ((x : Int) ≤ (90 : Int)) := by omega
            have l122 : ((x : Int) ≤ (122 : Int)) := by omega
            have l57 : ((x : Int) ≤ (57 : Int)) := by omega
            have HN := Lib.hid (show okAt s k from fun _ => .inr (.inr ⟨h0, by rw [HX.out]; unfold dgB; simp; omega⟩))
            have z1 : decide (0 < k) = true := by simp; omega
            have z2 : (0 : Int) < (k : Int) := by omega
            clear h h' h0
            go_wp2_with fail
            go_round
            case rel => exact ⟨k + 1, by omega, by go_num, Lib.hid (fun j hj => by
              by_cases e : j = k
              · subst e; exact HN.out
              · exact HI.out j (by omega))⟩
            case measure => simp [intOf]; omega
          · have e1 : ((x : Int) == 95) = false := by simp; omega
            have g65 : ¬ ((65 : Int) ≤ (x : Int)) := by omega
            have g97 : ¬ ((97 : Int) ≤ (x : Int)) := by omega
            have g48 : ((48 : Int) ≤ (x : Int)) := by omega
            have l90 : ((x : Int) ≤ (90 : Int)) := by omega
            have l122 : ((x : Int) ≤ (122 : Int)) := by omega
            have l57 : ((x : Int) ≤ (57 : Int)) := by omega
            have HN := Lib.hid (show z = false by rw [← HZ.out, nameB_false]; exact bad_name hlt (by rw [HX.out]; omega) (by rw [HX.out]; unfold ltB; simp; omega) (.inl h0))
            have z1 : decide (0 < k) = false := by simp; omega
            have z2 : decide ((0 : Int) < (k : Int)) = false := by simp; omega
            clear h h' h0
            go_wp2_with fail
            go_ret
            exact ⟨ret_bool HN.out.symm, rfl⟩
          · have e1 : ((x : Int) == 95) = false := by simp; omega
            have g65 : ¬ ((65 : Int) ≤ (x : Int)) := by omega
            have g97 : ¬ ((97 : Int) ≤ (x : Int)) := by omega
            have g48 : ¬ ((48 : Int) ≤ (x : Int)) := by omega
            have l90 : ((x : Int) ≤ (90 : Int)) := by omega
            have l122 : ((x : Int) ≤ (122 : Int)) := by omega
            have l57 : ((x : Int) ≤ (57 : Int)) := by omega
            have HN := Lib.hid (show z = false by rw [← HZ.out, nameB_false]; exact bad_name hlt (by rw [HX.out]; omega) (by rw [HX.out]; unfold ltB; simp; omega) (.inr (by rw [HX.out]; unfold dgB; simp; omega)))
            clear h
            go_wp2_with fail
            all_goals
              go_ret
              exact ⟨ret_bool HN.out.symm, rfl⟩
          · have e1 : ((x : Int) == 95) = false := by simp; omega
            have g65 : ¬ ((65 : Int) ≤ (x : Int)) := by omega
            have g97 : ¬ ((97 : Int) ≤ (x : Int)) := by omega
            have g48 : ((48 : Int) ≤ (x : Int)) := by omega
            have l90 : ((x : Int) ≤ (90 : Int)) := by omega
            have l122 : ((x : Int) ≤ (122 : Int)) := by omega
            have l57 : ¬ ((x : Int) ≤ (57 : Int)) := by omega
            have HN := Lib.hid (show z = false by rw [← HZ.out, nameB_false]; exact bad_name hlt (by rw [HX.out]; omega) (by rw [HX.out]; unfold ltB; simp; omega) (.inr (by rw [HX.out]; unfold dgB; simp; omega)))
            clear h h'
            go_wp2_with fail
            all_goals
              go_ret
              exact ⟨ret_bool HN.out.symm, rfl⟩
          · have e1 : ((x : Int) == 95) = false := by simp; omega
            have g65 : ((65 : Int) ≤ (x : Int)) := by omega
            have g97 : ¬ ((97 : Int) ≤ (x : Int)) := by omega
            have g48 : ((48 : Int) ≤ (x : Int)) := by omega
            have l90 : ¬ ((x : Int) ≤ (90 : Int)) := by omega
            have l122 : ((x : Int) ≤ (122 : Int)) := by omega
            have l57 : ¬ ((x : Int) ≤ (57 : Int)) := by omega
            have HN := Lib.hid (show z = false by rw [← HZ.out, nameB_false]; exact bad_name hlt (by rw [HX.out]; omega) (by rw [HX.out]; unfold ltB; simp; omega) (.inr (by rw [HX.out]; unfold dgB; simp; omega)))
            clear h h' h0
            go_wp2_with fail
            all_goals
              go_ret
              exact ⟨ret_bool HN.out.symm, rfl⟩
          · have e1 : ((x : Int) == 95) = false := by simp; omega
            have g65 : ((65 : Int) ≤ (x : Int)) := by omega
            have g97 : ((97 : Int) ≤ (x : Int)) := by omega
            have g48 : ((48 : Int) ≤ (x : Int)) := by omega
            have l90 : ¬ ((x : Int) ≤ (90 : Int)) := by omega
            have l122 : ¬ ((x : Int) ≤ (122 : Int)) := by omega
            have l57 : ¬ ((x : Int) ≤ (57 : Int)) := by omega
            have HN := Lib.hid (show z = false by rw [← HZ.out, nameB_false]; exact bad_name hlt (by rw [HX.out]; omega) (by rw [HX.out]; unfold ltB; simp; omega) (.inr (by rw [HX.out]; unfold dgB; simp; omega)))
            clear h
            go_wp2_with fail
            all_goals
              go_ret
              exact ⟨ret_bool HN.out.symm, rfl⟩
        · obtain rfl : k = s.size := by omega
          have hki : ¬ ((s.size : Int) < (s.size : Int)) := by omega
          have HE := Lib.hid (show z = true by rw [← HZ.out, nameB_iff]; exact ok_name HV.out HI.out)
          go_wp2_with fail
          go_ret
          exact ⟨ret_bool HE.out.symm, rfl⟩
end Go.Proofs.Ytnnfoagdgoionab
