/- The document's Check of labels. -/
import Derived.Test.YtnabfganecghkaaDoorLbC
/-! The program's Check of labels. -/
namespace Go.Proofs.YtnabfganecghkaaDoor.Lb
open Go.RowKit
set_option linter.unusedVariables false

/-- a call that leaves the world as it is, where the walk asks for one of a row of worlds -/
theorem stays {P : Program} {f : FuncId} {args : Array Value} {W : World} {v : Value} {row : Nat → World} {at_ : Nat} (same : row at_ = W) (h : Calls P f args W fun e w' => e = .returned v ∧ W = w') :
    Calls P f args W fun e w' => e = .returned v ∧ ∃ k, w' = row k := by
  refine h.mono ?_
  rintro e w' ⟨he, rfl⟩
  exact ⟨he, at_, same.symm⟩
theorem name_is (s : ByteArray) (w : World) (hs : Ws s) (z : Bool) (h : nameB s = z) : Calls Tryd.prog 53 #[.string s] w fun e w' => e = .returned (.bool z) ∧ w = w' := h ▸ name_any s w hs
/-- what Check's loop knows -/
def KRel (l : List Lab) (w : World) (k : Nat) (wr : World) : Prop := (∀ i, i < k → GoodAt l i) ∧ Below w.heap.size w wr
theorem krel_next {l : List Lab} {w wr : World} {k : Nat} {v0 v1 : Value} {t n : Nat} (h : KRel l w k wr) (hg : GoodAt l k) : KRel l w (k + 1) ((wr.alloc (.cells #[v0, v1] t)).drewN n) :=
  ⟨fun i hi => by
    by_cases e : i = k
    · subst e; exact hg
    · exact h.1 i (by omega), below_drewN (h.2.alloc h.2.size _) n⟩
theorem krel_end {l : List Lab} {w wr : World} {k : Nat} {v0 v1 : Value} {t n : Nat} (h : KRel l w k wr) : Below w.heap.size w ((wr.alloc (.cells #[v0, v1] t)).drewN n) := below_drewN (h.2.alloc h.2.size _) n
set_option maxHeartbeats 2000000 in
theorem check_any (A : Option Addr) (n c : Nat) (l : List Lab) (w : World) (hn : n = l.length) (h : Lw w A l) :
    Calls Tryd.prog 40 #[.slice A n c] w fun e w' => e = .returned (.int .i64 (chk l)) ∧ Below w.heap.size w w' := by
  subst hn
  obtain ⟨V, hV⟩ : ∃ V, chk l = V := ⟨_, rfl⟩
  have HV := Lib.hid hV
  rw [hV]
  clear hV
  by_cases h16 : 16 < l.length
  · have HE := Lib.hid (show V = 9 by rw [← HV.out]; exact chk_9 h16)
    have h16i : (16 : Int) < (l.length : Int) := by omega
    clear h
    go_enter Tryd.func40, Tryd.ntmps40
    go_wp2_with fail
    go_ret
    exact ⟨ret_int HE.out.symm, Below.refl _ _⟩
  · have h16i : ¬ ((16 : Int) < (l.length : Int)) := by omega
    have HL := Lib.hid h
    have h16n : l.length ≤ 16 := by omega
    clear h h16
    go_enter Tryd.func40, Tryd.ntmps40
    go_wp2_with fail
    clear h16i
    go_loopw [10] (fun i wr => ∃ k : Nat, k ≤ l.length ∧ i = .int .i64 k ∧ Hid (KRel l w k wr)) (fun i _ => l.length - (intOf i).toNat)
    case atStart => exact ⟨0, by omega, rfl, Lib.hid ⟨fun i hi => absurd hi (by omega), Below.refl _ _⟩⟩
    case round =>
      obtain ⟨k, hk, rfl, HK⟩ := hrel
      by_cases hlt : k < l.length
      · have hki : (k : Int) < (l.length : Int) := by omega
        obtain ⟨p, hp⟩ := getElem?_lt hlt
        obtain ⟨b, off, rfl, hcell⟩ := (HL.out.below HK.out.2).some_ (by omega)
        obtain ⟨q0, q1⟩ := hcell k p hp
        have hpw := HL.out.2.1 p (mem_of_at hp)
        have HP := Lib.hid hp
        have HW := Lib.hid hpw.1
        have hlb := block_lt_of_cell q0
        simp only at hlb
        by_cases hnm : nameB p.1 = true
        · have HN := Lib.hid hnm
          by_cases hvl : valB p.2 = true
          · have HVL := Lib.hid hvl
            by_cases hk0 : k = 0
            · have HG := Lib.hid (show GoodAt l k by
                intro p' hp'
                rw [HP.out] at hp'
                injection hp' with hp'
                subst hp'
                exact ⟨⟨(nameB_iff _).1 HN.out, HVL.out⟩, fun q h => absurd h (by omega)⟩)
              have hz1 : decide (0 < k) = false := by simp; omega
              have hz2 : decide ((0 : Int) < (k : Int)) = false := by simp; omega
              clear hcell hp hpw hnm hvl hk0
              go_wp2_with fail
              go_quiet ((first | (go_at_call 53; exact stays rfl (name_is _ _ HW.out true HN.out)) | (go_at_call 54; exact stays rfl (value_is _ _ true HVL.out))))
              go_wp2_with fail
              go_roundw
              case rel => exact ⟨k + 1, by omega, by go_num, Lib.hid (krel_next HK.out HG.out)⟩
              case measure => simp [intOf]; omega
            · obtain ⟨m, rfl⟩ : ∃ m, k = m + 1 := ⟨k - 1, by omega⟩
              obtain ⟨q, hq⟩ := getElem?_lt (l := l) (k := m) (by omega)
              obtain ⟨r0, r1⟩ := hcell m q hq
              have HQ := Lib.hid hq
              have a1 : IntKind.i64.wrap (((m + 1 : Nat) : Int) - 1) = (m : Int) := by
                rw [show (((m + 1 : Nat) : Int) - 1) = (m : Int) by omega]; exact IntWalk.i64_in _ (by omega)
              have a2 : (0 : Int) < ((m + 1 : Nat) : Int) := by omega
              have a4 : (m : Int) < (l.length : Int) := by omega
              by_cases hls : ltS q.1 p.1
              · have hz := leq_false hls
                have HG := Lib.hid (show GoodAt l (m + 1) by
                  intro p' hp'
                  rw [HP.out] at hp'
                  injection hp' with hp'
                  subst hp'
                  refine ⟨⟨(nameB_iff _).1 HN.out, HVL.out⟩, fun q' _ hq' => ?_⟩
                  rw [Nat.add_sub_cancel, HQ.out] at hq'
                  injection hq' with hq'
                  subst hq'
                  exact hls)
                clear hcell hp hpw hnm hvl hq hls hk0
                go_wp2_with fail
                go_quiet ((first | (go_at_call 53; exact stays rfl (name_is _ _ HW.out true HN.out)) | (go_at_call 54; exact stays rfl (value_is _ _ true HVL.out))))
                go_wp2_with fail
                go_roundw
                case rel => exact ⟨m + 1 + 1, by omega, by go_num, Lib.hid (krel_next HK.out HG.out)⟩
                case measure => simp [intOf]; omega
              · have hz := leq_true hls
                have HE := Lib.hid (show V = 26 by
                  rw [← HV.out]
                  exact chk_26 h16n (bad_at (k := m + 1) (fun h => hls ((h p HP.out).2 q (by omega) (by rw [Nat.add_sub_cancel]; exact HQ.out)))))
                clear hcell hp hpw hnm hvl hq hls hk0
                go_wp2_with fail
                go_quiet ((first | (go_at_call 53; exact stays rfl (name_is _ _ HW.out true HN.out)) | (go_at_call 54; exact stays rfl (value_is _ _ true HVL.out))))
                go_wp2_with fail
                go_ret
                exact ⟨ret_int HE.out.symm, krel_end HK.out⟩
          · have hvl' : valB p.2 = false := by simpa using hvl
            have HVL := Lib.hid hvl'
            have HE := Lib.hid (show V = 26 by
              rw [← HV.out]
              exact chk_26 h16n (bad_at (k := k) (fun h => hvl (h p HP.out).1.2)))
            clear hcell hp hpw hnm hvl hvl'
            go_wp2_with fail
            go_quiet ((first | (go_at_call 53; exact stays rfl (name_is _ _ HW.out true HN.out)) | (go_at_call 54; exact stays rfl (value_is _ _ false HVL.out))))
            go_wp2_with fail
            go_ret
            exact ⟨ret_int HE.out.symm, krel_end HK.out⟩
        · have hnm' : nameB p.1 = false := by simpa using hnm
          have HN := Lib.hid hnm'
          have HE := Lib.hid (show V = 26 by
            rw [← HV.out]
            exact chk_26 h16n (bad_at (k := k) (fun h => hnm ((nameB_iff _).2 (h p HP.out).1.1))))
          clear hcell hp hpw hnm hnm'
          go_wp2_with fail
          go_quiet ((go_at_call 53; exact stays rfl (name_is _ _ HW.out false HN.out)))
          go_wp2_with fail
          go_ret
          exact ⟨ret_int HE.out.symm, krel_end HK.out⟩
      · obtain rfl : k = l.length := by omega
        have hki : ¬ ((l.length : Int) < (l.length : Int)) := by omega
        have HE := Lib.hid (show V = 0 by rw [← HV.out]; exact chk_0 h16n (good_all HK.out.1))
        go_wp2_with fail
        go_ret
        exact ⟨ret_int HE.out.symm, HK.out.2⟩
end Go.Proofs.YtnabfganecghkaaDoor.Lb

/-! The document's Name and Check of labels. -/
namespace Go.Proofs.YtnabfganecghkaaDoor.Lb
open Go.RowKit
set_option linter.unusedVariables false

def okAt (s : ByteArray) (k : Nat) : Prop := ∀ h : k < s.size, s[k].toNat = 95 ∨ ltB s[k].toNat = true ∨ 0 < k ∧ dgB s[k].toNat = true
theorem lt_not_dg {c : Int} (h : ltB c = true) : dgB c = false := by
  unfold ltB at h
  unfold dgB
  simp at h ⊢
  omega
theorem ok_name {s : ByteArray} (hv : valB s = true) (h : ∀ i, i < s.size → okAt s i) : NameP s := by
  refine ⟨hv, fun h0 => ?_, fun i hi => ?_⟩
  · rcases h 0 h0 h0 with e | e | ⟨e, _⟩
    · unfold dgB; simp [e]
    · exact lt_not_dg e
    · omega
  · unfold nmC
    rcases h i hi hi with e | e | ⟨_, e⟩
    · simp [e]
    · simp [e]
    · simp [e]
theorem bad_name {s : ByteArray} {k : Nat} (hk : k < s.size) (h1 : s[k].toNat ≠ 95) (h2 : ltB s[k].toNat = false) (h3 : k = 0 ∨ dgB s[k].toNat = false) : ¬ NameP s := by
  rintro ⟨_, hf, hn⟩
  have := hn k hk
  unfold nmC at this
  rcases h3 with h3 | h3
  · subst h3
    have := hf hk
    simp_all
  · simp_all
set_option maxHeartbeats 2000000 in
theorem rname_any (s : ByteArray) (w : World) (hs : Ws s) : Calls Tryd.prog 18 #[.string s] w fun e w' => e = .returned (.bool (nameB s)) ∧ w = w' := by
  unfold Ws at hs
  obtain ⟨z, hz⟩ : ∃ z, nameB s = z := ⟨_, rfl⟩
  have HZ := Lib.hid hz
  rw [hz]
  clear hz
  by_cases h1 : s.size < 1
  · have h1i : (s.size : Int) < 1 := by omega
    have HE := Lib.hid (show z = false by
      rw [← HZ.out, nameB_false]
      rintro ⟨h, _⟩
      have := valB_pos h
      omega)
    go_enter Tryd.func18, Tryd.ntmps18
    go_wp2_with fail
    go_ret
    exact ⟨ret_bool HE.out.symm, rfl⟩
  · have h1i : ¬ ((s.size : Int) < 1) := by omega
    by_cases h2 : 64 < s.size
    · have h2i : (64 : Int) < (s.size : Int) := by omega
      have HE := Lib.hid (show z = false by
        rw [← HZ.out, nameB_false]
        rintro ⟨h, _⟩
        have := valB_le h
        omega)
      go_enter Tryd.func18, Tryd.ntmps18
      go_wp2_with fail
      go_ret
      exact ⟨ret_bool HE.out.symm, rfl⟩
    · have h2i : ¬ ((64 : Int) < (s.size : Int)) := by omega
      have HV := Lib.hid (show valB s = true by unfold valB; simp; omega)
      go_enter Tryd.func18, Tryd.ntmps18
      go_wp2_with fail
      go_loop [3] (fun i => ∃ k : Nat, k ≤ s.size ∧ i = .int .i64 k ∧ Hid (∀ j, j < k → okAt s j)) (fun i => s.size - (intOf i).toNat)
      case atStart => exact ⟨0, by omega, rfl, Lib.hid (fun j hj => absurd hj (by omega))⟩
      case round =>
        obtain ⟨k, hk, rfl, HI⟩ := hrel
        by_cases hlt : k < s.size
        · have hki : (k : Int) < (s.size : Int) := by omega
          have hc := byte_lt s[k]
          have hmid : s[k].toNat = 95 ∨ (65 ≤ s[k].toNat ∧ s[k].toNat ≤ 90) ∨ (97 ≤ s[k].toNat ∧ s[k].toNat ≤ 122) ∨ (48 ≤ s[k].toNat ∧ s[k].toNat ≤ 57 ∧ 0 < k) ∨ (48 ≤ s[k].toNat ∧ s[k].toNat ≤ 57 ∧ k = 0) ∨ s[k].toNat < 48 ∨ (57 < s[k].toNat ∧ s[k].toNat < 65) ∨ (90 < s[k].toNat ∧ s[k].toNat < 97 ∧ s[k].toNat ≠ 95) ∨ 122 < s[k].toNat := by omega
          obtain ⟨x, hx⟩ : ∃ x, s[k].toNat = x := ⟨_, rfl⟩
          have HX := Lib.hid hx
          rw [hx] at hc hmid
          rcases hmid with h | ⟨h, h'⟩ | ⟨h, h'⟩ | ⟨h, h', h0⟩ | ⟨h, h', h0⟩ | h | ⟨h, h'⟩ | ⟨h, h', h0⟩ | h
          · have e1 : ((x : Int) == 95) = true := by simp; omega
            have g65 : ((65 : Int) ≤ (x : Int)) := by omega
            have g97 : ¬ ((97 : Int) ≤ (x : Int)) := by omega
            have g48 : ((48 : Int) ≤ (x : Int)) := by omega
            have l90 : ¬ ((x : Int) ≤ (90 : Int)) := by omega
            have l122 : ((x : Int) ≤ (122 : Int)) := by omega
            have l57 : ¬ ((x : Int) ≤ (57 : Int)) := by omega
            have HN := Lib.hid (show okAt s k from fun _ => .inl (by rw [HX.out]; exact h))
            clear h
            go_wp2_with fail
            go_round
            case rel => exact ⟨k + 1, by omega, by go_num, Lib.hid (fun j hj => by
              by_cases e : j = k
              · subst e; exact HN.out
              · exact HI.out j (by omega))⟩
            case measure => simp [intOf]; omega
          · have e1 : ((x : Int) == 95) = false := by simp; omega
            have g65 : ((65 : Int) ≤ (x : Int)) := by omega
            have g97 : ¬ ((97 : Int) ≤ (x : Int)) := by omega
            have g48 : ((48 : Int) ≤ (x : Int)) := by omega
            have l90 : ((x : Int) ≤ (90 : Int)) := by omega
            have l122 : ((x : Int) ≤ (122 : Int)) := by omega
            have l57 : ¬ ((x : Int) ≤ (57 : Int)) := by omega
            have HN := Lib.hid (show okAt s k from fun _ => .inr (.inl (by rw [HX.out]; unfold ltB; simp; omega)))
            clear h h'
            go_wp2_with fail
            go_round
            case rel => exact ⟨k + 1, by omega, by go_num, Lib.hid (fun j hj => by
              by_cases e : j = k
              · subst e; exact HN.out
              · exact HI.out j (by omega))⟩
            case measure => simp [intOf]; omega
          · have e1 : ((x : Int) == 95) = false := by simp; omega
            have g65 : ((65 : Int) ≤ (x : Int)) := by omega
            have g97 : ((97 : Int) ≤ (x : Int)) := by omega
            have g48 : ((48 : Int) ≤ (x : Int)) := by omega
            have l90 : ¬ ((x : Int) ≤ (90 : Int)) := by omega
            have l122 : ((x : Int) ≤ (122 : Int)) := by omega
            have l57 : ¬ ((x : Int) ≤ (57 : Int)) := by omega
            have HN := Lib.hid (show okAt s k from fun _ => .inr (.inl (by rw [HX.out]; unfold ltB; simp; omega)))
            clear h h'
            go_wp2_with fail
            go_round
            case rel => exact ⟨k + 1, by omega, by go_num, Lib.hid (fun j hj => by
              by_cases e : j = k
              · subst e; exact HN.out
              · exact HI.out j (by omega))⟩
            case measure => simp [intOf]; omega
          · have e1 : ((x : Int) == 95) = false := by simp; omega
            have g65 : ¬ ((65 : Int) ≤ (x : Int)) := by omega
            have g97 : ¬ ((97 : Int) ≤ (x : Int)) := by omega
            have g48 : ((48 : Int) ≤ (x : Int)) := by omega
            have l90 : ((x : Int) ≤ (90 : Int)) := by omega
            have l122 : ((x : Int) ≤ (122 : Int)) := by omega
            have l57 : ((x : Int) ≤ (57 : Int)) := by omega
            have HN := Lib.hid (show okAt s k from fun _ => .inr (.inr ⟨h0, by rw [HX.out]; unfold dgB; simp; omega⟩))
            have z1 : decide (0 < k) = true := by simp; omega
            have z2 : (0 : Int) < (k : Int) := by omega
            clear h h' h0
            go_wp2_with fail
            go_round
            case rel => exact ⟨k + 1, by omega, by go_num, Lib.hid (fun j hj => by
              by_cases e : j = k
              · subst e; exact HN.out
              · exact HI.out j (by omega))⟩
            case measure => simp [intOf]; omega
          · have e1 : ((x : Int) == 95) = false := by simp; omega
            have g65 : ¬ ((65 : Int) ≤ (x : Int)) := by omega
            have g97 : ¬ ((97 : Int) ≤ (x : Int)) := by omega
            have g48 : ((48 : Int) ≤ (x : Int)) := by omega
            have l90 : ((x : Int) ≤ (90 : Int)) := by omega
            have l122 : ((x : Int) ≤ (122 : Int)) := by omega
            have l57 : ((x : Int) ≤ (57 : Int)) := by omega
            have HN := Lib.hid (show z = false by rw [← HZ.out, nameB_false]; exact bad_name hlt (by rw [HX.out]; omega) (by rw [HX.out]; unfold ltB; simp; omega) (.inl h0))
            have z1 : decide (0 < k) = false := by simp; omega
            have z2 : decide ((0 : Int) < (k : Int)) = false := by simp; omega
            clear h h' h0
            go_wp2_with fail
            go_ret
            exact ⟨ret_bool HN.out.symm, rfl⟩
          · have e1 : ((x : Int) == 95) = false := by simp; omega
            have g65 : ¬ ((65 : Int) ≤ (x : Int)) := by omega
            have g97 : ¬ ((97 : Int) ≤ (x : Int)) := by omega
            have g48 : ¬ ((48 : Int) ≤ (x : Int)) := by omega
            have l90 : ((x : Int) ≤ (90 : Int)) := by omega
            have l122 : ((x : Int) ≤ (122 : Int)) := by omega
            have l57 : ((x : Int) ≤ (57 : Int)) := by omega
            have HN := Lib.hid (show z = false by rw [← HZ.out, nameB_false]; exact bad_name hlt (by rw [HX.out]; omega) (by rw [HX.out]; unfold ltB; simp; omega) (.inr (by rw [HX.out]; unfold dgB; simp; omega)))
            clear h
            go_wp2_with fail
            all_goals
              go_ret
              exact ⟨ret_bool HN.out.symm, rfl⟩
          · have e1 : ((x : Int) == 95) = false := by simp; omega
            have g65 : ¬ ((65 : Int) ≤ (x : Int)) := by omega
            have g97 : ¬ ((97 : Int) ≤ (x : Int)) := by omega
            have g48 : ((48 : Int) ≤ (x : Int)) := by omega
            have l90 : ((x : Int) ≤ (90 : Int)) := by omega
            have l122 : ((x : Int) ≤ (122 : Int)) := by omega
            have l57 : ¬ ((x : Int) ≤ (57 : Int)) := by omega
            have HN := Lib.hid (show z = false by rw [← HZ.out, nameB_false]; exact bad_name hlt (by rw [HX.out]; omega) (by rw [HX.out]; unfold ltB; simp; omega) (.inr (by rw [HX.out]; unfold dgB; simp; omega)))
            clear h h'
            go_wp2_with fail
            all_goals
              go_ret
              exact ⟨ret_bool HN.out.symm, rfl⟩
          · have e1 : ((x : Int) == 95) = false := by simp; omega
            have g65 : ((65 : Int) ≤ (x : Int)) := by omega
            have g97 : ¬ ((97 : Int) ≤ (x : Int)) := by omega
            have g48 : ((48 : Int) ≤ (x : Int)) := by omega
            have l90 : ¬ ((x : Int) ≤ (90 : Int)) := by omega
            have l122 : ((x : Int) ≤ (122 : Int)) := by omega
            have l57 : ¬ ((x : Int) ≤ (57 : Int)) := by omega
            have HN := Lib.hid (show z = false by rw [← HZ.out, nameB_false]; exact bad_name hlt (by rw [HX.out]; omega) (by rw [HX.out]; unfold ltB; simp; omega) (.inr (by rw [HX.out]; unfold dgB; simp; omega)))
            clear h h' h0
            go_wp2_with fail
            all_goals
              go_ret
              exact ⟨ret_bool HN.out.symm, rfl⟩
          · have e1 : ((x : Int) == 95) = false := by simp; omega
            have g65 : ((65 : Int) ≤ (x : Int)) := by omega
            have g97 : ((97 : Int) ≤ (x : Int)) := by omega
            have g48 : ((48 : Int) ≤ (x : Int)) := by omega
            have l90 : ¬ ((x : Int) ≤ (90 : Int)) := by omega
            have l122 : ¬ ((x : Int) ≤ (122 : Int)) := by omega
            have l57 : ¬ ((x : Int) ≤ (57 : Int)) := by omega
            have HN := Lib.hid (show z = false by rw [← HZ.out, nameB_false]; exact bad_name hlt (by rw [HX.out]; omega) (by rw [HX.out]; unfold ltB; simp; omega) (.inr (by rw [HX.out]; unfold dgB; simp; omega)))
            clear h
            go_wp2_with fail
            all_goals
              go_ret
              exact ⟨ret_bool HN.out.symm, rfl⟩
        · obtain rfl : k = s.size := by omega
          have hki : ¬ ((s.size : Int) < (s.size : Int)) := by omega
          have HE := Lib.hid (show z = true by rw [← HZ.out, nameB_iff]; exact ok_name HV.out HI.out)
          go_wp2_with fail
          go_ret
          exact ⟨ret_bool HE.out.symm, rfl⟩
end Go.Proofs.YtnabfganecghkaaDoor.Lb

/-! The document's Check of labels. -/
namespace Go.Proofs.YtnabfganecghkaaDoor.Lb
open Go.RowKit
set_option linter.unusedVariables false

theorem rname_is (s : ByteArray) (w : World) (hs : Ws s) (z : Bool) (h : nameB s = z) : Calls Tryd.prog 18 #[.string s] w fun e w' => e = .returned (.bool z) ∧ w = w' := h ▸ rname_any s w hs
/-- what the loop of the document's Check knows -/
def JRel (l : List Lab) (w : World) (k : Nat) (wr : World) : Prop := (∀ i, i < k → GoodAt l i) ∧ ∃ q, wr = w.drewN q
theorem jrel_next {l : List Lab} {w wr : World} {k n : Nat} (h : JRel l w k wr) (hg : GoodAt l k) : JRel l w (k + 1) (wr.drewN n) :=
  ⟨fun i hi => by
    by_cases e : i = k
    · subst e; exact hg
    · exact h.1 i (by omega), by
    obtain ⟨q, rfl⟩ := h.2
    exact ⟨q + n, by rw [World.drewN_drewN]⟩⟩
theorem jrel_end {l : List Lab} {w wr : World} {k : Nat} (h : JRel l w k wr) (n : Nat) : ∃ q, wr.drewN n = w.drewN q := by
  obtain ⟨q, rfl⟩ := h.2
  exact ⟨q + n, by rw [World.drewN_drewN]⟩
end Go.Proofs.YtnabfganecghkaaDoor.Lb
