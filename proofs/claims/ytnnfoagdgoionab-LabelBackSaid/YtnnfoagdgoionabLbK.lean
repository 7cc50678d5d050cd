/- The program's Check of labels. -/
import Derived.Test.YtnnfoagdgoionabLbC
import Derived.Test.YtnnfoagdgoionabLbO
namespace Go.Proofs.Ytnnfoagdgoionab
open Go.RowKit
set_option linter.unusedVariables false

/-- a call that leaves the world as it is, where the walk asks for one of a row of worlds -/
theorem stays {P : Program} {f : FuncId} {args : Array Value} {W : World} {v : Value} {row : Nat → World} {at_ : Nat} (same : row at_ = W) (h : Calls P f args W fun e w' => e = .returned v ∧ W = w') :
    Calls P f args W fun e w' => e = .returned v ∧ ∃ k, w' = row k := by
  refine h.mono ?_
  rintro e w' ⟨he, rfl⟩
  exact ⟨he, at_, same.symm⟩
theorem name_is (s : ByteArray) (w : World) (hs : Ws s) (z : Bool) (h : nameB s = z) : Calls Try.prog 27 #[.string s] w fun e w' => e = .returned (.bool z) ∧ w = w' := h ▸ name_any s w hs
/-- what Check's loop knows -/
def KRel (l : List Lab) (w : World) (k : Nat) (wr : World) : Prop := (∀ i, i < k → GoodAt l i) ∧ Below w.heap.size w wr
theorem krel_next {l : List Lab} {w wr : World} {k : Nat} {v0 v1 : Value} {t n : Nat} (h : KRel l w k wr) (hg : GoodAt l k) : KRel l w (k + 1) ((wr.alloc (.cells #[v0, v1] t)).drewN n) :=
  ⟨fun i hi => by
    by_cases e : i = k
    · subst e; exact hg
    · exact h.1 i (by omega), below_drewN (h.2.alloc h.2.size _) n⟩
theorem krel_end {l : List Lab} {w wr : World} {k : Nat} {v0 v1 : Value} {t n : Nat} (h : KRel l w k wr) : Below w.heap.size w ((wr.alloc (.cells #[v0, v1] t)).drewN n) := below_drewN (h.2.alloc h.2.size _) n
set_option maxHeartbeats 2000000 in
theorem check_any (A : Option Addr) (n c : Nat) (l : List Lab) (w : World) (hn : n = l.length) (h : Lw w A l) :
    Calls Try.prog 9 #[.slice A n c] w fun e w' => e = .returned (.int .i64 (chk l)) ∧ Below w.heap.size w w' := by
  subst hn
  obtain ⟨V, hV⟩ : ∃ V, chk l = V := ⟨_, rfl⟩
  have HV := Lib.hid hV
  rw [hV]
  clear hV
  by_cases h16 : 16 < l.length
  · have HE := Lib.hid (show V = 9 by rw [← HV.out]; exact chk_9 h16)
    have h16i : (16 : Int) < (l.length : Int) := by omega
    clear h
    go_enter Try.func9, Try.ntmps9
    go_wp2_with fail
    go_ret
    exact ⟨ret_int HE.out.symm, Below.refl _ _⟩
  · have h16i : ¬ ((16 : Int) < (l.length : Int)) := by omega
    have HL := Lib.hid h
    have h16n : l.length ≤ 16 := by omega
    clear h h16
    go_enter Try.func9, Try.ntmps9
    go_wp2_with fail
    clear h16i
    go_loopw [10] (fun i wr => ∃ k : Nat, k ≤ l.length ∧ i = .int .i64 k ∧ Hid (KRel l w k wr)) (fun i _ => l.length - (intOf i).toNat)
    case atStart => exact ⟨0, by omega, rfl, Lib.hid ⟨fun i hi => absurd hi (by omega), Below.refl _ _⟩⟩
    case round =>
      obtain ⟨k, hk, rfl, HK⟩ := hrel
      by_cases hlt : k < l.length
      · have hki : (k : Int) < (l.length : Int) := by omega
        obtain ⟨p, hp⟩ := getElem?_lt hlt
        obtain ⟨b, off, rfl, hcell⟩ := (HL.out.below HK.out.2).some_ (by omega)
        obtain ⟨q0, q1⟩ := hcell k p hp
        have hpw := HL.out.2.1 p (mem_of_at hp)
        have HP := Lib.hid hp
        have HW := Lib.hid hpw.1
        have hlb := block_lt_of_cell q0
        simp only at hlb
        by_cases hnm : nameB p.1 = true
        · have HN := Lib.hid hnm
          by_cases hvl : valB p.2 = true
          · have HVL := Lib.hid hvl
            by_cases hk0 : k = 0
            · have HG := Lib.hid (show GoodAt l k by
                intro p' hp'
                rw [HP.out] at hp'
                injection hp' with hp'
                subst hp'
                exact ⟨⟨(nameB_iff _).1 HN.out, HVL.out⟩, fun q h => absurd h (by omega)⟩)
              have hz1 : decide (0 < k) = false := by simp; omega
              have hz2 : decide ((0 : Int) < (k : Int)) = false := by simp; omega
              clear hcell hp hpw hnm hvl hk0
              go_wp2_with fail
              go_quiet ((first | (go_at_call 27; exact stays rfl (name_is _ _ HW.out true HN.out)) | (go_at_call 28; exact stays rfl (value_is _ _ true HVL.out))))
              go_wp2_with fail
              go_roundw
              case rel => exact ⟨k + 1, by omega, by go_num, Lib.hid (krel_next HK.out HG.out)⟩
              case measure => simp [intOf]; omega
            · obtain ⟨m, rfl⟩ : ∃ m, k = m + 1 := ⟨k - 1, by omega⟩
              obtain ⟨q, hq⟩ := getElem?_lt (l := l) (k := m) (by omega)
              obtain ⟨r0, r1⟩ := hcell m q hq
              have HQ := Lib.hid hq
              have a1 : IntKind.i64.wrap (((m + 1 : Nat) : Int) - 1) = (m : Int) := by
                rw [show (((m + 1 : Nat) : Int) - 1) = (m : Int) by omega]; exact IntWalk.i64_in _ (by omega)
              have a2 : (0 : Int) < ((m + 1 : Nat) : Int) := by omega
              have a4 : (m : Int) < (l.length : Int) := by omega
              by_cases hls : ltS q.1 p.1
              · have hz := leq_false hls
                have HG := Lib.hid (show GoodAt l (m + 1) by
                  intro p' hp'
                  rw [HP.out] at hp'
                  injection hp' with hp'
                  subst hp'
                  refine ⟨⟨(nameB_iff _).1 HN.out, HVL.out⟩, fun q' _ hq' => ?_⟩
                  rw [Nat.add_sub_cancel, HQ.out] at hq'
                  injection hq' with hq'
                  subst hq'
                  exact hls)
                clear hcell hp hpw hnm hvl hq hls hk0
                go_wp2_with fail
                go_quiet ((first | (go_at_call 27; exact stays rfl (name_is _ _ HW.out true HN.out)) | (go_at_call 28; exact stays rfl (value_is _ _ true HVL.out))))
                go_wp2_with fail
                go_roundw
                case rel => exact ⟨m + 1 + 1, by omega, by go_num, Lib.hid (krel_next HK.out HG.out)⟩
                case measure => simp [intOf]; omega
              · have hz := leq_true hls
                have HE := Lib.hid (show V = 26 by
                  rw [← HV.out]
                  exact chk_26 h16n (bad_at (k := m + 1) (fun h => hls ((h p HP.out).2 q (by omega) (by rw [Nat.add_sub_cancel]; exact HQ.out)))))
                clear hcell hp hpw hnm hvl hq hls hk0
                go_wp2_with fail
                go_quiet ((first | (go_at_call 27; exact stays rfl (name_is _ _ HW.out true HN.out)) | (go_at_call 28; exact stays rfl (value_is _ _ true HVL.out))))
                go_wp2_with fail
                go_ret
                exact ⟨ret_int HE.out.symm, krel_end HK.out⟩
          · have hvl' : valB p.2 = false := by simpa using hvl
            have HVL := Lib.hid hvl'
            have HE := Lib.hid (show V = 26 by
              rw [← HV.out]
              exact chk_26 h16n (bad_at (k := k) (fun h => hvl (h p HP.out).1.2)))
            clear hcell hp hpw hnm hvl hvl'
            go_wp2_with fail
            go_quiet ((first | (go_at_call 27; exact stays rfl (name_is _ _ HW.out true HN.out)) | (go_at_call 28; exact stays rfl (value_is _ _ false HVL.out))))
            go_wp2_with fail
            go_ret
            exact ⟨ret_int HE.out.symm, krel_end HK.out⟩
        · have hnm' : nameB p.1 = false := by simpa using hnm
          have HN := Lib.hid hnm'
          have HE := Lib.hid (show V = 26 by
            rw [← HV.out]
            exact chk_26 h16n (bad_at (k := k) (fun h => hnm ((nameB_iff _).2 (h p HP.out).1.1))))
          clear hcell hp hpw hnm hnm'
          go_wp2_with fail
          go_quiet ((go_at_call 27; exact stays rfl (name_is _ _ HW.out false HN.out)))
          go_wp2_with fail
          go_ret
          exact ⟨ret_int HE.out.symm, krel_end HK.out⟩
      · obtain rfl : k = l.length := by omega
        have hki : ¬ ((l.length : Int) < (l.length : Int)) := by omega
        have HE := Lib.hid (show V = 0 by rw [← HV.out]; exact chk_0 h16n (good_all HK.out.1))
        go_wp2_with fail
        go_ret
        exact ⟨ret_int HE.out.symm, HK.out.2⟩
end Go.Proofs.Ytnnfoagdgoionab
