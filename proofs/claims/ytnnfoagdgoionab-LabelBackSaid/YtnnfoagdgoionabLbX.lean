/- The document's Check of labels. -/
import Derived.Test.YtnnfoagdgoionabLbP
namespace Go.Proofs.Ytnnfoagdgoionab
open Go.RowKit
set_option linter.unusedVariables false

theorem rname_is (s : ByteArray) (w : World) (hs : Ws s) (z : Bool) (h : nameB s = z) : Calls Try.prog 29 #[.string s] w fun e w' => e = .returned (.bool z) ∧ w = w' := h ▸ rname_any s w hs
/-- what the loop of the document's Check knows -/
def JRel (l : List Lab) (w : World) (k : Nat) (wr : World) : Prop := (∀ i, i < k → GoodAt l i) ∧ ∃ q, wr = w.drewN q
theorem jrel_next {l : List Lab} {w wr : World} {k n : Nat} (h : JRel l w k wr) (hg : GoodAt l k) : JRel l w (k + 1) (wr.drewN n) :=
  ⟨fun i hi => by
    by_cases e : i = k
    · subst e; exact hg
    · exact h.1 i (by omega), by
    obtain ⟨q, rfl⟩ := h.2
    exact ⟨q + n, by rw [World.drewN_drewN]⟩⟩
theorem jrel_end {l : List Lab} {w wr : World} {k : Nat} (h : JRel l w k wr) (n : Nat) : ∃ q, wr.drewN n = w.drewN q := by
  obtain ⟨q, rfl⟩ := h.2
  exact ⟨q + n, by rw [World.drewN_drewN]⟩
set_option maxHeartbeats 2000000 in
theorem rcheck_any (A : Option Addr) (n c : Nat) (l : List Lab) (w : World) (hn : n = l.length) (h : Lw w A l) :
    Calls Try.prog 10 #[.slice A n c] w fun e w' => e = .returned (.int .i64 (chk l)) ∧ ∃ q, w' = w.drewN q := by
  subst hn
  obtain ⟨V, hV⟩ : ∃ V, chk l = V := ⟨_, rfl⟩
  have HV := Lib.hid hV
  rw [hV]
  clear hV
  by_cases h16 : 16 < l.length
  · have HE := Lib.hid (show V = 9 by rw [← HV.out]; exact chk_9 h16)
    have h16i : (16 : Int) < (l.length : Int) := by omega
    clear h
    go_enter Try.func10, Try.ntmps10
    go_wp2_with fail
    go_ret
    exact ⟨ret_int HE.out.symm, 0, rfl⟩
  · have h16i : ¬ ((16 : Int) < (l.length : Int)) := by omega
    have HL := Lib.hid h
    have h16n : l.length ≤ 16 := by omega
    clear h h16
    go_enter Try.func10, Try.ntmps10
    go_wp2_with fail
    clear h16i
    go_loopw [3] (fun i wr => ∃ k : Nat, k ≤ l.length ∧ i = .int .i64 k ∧ Hid (JRel l w k wr)) (fun i _ => l.length - (intOf i).toNat)
    case atStart => exact ⟨0, by omega, rfl, Lib.hid ⟨fun i hi => absurd hi (by omega), 0, rfl⟩⟩
    case round =>
      obtain ⟨k, hk, rfl, HK⟩ := hrel
      by_cases hlt : k < l.length
      · have hki : (k : Int) < (l.length : Int) := by omega
        obtain ⟨p, hp⟩ := getElem?_lt hlt
        have hlw : Lw wr A l := by
          obtain ⟨q, rfl⟩ := HK.out.2
          exact HL.out
        obtain ⟨b, off, rfl, hcell⟩ := hlw.some_ (by omega)
        obtain ⟨q0, q1⟩ := hcell k p hp
        have hpw := HL.out.2.1 p (mem_of_at hp)
        have HP := Lib.hid hp
        have HW := Lib.hid hpw.1
        by_cases hnm : nameB p.1 = true
        · have HN := Lib.hid hnm
          by_cases hvl : valB p.2 = true
          · have hv1 : ¬ ((p.2.size : Int) < 1) := by have := valB_pos hvl; omega
            have hv2 : ¬ ((64 : Int) < (p.2.size : Int)) := by have := valB_le hvl; omega
            have HVL := Lib.hid hvl
            by_cases hk0 : k = 0
            · have HG := Lib.hid (show GoodAt l k by
                intro p' hp'
                rw [HP.out] at hp'
                injection hp' with hp'
                subst hp'
                exact ⟨⟨(nameB_iff _).1 HN.out, HVL.out⟩, fun q h => absurd h (by omega)⟩)
              have hz1 : decide (0 < k) = false := by simp; omega
              have hz2 : decide ((0 : Int) < (k : Int)) = false := by simp; omega
              clear hcell hp hpw hnm hvl hk0 hlw
              go_wp2_with fail
              refine (rname_is _ _ HW.out true HN.out).mono ?_
              rintro e w' ⟨rfl, rfl⟩
              go_wp2_with fail
              go_quiet (fail)
              go_wp2_with fail
              go_roundw
              case rel => exact ⟨k + 1, by omega, by go_num, Lib.hid (jrel_next HK.out HG.out)⟩
              case measure => simp [intOf]; omega
            · obtain ⟨m, rfl⟩ : ∃ m, k = m + 1 := ⟨k - 1, by omega⟩
              obtain ⟨q, hq⟩ := getElem?_lt (l := l) (k := m) (by omega)
              obtain ⟨r0, r1⟩ := hcell m q hq
              have HQ := Lib.hid hq
              have a1 : IntKind.i64.wrap (((m + 1 : Nat) : Int) - 1) = (m : Int) := by
                rw [show (((m + 1 : Nat) : Int) - 1) = (m : Int) by omega]; exact IntWalk.i64_in _ (by omega)
              have a2 : (0 : Int) < ((m + 1 : Nat) : Int) := by omega
              have a4 : (m : Int) < (l.length : Int) := by omega
              by_cases hls : ltS q.1 p.1
              · have hz := less_true hls
                have HG := Lib.hid (show GoodAt l (m + 1) by
                  intro p' hp'
                  rw [HP.out] at hp'
                  injection hp' with hp'
                  subst hp'
                  refine ⟨⟨(nameB_iff _).1 HN.out, HVL.out⟩, fun q' _ hq' => ?_⟩
                  rw [Nat.add_sub_cancel, HQ.out] at hq'
                  injection hq' with hq'
                  subst hq'
                  exact hls)
                clear hcell hp hpw hnm hvl hq hls hk0 hlw
                go_wp2_with fail
                refine (rname_is _ _ HW.out true HN.out).mono ?_
                rintro e w' ⟨rfl, rfl⟩
                go_wp2_with fail
                go_quiet (fail)
                go_wp2_with fail
                go_roundw
                case rel => exact ⟨m + 1 + 1, by omega, by go_num, Lib.hid (jrel_next HK.out HG.out)⟩
                case measure => simp [intOf]; omega
              · have hz := less_false hls
                have HE := Lib.hid (show V = 26 by
                  rw [← HV.out]
                  exact chk_26 h16n (bad_at (k := m + 1) (fun h => hls ((h p HP.out).2 q (by omega) (by rw [Nat.add_sub_cancel]; exact HQ.out)))))
                clear hcell hp hpw hnm hvl hq hls hk0 hlw
                go_wp2_with fail
                refine (rname_is _ _ HW.out true HN.out).mono ?_
                rintro e w' ⟨rfl, rfl⟩
                go_wp2_with fail
                go_quiet (fail)
                go_wp2_with fail
                go_ret
                exact ⟨ret_int HE.out.symm, jrel_end HK.out _⟩
          · have HE := Lib.hid (show V = 26 by
              rw [← HV.out]
              exact chk_26 h16n (bad_at (k := k) (fun h => hvl (h p HP.out).1.2)))
            by_cases hv1 : p.2.size < 1
            · have hv1i : (p.2.size : Int) < 1 := by omega
              clear hcell hp hpw hnm hvl hlw
              go_wp2_with fail
              refine (rname_is _ _ HW.out true HN.out).mono ?_
              rintro e w' ⟨rfl, rfl⟩
              go_wp2_with fail
              go_ret
              exact ⟨ret_int HE.out.symm, jrel_end HK.out 0⟩
            · have hv1i : ¬ ((p.2.size : Int) < 1) := by omega
              have hv2i : (64 : Int) < (p.2.size : Int) := by unfold valB at hvl; simp at hvl; omega
              clear hcell hp hpw hnm hvl hlw
              go_wp2_with fail
              refine (rname_is _ _ HW.out true HN.out).mono ?_
              rintro e w' ⟨rfl, rfl⟩
              go_wp2_with fail
              go_ret
              exact ⟨ret_int HE.out.symm, jrel_end HK.out 0⟩
        · have hnm' : nameB p.1 = false := by simpa using hnm
          have HN := Lib.hid hnm'
          have HE := Lib.hid (show V = 26 by
            rw [← HV.out]
            exact chk_26 h16n (bad_at (k := k) (fun h => hnm ((nameB_iff _).2 (h p HP.out).1.1))))
          clear hcell hp hpw hnm hnm' hlw
          go_wp2_with fail
          refine (rname_is _ _ HW.out false HN.out).mono ?_
          rintro e w' ⟨rfl, rfl⟩
          go_wp2_with fail
          go_ret
          exact ⟨ret_int HE.out.symm, jrel_end HK.out 0⟩
      · obtain rfl : k = l.length := by omega
        have hki : ¬ ((l.length : Int) < (l.length : Int)) := by omega
        have HE := Lib.hid (show V = 0 by rw [← HV.out]; exact chk_0 h16n (good_all HK.out.1))
        go_wp2_with fail
        go_ret
        exact ⟨ret_int HE.out.symm, jrel_end HK.out 0⟩
end Go.Proofs.Ytnnfoagdgoionab
