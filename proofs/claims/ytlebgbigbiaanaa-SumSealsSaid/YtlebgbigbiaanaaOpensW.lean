/- The law SumOpens' walk: for all slices of bytes it returns true; of what was in memory nothing turns. -/
import Derived.Test.YtlebgbigbiaanaaROpenA
import Derived.Test.YtlebgbigbiaanaaAllA
import Derived.BigQuiet
import Derived.Deep.QuietTactic
namespace Go.Proofs.Ytlebgbigbiaanaa
open Go.RowKit Go.Sort
set_option linter.unusedVariables false
attribute [local go_sem ↓] Go.wp_at_zero Go.wp_at_succ

/-- any bytes as a text, wherever they lie -/
theorem sl_text {w : World} {A : Option Addr} {c : Nat} {bs : List Nat} (h : Sl w A c bs) :
    (convert 22 9 (.slice A bs.length c)).run Try.prog w = .ok (.string (txt bs)) w := by
  by_cases h0 : 0 < bs.length
  · obtain ⟨b, off, rfl, _⟩ := h.2.2.2.some_ h0
    exact bt_string c h.2.2.2 _ rfl
  · have hb : bs = [] := List.eq_nil_of_length_eq_zero (by omega)
    subst hb
    show (convert 22 9 (.slice A 0 c)).run Try.prog w = .ok (.string ⟨#[]⟩) w
    rw [run_convert_bytes_string w 22 9 5 _ 0 c Try.underlying22 Try.underlying5 Try.underlying9]
    cases A <;> simp [Conv.bytesToString, loadCells]
    all_goals rfl
theorem Sl.drew {w : World} {A : Option Addr} {c : Nat} {bs : List Nat} (h : Sl w A c bs) : Sl w.drew A c bs := h

set_option maxRecDepth 100000 in
theorem opens_great (A : Option Addr) (l c : Nat) (w : World) (h : 3000 < l) (hm : l ≤ 9223372036854775807) :
    Calls Try.prog 4 #[.slice A l c] w fun e w' => e = .returned (.bool true) ∧ Below w.heap.size w w' := by
  have hi : 3000 < (l : Int) := by omega
  go_enter Try.func4, Try.ntmps4
  go_wp2_with fail
  refine (awake03 _).mono ?_
  rintro e w3 ⟨rfl, hb3⟩
  have HB := Lib.hid hb3
  clear hb3
  go_wp2_with fail
  go_ret
  exact ⟨rfl, HB.out⟩

set_option maxHeartbeats 2000000 in
set_option maxRecDepth 100000 in
theorem opens_small (A0 : Option Addr) (c : Nat) (bs : List Nat) (w : World) (hS : Sl w A0 c bs) (hl : bs.length ≤ 3000) :
    Calls Try.prog 4 #[.slice A0 bs.length c] w fun e w' => e = .returned (.bool true) ∧ Below w.heap.size w w' := by
  have HS := Lib.hid hS
  have hi : (bs.length : Int) ≤ 3000 := by omega
  clear hS
  go_enter Try.func4, Try.ntmps4
  go_wp2_with fail
  refine (open_any _ _ _ bs w HS.out rfl (by omega)).mono ?_
  rintro e w1 ⟨A1, c1, A2, c2, rfl, x1, x2, hg1⟩
  have HX := Lib.hid (And.intro x1 (And.intro x2 hg1))
  clear x1 x2 hg1
  go_wp2_with fail
  refine (ropen_any _ _ _ bs w1 (HS.out.kept HX.out.2.2.kept) rfl (by omega)).mono ?_
  rintro e w2 ⟨A3, c3, A4, c4, rfl, x3, x4, hg2⟩
  have HY := Lib.hid (And.intro x3 (And.intro x4 (Gr.step HX.out.2.2 hg2)))
  have s1 := sl_text (HX.out.1.kept hg2.kept)
  have s2 := sl_text (HX.out.2.1.kept hg2.kept)
  have s3 := sl_text x3
  have s4 := sl_text x4
  clear x3 x4 hg2
  obtain ⟨L1, hL1⟩ : ∃ n, (inF bs).length = n := ⟨_, rfl⟩
  obtain ⟨L2, hL2⟩ : ∃ n, (reF bs).length = n := ⟨_, rfl⟩
  obtain ⟨E, hE⟩ : ∃ n, errF bs = n := ⟨_, rfl⟩
  rw [hL1] at s1 s3
  rw [hL2] at s2 s4
  rw [hL1, hL2, hE]
  have HE := Lib.hid (And.intro hL1 (And.intro hL2 hE))
  clear hL1 hL2 hE
  go_wp2_with fail
  refine (all_any _ _ _ bs w2 (HS.out.kept HY.out.2.2.kept) rfl (by omega)).mono ?_
  rintro e w3 ⟨K, P, cP, er, hok, rfl, hLs, hg3, hend⟩
  have HZ := Lib.hid (And.intro hok (And.intro hLs (And.intro (Gr.step HY.out.2.2 hg3) hend)))
  clear hok hLs hg3 hend s1 s2 s3 s4
  go_wp2_with fail
  go_loopw [12, 13] (fun v i wr => ∃ j : Nat, j ≤ K ∧ i = .int .i64 ((j : Nat) : Int) ∧ (∃ A' c', v = .slice A' (bs.drop (posF bs j)).length c' ∧ Sl wr A' c' (bs.drop (posF bs j))) ∧ Gr w3 wr) (fun _ i _ => bs.length + 1 - (intOf i).toNat)
  case atStart => exact ⟨0, Nat.zero_le _, rfl, ⟨A0, c, rfl, HS.out.kept HZ.out.2.2.1.kept⟩, Gr.refl _⟩
  case round =>
    obtain ⟨j, hj, rfl, ⟨A', c', rfl, hSr⟩, hg⟩ := hrel
    obtain ⟨R, hR⟩ : ∃ R, bs.drop (posF bs j) = R := ⟨_, rfl⟩
    have HKL := Lib.hid (okF_len HZ.out.1)
    have hjn : okF bs j := fun i hi => HZ.out.1 i (by omega)
    have hpj := posF_le hjn
    have hRl : R.length = bs.length - posF bs j := by rw [← hR, List.length_drop]
    rw [hR] at hSr
    rw [hR]
    have HSR := Lib.hid hSr
    clear hSr
    by_cases h0 : R.length = 0
    · have hjK : j = K := by
        by_cases e : j < K
        · have := (HZ.out.1 j e).1; omega
        · omega
      subst hjK
      have hpe : posF bs j = bs.length := by omega
      have her : er = 0 := by
        rcases HZ.out.2.2.2 with ⟨_, e⟩ | ⟨e, _, _⟩
        · exact e
        · omega
      subst her
      rw [h0, hpe]
      have HG := Lib.hid (Gr.step HZ.out.2.2.1 hg)
      clear hpe hjn hpj hRl hg h0 hR hj
      go_wp2_with fail
      refine (awake03 _).mono ?_
      rintro e w5 ⟨rfl, hb5⟩
      have HB := Lib.hid (Gr.step HG.out hb5)
      clear hb5
      go_wp2_with fail
      go_ret
      exact ⟨rfl, HB.out⟩
    · obtain ⟨n, hn⟩ : ∃ n, R.length = n := ⟨_, rfl⟩
      rw [hn] at h0 hRl
      rw [hn]
      have HN := Lib.hid hn
      have HP := Lib.hid (And.intro hjn (And.intro hpj hRl))
      have HR := Lib.hid hR
      have HJ := Lib.hid hj
      have hni : ¬ (n : Int) = 0 := by omega
      have hG := Lib.hid hg
      clear hn hjn hpj hRl hR hj hg h0
      go_wp2_with fail
      refine (ropen_any _ _ _ R wr HSR.out HN.out.symm (by have := HP.out.2.2; have := HN.out; omega)).mono ?_
      rintro e w5 ⟨A5, c5, A6, c6, rfl, x5, x6, hg5⟩
      have HO := Lib.hid (And.intro x5 (And.intro x6 (Gr.step hG.out hg5)))
      have HG5 := Lib.hid hg5
      clear x5 x6 hg5
      by_cases her : errF R = 0
      · have hjK : j < K := by
          have := HJ.out
          by_cases e : j < K
          · exact e
          · have ej : j = K := by omega
            subst ej
            exfalso
            have q := HP.out.2.2
            have := HN.out
            rcases HZ.out.2.2.2 with ⟨e1, _⟩ | ⟨_, e1, e2⟩
            · have := HP.out.2.1
              by_cases h0 : n = 0
              · subst h0; exact hni rfl
              · omega
            · rw [HR.out, her] at e1; exact e2 e1
        rw [her]
        have HER := Lib.hid her
        have HJK := Lib.hid hjK
        have hge : decide ((K : Int) ≤ (j : Int)) = false := by simp; omega
        have hge2 : decide (K ≤ j) = false := by simp; omega
        have hji : (j : Int) < (K : Int) := by omega
        have hjb : (j : Int) < 3000 := by have := HKL.out; omega
        have hIT : itemF bs j = inF R := by unfold itemF; rw [HR.out]
        rcases HZ.out.2.1.2 with h00 | ⟨bP, oP, hPe, hcl⟩
        · rw [itemsF_length] at h00; omega
        · subst hPe
          obtain ⟨A7, c7, hcell, hS7⟩ := hcl j (itemF bs j) (itemsF_at hjK)
          rw [hIT] at hcell hS7
          obtain ⟨L5, hL5⟩ : ∃ n, (inF R).length = n := ⟨_, rfl⟩
          obtain ⟨L6, hL6⟩ : ∃ n, (reF R).length = n := ⟨_, rfl⟩
          have q1 := fun (m : Nat) => sl_text (w := w5.drewN m) (hS7.kept HO.out.2.2.kept)
          have q2 := fun (m : Nat) => sl_text (w := w5.drewN m) HO.out.1
          have qc : ∀ m : Nat, (w5.drewN m).cell? ⟨bP, oP + j, none⟩ = some (.slice A7 L5 c7) := fun m => by rw [hL5] at hcell; exact HO.out.2.2.kept _ _ hcell
          rw [hL5] at q1 q2
          rw [hL5, hL6]
          have HL := Lib.hid (And.intro hL5 hL6)
          have HRE := Lib.hid (show reF R = bs.drop (posF bs (j + 1)) by unfold reF; rw [if_pos HER.out, ← HR.out, List.drop_drop]; rfl)
          clear hL5 hL6 hcell hS7 hcl her hjK hIT
          go_wp2_with fail
          go_quiet (fail)
          go_wp2_with fail
          have HQ := Lib.hid (And.intro (by rw [← HRE.out, HL.out.2] : L6 = (bs.drop (posF bs (j + 1))).length) (by rw [← HRE.out]; exact HO.out.2.1 : Sl (w5.drewN nq) A6 c6 (bs.drop (posF bs (j + 1)))))
          have hkl := HKL.out
          go_roundw
          case rel => exact ⟨j + 1, HJK.out, ret_val (by omega), ⟨A6, c6, by rw [← HQ.out.1], HQ.out.2⟩, Gr.step (Gr.step hG.out HG5.out) (Below.drewN_ _ _)⟩
          case measure => simp [intOf] <;> omega
      · have hjK : j = K := by
          have := HJ.out
          by_cases e : j < K
          · have := (HZ.out.1 j e).2
            rw [HR.out] at this
            exact absurd this her
          · omega
        subst hjK
        have hpp : er = errF R := by
          rcases HZ.out.2.2.2 with ⟨e1, _⟩ | ⟨_, e1, _⟩
          · exfalso
            have := HP.out.2.2
            by_cases h0 : n = 0
            · subst h0; exact hni rfl
            · omega
          · rw [e1, HR.out]
        have hsub : ((posF bs j : Nat) : Int) = (bs.length : Int) - (n : Int) := by
          have := HP.out.2.2
          have := HP.out.2.1
          omega
        have hnl : (n : Int) ≤ (bs.length : Int) := by
          have := HP.out.2.2
          omega
        rw [hsub, hpp]
        obtain ⟨E5, hE5⟩ : ∃ n, errF R = n := ⟨_, rfl⟩
        rw [hE5] at her
        rw [hE5]
        have hEn : ¬ (E5 : Int) = 0 := by omega
        have HE5 := Lib.hid hE5
        clear hE5 her hsub hpp
        obtain ⟨L5, hL5⟩ : ∃ n, (inF R).length = n := ⟨_, rfl⟩
        obtain ⟨L6, hL6⟩ : ∃ n, (reF R).length = n := ⟨_, rfl⟩
        rw [hL5, hL6]
        clear hL5 hL6
        go_wp2_with fail
        refine (awake03 _).mono ?_
        rintro e w6 ⟨rfl, hb6⟩
        have HB := Lib.hid (Gr.step HZ.out.2.2.1 (Gr.step HO.out.2.2 hb6))
        clear hb6
        go_wp2_with fail
        go_ret
        exact ⟨rfl, HB.out⟩
theorem sumOpens_walk (a0 : Option Addr) (len0 cap0 : Nat) (z0 : List Int) (w : World) (w0 : RowIn .u8 w a0 len0 cap0 z0) :
    Calls Try.prog 4 #[.slice a0 len0 cap0] w fun e w' => e = .returned (.bool true) ∧ Below w.heap.size w w' := by
  obtain ⟨bs, rfl, S0⟩ := sl_of_row w0
  by_cases hl : 3000 < bs.length
  · exact opens_great a0 bs.length cap0 w hl (by have := S0.1; have := S0.2.1; omega)
  · exact opens_small a0 cap0 bs w S0 (by omega)
end Go.Proofs.Ytlebgbigbiaanaa
