/- The contracts of slices.Grow (of nothing), slices.Concat of three, and of Seal. -/
import Derived.Test.YtlebgbigbiaanaaSealM
import Derived.Test.YtlebgbigbiaanaaAddsW
import Derived.Lib.AppendZeros
namespace Go.Proofs.Ytlebgbigbiaanaa
open Go.RowKit Go.Sort
set_option linter.unusedVariables false
attribute [local go_sem ↓] Go.wp_at_zero Go.wp_at_succ

set_option maxRecDepth 100000 in
theorem grow_new (n : Nat) (w : World) (h0 : 0 < n) (hn : n ≤ 1000000) :
    Calls Try.prog 49 #[.slice none 0 0, .int .i64 (n : Int)] w fun e w' => ∃ c, e = .returned (.slice (some ⟨w.heap.size, 0, none⟩) 0 c) ∧ w'.ownsRow w.heap.size 5 1 (.slice (some ⟨w.heap.size, 0, none⟩) 0 c) 0 (cellsB []) ∧ Gr w w' := by
  obtain ⟨i0, hi, hz0, hz1, hz2⟩ := info_parts Try.info5
  have hr := Lib.run_append_nil_zeros (P := Try.prog) w 22 3 22 5 i0 (.int .u8 0) .i64 .i64 Try.underlying22 Try.underlying3 hi hz0 n h0 (by omega) (by omega) (by rw [hz2]; omega)
  have HR := Lib.hid hr
  have hni : 0 < (n : Int) := by omega
  have hnm : (n : Int) ≤ 1000000 := by omega
  clear hr
  go_enter Try.func49, Try.ntmps49
  go_wp2_with (at_builtin; refine Lib.wpList_append_run _ rfl _ _ _ _ rfl _ _ rfl rfl _ _ HR.out ?_)
  go_ret
  have hge := grownCap_ge w n 0 5
  have hle := grownCap_le_maxLen w n 0 5 (by unfold maxLen; omega)
  refine ⟨_, rfl, ⟨by simp [cellsB], .inr ⟨w.heap.size, _, _, rfl, Nat.le_refl _, heap_alloc_new w _, by omega, hle, ?_, by simp [cellsB]⟩⟩, Gr.drew (Gr.alloc (Gr.refl w) _)⟩
  simp [size_zeroCells]
  omega

theorem flK_le (ls : List (List Nat)) (k : Nat) : (flK ls k).length ≤ (flK ls ls.length).length := by
  have : flK ls ls.length = flK ls k ++ (ls.drop k).flatten := by
    rw [flK_all]
    unfold flK
    rw [← List.flatten_append, List.take_append_drop]
  rw [this, List.length_append]
  exact Nat.le_add_right _ _

set_option maxHeartbeats 2000000 in
set_option maxRecDepth 100000 in
theorem concat_any (P : Option Addr) (c : Nat) (ls : List (List Nat)) (w : World) (hS : Ls w P ls) (h0 : 0 < (flK ls ls.length).length) (hn : (flK ls ls.length).length ≤ 100000) :
    Calls Try.prog 44 #[.slice P ls.length c] w fun e w' => ∃ A c', e = .returned (.slice A (flK ls ls.length).length c') ∧ Sl w' A c' (flK ls ls.length) ∧ Gr w w' := by
  have H0 := Lib.hid hS
  have hlen := hS.1
  have hb8 := hS.b8
  have HLE := Lib.hid (flK_le ls)
  obtain ⟨N, hN⟩ : ∃ N, (flK ls ls.length).length = N := ⟨_, rfl⟩
  rw [hN] at h0 hn HLE
  rw [hN]
  rw [← flK_all] at hb8
  have H8 := Lib.hid hb8
  have HN := Lib.hid hN
  have hNi : (N : Int) ≤ 100000 := by omega
  clear hS hb8 hN
  go_enter Try.func44, Try.ntmps44
  go_wp2_with fail
  go_loopw [3, 11] (fun v i wr => ∃ k : Nat, k ≤ ls.length ∧ v = .int .i64 (((flK ls k).length : Nat) : Int) ∧ i = .int .i64 k ∧ w = wr) (fun _ i _ => ls.length - (intOf i).toNat)
  case atStart => exact ⟨0, by omega, rfl, rfl, rfl⟩
  case round =>
    obtain ⟨k, hk, rfl, rfl, rfl⟩ := hrel
    by_cases hlt : k < ls.length
    · have hki : (k : Int) < (ls.length : Int) := by omega
      obtain ⟨b, off, rfl, hc⟩ := H0.out.some_ (by omega)
      obtain ⟨l, hl⟩ := getElem?_lt hlt
      obtain ⟨A, cA, q1, q2⟩ := hc k l hl
      have hs : (flK ls (k + 1)).length = (flK ls k).length + l.length := by rw [flK_snoc hl, List.length_append]
      have hsl := HLE.out (k + 1)
      have hsm : (((flK ls k).length : Nat) : Int) + (l.length : Int) ≤ 100000 := by omega
      have HS := Lib.hid hs
      clear hc hl q2 hs hsl
      go_wp2_with fail
      go_roundw
      case rel => exact ⟨k + 1, by omega, ret_val (by rw [HS.out]; omega), ret_val (by omega), by simp⟩
      case measure => simp [intOf] <;> omega
    · obtain rfl : k = ls.length := by omega
      have hki : ¬ ((ls.length : Int) < (ls.length : Int)) := by omega
      rw [HN.out]
      go_wp2_with fail
      refine (grow_new N _ h0 (by omega)).mono ?_
      rintro e w1 ⟨cG, rfl, hown, hg1⟩
      obtain ⟨g0, hg0⟩ : ∃ v, Value.slice (some ⟨w.heap.size, 0, none⟩) 0 cG = v := ⟨_, rfl⟩
      rw [hg0] at hown ⊢
      have HO := Lib.hid hown
      have HG := Lib.hid hg1
      clear hown hg1 hg0
      go_wp2_with fail
      go_loopw [6, 27] (fun v i wr => ∃ k : Nat, k ≤ ls.length ∧ i = .int .i64 k ∧ wr.ownsRow w.heap.size 5 1 v (flK ls k).length (cellsB (flK ls k)) ∧ Gr w wr) (fun _ i _ => ls.length - (intOf i).toNat)
      case atStart => exact ⟨0, by omega, rfl, HO.out, HG.out⟩
      case round =>
        obtain ⟨k, hk, rfl, hown, hg⟩ := hrel
        have HO := Lib.hid hown
        clear hown
        by_cases hlt : k < ls.length
        · have hki : (k : Int) < (ls.length : Int) := by omega
          obtain ⟨b, off, rfl, hc⟩ := (H0.out.kept hg.kept).some_ (by omega)
          obtain ⟨l, hl⟩ := getElem?_lt hlt
          obtain ⟨A, cA, q1, q2⟩ := hc k l hl
          have HS := Lib.hid (flK_snoc hl)
          have Q2 := Lib.hid q2
          have HL1 := Lib.hid (HLE.out (k + 1))
          clear hc hl q2
          go_wp2_with (at_builtin; refine wpList_append_bt rfl _ _ rfl w.heap.size u6 (flK ls k).length (flK ls k) rfl ?c0 A l.length cA l rfl rfl ?c1 ?c2 ?c3 ?_)
          case c0 => exact HO.out
          case c1 => exact Q2.out
          case c2 =>
            have := HL1.out
            rw [HS.out, List.length_append] at this
            omega
          case c3 => exact hg.size
          intro v' w1 hown hgrow
          have hg1 : Gr w w1 := below_own hg hg.size HO.out hgrow
          rw [← HS.out] at hown
          have hN : (flK ls k).length + l.length = (flK ls (k + 1)).length := by rw [HS.out, List.length_append]
          rw [hN] at hown
          have HO1 := Lib.hid hown
          clear hown hgrow hN
          go_wp2_with fail
          go_roundw
          case rel => exact ⟨k + 1, by omega, ret_val (by omega), HO1.out, hg1⟩
          case measure => simp [intOf] <;> omega
        · obtain rfl : k = ls.length := by omega
          have hki : ¬ ((ls.length : Int) < (ls.length : Int)) := by omega
          have hown := HO.out
          rw [HN.out] at hown
          obtain ⟨_, A, c', rfl, hS⟩ := own_sl hown H8.out (by rw [HN.out]; omega)
          have HSS := Lib.hid hS
          clear hS hown HO
          go_wp2_with fail
          go_ret
          exact ⟨A, c', rfl, HSS.out, hg⟩

theorem ls_three {w : World} {A0 A1 A2 : Option Addr} {n0 n1 n2 c0 c1 c2 : Nat} {xs ys zs : List Nat} (h0 : n0 = xs.length) (h1 : n1 = ys.length) (h2 : n2 = zs.length) (B0 : Sl w A0 c0 xs) (B1 : Sl w A1 c1 ys) (B2 : Sl w A2 c2 zs) (t : TypeId) :
    Ls (w.alloc (.cells #[.slice A0 n0 c0, .slice A1 n1 c1, .slice A2 n2 c2] t)) (some ⟨w.heap.size, 0, none⟩) [xs, ys, zs] := by
  subst h0 h1 h2
  refine ⟨by simp, .inr ⟨_, 0, rfl, fun j l hj => ?_⟩⟩
  have k : Kept w (w.alloc (.cells #[.slice A0 xs.length c0, .slice A1 ys.length c1, .slice A2 zs.length c2] t)) := Kept.of_below ((Below.refl _ _).alloc (Nat.le_refl _) _)
  have hj2 : j = 0 ∨ j = 1 ∨ j = 2 := by
    obtain ⟨h, _⟩ := List.getElem?_eq_some_iff.1 hj
    simp at h
    omega
  rcases hj2 with rfl | rfl | rfl
  · simp at hj; subst hj
    exact ⟨A0, c0, by simp [go_sem], B0.kept k⟩
  · simp at hj; subst hj
    exact ⟨A1, c1, by simp [go_sem], B1.kept k⟩
  · simp at hj; subst hj
    exact ⟨A2, c2, by simp [go_sem], B2.kept k⟩
theorem flK_three (xs ys zs : List Nat) : flK [xs, ys, zs] 3 = xs ++ (ys ++ zs) := by simp [flK]
theorem concat_three (P : Option Addr) (c : Nat) (xs ys zs s : List Nat) (w : World) (hS : Ls w P [xs, ys, zs]) (hs : s = xs ++ (ys ++ zs)) (h0 : 0 < s.length) (hn : s.length ≤ 100000) :
    Calls Try.prog 44 #[.slice P 3 c] w fun e w' => ∃ A c', e = .returned (.slice A s.length c') ∧ Sl w' A c' s ∧ Gr w w' := by
  have := concat_any P c [xs, ys, zs] w hS
  have e : flK [xs, ys, zs] [xs, ys, zs].length = s := by rw [hs]; exact flK_three xs ys zs
  rw [e] at this
  exact this h0 hn

set_option maxHeartbeats 2000000 in
set_option maxRecDepth 100000 in
theorem seal_any (A : Option Addr) (n c : Nat) (bs : List Nat) (w : World) (hS : Sl w A c bs) (hn : n = bs.length) (hl : bs.length ≤ 10000) :
    Calls Try.prog 22 #[.slice A n c] w fun e w' => ∃ A' c', e = .returned (.slice A' (8 + n) c') ∧ Sl w' A' c' (sealF bs) ∧ Gr w w' := by
  have HS := Lib.hid hS
  have HN := Lib.hid hn
  have hni : (n : Int) ≤ 10000 := by omega
  clear hS hn
  go_enter Try.func22, Try.ntmps22
  go_wp2_with fail
  refine (four_any n w (by omega)).mono ?_
  rintro e w1 ⟨rfl, hb1, hB1, hz1⟩
  have HB1 := Lib.hid (show Sl w1 (some ⟨w.heap.size, 0, none⟩) 4 (fourL n) from ⟨by rw [fourL_len]; omega, by omega, fun e => by simp at e, hB1⟩)
  have HG1 := Lib.hid (show Gr w w1 from hb1)
  obtain ⟨a1, ha1⟩ : ∃ a, some (⟨w.heap.size, 0, none⟩ : Addr) = a := ⟨_, rfl⟩
  rw [ha1] at HB1 ⊢
  clear hb1 hB1 hz1 ha1
  go_wp2_with fail
  obtain ⟨V, hV⟩ : ∃ V, crcOf (fourL n ++ bs) = V := ⟨_, rfl⟩
  have HV := Lib.hid hV
  have hVl : V < 4294967296 := by
    rw [← hV, HN.out]
    exact crc_small HS.out.b8
  refine (of_at _ 2 2 [fourL n, bs] V _ (ps_two (fourL_len n).symm HN.out HB1.out.2.2.2 (HS.out.2.2.2.kept HG1.out.kept) _) rfl (by rw [← hV]; simp)).mono ?_
  rintro e w2 ⟨rfl, hb2⟩
  have HG2 := Lib.hid (Gr.step (Gr.alloc HG1.out _) hb2)
  have HK2 := Lib.hid (show Kept w1 w2 from (Gr.step (Gr.alloc (Gr.refl w1) _) hb2).kept)
  clear hb2 hV
  go_wp2_with fail
  refine (four_any V w2 hVl).mono ?_
  rintro e w3 ⟨rfl, hb3, hB3, hz3⟩
  have HB3 := Lib.hid (show Sl w3 (some ⟨w2.heap.size, 0, none⟩) 4 (fourL V) from ⟨by rw [fourL_len]; omega, by omega, fun e => by simp at e, hB3⟩)
  have HG3 := Lib.hid (show Gr w w3 from Gr.step HG2.out hb3)
  have HK3 := Lib.hid (show Kept w1 w3 from HK2.out.trans (show Gr w2 w3 from hb3).kept)
  obtain ⟨a3, ha3⟩ : ∃ a, some (⟨w2.heap.size, 0, none⟩ : Addr) = a := ⟨_, rfl⟩
  rw [ha3] at HB3 ⊢
  clear hb3 hB3 hz3 ha3
  go_wp2_with fail
  refine (concat_three _ 3 (fourL n) (fourL V) bs (sealF bs) _ (ls_three (fourL_len n).symm (fourL_len V).symm HN.out (HB1.out.kept HK3.out) HB3.out (HS.out.kept HG3.out.kept) _) ?_ ?_ ?_).mono ?_
  · unfold sealF
    rw [← HV.out, HN.out]
  · rw [sealF_len]; omega
  · rw [sealF_len]; omega
  rintro e w4 ⟨A4, c4, rfl, hS4, hg4⟩
  have HF := Lib.hid (And.intro hS4 (Gr.step (Gr.alloc HG3.out _) hg4))
  rw [sealF_len, ← HN.out]
  clear hS4 hg4
  go_wp2_with fail
  go_ret
  exact ⟨A4, c4, rfl, HF.out.1, HF.out.2⟩
end Go.Proofs.Ytlebgbigbiaanaa
