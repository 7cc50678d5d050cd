/- The contract of the document's Open. -/
import Derived.Test.YtlebgbigbiaanaaOpenA
import Derived.BigQuiet
import Derived.Deep.QuietTactic
import Derived.Deep.Draws
namespace Go.Proofs.Ytlebgbigbiaanaa
open Go.RowKit Go.Sort
set_option linter.unusedVariables false
attribute [local go_sem ↓] Go.wp_at_zero Go.wp_at_succ

theorem Below.drewN_ (w : World) (n : Nat) : Below w.heap.size w (w.drewN n) := ⟨rfl, rfl, rfl, Nat.le_refl _, fun _ _ => rfl⟩
set_option maxRecDepth 100000 in
theorem ropen_short (A : Option Addr) (c : Nat) (bs : List Nat) (w : World) (h : bs.length < 8) :
    Calls Try.prog 20 #[.slice A bs.length c] w (OpenPost w bs) := by
  have e := errF_short (bs := bs) (.inl h)
  have hI : inF bs = [] := by unfold inF; rw [if_neg (by rw [e.1]; decide)]
  have hR : reF bs = [] := by unfold reF; rw [if_neg (by rw [e.1]; decide)]
  have E := Lib.hid e
  have HI := Lib.hid hI
  have HR := Lib.hid hR
  have hi : (bs.length : Int) < 8 := by omega
  have hd : decide ((bs.length : Int) < 8) = true := by simpa using hi
  clear e hI hR
  go_enter Try.func20, Try.ntmps20
  go_wp2_with fail
  go_ret3
  refine ⟨none, 0, none, 0, ?_, by rw [HI.out]; exact Sl.nil _, by rw [HR.out]; exact Sl.nil _, Gr.refl _⟩
  rw [HI.out, HR.out, E.out.1]
  rfl
set_option maxRecDepth 100000 in
theorem ropen_less (A : Option Addr) (c : Nat) (bs : List Nat) (w : World) (hS : Sl w A c bs) (h8 : 8 ≤ bs.length) (h : bs.length < 8 + numL bs) :
    Calls Try.prog 20 #[.slice A bs.length c] w (OpenPost w bs) := by
  have e := errF_short (bs := bs) (.inr h)
  have hI : inF bs = [] := by unfold inF; rw [if_neg (by rw [e.1]; decide)]
  have hR : reF bs = [] := by unfold reF; rw [if_neg (by rw [e.1]; decide)]
  have E := Lib.hid e
  have HI := Lib.hid hI
  have HR := Lib.hid hR
  have hd : decide ((bs.length : Int) < 8) = false := by simp; omega
  have hi : 8 ≤ (bs.length : Int) := by omega
  have hm : (bs.length : Int) ≤ 9223372036854775807 := by have := hS.1; have := hS.2.1; omega
  have hn := numL_lt hS.b8
  have HS := Lib.hid hS
  obtain ⟨N, hN⟩ : ∃ N, numL bs = N := ⟨_, rfl⟩
  rw [hN] at h hn
  have HN := Lib.hid hN
  have hlt : (bs.length : Int) - 8 < (N : Int) := by omega
  clear e hI hR hN hS
  go_enter Try.func20, Try.ntmps20
  go_wp2_with fail
  refine (refnum_at A _ c bs N _ HS.out.2.2.2 rfl HN.out).mono ?_
  rintro e w' ⟨rfl, rfl⟩
  go_wp2_with fail
  go_ret3
  refine ⟨none, 0, none, 0, ?_, by rw [HI.out]; exact Sl.nil _, by rw [HR.out]; exact Sl.nil _, Gr.refl _⟩
  rw [HI.out, HR.out, E.out.1]
  rfl

set_option maxHeartbeats 2000000 in
set_option maxRecDepth 100000 in
theorem ropen_far (b off c : Nat) (bs : List Nat) (w : World) (hS : Sl w (some ⟨b, off, none⟩) c bs) (h8 : 8 ≤ bs.length) (h : 8 + numL bs ≤ bs.length) (hl : bs.length ≤ 100000) (hc8 : ¬ c = 8) (hcE : ¬ c = 8 + numL bs) :
    Calls Try.prog 20 #[.slice (some ⟨b, off, none⟩) bs.length c] w (OpenPost w bs) := by
  have HS := Lib.hid hS
  have hd : decide ((bs.length : Int) < 8) = false := by simp; omega
  have hi : 8 ≤ (bs.length : Int) := by omega
  have hm : (bs.length : Int) ≤ 9223372036854775807 := by omega
  have hn := numL_lt hS.b8
  have hcc : (bs.length : Int) ≤ (c : Int) := by have := hS.1; omega
  obtain ⟨N, hN⟩ : ∃ N, numL bs = N := ⟨_, rfl⟩
  have HCR := Lib.hid (show core bs = bs.take 4 ++ (bs.drop 8).take N by unfold core; rw [hN])
  rw [hN] at h hn
  have HN := Lib.hid hN
  have hle : ¬ (bs.length : Int) - 8 < (N : Int) := by omega
  have hEl : (8 : Int) + (N : Int) ≤ (bs.length : Int) := by omega
  have htn : (8 + (N : Int)).toNat = 8 + N := by omega
  rw [hN] at hcE
  have HT := Lib.hid (show Sl w (some ⟨b, off, none⟩) (c) (bs.take 4) from ⟨by have := hS.1; rw [List.length_take]; omega, hS.2.1, hS.2.2.1, hS.2.2.2.take 4⟩)
  have HD := Lib.hid (show Sl w (some ⟨b, off + 8, none⟩) (c - 8) ((bs.drop 8).take N) from hS.at_ (by omega))
  have h8c : (8 : Int) ≤ ((c : Nat) : Int) := by omega
  have hEc : (8 : Int) + (N : Int) ≤ ((c : Nat) : Int) := by omega
  have hc4 : ¬ (c) = 4 := by omega
  have hc0 : ¬ (c) = 0 := by omega
  clear hS hN
  go_enter Try.func20, Try.ntmps20
  go_wp2_with fail
  refine (refnum_at _ _ _ bs N _ HS.out.2.2.2 rfl HN.out).mono ?_
  rintro e w' ⟨rfl, rfl⟩
  go_wp2_with fail
  refine (refnum_at _ _ _ bs N _ HS.out.2.2.2 rfl HN.out).mono ?_
  rintro e w' ⟨rfl, rfl⟩
  go_wp2_with (at_builtin; refine wpList_append_bt rfl _ _ rfl w.heap.size (.slice none 0 0) 0 [] rfl ?c0 (some ⟨b, off, none⟩) 4 (c) (bs.take 4) rfl ?c1 ?c2 ?c3 ?c4 ?_)
  case c0 => exact World.ownsRow_nil _ _ _ _
  case c1 => rw [List.length_take]; omega
  case c2 => exact HT.out
  case c3 => omega
  case c4 => exact Nat.le_refl _
  intro v1 w1 hown hgrow
  try simp only [Nat.zero_add, List.nil_append] at hown
  have hg1 : Gr w w1 := (Gr.refl w).grown hgrow (Nat.le_refl _) (fun k hk => by simp [Value.ownBlock] at hk)
  have HO := Lib.hid hown
  clear hown hgrow
  go_wp2_with (at_builtin; refine wpList_append_bt rfl _ _ rfl w.heap.size v1 4 (bs.take 4) rfl ?d0 (some ⟨b, off + 8, none⟩) N (c - 8) ((bs.drop 8).take N) rfl ?d1 ?d2 ?d3 ?d4 ?_)
  case d0 => exact HO.out
  case d1 => rw [List.length_take, List.length_drop]; omega
  case d2 => exact HD.out.kept hg1.kept
  case d3 => omega
  case d4 => exact hg1.size
  intro v2 w2 hown hgrow
  have hg2 : Gr w w2 := below_own hg1 hg1.size HO.out hgrow
  rw [← HCR.out] at hown
  obtain ⟨hln, A2, c2, rfl, hS2⟩ := own_sl hown (by
    intro x hx
    rw [HCR.out] at hx
    rcases List.mem_append.1 hx with h | h
    · exact HT.out.b8 x h
    · exact HD.out.b8 x h) (by rw [HCR.out]; simp; omega)
  have HS2 := Lib.hid hS2
  have HLN := Lib.hid hln
  clear hown hgrow hS2 hln HO
  go_wp2_with fail
  obtain ⟨V, hV⟩ : ∃ V, crcOf (core bs) = V := ⟨_, rfl⟩
  obtain ⟨M, hM⟩ : ∃ M, numL (bs.drop 4) = M := ⟨_, rfl⟩
  have FO : ∀ W, Gr w2 W → Calls Try.prog 14 #[.slice A2 (4 + N) c2] W fun e w' => e = .returned (.int .u32 (V : Int)) ∧ W = w' := fun W hg => refof_at _ _ _ (core bs) V W (HS2.out.2.2.2.kept hg.kept) HLN.out hV
  have FM : ∀ W, Gr w2 W → Calls Try.prog 18 #[.slice (some ⟨b, off + 4, none⟩) (bs.length - 4) (c - 4)] W fun e w' => e = .returned (.int .u32 (M : Int)) ∧ W = w' := fun W hg => refnum_at _ _ _ (bs.drop 4) M W ((HS.out.2.2.2.drop 4).kept (hg2.kept.trans hg.kept)) (by rw [List.length_drop]) hM
  have HFO := Lib.hid FO
  have HFM := Lib.hid FM
  have hgw : Gr w2 w2 := Gr.refl w2
  clear FO FM
  by_cases hE : V = M
  · have hq : crcOf (core bs) = numL (bs.drop 4) := by rw [hV, hM, hE]
    have hns : ¬ (bs.length < 8 ∨ bs.length < 8 + numL bs) := by have := HN.out; omega
    have HK := Lib.hid (errF_ok hns hq)
    have hI : inF bs = (bs.drop 8).take N := by unfold inF; rw [if_pos HK.out.1, HN.out]
    have hR : reF bs = bs.drop (8 + N) := by unfold reF; rw [if_pos HK.out.1, HN.out]
    have HI := Lib.hid hI
    have HR := Lib.hid hR
    have hne : ((V : Int) != (M : Int)) = false := by rw [hE]; simp
    clear hV hM hE hq hns hI hR
    go_region_with (first | (go_at_call 14; ((with_reducible refine (HFO.out _ (by first | assumption | exact Gr.drew (by assumption))).mono ?_); rintro e w3 ⟨rfl, rfl⟩)) | (go_at_call 18; ((with_reducible refine (HFM.out _ (by first | assumption | exact Gr.drew (by assumption))).mono ?_); rintro e w3 ⟨rfl, rfl⟩)))
    all_goals
      go_wp2_with fail
      have e0 : (0 : Int) ≤ 8 + (N : Int) := by omega
      have e8 : (8 : Int) ≤ 8 + (N : Int) := by omega
      have hwr : IntKind.i64.wrap (8 + (N : Int)) = 8 + (N : Int) := by rw [IntKind.wrap_i64]; omega
      go_region_with (fail)
      clear hwr
      go_simp
      go_wp2_with fail
      go_ret3
      refine ⟨some ⟨b, off + 8, none⟩, c - 8, some ⟨b, off + (8 + N), none⟩, c - (8 + N), Eq.trans (b := Ending.returned (.tuple #[.slice (some ⟨b, off + 8, none⟩) N (c - 8), .slice (some ⟨b, off + (8 + N), none⟩) (bs.length - (8 + N)) (c - (8 + N)), .int .i64 0])) (by first | rfl | (simp [Act.put, htn]; done)) (tuple3 (by rw [HI.out, List.length_take, List.length_drop]; omega) (by rw [HR.out, List.length_drop]) (by rw [HK.out.1]; rfl)), ?_, ?_, ?_⟩
      · rw [HI.out]
        exact HD.out.kept (hg2.kept)
      · rw [HR.out]
        exact (HS.out.end_ (by omega) : Sl w _ _ (bs.drop (8 + N))).kept hg2.kept
      · exact Gr.drew (Gr.drew hg2)
  · have hq : crcOf (core bs) ≠ numL (bs.drop 4) := by rw [hV, hM]; exact hE
    have hns : ¬ (bs.length < 8 ∨ bs.length < 8 + numL bs) := by have := HN.out; omega
    have HK := Lib.hid (errF_sum hns hq)
    have hI : inF bs = [] := by unfold inF; rw [if_neg (by rw [HK.out.1]; decide)]
    have hR : reF bs = [] := by unfold reF; rw [if_neg (by rw [HK.out.1]; decide)]
    have HI := Lib.hid hI
    have HR := Lib.hid hR
    have hne : ((V : Int) != (M : Int)) = true := by rw [bne_iff_ne]; omega
    clear hV hM hE hq hns hI hR
    go_region_with (first | (go_at_call 14; ((with_reducible refine (HFO.out _ (by first | assumption | exact Gr.drew (by assumption))).mono ?_); rintro e w3 ⟨rfl, rfl⟩)) | (go_at_call 18; ((with_reducible refine (HFM.out _ (by first | assumption | exact Gr.drew (by assumption))).mono ?_); rintro e w3 ⟨rfl, rfl⟩)))
    all_goals
      go_wp2_with fail
      go_ret3
      refine ⟨none, 0, none, 0, ?_, by rw [HI.out]; exact Sl.nil _, by rw [HR.out]; exact Sl.nil _, Gr.drew hg2⟩
      rw [HI.out, HR.out, HK.out.1]
      rfl

set_option maxHeartbeats 2000000 in
set_option maxRecDepth 100000 in
theorem ropen_brim (b off c : Nat) (bs : List Nat) (w : World) (hS : Sl w (some ⟨b, off, none⟩) c bs) (h8 : 8 ≤ bs.length) (h : 8 + numL bs ≤ bs.length) (hl : bs.length ≤ 100000) (hc8 : ¬ c = 8) (hcE : c = 8 + numL bs) :
    Calls Try.prog 20 #[.slice (some ⟨b, off, none⟩) bs.length c] w (OpenPost w bs) := by
  have HS := Lib.hid hS
  have hd : decide ((bs.length : Int) < 8) = false := by simp; omega
  have hi : 8 ≤ (bs.length : Int) := by omega
  have hm : (bs.length : Int) ≤ 9223372036854775807 := by omega
  have hn := numL_lt hS.b8
  have hcc : (bs.length : Int) ≤ (c : Int) := by have := hS.1; omega
  obtain ⟨N, hN⟩ : ∃ N, numL bs = N := ⟨_, rfl⟩
  have HCR := Lib.hid (show core bs = bs.take 4 ++ (bs.drop 8).take N by unfold core; rw [hN])
  rw [hN] at h hn
  have HN := Lib.hid hN
  have hle : ¬ (bs.length : Int) - 8 < (N : Int) := by omega
  have hEl : (8 : Int) + (N : Int) ≤ (bs.length : Int) := by omega
  have htn : (8 + (N : Int)).toNat = 8 + N := by omega
  rw [hN] at hcE
  subst hcE
  have HT := Lib.hid (show Sl w (some ⟨b, off, none⟩) (8 + N) (bs.take 4) from ⟨by have := hS.1; rw [List.length_take]; omega, hS.2.1, hS.2.2.1, hS.2.2.2.take 4⟩)
  have HD := Lib.hid (show Sl w (some ⟨b, off + 8, none⟩) (N) ((bs.drop 8).take N) from (by have := hS.at_ (k := 8) (n := N) (by omega); rw [show 8 + N - 8 = N by omega] at this; exact this))
  have h8c : (8 : Int) ≤ ((8 + N : Nat) : Int) := by omega
  have hEc : (8 : Int) + (N : Int) ≤ ((8 + N : Nat) : Int) := by omega
  have hc4 : ¬ (8 + N) = 4 := by omega
  have hc0 : ¬ (8 + N) = 0 := by omega
  clear hS hN
  go_enter Try.func20, Try.ntmps20
  go_wp2_with fail
  refine (refnum_at _ _ _ bs N _ HS.out.2.2.2 rfl HN.out).mono ?_
  rintro e w' ⟨rfl, rfl⟩
  go_wp2_with fail
  refine (refnum_at _ _ _ bs N _ HS.out.2.2.2 rfl HN.out).mono ?_
  rintro e w' ⟨rfl, rfl⟩
  go_wp2_with (at_builtin; refine wpList_append_bt rfl _ _ rfl w.heap.size (.slice none 0 0) 0 [] rfl ?c0 (some ⟨b, off, none⟩) 4 (8 + N) (bs.take 4) rfl ?c1 ?c2 ?c3 ?c4 ?_)
  case c0 => exact World.ownsRow_nil _ _ _ _
  case c1 => rw [List.length_take]; omega
  case c2 => exact HT.out
  case c3 => omega
  case c4 => exact Nat.le_refl _
  intro v1 w1 hown hgrow
  try simp only [Nat.zero_add, List.nil_append] at hown
  have hg1 : Gr w w1 := (Gr.refl w).grown hgrow (Nat.le_refl _) (fun k hk => by simp [Value.ownBlock] at hk)
  have HO := Lib.hid hown
  clear hown hgrow
  go_wp2_with (at_builtin; refine wpList_append_bt rfl _ _ rfl w.heap.size v1 4 (bs.take 4) rfl ?d0 (some ⟨b, off + 8, none⟩) N (N) ((bs.drop 8).take N) rfl ?d1 ?d2 ?d3 ?d4 ?_)
  case d0 => exact HO.out
  case d1 => rw [List.length_take, List.length_drop]; omega
  case d2 => exact HD.out.kept hg1.kept
  case d3 => omega
  case d4 => exact hg1.size
  intro v2 w2 hown hgrow
  have hg2 : Gr w w2 := below_own hg1 hg1.size HO.out hgrow
  rw [← HCR.out] at hown
  obtain ⟨hln, A2, c2, rfl, hS2⟩ := own_sl hown (by
    intro x hx
    rw [HCR.out] at hx
    rcases List.mem_append.1 hx with h | h
    · exact HT.out.b8 x h
    · exact HD.out.b8 x h) (by rw [HCR.out]; simp; omega)
  have HS2 := Lib.hid hS2
  have HLN := Lib.hid hln
  clear hown hgrow hS2 hln HO
  go_wp2_with fail
  obtain ⟨V, hV⟩ : ∃ V, crcOf (core bs) = V := ⟨_, rfl⟩
  obtain ⟨M, hM⟩ : ∃ M, numL (bs.drop 4) = M := ⟨_, rfl⟩
  have FO : ∀ W, Gr w2 W → Calls Try.prog 14 #[.slice A2 (4 + N) c2] W fun e w' => e = .returned (.int .u32 (V : Int)) ∧ W = w' := fun W hg => refof_at _ _ _ (core bs) V W (HS2.out.2.2.2.kept hg.kept) HLN.out hV
  have FM : ∀ W, Gr w2 W → Calls Try.prog 18 #[.slice (some ⟨b, off + 4, none⟩) (bs.length - 4) ((8 + N) - 4)] W fun e w' => e = .returned (.int .u32 (M : Int)) ∧ W = w' := fun W hg => refnum_at _ _ _ (bs.drop 4) M W ((HS.out.2.2.2.drop 4).kept (hg2.kept.trans hg.kept)) (by rw [List.length_drop]) hM
  have HFO := Lib.hid FO
  have HFM := Lib.hid FM
  have hgw : Gr w2 w2 := Gr.refl w2
  clear FO FM
  by_cases hE : V = M
  · have hq : crcOf (core bs) = numL (bs.drop 4) := by rw [hV, hM, hE]
    have hns : ¬ (bs.length < 8 ∨ bs.length < 8 + numL bs) := by have := HN.out; omega
    have HK := Lib.hid (errF_ok hns hq)
    have hI : inF bs = (bs.drop 8).take N := by unfold inF; rw [if_pos HK.out.1, HN.out]
    have hR : reF bs = bs.drop (8 + N) := by unfold reF; rw [if_pos HK.out.1, HN.out]
    have HI := Lib.hid hI
    have HR := Lib.hid hR
    have hne : ((V : Int) != (M : Int)) = false := by rw [hE]; simp
    clear hV hM hE hq hns hI hR
    go_region_with (first | (go_at_call 14; ((with_reducible refine (HFO.out _ (by first | assumption | exact Gr.drew (by assumption))).mono ?_); rintro e w3 ⟨rfl, rfl⟩)) | (go_at_call 18; ((with_reducible refine (HFM.out _ (by first | assumption | exact Gr.drew (by assumption))).mono ?_); rintro e w3 ⟨rfl, rfl⟩)))
    all_goals
      go_wp2_with fail
      have e0 : (0 : Int) ≤ 8 + (N : Int) := by omega
      have e8 : (8 : Int) ≤ 8 + (N : Int) := by omega
      have hwr : IntKind.i64.wrap (8 + (N : Int)) = 8 + (N : Int) := by rw [IntKind.wrap_i64]; omega
      go_region_with (fail)
      clear hwr
      go_simp
      go_wp2_with fail
      go_ret3
      refine ⟨some ⟨b, off + 8, none⟩, N, some ⟨b, off, none⟩, 0, Eq.trans (b := Ending.returned (.tuple #[.slice (some ⟨b, off + 8, none⟩) N (N), .slice (some ⟨b, off, none⟩) (bs.length - (8 + N)) (0), .int .i64 0])) (by first | rfl | (simp [Act.put, htn]; done)) (tuple3 (by rw [HI.out, List.length_take, List.length_drop]; omega) (by rw [HR.out, List.length_drop]) (by rw [HK.out.1]; rfl)), ?_, ?_, ?_⟩
      · rw [HI.out]
        exact HD.out.kept (hg2.kept)
      · rw [HR.out]
        exact ((by rw [List.drop_eq_nil_of_le (by have := HS.out.1; omega)]; exact Sl.none_ w ⟨b, off, none⟩) : Sl w _ _ (bs.drop (8 + N))).kept hg2.kept
      · exact Gr.drew (Gr.drew hg2)
  · have hq : crcOf (core bs) ≠ numL (bs.drop 4) := by rw [hV, hM]; exact hE
    have hns : ¬ (bs.length < 8 ∨ bs.length < 8 + numL bs) := by have := HN.out; omega
    have HK := Lib.hid (errF_sum hns hq)
    have hI : inF bs = [] := by unfold inF; rw [if_neg (by rw [HK.out.1]; decide)]
    have hR : reF bs = [] := by unfold reF; rw [if_neg (by rw [HK.out.1]; decide)]
    have HI := Lib.hid hI
    have HR := Lib.hid hR
    have hne : ((V : Int) != (M : Int)) = true := by rw [bne_iff_ne]; omega
    clear hV hM hE hq hns hI hR
    go_region_with (first | (go_at_call 14; ((with_reducible refine (HFO.out _ (by first | assumption | exact Gr.drew (by assumption))).mono ?_); rintro e w3 ⟨rfl, rfl⟩)) | (go_at_call 18; ((with_reducible refine (HFM.out _ (by first | assumption | exact Gr.drew (by assumption))).mono ?_); rintro e w3 ⟨rfl, rfl⟩)))
    all_goals
      go_wp2_with fail
      go_ret3
      refine ⟨none, 0, none, 0, ?_, by rw [HI.out]; exact Sl.nil _, by rw [HR.out]; exact Sl.nil _, Gr.drew hg2⟩
      rw [HI.out, HR.out, HK.out.1]
      rfl

set_option maxHeartbeats 2000000 in
set_option maxRecDepth 100000 in
theorem ropen_edge (b off : Nat) (bs : List Nat) (w : World) (hS : Sl w (some ⟨b, off, none⟩) 8 bs) (h8 : bs.length = 8) (hN : numL bs = 0) :
    Calls Try.prog 20 #[.slice (some ⟨b, off, none⟩) bs.length 8] w (OpenPost w bs) := by
  have HS := Lib.hid hS
  have H8 := Lib.hid h8
  have HN := Lib.hid hN
  have hd : decide ((bs.length : Int) < 8) = false := by simp; omega
  have hi : 8 ≤ (bs.length : Int) := by omega
  have hm : (bs.length : Int) ≤ 8 := by omega
  have HCR := Lib.hid (show core bs = bs.take 4 by unfold core; rw [hN]; simp)
  have hle : ¬ (bs.length : Int) - 8 < 0 := by omega
  have HT := Lib.hid (show Sl w (some ⟨b, off, none⟩) 8 (bs.take 4) from ⟨by have := hS.1; rw [List.length_take]; omega, hS.2.1, hS.2.2.1, hS.2.2.2.take 4⟩)
  clear hS h8 hN
  go_enter Try.func20, Try.ntmps20
  go_wp2_with fail
  refine (refnum_at _ _ _ bs 0 _ HS.out.2.2.2 rfl HN.out).mono ?_
  rintro e w' ⟨rfl, rfl⟩
  go_wp2_with fail
  refine (refnum_at _ _ _ bs 0 _ HS.out.2.2.2 rfl HN.out).mono ?_
  rintro e w' ⟨rfl, rfl⟩
  go_wp2_with (at_builtin; refine wpList_append_bt rfl _ _ rfl w.heap.size (.slice none 0 0) 0 [] rfl ?c0 (some ⟨b, off, none⟩) 4 8 (bs.take 4) rfl ?c1 ?c2 ?c3 ?c4 ?_)
  case c0 => exact World.ownsRow_nil _ _ _ _
  case c1 => have := H8.out; rw [List.length_take]; omega
  case c2 => exact HT.out
  case c3 => omega
  case c4 => exact Nat.le_refl _
  intro v1 w1 hown hgrow
  try simp only [Nat.zero_add, List.nil_append] at hown
  have hg1 : Gr w w1 := (Gr.refl w).grown hgrow (Nat.le_refl _) (fun k hk => by simp [Value.ownBlock] at hk)
  have HO := Lib.hid hown
  clear hown hgrow
  go_wp2_with (at_builtin; refine wpList_append_bt rfl _ _ rfl w.heap.size v1 4 (bs.take 4) rfl ?d0 (some ⟨b, off, none⟩) 0 0 [] rfl ?d1 ?d2 ?d3 ?d4 ?_)
  case d0 => exact HO.out
  case d1 => rfl
  case d2 => exact Sl.none_ _ _
  case d3 => omega
  case d4 => exact hg1.size
  intro v2 w2 hown hgrow
  have hg2 : Gr w w2 := below_own hg1 hg1.size HO.out hgrow
  try simp only [Nat.add_zero, List.append_nil] at hown
  rw [← HCR.out] at hown
  obtain ⟨hln, A2, c2, rfl, hS2⟩ := own_sl hown (by rw [HCR.out]; exact HT.out.b8) (by rw [HCR.out, List.length_take]; omega)
  have HS2 := Lib.hid hS2
  have HLN := Lib.hid hln
  clear hown hgrow hS2 hln HO
  go_wp2_with fail
  obtain ⟨V, hV⟩ : ∃ V, crcOf (core bs) = V := ⟨_, rfl⟩
  obtain ⟨M, hM⟩ : ∃ M, numL (bs.drop 4) = M := ⟨_, rfl⟩
  have FO : ∀ W, Gr w2 W → Calls Try.prog 14 #[.slice A2 4 c2] W fun e w' => e = .returned (.int .u32 (V : Int)) ∧ W = w' := fun W hg => refof_at _ _ _ (core bs) V W (HS2.out.2.2.2.kept hg.kept) HLN.out hV
  have FM : ∀ W, Gr w2 W → Calls Try.prog 18 #[.slice (some ⟨b, off + 4, none⟩) (bs.length - 4) 4] W fun e w' => e = .returned (.int .u32 (M : Int)) ∧ W = w' := fun W hg => refnum_at _ _ _ (bs.drop 4) M W ((HS.out.2.2.2.drop 4).kept (hg2.kept.trans hg.kept)) (by rw [List.length_drop]) hM
  have HFO := Lib.hid FO
  have HFM := Lib.hid FM
  have hgw : Gr w2 w2 := Gr.refl w2
  clear FO FM
  have hns : ¬ (bs.length < 8 ∨ bs.length < 8 + numL bs) := by have := HN.out; have := H8.out; omega
  by_cases hE : V = M
  · have hq : crcOf (core bs) = numL (bs.drop 4) := by rw [hV, hM, hE]
    have HK := Lib.hid (errF_ok hns hq)
    have hI : inF bs = [] := by unfold inF; rw [if_pos HK.out.1, HN.out]; rfl
    have hR : reF bs = [] := by unfold reF; rw [if_pos HK.out.1, HN.out, List.drop_eq_nil_of_le (by have := H8.out; omega)]
    have HI := Lib.hid hI
    have HR := Lib.hid hR
    have hne : ((V : Int) != (M : Int)) = false := by rw [hE]; simp
    clear hV hM hE hq hns hI hR
    go_region_with (first | (go_at_call 14; ((with_reducible refine (HFO.out _ (by first | assumption | exact Gr.drew (by assumption))).mono ?_); rintro e w3 ⟨rfl, rfl⟩)) | (go_at_call 18; ((with_reducible refine (HFM.out _ (by first | assumption | exact Gr.drew (by assumption))).mono ?_); rintro e w3 ⟨rfl, rfl⟩)))
    all_goals
      go_wp2_with fail
      have hw8 : IntKind.i64.wrap 8 = 8 := by decide
      have hb0 : (0 : Int) ≤ (8 : Int) := by decide
      go_region_with (fail)
      clear hw8 hb0
      go_simp
      go_wp2_with fail
      go_ret3
      refine ⟨some ⟨b, off, none⟩, 0, some ⟨b, off, none⟩, 0, Eq.trans (b := Ending.returned (.tuple #[.slice (some ⟨b, off, none⟩) 0 0, .slice (some ⟨b, off, none⟩) (bs.length - 8) 0, .int .i64 0])) (by first | rfl | (simp [Act.put]; done)) (tuple3 (by rw [HI.out]; rfl) (by rw [HR.out, H8.out]; rfl) (by rw [HK.out.1]; rfl)), ?_, ?_, ?_⟩
      · rw [HI.out]; exact Sl.none_ _ _
      · rw [HR.out]; exact Sl.none_ _ _
      · exact Gr.drew (Gr.drew hg2)
  · have hq : crcOf (core bs) ≠ numL (bs.drop 4) := by rw [hV, hM]; exact hE
    have HK := Lib.hid (errF_sum hns hq)
    have hI : inF bs = [] := by unfold inF; rw [if_neg (by rw [HK.out.1]; decide)]
    have hR : reF bs = [] := by unfold reF; rw [if_neg (by rw [HK.out.1]; decide)]
    have HI := Lib.hid hI
    have HR := Lib.hid hR
    have hne : ((V : Int) != (M : Int)) = true := by rw [bne_iff_ne]; omega
    clear hV hM hE hq hns hI hR
    go_region_with (first | (go_at_call 14; ((with_reducible refine (HFO.out _ (by first | assumption | exact Gr.drew (by assumption))).mono ?_); rintro e w3 ⟨rfl, rfl⟩)) | (go_at_call 18; ((with_reducible refine (HFM.out _ (by first | assumption | exact Gr.drew (by assumption))).mono ?_); rintro e w3 ⟨rfl, rfl⟩)))
    all_goals
      go_wp2_with fail
      go_ret3
      refine ⟨none, 0, none, 0, ?_, by rw [HI.out]; exact Sl.nil _, by rw [HR.out]; exact Sl.nil _, Gr.drew hg2⟩
      rw [HI.out, HR.out, HK.out.1]
      rfl
theorem ropen_any (A : Option Addr) (n c : Nat) (bs : List Nat) (w : World) (hS : Sl w A c bs) (hn : n = bs.length) (hl : bs.length ≤ 100000) :
    Calls Try.prog 20 #[.slice A n c] w (OpenPost w bs) := by
  subst hn
  by_cases h8 : bs.length < 8
  · exact ropen_short A c bs w h8
  by_cases hN : bs.length < 8 + numL bs
  · exact ropen_less A c bs w hS (by omega) hN
  obtain ⟨b, off, rfl, _⟩ := hS.2.2.2.some_ (by omega)
  by_cases hc8 : c = 8
  · subst hc8
    have := hS.1
    exact ropen_edge b off bs w hS (by omega) (by omega)
  · by_cases hcE : c = 8 + numL bs
    · exact ropen_brim b off c bs w hS (by omega) (by omega) hl hc8 hcE
    · exact ropen_far b off c bs w hS (by omega) (by omega) hl hc8 hcE
end Go.Proofs.Ytlebgbigbiaanaa
