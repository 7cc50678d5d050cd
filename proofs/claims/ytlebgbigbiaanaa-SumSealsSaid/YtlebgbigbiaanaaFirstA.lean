/- What sealed bytes open to, by plain lists; the contract of the program's own look at the first ones. -/
import Derived.Test.YtlebgbigbiaanaaPartsW
namespace Go.Proofs.Ytlebgbigbiaanaa
open Go.RowKit Go.Sort
set_option linter.unusedVariables false
attribute [local go_sem ↓] Go.wp_at_zero Go.wp_at_succ

/-- the bytes whose sum is sealed with them -/
def core (bs : List Nat) : List Nat := bs.take 4 ++ (bs.drop 8).take (numL bs)
/-- why the first sealed bytes can't be opened: 0: they can -/
def errF (bs : List Nat) : Nat := if bs.length < 8 ∨ bs.length < 8 + numL bs then 7 else if crcOf (core bs) = numL (bs.drop 4) then 0 else 8
def endF (bs : List Nat) : Nat := if errF bs = 0 then 8 + numL bs else 0
theorem errF_short {bs : List Nat} (h : bs.length < 8 ∨ bs.length < 8 + numL bs) : errF bs = 7 ∧ endF bs = 0 := by
  have e : errF bs = 7 := by unfold errF; rw [if_pos h]
  exact ⟨e, by unfold endF; rw [e]; rfl⟩
theorem errF_sum {bs : List Nat} (h : ¬ (bs.length < 8 ∨ bs.length < 8 + numL bs)) (hc : crcOf (core bs) ≠ numL (bs.drop 4)) : errF bs = 8 ∧ endF bs = 0 := by
  have e : errF bs = 8 := by unfold errF; rw [if_neg h, if_neg hc]
  exact ⟨e, by unfold endF; rw [e]; rfl⟩
theorem errF_ok {bs : List Nat} (h : ¬ (bs.length < 8 ∨ bs.length < 8 + numL bs)) (hc : crcOf (core bs) = numL (bs.drop 4)) : errF bs = 0 ∧ endF bs = 8 + numL bs := by
  have e : errF bs = 0 := by unfold errF; rw [if_neg h, if_pos hc]
  exact ⟨e, by unfold endF; rw [if_pos e]⟩
theorem errF_zero {bs : List Nat} (h : errF bs = 0) : 8 ≤ bs.length ∧ 8 + numL bs ≤ bs.length ∧ crcOf (core bs) = numL (bs.drop 4) ∧ endF bs = 8 + numL bs := by
  by_cases h1 : bs.length < 8 ∨ bs.length < 8 + numL bs
  · rw [(errF_short h1).1] at h; cases h
  · by_cases h2 : crcOf (core bs) = numL (bs.drop 4)
    · exact ⟨by omega, by omega, h2, (errF_ok h1 h2).2⟩
    · rw [(errF_sum h1 h2).1] at h; cases h
theorem errF_cases (bs : List Nat) : errF bs = 0 ∨ errF bs = 7 ∨ errF bs = 8 := by
  unfold errF
  split
  · exact .inr (.inl rfl)
  · split
    · exact .inl rfl
    · exact .inr (.inr rfl)
theorem numK_take (bs : List Nat) (n : Nat) : ∀ k, k ≤ n → numK (bs.take n) k = numK bs k := by
  intro k
  induction k with
  | zero => exact fun _ => rfl
  | succ k ih =>
    intro h
    show numK (bs.take n) k + (bs.take n).getD k 0 * 256 ^ k = numK bs k + bs.getD k 0 * 256 ^ k
    rw [ih (by omega), List.getD_eq_getElem?_getD, List.getD_eq_getElem?_getD, List.getElem?_take, if_pos (by omega)]
theorem numL_take (bs : List Nat) (n : Nat) (h : 4 ≤ n) : numL (bs.take n) = numL bs := numK_take bs n 4 h

theorem Ps.drew {w : World} {P : Option Addr} {ls : List (List Nat)} (h : Ps w P ls) : Ps w.drew P ls := h
abbrev FirstIs (bs : List Nat) (A : Option Addr) (c : Nat) (w : World) : Prop :=
  Calls Try.prog 42 #[.slice A bs.length c] w fun e w' => e = .returned (.tuple #[.int .i64 ((endF bs : Nat) : Int), .int .i64 ((errF bs : Nat) : Int)]) ∧ Gr w w'
theorem tuple2 {a b a' b' : Int} (h1 : a = a') (h2 : b = b') : Ending.returned (.tuple #[.int .i64 a, .int .i64 b]) = .returned (.tuple #[.int .i64 a', .int .i64 b']) := by rw [h1, h2]

set_option maxRecDepth 100000 in
theorem first_short (A : Option Addr) (c : Nat) (bs : List Nat) (w : World) (h : bs.length < 8) : FirstIs bs A c w := by
  have e := errF_short (bs := bs) (.inl h)
  have E := Lib.hid e
  have hi : (bs.length : Int) < 8 := by omega
  clear e
  go_enter Try.func42, Try.ntmps42
  go_wp2_with fail
  go_ret2
  exact ⟨tuple2 (by rw [E.out.2]; rfl) (by rw [E.out.1]; rfl), Gr.refl _⟩
set_option maxRecDepth 100000 in
theorem first_less (A : Option Addr) (c : Nat) (bs : List Nat) (w : World) (hS : Sl w A c bs) (h8 : 8 ≤ bs.length) (h : bs.length < 8 + numL bs) : FirstIs bs A c w := by
  have e := errF_short (bs := bs) (.inr h)
  have E := Lib.hid e
  have HS := Lib.hid hS
  have hi : 8 ≤ (bs.length : Int) := by omega
  have hm : (bs.length : Int) ≤ 9223372036854775807 := by have := hS.1; have := hS.2.1; omega
  have hn := numL_lt hS.b8
  obtain ⟨N, hN⟩ : ∃ N, numL bs = N := ⟨_, rfl⟩
  rw [hN] at h hn
  have HN := Lib.hid hN
  have hlt : (bs.length : Int) - 8 < (N : Int) := by omega
  clear e hS hN
  go_enter Try.func42, Try.ntmps42
  go_wp2_with fail
  refine (num_at A _ c bs N _ HS.out.2.2.2 rfl HN.out).mono ?_
  rintro e w' ⟨rfl, rfl⟩
  go_wp2_with fail
  go_ret2
  exact ⟨tuple2 (by rw [E.out.2]; rfl) (by rw [E.out.1]; rfl), Gr.refl _⟩
set_option maxHeartbeats 2000000 in
set_option maxRecDepth 100000 in
theorem first_far (b off c : Nat) (bs : List Nat) (w : World) (hS : Sl w (some ⟨b, off, none⟩) c bs) (h8 : 8 ≤ bs.length) (h : 8 + numL bs ≤ bs.length) (hc8 : ¬ c = 8) (E : Bool) (hE : decide (crcOf (core bs) = numL (bs.drop 4)) = E) : FirstIs bs (some ⟨b, off, none⟩) c w := by
  have HS := Lib.hid hS
  have hi : 8 ≤ (bs.length : Int) := by omega
  have hm : (bs.length : Int) ≤ 9223372036854775807 := by have := hS.1; have := hS.2.1; omega
  have hc : (bs.length : Int) ≤ (c : Int) := by have := hS.1; omega
  have hn := numL_lt hS.b8
  have HT := Lib.hid (hS.2.2.2.take 4)
  have HDb := Lib.hid ((hS.2.2.2.drop 8).take (numL bs))
  have H4 := Lib.hid ((hS.2.2.2.drop 4).take 4)
  obtain ⟨N, hN⟩ : ∃ N, numL bs = N := ⟨_, rfl⟩
  rw [hN] at h hn HDb
  have HN := Lib.hid hN
  have hle : ¬ (bs.length : Int) - 8 < (N : Int) := by omega
  have hle' : 8 + (N : Int) ≤ (c : Int) := by omega
  have h8c : (8 : Int) ≤ (c : Int) := by omega
  have hc4 : ¬ c = 4 := by omega
  have hc0 : ¬ c = 0 := by omega
  obtain ⟨V, hV⟩ : ∃ V, crcOf (core bs) = V := ⟨_, rfl⟩
  obtain ⟨M, hM⟩ : ∃ M, numL (bs.drop 4) = M := ⟨_, rfl⟩
  have HE : Hid (errF bs = (if E = true then 0 else 8) ∧ endF bs = (if E = true then 8 + N else 0)) := by
    have hns : ¬ (bs.length < 8 ∨ bs.length < 8 + numL bs) := by have := HN.out; omega
    cases E with
    | true =>
      have hq : crcOf (core bs) = numL (bs.drop 4) := by simpa using hE
      have := errF_ok hns hq
      rw [HN.out] at this
      exact Lib.hid this
    | false =>
      have hq : crcOf (core bs) ≠ numL (bs.drop 4) := by simpa using hE
      exact Lib.hid (errF_sum hns hq)
  rw [hV, hM] at hE
  have hne : ((V : Int) != (M : Int)) = !E := by
    rw [← hE]
    by_cases q : V = M
    · rw [q]; simp
    · rw [decide_eq_false q, bne_iff_ne.2 (by omega)]; rfl
  have FO : Calls Try.prog 13 #[.slice (some ⟨w.heap.size, 0, none⟩) 2 2] ((w.alloc (.cells #[.slice (some ⟨b, off, none⟩) 4 c, .slice (some ⟨b, off + 8, none⟩) N (c - 8)] 22)).drew) fun e w' => e = .returned (.int .u32 (V : Int)) ∧ Below ((w.alloc (.cells #[.slice (some ⟨b, off, none⟩) 4 c, .slice (some ⟨b, off + 8, none⟩) N (c - 8)] 22)).drew).heap.size ((w.alloc (.cells #[.slice (some ⟨b, off, none⟩) 4 c, .slice (some ⟨b, off + 8, none⟩) N (c - 8)] 22)).drew) w' := by
    refine of_at _ 2 2 [bs.take 4, (bs.drop 8).take N] V _ (Ps.drew (ps_two (by rw [List.length_take]; omega) (by rw [List.length_take, List.length_drop]; omega) HT.out HDb.out _)) rfl ?_
    rw [← hV]
    unfold core
    rw [HN.out]
    simp
  have FM : ∀ W, Gr w W → Calls Try.prog 17 #[.slice (some ⟨b, off + 4, none⟩) 4 (c - 4)] W fun e w' => e = .returned (.int .u32 (M : Int)) ∧ W = w' := fun W hg =>
    num_at _ 4 _ ((bs.drop 4).take 4) M W (H4.out.kept hg.kept) (by rw [List.length_take, List.length_drop]; omega) (by rw [numL_take _ 4 (by omega), hM])
  have FN := num_at _ _ c bs N w HS.out.2.2.2 rfl HN.out
  have HFO := Lib.hid FO
  have HFM := Lib.hid FM
  have HFN := Lib.hid FN
  have hg0 : Gr w ((w.alloc (.cells #[.slice (some ⟨b, off, none⟩) 4 c, .slice (some ⟨b, off + 8, none⟩) N (c - 8)] 22)).drew) := Gr.drew (Gr.alloc (Gr.refl w) _)
  clear hS hV hM hE FO FM FN
  clear h
  go_enter Try.func42, Try.ntmps42
  go_wp2_with fail
  refine HFN.out.mono ?_
  rintro e w' ⟨rfl, rfl⟩
  go_wp2_with fail
  go_region_with (first | (go_at_call 13; ((with_reducible refine HFO.out.mono ?_); rintro e w1 ⟨rfl, hb1⟩; have hg1 : Gr w w1 := Gr.step hg0 hb1; clear hb1)) | (go_at_call 17; ((with_reducible refine (HFM.out _ (by assumption)).mono ?_); rintro e w2 ⟨rfl, rfl⟩)))
  all_goals
    cases E with
    | true =>
      simp only [Bool.not_true] at hne
      go_wp2_with fail
      go_ret2
      exact ⟨tuple2 (by rw [HE.out.2]; simp) (by rw [HE.out.1]; simp), by assumption⟩
    | false =>
      simp only [Bool.not_false] at hne
      go_wp2_with fail
      go_ret2
      exact ⟨tuple2 (by rw [HE.out.2]; simp) (by rw [HE.out.1]; simp), by assumption⟩
set_option maxHeartbeats 2000000 in
set_option maxRecDepth 100000 in
theorem first_edge (b off : Nat) (bs : List Nat) (w : World) (hS : Sl w (some ⟨b, off, none⟩) 8 bs) (h8 : bs.length = 8) (h : numL bs = 0) (E : Bool) (hE : decide (crcOf (core bs) = numL (bs.drop 4)) = E) : FirstIs bs (some ⟨b, off, none⟩) 8 w := by
  have HS := Lib.hid hS
  have hi : 8 ≤ (bs.length : Int) := by omega
  have hm : (bs.length : Int) ≤ 9223372036854775807 := by have := hS.1; have := hS.2.1; omega
  have hc : (bs.length : Int) ≤ 8 := by omega
  have HT := Lib.hid (hS.2.2.2.take 4)
  have HDb := Lib.hid (show Bt w (some ⟨b, off, none⟩) ((bs.drop 8).take 0) from Bt.nil w _)
  have H4 := Lib.hid ((hS.2.2.2.drop 4).take 4)
  have HN := Lib.hid h
  have hle : ¬ (bs.length : Int) - 8 < 0 := by omega
  have hL := Lib.hid h8
  obtain ⟨V, hV⟩ : ∃ V, crcOf (core bs) = V := ⟨_, rfl⟩
  obtain ⟨M, hM⟩ : ∃ M, numL (bs.drop 4) = M := ⟨_, rfl⟩
  have HE : Hid (errF bs = (if E = true then 0 else 8) ∧ endF bs = (if E = true then 8 + 0 else 0)) := by
    have hns : ¬ (bs.length < 8 ∨ bs.length < 8 + numL bs) := by have := HN.out; omega
    cases E with
    | true =>
      have hq : crcOf (core bs) = numL (bs.drop 4) := by simpa using hE
      have := errF_ok hns hq
      rw [HN.out] at this
      exact Lib.hid this
    | false =>
      have hq : crcOf (core bs) ≠ numL (bs.drop 4) := by simpa using hE
      exact Lib.hid (errF_sum hns hq)
  rw [hV, hM] at hE
  have hne : ((V : Int) != (M : Int)) = !E := by
    rw [← hE]
    by_cases q : V = M
    · rw [q]; simp
    · rw [decide_eq_false q, bne_iff_ne.2 (by omega)]; rfl
  have FO : Calls Try.prog 13 #[.slice (some ⟨w.heap.size, 0, none⟩) 2 2] ((w.alloc (.cells #[.slice (some ⟨b, off, none⟩) 4 8, .slice (some ⟨b, off, none⟩) 0 0] 22)).drew) fun e w' => e = .returned (.int .u32 (V : Int)) ∧ Below ((w.alloc (.cells #[.slice (some ⟨b, off, none⟩) 4 8, .slice (some ⟨b, off, none⟩) 0 0] 22)).drew).heap.size ((w.alloc (.cells #[.slice (some ⟨b, off, none⟩) 4 8, .slice (some ⟨b, off, none⟩) 0 0] 22)).drew) w' := by
    refine of_at _ 2 2 [bs.take 4, (bs.drop 8).take 0] V _ (Ps.drew (ps_two (by rw [List.length_take]; omega) (by rw [List.length_take, List.length_drop]; omega) HT.out HDb.out _)) rfl ?_
    rw [← hV]
    unfold core
    rw [HN.out]
    simp
  have FM : ∀ W, Gr w W → Calls Try.prog 17 #[.slice (some ⟨b, off + 4, none⟩) 4 4] W fun e w' => e = .returned (.int .u32 (M : Int)) ∧ W = w' := fun W hg =>
    num_at _ 4 _ ((bs.drop 4).take 4) M W (H4.out.kept hg.kept) (by rw [List.length_take, List.length_drop]; omega) (by rw [numL_take _ 4 (by omega), hM])
  have FN := num_at _ _ 8 bs 0 w HS.out.2.2.2 rfl HN.out
  have HFO := Lib.hid FO
  have HFM := Lib.hid FM
  have HFN := Lib.hid FN
  have hg0 : Gr w ((w.alloc (.cells #[.slice (some ⟨b, off, none⟩) 4 8, .slice (some ⟨b, off, none⟩) 0 0] 22)).drew) := Gr.drew (Gr.alloc (Gr.refl w) _)
  clear hS hV hM hE FO FM FN
  clear h h8
  go_enter Try.func42, Try.ntmps42
  go_wp2_with fail
  refine HFN.out.mono ?_
  rintro e w' ⟨rfl, rfl⟩
  go_wp2_with fail
  go_region_with (first | (go_at_call 13; ((with_reducible refine HFO.out.mono ?_); rintro e w1 ⟨rfl, hb1⟩; have hg1 : Gr w w1 := Gr.step hg0 hb1; clear hb1)) | (go_at_call 17; ((with_reducible refine (HFM.out _ (by assumption)).mono ?_); rintro e w2 ⟨rfl, rfl⟩)))
  all_goals
    cases E with
    | true =>
      simp only [Bool.not_true] at hne
      go_wp2_with fail
      go_ret2
      exact ⟨tuple2 (by rw [HE.out.2]; simp) (by rw [HE.out.1]; simp), by assumption⟩
    | false =>
      simp only [Bool.not_false] at hne
      go_wp2_with fail
      go_ret2
      exact ⟨tuple2 (by rw [HE.out.2]; simp) (by rw [HE.out.1]; simp), by assumption⟩

theorem first_any (A : Option Addr) (n c : Nat) (bs : List Nat) (w : World) (hS : Sl w A c bs) (hn : n = bs.length) :
    Calls Try.prog 42 #[.slice A n c] w fun e w' => e = .returned (.tuple #[.int .i64 ((endF bs : Nat) : Int), .int .i64 ((errF bs : Nat) : Int)]) ∧ Gr w w' := by
  subst hn
  by_cases h8 : bs.length < 8
  · exact first_short A c bs w h8
  by_cases hN : bs.length < 8 + numL bs
  · exact first_less A c bs w hS (by omega) hN
  obtain ⟨b, off, rfl, _⟩ := hS.2.2.2.some_ (by omega)
  by_cases hc : c = 8
  · subst hc
    have := hS.1
    exact first_edge b off bs w hS (by omega) (by omega) _ rfl
  · exact first_far b off c bs w hS (by omega) (by omega) hc _ rfl
end Go.Proofs.Ytlebgbigbiaanaa
