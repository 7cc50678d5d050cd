/- The contract of the program's Open. -/
import Derived.Test.YtlebgbigbiaanaaFirstA
namespace Go.Proofs.Ytlebgbigbiaanaa
open Go.RowKit Go.Sort
set_option linter.unusedVariables false
attribute [local go_sem ↓] Go.wp_at_zero Go.wp_at_succ

/-- the first sealed bytes, and what stands behind them -/
def inF (bs : List Nat) : List Nat := if errF bs = 0 then (bs.drop 8).take (numL bs) else []
def reF (bs : List Nat) : List Nat := if errF bs = 0 then bs.drop (8 + numL bs) else []
def OpenPost (w : World) (bs : List Nat) (e : Ending) (w' : World) : Prop :=
  ∃ A1 c1 A2 c2, e = .returned (.tuple #[.slice A1 (inF bs).length c1, .slice A2 (reF bs).length c2, .int .i64 ((errF bs : Nat) : Int)]) ∧ Sl w' A1 c1 (inF bs) ∧ Sl w' A2 c2 (reF bs) ∧ Gr w w'

theorem tuple3 {A1 A2 : Option Addr} {c1 c2 n1 n2 m1 m2 : Nat} {x y : Int} (h1 : n1 = m1) (h2 : n2 = m2) (h3 : x = y) : Ending.returned (.tuple #[.slice A1 n1 c1, .slice A2 n2 c2, .int .i64 x]) = .returned (.tuple #[.slice A1 m1 c1, .slice A2 m2 c2, .int .i64 y]) := by rw [h1, h2, h3]
theorem Sl.at_ {w : World} {b off c k n : Nat} {bs : List Nat} (h : Sl w (some ⟨b, off, none⟩) c bs) (hk : k + n ≤ bs.length) : Sl w (some ⟨b, off + k, none⟩) (c - k) ((bs.drop k).take n) := by
  refine ⟨by have := h.1; rw [List.length_take, List.length_drop]; omega, by have := h.2.1; omega, fun e => by simp at e, (h.2.2.2.drop k).take n⟩
theorem Sl.end_ {w : World} {b off c k : Nat} {bs : List Nat} (h : Sl w (some ⟨b, off, none⟩) c bs) (hk : k ≤ bs.length) : Sl w (some ⟨b, off + k, none⟩) (c - k) (bs.drop k) := by
  refine ⟨by have := h.1; rw [List.length_drop]; omega, by have := h.2.1; omega, fun e => by simp at e, h.2.2.2.drop k⟩
theorem Sl.none_ (w : World) (ad : Addr) : Sl w (some ad) 0 [] := ⟨by simp, by omega, fun e => by simp at e, Bt.nil w _⟩
set_option maxRecDepth 100000 in
theorem open_not (A : Option Addr) (c : Nat) (bs : List Nat) (w : World) (hS : Sl w A c bs) (h : errF bs ≠ 0) :
    Calls Try.prog 19 #[.slice A bs.length c] w (OpenPost w bs) := by
  have HS := Lib.hid hS
  have hI : inF bs = [] := by unfold inF; rw [if_neg h]
  have hR : reF bs = [] := by unfold reF; rw [if_neg h]
  obtain ⟨E, hE⟩ : ∃ E, errF bs = E := ⟨_, rfl⟩
  have hn : ((E : Int) != 0) = true := by rw [bne_iff_ne]; omega
  have HE := Lib.hid hE
  have HI := Lib.hid hI
  have HR := Lib.hid hR
  clear hS h hI hR hE
  go_enter Try.func19, Try.ntmps19
  go_wp2_with fail
  refine (first_any A _ c bs w HS.out rfl).mono ?_
  rintro e w1 ⟨rfl, hg⟩
  rw [HE.out]
  go_wp2_with fail
  go_ret3
  refine ⟨none, 0, none, 0, ?_, by rw [HI.out]; exact Sl.nil _, by rw [HR.out]; exact Sl.nil _, hg⟩
  rw [HI.out, HR.out, HE.out]
  rfl
set_option maxHeartbeats 2000000 in
set_option maxRecDepth 100000 in
theorem open_far (b off c : Nat) (bs : List Nat) (w : World) (hS : Sl w (some ⟨b, off, none⟩) c bs) (h : errF bs = 0) (hl : bs.length ≤ 100000) (hc8 : ¬ c = 8) (hcE : ¬ c = 8 + numL bs) :
    Calls Try.prog 19 #[.slice (some ⟨b, off, none⟩) bs.length c] w (OpenPost w bs) := by
  obtain ⟨z1, z2, z3, z4⟩ := errF_zero h
  have HS := Lib.hid hS
  have hI : inF bs = (bs.drop 8).take (numL bs) := by unfold inF; rw [if_pos h]
  have hR : reF bs = bs.drop (8 + numL bs) := by unfold reF; rw [if_pos h]
  have hc : (bs.length : Int) ≤ (c : Int) := by have := hS.1; omega
  have hcm : (c : Int) ≤ 9223372036854775807 := by have := hS.2.1; omega
  obtain ⟨N, hN⟩ : ∃ N, numL bs = N := ⟨_, rfl⟩
  rw [hN] at z2 z4 hI hR
  rw [hN] at hcE
  have FF := first_any (some ⟨b, off, none⟩) bs.length (c) bs w hS rfl
  rw [h, z4] at FF
  have HFF := Lib.hid FF
  have C1 : ∀ W, Gr w W → Calls Try.prog 43 #[.slice (some ⟨b, off + 8, none⟩) (N) (c - 8)] W (ClonePost W (N) (inF bs)) := fun W hg => clone_any _ _ _ (inF bs) W (((by rw [hI]; exact hS.at_ (by omega)) : Sl w _ _ (inF bs)).kept hg.kept) (by rw [hI, List.length_take, List.length_drop]; omega) (by rw [hI, List.length_take]; omega)
  have C2 : ∀ W, Gr w W → Calls Try.prog 43 #[.slice (some ⟨b, off + (8 + N), none⟩) (bs.length - (8 + N)) (c - (8 + N))] W (ClonePost W (bs.length - (8 + N)) (reF bs)) := fun W hg => clone_any _ _ _ (reF bs) W (((by rw [hR]; exact hS.end_ (by omega)) : Sl w _ _ (reF bs)).kept hg.kept) (by rw [hR, List.length_drop]) (by rw [hR, List.length_drop]; omega)
  have HC1 := Lib.hid C1
  have HC2 := Lib.hid C2
  have L1 := Lib.hid (show (N) = (inF bs).length by rw [hI, List.length_take, List.length_drop]; omega)
  have L2 := Lib.hid (show (bs.length - (8 + N)) = (reF bs).length by rw [hR, List.length_drop])
  clear C1 C2
  have HH := Lib.hid h
  have HI := Lib.hid hI
  have HR := Lib.hid hR
  clear hS h hI hR z3 z4 hN FF
  have h8c : (8 : Int) ≤ ((c : Nat) : Int) := by omega
  have hEl : (8 : Int) + (N : Int) ≤ (bs.length : Int) := by omega
  have hEc : (8 : Int) + (N : Int) ≤ ((c : Nat) : Int) := by omega
  have htn : (8 + (N : Int)).toNat = 8 + N := by omega
  go_enter Try.func19, Try.ntmps19
  go_wp2_with fail
  refine HFF.out.mono ?_
  rintro e w1 ⟨rfl, hg⟩
  go_wp2_with fail
  go_region_with (first | (go_at_call 43; first | ((with_reducible refine (HC1.out _ (by first | assumption | exact Gr.drew (by assumption))).mono ?_); rintro e w2 ⟨A1, c1, rfl, hs1, hb1⟩; have hg2 : Gr w w2 := Gr.step (by first | assumption | exact Gr.drew (by assumption)) hb1; have HS1 := Lib.hid hs1; clear hs1 hb1) | ((with_reducible refine (HC2.out _ (by assumption)).mono ?_); rintro e w3 ⟨A2, c2, rfl, hs2, hb2⟩; have hg3 : Gr w w3 := Gr.step (by assumption) hb2; have HS3 := Lib.hid (Sl.kept (Hid.out ‹Hid (Sl _ _ _ (inF bs))›) (Kept.of_below hb2)); have HS2 := Lib.hid hs2; clear hs2 hb2)))
  all_goals
    go_wp2_with fail
    go_ret3
    refine ⟨_, _, _, _, tuple3 L1.out L2.out (by rw [HH.out]; rfl), ?_, ?_, ?_⟩
    · exact Hid.out (by assumption)
    · exact Hid.out (by assumption)
    · assumption
set_option maxHeartbeats 2000000 in
set_option maxRecDepth 100000 in
theorem open_brim (b off c : Nat) (bs : List Nat) (w : World) (hS : Sl w (some ⟨b, off, none⟩) c bs) (h : errF bs = 0) (hl : bs.length ≤ 100000) (hc8 : ¬ c = 8) (hcE : c = 8 + numL bs) :
    Calls Try.prog 19 #[.slice (some ⟨b, off, none⟩) bs.length c] w (OpenPost w bs) := by
  obtain ⟨z1, z2, z3, z4⟩ := errF_zero h
  have HS := Lib.hid hS
  have hI : inF bs = (bs.drop 8).take (numL bs) := by unfold inF; rw [if_pos h]
  have hR : reF bs = bs.drop (8 + numL bs) := by unfold reF; rw [if_pos h]
  have hc : (bs.length : Int) ≤ (c : Int) := by have := hS.1; omega
  have hcm : (c : Int) ≤ 9223372036854775807 := by have := hS.2.1; omega
  obtain ⟨N, hN⟩ : ∃ N, numL bs = N := ⟨_, rfl⟩
  rw [hN] at z2 z4 hI hR
  rw [hN] at hcE
  subst hcE
  have FF := first_any (some ⟨b, off, none⟩) bs.length (8 + N) bs w hS rfl
  rw [h, z4] at FF
  have HFF := Lib.hid FF
  have C1 : ∀ W, Gr w W → Calls Try.prog 43 #[.slice (some ⟨b, off + 8, none⟩) (N) (N)] W (ClonePost W (N) (inF bs)) := fun W hg => clone_any _ _ _ (inF bs) W (((by rw [hI]; have := hS.at_ (k := 8) (n := N) (by omega); rw [show 8 + N - 8 = N by omega] at this; exact this) : Sl w _ _ (inF bs)).kept hg.kept) (by rw [hI, List.length_take, List.length_drop]; omega) (by rw [hI, List.length_take]; omega)
  have C2 : ∀ W, Gr w W → Calls Try.prog 43 #[.slice (some ⟨b, off, none⟩) (bs.length - (8 + N)) (0)] W (ClonePost W (bs.length - (8 + N)) (reF bs)) := fun W hg => clone_any _ _ _ (reF bs) W (((by rw [hR, List.drop_eq_nil_of_le (by have := hS.1; omega)]; exact Sl.none_ w _) : Sl w _ _ (reF bs)).kept hg.kept) (by rw [hR, List.length_drop]) (by rw [hR, List.length_drop]; omega)
  have HC1 := Lib.hid C1
  have HC2 := Lib.hid C2
  have L1 := Lib.hid (show (N) = (inF bs).length by rw [hI, List.length_take, List.length_drop]; omega)
  have L2 := Lib.hid (show (bs.length - (8 + N)) = (reF bs).length by rw [hR, List.length_drop])
  clear C1 C2
  have HH := Lib.hid h
  have HI := Lib.hid hI
  have HR := Lib.hid hR
  clear hS h hI hR z3 z4 hN FF
  have h8c : (8 : Int) ≤ ((8 + N : Nat) : Int) := by omega
  have hEl : (8 : Int) + (N : Int) ≤ (bs.length : Int) := by omega
  have hEc : (8 : Int) + (N : Int) ≤ ((8 + N : Nat) : Int) := by omega
  have htn : (8 + (N : Int)).toNat = 8 + N := by omega
  go_enter Try.func19, Try.ntmps19
  go_wp2_with fail
  refine HFF.out.mono ?_
  rintro e w1 ⟨rfl, hg⟩
  go_wp2_with fail
  go_region_with (first | (go_at_call 43; first | ((with_reducible refine (HC1.out _ (by first | assumption | exact Gr.drew (by assumption))).mono ?_); rintro e w2 ⟨A1, c1, rfl, hs1, hb1⟩; have hg2 : Gr w w2 := Gr.step (by first | assumption | exact Gr.drew (by assumption)) hb1; have HS1 := Lib.hid hs1; clear hs1 hb1) | ((with_reducible refine (HC2.out _ (by assumption)).mono ?_); rintro e w3 ⟨A2, c2, rfl, hs2, hb2⟩; have hg3 : Gr w w3 := Gr.step (by assumption) hb2; have HS3 := Lib.hid (Sl.kept (Hid.out ‹Hid (Sl _ _ _ (inF bs))›) (Kept.of_below hb2)); have HS2 := Lib.hid hs2; clear hs2 hb2)))
  all_goals
    go_wp2_with fail
    go_ret3
    refine ⟨_, _, _, _, tuple3 L1.out L2.out (by rw [HH.out]; rfl), ?_, ?_, ?_⟩
    · exact Hid.out (by assumption)
    · exact Hid.out (by assumption)
    · assumption

set_option maxHeartbeats 2000000 in
set_option maxRecDepth 100000 in
theorem open_edge (b off : Nat) (bs : List Nat) (w : World) (hS : Sl w (some ⟨b, off, none⟩) 8 bs) (h : errF bs = 0) :
    Calls Try.prog 19 #[.slice (some ⟨b, off, none⟩) bs.length 8] w (OpenPost w bs) := by
  obtain ⟨z1, z2, z3, z4⟩ := errF_zero h
  have hl8 : bs.length = 8 := by have := hS.1; omega
  have hN : numL bs = 0 := by omega
  have hI : inF bs = [] := by unfold inF; rw [if_pos h, hN]; rfl
  have hR : reF bs = [] := by unfold reF; rw [if_pos h, List.drop_eq_nil_of_le (by omega)]
  have hc : (bs.length : Int) ≤ 8 := by omega
  have hc8 : 8 ≤ (bs.length : Int) := by omega
  have FF := first_any (some ⟨b, off, none⟩) bs.length 8 bs w hS rfl
  rw [h, z4, hN] at FF
  have HFF := Lib.hid FF
  have HC := Lib.hid (show ∀ W, Calls Try.prog 43 #[.slice (some ⟨b, off, none⟩) 0 0] W (ClonePost W 0 []) from fun W => clone_any _ _ _ [] W (Sl.none_ W _) rfl (by simp))
  have HC2 := Lib.hid (show ∀ W, Calls Try.prog 43 #[.slice (some ⟨b, off, none⟩) (bs.length - 8) 0] W (ClonePost W (bs.length - 8) []) from fun W => clone_any _ _ _ [] W (Sl.none_ W _) (by simp; omega) (by simp))
  have HH := Lib.hid h
  have HI := Lib.hid hI
  have HR := Lib.hid hR
  have H8 := Lib.hid hl8
  clear hS h hI hR z1 z2 z3 z4 hN FF hl8
  go_enter Try.func19, Try.ntmps19
  go_wp2_with fail
  refine HFF.out.mono ?_
  rintro e w1 ⟨rfl, hg⟩
  go_wp2_with fail
  go_region_with (first | (go_at_call 43; first | ((with_reducible refine (HC.out _).mono ?_); rintro e w2 ⟨A1, c1, rfl, hs1, hb1⟩; have hg2 : Gr w w2 := Gr.step (by first | assumption | exact Gr.drew (by assumption)) hb1; have HS1 := Lib.hid hs1; clear hs1 hb1) | ((with_reducible refine (HC2.out _).mono ?_); rintro e w3 ⟨A2, c2, rfl, hs2, hb2⟩; have hg3 : Gr w w3 := Gr.step (by assumption) hb2; have HS3 := Lib.hid (Sl.kept (Hid.out ‹Hid (Sl _ _ _ ([] : List Nat))›) (Kept.of_below hb2)); have HS2 := Lib.hid hs2; clear hs2 hb2)))
  all_goals
    go_wp2_with fail
    go_ret3
    refine ⟨_, _, _, _, tuple3 (by rw [HI.out]; rfl) (by rw [HR.out, H8.out]; rfl) (by rw [HH.out]; rfl), ?_, ?_, ?_⟩
    · rw [HI.out]; exact Hid.out (by assumption)
    · rw [HR.out]; exact Hid.out (by assumption)
    · assumption
theorem open_any (A : Option Addr) (n c : Nat) (bs : List Nat) (w : World) (hS : Sl w A c bs) (hn : n = bs.length) (hl : bs.length ≤ 100000) :
    Calls Try.prog 19 #[.slice A n c] w (OpenPost w bs) := by
  subst hn
  by_cases h : errF bs = 0
  · obtain ⟨z1, z2, _, _⟩ := errF_zero h
    obtain ⟨b, off, rfl, _⟩ := hS.2.2.2.some_ (by omega)
    by_cases hc8 : c = 8
    · subst hc8
      exact open_edge b off bs w hS h
    · by_cases hcE : c = 8 + numL bs
      · exact open_brim b off c bs w hS h hl hc8 hcE
      · exact open_far b off c bs w hS h hl hc8 hcE
  · exact open_not A c bs w hS h
end Go.Proofs.Ytlebgbigbiaanaa
