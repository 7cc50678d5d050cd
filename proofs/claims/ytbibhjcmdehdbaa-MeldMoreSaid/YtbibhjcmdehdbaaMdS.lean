/- Down, whole; the law's own example. -/
import Derived.Test.YtbibhjcmdehdbaaMdK
import Derived.Test.YtbibhjcmdehdbaaMdN
namespace Go.Proofs.Ytbibhjcmdehdbaa
open Go.RowKit Go.Sort Go.Maps
set_option linter.unusedVariables false

theorem downC : DownC := by
  intro h t A B c d w hP hQ o ht hle
  by_cases e : t = h.s
  · subst e
    refine (down_same_any h.k h.s h.z h.zc h.ct h.sm A B c d h.P h.Q w hP hQ o).mono ?_
    intro e w' hR
    exact hR.as (by unfold downF; rw [if_pos rfl]) rfl
  · exact down_less_any h.k h.s h.z h.zc h.ct h.sm t A B c d h.P h.Q w hP hQ o ht (by omega) _ ((swG_raw o t h.z).trans (by unfold downF; rw [if_neg e]))
theorem downE_cases (s t : Int) : (downE s t = 0 ∧ rightB t = true ∧ t ≤ s) ∨ (downE s t = 20 ∧ ¬ (rightB t = true ∧ t ≤ s)) := by
  unfold downE
  by_cases h : rightB t = true ∧ t ≤ s
  · rw [if_pos h]; exact .inl ⟨rfl, h⟩
  · rw [if_neg h]; exact .inr ⟨rfl, h⟩
theorem down_full (h : HV) (t : Int) (A B : Option Addr) (c d : Nat) (w : World) (hP : Bk w A h.P) (hQ : Bk w B h.Q) (o : Ok h) :
    Calls Try.prog 36 #[.agg #[.int .i64 h.k, .int .i64 h.s, .int .i64 h.z, .int .u64 h.zc, .int .u64 h.ct, .int .i64 h.sm, .slice A h.P.length c, .slice B h.Q.length d], .int .i64 t] w (RetH w (downO h t) (downE h.s t)) := by
  rcases downE_cases h.s t with ⟨e, ht, hle⟩ | ⟨e, hn⟩
  · refine (downC h t A B c d w hP hQ o ht hle).mono fun e' w' hR => hR.as (by unfold downO; rw [e, if_pos rfl]) e.symm
  · refine (down_bad h.k h.s h.z h.zc h.ct h.sm t A B c d h.P h.Q w hn).mono fun e' w' hR => hR.as (by unfold downO; rw [e, if_neg (by decide)]) e.symm
def widenO (h : HV) (u : Int) : HV := if widenE h.z u = 0 then swF h u else zeroV
theorem widenE_cases {h : HV} (o : Ok h) (u : Int) : (widenE h.z u = 0 ∧ h.z ≤ u ∧ zr u) ∨ (widenE h.z u = 31 ∧ (u < h.z ∨ (u ≠ h.z ∧ (u ≤ -262144 ∨ 262144 < u)))) := by
  have hz := o.z
  unfold widenE
  by_cases h1 : u < h.z ∨ (u ≠ h.z ∧ (u ≤ -262144 ∨ 262144 < u))
  · rw [if_pos h1]; exact .inr ⟨rfl, h1⟩
  · rw [if_neg h1]; refine .inl ⟨rfl, by omega, ?_⟩
    unfold zr at *
    omega
theorem widen_full (h : HV) (u : Int) (A B : Option Addr) (c d : Nat) (w : World) (hP : Bk w A h.P) (hQ : Bk w B h.Q) (o : Ok h) :
    Calls Try.prog 85 #[.agg #[.int .i64 h.k, .int .i64 h.s, .int .i64 h.z, .int .u64 h.zc, .int .u64 h.ct, .int .i64 h.sm, .slice A h.P.length c, .slice B h.Q.length d], .int .i64 u] w (RetH w (widenO h u) (widenE h.z u)) := by
  rcases widenE_cases o u with ⟨e, h1, h2⟩ | ⟨e, h1⟩
  · refine (widen_good h.k h.s h.z h.zc h.ct h.sm u A B c d h.P h.Q w hP hQ o h1 h2).mono fun e' w' hR => hR.as (by unfold widenO; rw [e, if_pos rfl]) e.symm
  · refine (widen_bad h.k h.s h.z h.zc h.ct h.sm u A B c d h.P h.Q w h1).mono fun e' w' hR => hR.as (by unfold widenO; rw [e, if_neg (by decide)]) e.symm
def exH : HV := ⟨0, 1, -524288, 0, 2, 0, [(3, 2)], []⟩
theorem ex_mk : mkE ⟨0, 1, -524288, 0, 0, 0, [], []⟩ [(3, 2)] [] = 0 := by decide +kernel
theorem ex_mkO : mkO ⟨0, 1, -524288, 0, 0, 0, [], []⟩ [(3, 2)] [] = exH := by
  unfold mkO
  rw [ex_mk, if_pos rfl]
  refine HV.eq rfl rfl rfl rfl ?_ rfl ?_ rfl
  · decide +kernel
  · decide +kernel
theorem ex_ok : Ok exH := Ok.of (by decide +kernel) (by decide) (by unfold inI64; decide) (fun p hp => by simp [exH] at hp; subst hp; decide) (fun p hp => by simp [exH] at hp)
theorem ex_down : downF exH 0 = ⟨0, 0, -524288, 0, 2, 0, [(2, 2)], []⟩ := by
  refine HV.eq ?_ ?_ ?_ ?_ ?_ ?_ ?_ ?_ <;> decide +kernel
set_option maxHeartbeats 2000000 in
set_option maxRecDepth 100000 in
theorem awake07 (w : World) : Calls Try.prog 13 #[] w fun e w' => e = .returned (.bool true) ∧ Below w.heap.size w w' := by
  go_enter Try.func13, Try.ntmps13
  go_wp2_with fail
  refine (empty_any 0 1 _).mono ?_
  rintro e w1 ⟨rfl, hb1⟩
  have HB1 := Lib.hid hb1
  clear hb1
  go_wp2_with fail
  refine (make_hv ⟨0, 1, -524288, 0, 0, 0, [], []⟩ 0 none none (some ⟨w1.heap.size, 0, none⟩) none 0 0 0 0 1 0 [(3, 2)] [] _ ⟨by decide, by decide⟩ (by decide) (by decide) ?_ (Bk.nil _ _) (by simp) (by simp)).mono ?_
  · refine ⟨by simp, wbL (by decide), .inr ⟨w1.heap.size, 0, rfl, fun j p hj => ?_⟩⟩
    match j, hj with
    | 0, hj => simp at hj; subst hj; simp [go_sem]
  · intro e w2 hR
    obtain ⟨A1, B1, c1, d1, rfl, hA, hB, hb2, _, _⟩ := hR.as ex_mkO ex_mk
    have HA := Lib.hid (And.intro hA hB)
    have HB2 := Lib.hid (HB1.out.trans (((Below.refl _ _).alloc (Nat.le_refl _) _).trans (hb2.mono (by simp)) |>.mono HB1.out.size))
    clear hR hA hB hb2
    unfold exH at HA
    simp only [hvA, exH]
    go_wp2_with fail
    have hw : Below w2.heap.size w2 (w2.alloc (.cells #[.int .i64 0, .int .i64 1, .int .i64 (-524288), .int .u64 0, .int .u64 2, .int .i64 0, .slice A1 1 c1, .slice B1 0 d1] 25)) := (Below.refl _ _).alloc (Nat.le_refl _) _
    refine (downC exH 0 A1 B1 c1 d1 _ (HA.out.1.below hw) (HA.out.2.below hw) ex_ok (by decide) (by decide)).mono ?_
    intro e w3 hR
    obtain ⟨A2, B2, c2, d2, rfl, hA2, hB2, hb3, _, _⟩ := hR.as ex_down rfl
    have HB3 := Lib.hid (HB2.out.trans ((hw.trans (hb3.mono (by simp))).mono HB2.out.size))
    obtain ⟨b, off, rfl, hcell⟩ := hA2.some_ (by simp)
    obtain ⟨p1, p2⟩ := hcell 0 (2, 2) rfl
    simp only [Nat.zero_mul, Nat.add_zero] at p1 p2
    have hblt := block_lt_of_cell p1
    simp only at hblt
    have heq := eqlB 2 2 2 2
    have hgd := guardB
    simp only [beq_self_eq_true, Bool.and_self] at heq
    clear hR hA2 hB2 hb3 hw hcell HA HB2
    simp only [hvA, List.length_cons, List.length_nil]
    go_wp2_with fail
    go_ret
    exact ⟨rfl, HB3.out.alloc HB3.out.size _⟩
end Go.Proofs.Ytbibhjcmdehdbaa
