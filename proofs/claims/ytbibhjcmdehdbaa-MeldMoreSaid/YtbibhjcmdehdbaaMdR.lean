/- right: histograms that may be, with few buckets. -/
import Derived.Test.YtbibhjcmdehdbaaMdL
import Derived.Test.YtbibhjcmdehdbaaHsR
namespace Go.Proofs.Ytbibhjcmdehdbaa
open Go.RowKit Go.Sort Go.Maps
set_option linter.unusedVariables false

/-- a slice of histograms -/
def Hl (w : World) (D : Option Addr) (hs : List HV) : Prop :=
  hs.length ≤ 1000000 ∧ (hs.length = 0 ∨ ∃ b off, D = some ⟨b, off, none⟩ ∧ ∀ (j : Nat) (h : HV), hs[j]? = some h → ∃ (A B : Option Addr) (c d : Nat),
    (w.cell? ⟨b, off + j * 8, none⟩ = some (.int .i64 h.k) ∧ w.cell? ⟨b, off + j * 8 + 1, none⟩ = some (.int .i64 h.s) ∧ w.cell? ⟨b, off + j * 8 + 2, none⟩ = some (.int .i64 h.z) ∧ w.cell? ⟨b, off + j * 8 + 3, none⟩ = some (.int .u64 h.zc) ∧ w.cell? ⟨b, off + j * 8 + 4, none⟩ = some (.int .u64 h.ct) ∧ w.cell? ⟨b, off + j * 8 + 5, none⟩ = some (.int .i64 h.sm) ∧ w.cell? ⟨b, off + j * 8 + 6, none⟩ = some (.slice A h.P.length c) ∧ w.cell? ⟨b, off + j * 8 + 7, none⟩ = some (.slice B h.Q.length d)) ∧
    Bk w A h.P ∧ Bk w B h.Q ∧ 0 ≤ h.zc ∧ h.zc ≤ 18446744073709551615)
theorem Hl.some_ {w : World} {D : Option Addr} {hs : List HV} (h : Hl w D hs) (h0 : 0 < hs.length) : ∃ b off, D = some ⟨b, off, none⟩ ∧ ∀ (j : Nat) (h : HV), hs[j]? = some h → ∃ (A B : Option Addr) (c d : Nat),
    (w.cell? ⟨b, off + j * 8, none⟩ = some (.int .i64 h.k) ∧ w.cell? ⟨b, off + j * 8 + 1, none⟩ = some (.int .i64 h.s) ∧ w.cell? ⟨b, off + j * 8 + 2, none⟩ = some (.int .i64 h.z) ∧ w.cell? ⟨b, off + j * 8 + 3, none⟩ = some (.int .u64 h.zc) ∧ w.cell? ⟨b, off + j * 8 + 4, none⟩ = some (.int .u64 h.ct) ∧ w.cell? ⟨b, off + j * 8 + 5, none⟩ = some (.int .i64 h.sm) ∧ w.cell? ⟨b, off + j * 8 + 6, none⟩ = some (.slice A h.P.length c) ∧ w.cell? ⟨b, off + j * 8 + 7, none⟩ = some (.slice B h.Q.length d)) ∧
    Bk w A h.P ∧ Bk w B h.Q ∧ 0 ≤ h.zc ∧ h.zc ≤ 18446744073709551615 := by
  rcases h.2 with h | h
  · omega
  · exact h
theorem Hl.below {w w' : World} {D : Option Addr} {hs : List HV} (h : Hl w D hs) (hb : Below w.heap.size w w') : Hl w' D hs := by
  refine ⟨h.1, ?_⟩
  rcases h.2 with h0 | ⟨b, off, e, hc⟩
  · exact .inl h0
  · refine .inr ⟨b, off, e, fun j x hj => ?_⟩
    obtain ⟨A, B, c, d, ⟨a0, a1, a2, a3, a4, a5, a6, a7⟩, hA, hB, z⟩ := hc j x hj
    have k := Kept.of_below hb
    exact ⟨A, B, c, d, ⟨k _ _ a0, k _ _ a1, k _ _ a2, k _ _ a3, k _ _ a4, k _ _ a5, k _ _ a6, k _ _ a7⟩, hA.below hb, hB.below hb, z⟩
def fewB (h : HV) : Bool := decide (h.P.length ≤ 100 ∧ h.Q.length ≤ 100 ∧ chk h = 0)
def rightF (hs : List HV) : Bool := hs.all fewB
theorem rightF_no {hs : List HV} {j : Nat} {h : HV} (hj : hs[j]? = some h) (hb : fewB h = false) : rightF hs = false := by
  unfold rightF
  rw [List.all_eq_false]
  exact ⟨h, List.mem_of_getElem? hj, by rw [hb]; simp⟩
theorem rightF_yes {hs : List HV} (h : ∀ x ∈ hs, fewB x = true) : rightF hs = true := List.all_eq_true.2 h
theorem all_snocH {φ : HV → Prop} {l : List HV} {p : HV} (h : ∀ q ∈ l, φ q) (hp : φ p) : ∀ q ∈ l ++ [p], φ q := fun q hq => (List.mem_append.1 hq).elim (h q) (fun h1 => by rw [List.mem_singleton.1 h1]; exact hp)
set_option maxHeartbeats 2000000 in
set_option maxRecDepth 100000 in
theorem lright_any (D : Option Addr) (n c0 : Nat) (hs : List HV) (w : World) (hn : n = hs.length) (h : Hl w D hs) :
    Calls Try.prog 12 #[.slice D n c0] w fun e w' => e = .returned (.bool (rightF hs)) ∧ Below w.heap.size w w' := by
  subst hn
  have HH := Lib.hid h
  have hlen : (hs.length : Int) ≤ 1000000 := by have := h.1; omega
  clear h
  go_enter Try.func12, Try.ntmps12
  go_wp2_with fail
  go_loopw [7] (fun i wr => ∃ k : Nat, k ≤ hs.length ∧ i = .int .i64 k ∧ Hid (∀ x ∈ hs.take k, fewB x = true) ∧ Hid (Below w.heap.size w wr)) (fun i _ => hs.length - (intOf i).toNat)
  case atStart => exact ⟨0, by omega, rfl, Lib.hid (by simp), Lib.hid (Below.refl _ _)⟩
  case round =>
    obtain ⟨k, hk, rfl, HF, HB⟩ := hrel
    by_cases hlt : k < hs.length
    · have hki : (k : Int) < (hs.length : Int) := by omega
      obtain ⟨b, off, rfl, hc⟩ := (HH.out.below HB.out).some_ (by omega)
      obtain ⟨x, hx⟩ := getElem?_lt hlt
      obtain ⟨A, B, c, d, ⟨a0, a1, a2, a3, a4, a5, a6, a7⟩, hA, hB, z0, z1⟩ := hc k x hx
      have HT := Lib.hid (take_snoc hs k x hx)
      have HXX := Lib.hid hx
      obtain ⟨xk, xs, xz, xzc, xct, xsm, xP, xQ⟩ := x
      simp only at a0 a1 a2 a3 a4 a5 a6 a7 hA hB z0 z1
      have hlb := block_lt_of_cell a0
      simp only at hlb
      have hb0 : Below wr.heap.size wr (wr.alloc (.cells #[.int .i64 xk, .int .i64 xs, .int .i64 xz, .int .u64 xzc, .int .u64 xct, .int .i64 xsm, .slice A xP.length c, .slice B xQ.length d] 25)) := (Below.refl _ _).alloc (Nat.le_refl _) _
      have HA := Lib.hid (And.intro (hA.below hb0) (hB.below hb0))
      have HB1 := Lib.hid (HB.out.trans (hb0.mono HB.out.size))
      clear hc hx hA hB hb0
      by_cases h1 : xP.length ≤ 100
      · have d1 : decide (100 < (xP.length : Int)) = false := by simp; omega
        by_cases h2 : xQ.length ≤ 100
        · have d2 : decide (100 < (xQ.length : Int)) = false := by simp; omega
          by_cases h3 : checkF xk xs xz xzc xct xP xQ = 0
          · have H3 := Lib.hid (show fewB ⟨xk, xs, xz, xzc, xct, xsm, xP, xQ⟩ = true from by unfold fewB; rw [decide_eq_true_eq]; exact ⟨h1, h2, h3⟩)
            have HC := Lib.hid h3
            clear h1 h2 h3
            go_wp2_with fail
            refine (refcheckN xk xs xz xzc xct (.int .i64 xsm) A B c d xP xQ _ z0 z1 HA.out.1 HA.out.2 0 HC.out).mono ?_
            rintro e w2 ⟨rfl, hb2⟩
            have HB2 := Lib.hid (HB1.out.trans (hb2.mono HB1.out.size))
            clear hb2
            go_wp2_with fail
            go_roundw
            case rel => exact ⟨k + 1, by omega, by go_num, Lib.hid (by rw [HT.out]; exact all_snocH HF.out H3.out), HB2⟩
            case measure => simp [intOf]; omega
          · have H3 := Lib.hid (show rightF hs = false from rightF_no HXX.out (by unfold fewB; rw [decide_eq_false_iff_not]; exact fun h => h3 h.2.2))
            obtain ⟨E, hE⟩ : ∃ E, checkF xk xs xz xzc xct xP xQ = E := ⟨_, rfl⟩
            have hE0 : (E != 0) = true := by rw [← hE]; simpa using h3
            have HC := Lib.hid hE
            clear h1 h2 h3 hE
            go_wp2_with fail
            refine (refcheckN xk xs xz xzc xct (.int .i64 xsm) A B c d xP xQ _ z0 z1 HA.out.1 HA.out.2 E HC.out).mono ?_
            rintro e w2 ⟨rfl, hb2⟩
            have HB2 := Lib.hid (HB1.out.trans (hb2.mono HB1.out.size))
            clear hb2
            go_wp2_with fail
            go_ret
            exact ⟨ret_bool H3.out.symm, HB2.out⟩
        · have d2 : decide (100 < (xQ.length : Int)) = true := by simp; omega
          have H3 := Lib.hid (show rightF hs = false from rightF_no HXX.out (by unfold fewB; rw [decide_eq_false_iff_not]; exact fun h => h2 h.2.1))
          clear h1 h2
          go_wp2_with fail
          go_ret
          exact ⟨ret_bool H3.out.symm, HB1.out⟩
      · have d1 : decide (100 < (xP.length : Int)) = true := by simp; omega
        have H3 := Lib.hid (show rightF hs = false from rightF_no HXX.out (by unfold fewB; rw [decide_eq_false_iff_not]; exact fun h => h1 h.1))
        clear h1
        go_wp2_with fail
        go_ret
        exact ⟨ret_bool H3.out.symm, HB1.out⟩
    · obtain rfl : k = hs.length := by omega
      have hki : ¬ ((hs.length : Int) < (hs.length : Int)) := by omega
      have H3 := Lib.hid (show rightF hs = true from rightF_yes (fun x hx => HF.out x (by rw [List.take_length]; exact hx)))
      go_wp2_with fail
      go_ret
      exact ⟨ret_bool H3.out.symm, HB.out⟩
end Go.Proofs.Ytbibhjcmdehdbaa
