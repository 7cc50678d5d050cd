/- The document's ends and Below. -/
import Derived.Test.YtbibhjcmdehdbaaRkE
namespace Go.Proofs.Ytbibhjcmdehdbaa
open Go.RowKit Go.Sort
set_option linter.unusedVariables false

set_option maxRecDepth 100000 in
theorem refends_any (h : HV) (A B : Option Addr) (a b : Nat) (c : Cel) (w : World) (o : CelOk c) :
    Calls Try.prog 70 #[.agg #[.int .i64 h.k, .int .i64 h.s, .int .i64 h.z, .int .u64 h.zc, .int .u64 h.ct, .int .i64 h.sm, .slice A h.P.length a, .slice B h.Q.length b], .agg #[.int .i64 c.d, .int .i64 c.s, .int .i64 c.i, .int .u64 c.n]] w fun e w' => e = .returned (.tuple #[.int .i64 (loD c h.z), .int .i64 (loU c h.z), .int .i64 (hiD c h.z), .int .i64 (hiU c h.z)]) ∧ Below w.heap.size w w' := by
  obtain ⟨⟨u1, u2⟩, u3, u4⟩ := o.un_bd
  have i1 := o.i.1
  have i2 := o.i.2
  have R := o.s
  have hd := o.d
  obtain ⟨d, s, i, n⟩ := c
  simp only at *
  obtain ⟨j, hj⟩ : ∃ j, i - 1 = j := ⟨_, rfl⟩
  have hq : ∀ (q : Int) (W : World), -262145 ≤ q → q ≤ 262145 → Calls Try.prog 80 #[.int .i64 s, .int .i64 q] W fun e w' => e = .returned (.int .i64 (un s q)) ∧ W = w' := fun q W h1 h2 => by
    have h3 := Go.Proofs.Ytbibhjcmdehdbaa.un_bd R (i := q) 262145 h1 h2
    exact refunits_yes s q W R (by omega) (by omega)
  have HQ := Lib.hid hq
  clear hq u1 u2 u3 u4 o R
  unfold loD loU hiD hiU
  simp only [hj]
  have HB := Lib.hid (((Below.refl w.heap.size w).alloc (Nat.le_refl _) (.cells #[.int .i64 h.k, .int .i64 h.s, .int .i64 h.z, .int .u64 h.zc, .int .u64 h.ct, .int .i64 h.sm, .slice A h.P.length a, .slice B h.Q.length b] 25)).alloc (by simp) (.cells #[.int .i64 d, .int .i64 s, .int .i64 i, .int .u64 n] 45))
  rcases hd with rfl | rfl | rfl
  · simp only [show ¬ ((0 : Int) < -1) by decide, show ((-1 : Int) < 0) by decide, if_true, if_false]
    go_enter Try.func70, Try.ntmps70
    go_wp2_with fail
    go_quiet ((go_at_call 80; exact stays rfl (HQ.out _ _ (by omega) (by omega))))
    go_wp2
    exact bodyPost_ret (v := .tuple #[.int .i64 (-1), .int .i64 (un s i), .int .i64 (-1), .int .i64 (un s j)]) (by simp [results, Try.results70, go_sem]) rfl ⟨rfl, by (repeat apply below_drewN); exact HB.out⟩
  · by_cases hz : h.z = -524288
    · simp only [show ¬ ((0 : Int) < 0) by decide, hz, if_true, if_false]
      have hz1 : (h.z == -524288) = true := by simpa using hz
      rw [hz] at HB
      rw [hz] at hz1
      go_enter Try.func70, Try.ntmps70
      clear hz
      go_wp2
      exact bodyPost_ret (v := .tuple #[.int .i64 0, .int .i64 0, .int .i64 0, .int .i64 0]) (by simp [results, Try.results70, go_sem]) rfl ⟨rfl, HB.out⟩
    · simp only [show ¬ ((0 : Int) < 0) by decide, hz, if_false]
      have hz1 : (h.z == -524288) = false := by simpa using hz
      clear hz
      go_enter Try.func70, Try.ntmps70
      go_wp2_with fail
      go_quiet (fail)
      go_wp2
      exact bodyPost_ret (v := .tuple #[.int .i64 (-1), .int .i64 h.z, .int .i64 1, .int .i64 h.z]) (by simp [results, Try.results70, go_sem]) rfl ⟨rfl, by (repeat apply below_drewN); exact HB.out⟩
  · simp only [show ((0 : Int) < 1) by decide, if_true]
    go_enter Try.func70, Try.ntmps70
    go_wp2_with fail
    go_quiet ((go_at_call 80; exact stays rfl (HQ.out _ _ (by omega) (by omega))))
    go_wp2
    exact bodyPost_ret (v := .tuple #[.int .i64 1, .int .i64 (un s j), .int .i64 1, .int .i64 (un s i)]) (by simp [results, Try.results70, go_sem]) rfl ⟨rfl, by (repeat apply below_drewN); exact HB.out⟩
theorem num_abo {ad au bd bu : Int} (ha : ad = -1 ∨ ad = 0 ∨ ad = 1) (hb : bd = -1 ∨ bd = 0 ∨ bd = 1) (a1 : -262144 ≤ au) (a2 : au ≤ 262144) (b1 : -262144 ≤ bu) (b2 : bu ≤ 262144) (a0 : ad = 0 → au = 0) (b0 : bd = 0 → bu = 0) : aboB ad au bd bu = decide (numF bd bu < numF ad au) := by
  unfold aboB numF
  rcases ha with rfl | rfl | rfl <;> rcases hb with rfl | rfl | rfl <;> simp <;> (try simp at a0 b0) <;> (try omega)
/-- a place in units -/
def PlU (d u : Int) : Prop := (d = -1 ∨ d = 0 ∨ d = 1) ∧ -262144 ≤ u ∧ u ≤ 262144 ∧ (d = 0 → u = 0)
theorem plU_of {d u : Int} (h : plB d u = true) : PlU d u := by
  unfold plB at h
  unfold PlU
  split at h
  · simp at h; omega
  · split at h
    · simp at h; omega
    · cases h
/-- a cell whose ends are places -/
def EndsU (c : Cel) (z : Int) : Prop := PlU (loD c z) (loU c z) ∧ PlU (hiD c z) (hiU c z)
theorem abo_num {ad au bd bu : Int} (ha : PlU ad au) (hb : PlU bd bu) : aboB ad au bd bu = decide (numF bd bu < numF ad au) :=
  num_abo ha.1 hb.1 ha.2.1 ha.2.2.1 hb.2.1 hb.2.2.1 ha.2.2.2 hb.2.2.2
theorem ends_u {h : HV} (o : Ok h) : ∀ p ∈ ordF h, EndsU p h.z := fun p hp => by
  have hz := o.z
  have key : ∀ (q : Int × Int), inB h.s q.1 = true → (-262144 < un h.s q.1 ∧ un h.s q.1 ≤ 262144) ∧ -262144 ≤ un h.s (q.1 - 1) ∧ un h.s (q.1 - 1) ≤ 262144 := fun q hi => by
    have h1 := (in_iff o.s).1 hi
    have h2 := (uw_bd o.s).1
    have h3 := un_pred h.s q.1
    refine ⟨h1, ?_, by omega⟩
    -- -262144 is a whole number of widths
    have hw : (2 : Int) ^ (8 - h.s).toNat = uw h.s := rfl
    have hdvd : uw h.s ∣ 262144 := by rcases schemas o.s with e | e | e | e | e | e | e | e | e | e | e | e | e <;> rw [e] <;> decide
    obtain ⟨m, hm⟩ := hdvd
    have e1 : un h.s q.1 = q.1 * uw h.s := rfl
    have h4 : uw h.s * (-m) < uw h.s * q.1 := by rw [Int.mul_neg, ← hm, Int.mul_comm]; omega
    have h5 := Int.lt_of_mul_lt_mul_left h4 (by omega)
    have h6 : uw h.s * (-m) ≤ uw h.s * (q.1 - 1) := Int.mul_le_mul_of_nonneg_left (by omega) (by omega)
    have e2 : un h.s (q.1 - 1) = uw h.s * (q.1 - 1) := Int.mul_comm _ _
    rw [Int.mul_neg, ← hm] at h6
    omega
  rcases List.mem_append.1 hp with hp | hp
  · obtain ⟨q, hq, rfl⟩ := List.mem_map.1 hp
    have hk := key q (o.iQ q (List.mem_reverse.1 hq))
    have e1 : loD (celF (-1) h.s q) h.z = -1 := rfl
    have e2 : loU (celF (-1) h.s q) h.z = un h.s q.1 := rfl
    have e3 : hiD (celF (-1) h.s q) h.z = -1 := rfl
    have e4 : hiU (celF (-1) h.s q) h.z = un h.s (q.1 - 1) := rfl
    unfold EndsU PlU
    rw [e1, e2, e3, e4]
    refine ⟨⟨by decide, by omega, by omega, fun h => by omega⟩, ⟨by decide, by omega, by omega, fun h => by omega⟩⟩
  · rcases List.mem_append.1 hp with hp | hp
    · unfold zeroL at hp
      split at hp
      · rw [List.mem_singleton.1 hp]
        have e1 : loD ⟨0, 0, 0, h.zc⟩ h.z = if h.z = -524288 then 0 else -1 := rfl
        have e2 : loU ⟨0, 0, 0, h.zc⟩ h.z = if h.z = -524288 then 0 else h.z := rfl
        have e3 : hiD ⟨0, 0, 0, h.zc⟩ h.z = if h.z = -524288 then 0 else 1 := rfl
        have e4 : hiU ⟨0, 0, 0, h.zc⟩ h.z = if h.z = -524288 then 0 else h.z := rfl
        unfold EndsU PlU
        rw [e1, e2, e3, e4]
        unfold zr at hz
        by_cases e : h.z = -524288
        · simp only [if_pos e]
          refine ⟨⟨by decide, by omega, by omega, by simp⟩, ⟨by decide, by omega, by omega, by simp⟩⟩
        · simp only [if_neg e]
          refine ⟨⟨by decide, by omega, by omega, fun h => by omega⟩, ⟨by decide, by omega, by omega, fun h => by omega⟩⟩
      · cases hp
    · obtain ⟨q, hq, rfl⟩ := List.mem_map.1 hp
      have hk := key q (o.iP q hq)
      have e1 : loD (celF 1 h.s q) h.z = 1 := rfl
      have e2 : loU (celF 1 h.s q) h.z = un h.s (q.1 - 1) := rfl
      have e3 : hiD (celF 1 h.s q) h.z = 1 := rfl
      have e4 : hiU (celF 1 h.s q) h.z = un h.s q.1 := rfl
      unfold EndsU PlU
      rw [e1, e2, e3, e4]
      refine ⟨⟨by decide, by omega, by omega, fun h => by omega⟩, ⟨by decide, by omega, by omega, fun h => by omega⟩⟩
end Go.Proofs.Ytbibhjcmdehdbaa
