/- Has a set a time: the search for it. -/
import Derived.Test.YtdmlogpmojmikaaTmE
namespace Go.Proofs.Ytdmlogpmojmikaa.Tm
open Go.RowKit Go.Sort
set_option linter.unusedVariables false

theorem has1_any (gs gt i n c : Nat) (A : Option Addr) (X : List Rg) (t : Int) (p : Rg) (w : World) (hs : w.cell? ⟨gs, 0, none⟩ = some (.slice A n c)) (ht : w.cell? ⟨gt, 0, none⟩ = some (.int .i64 t)) (h : Cl w A (twoC .i64 X)) (hn : n = X.length) (hp : X[i]? = some p) :
    Calls Try.prog 29 #[.int .i64 (i : Int), .pointer (some ⟨gs, 0, none⟩), .pointer (some ⟨gt, 0, none⟩)] w fun e w' => e = .returned (.bool (decide (t ≤ p.2))) ∧ ∃ q, w' = w.drewN q := by
  subst hn
  have hi := (List.getElem?_eq_some_iff.1 hp).1
  have hil : (i : Int) < (X.length : Int) := by omega
  obtain ⟨b, off, rfl, hc⟩ := h.twos (by omega)
  obtain ⟨q0, q1⟩ := hc i p hp
  obtain ⟨p1, p2⟩ := p
  simp only at q0 q1
  clear hc hp h hi
  go_enter Try.func29, Try.ntmps29
  go_wp2_with fail
  go_quiet (fail)
  go_wp2_with fail
  go_ret
  exact ⟨rfl, _, rfl⟩
def SrPost (X : List Rg) (t : Int) (e : Ending) : Prop := ∃ k : Nat, k ≤ X.length ∧ e = .returned (.int .i64 k) ∧ (∀ m p, m < k → X[m]? = some p → p.2 < t) ∧ (∀ m p, k ≤ m → X[m]? = some p → t ≤ p.2)
def SrRel (X : List Rg) (t : Int) (w0 : World) (vi vj : Value) (wr : World) : Prop :=
  ∃ i j : Nat, i ≤ j ∧ j ≤ X.length ∧ vi = .int .i64 i ∧ vj = .int .i64 j ∧ (∀ m p, m < i → X[m]? = some p → p.2 < t) ∧ (∀ m p, j ≤ m → X[m]? = some p → t ≤ p.2) ∧ ∃ q, wr = w0.drewN q
theorem can_at {X : List Rg} (h : Can X) {a b : Nat} {p q : Rg} (hab : a < b) (hp : X[a]? = some p) (hq : X[b]? = some q) : p.2 + 2 ≤ q.1 ∧ q.1 ≤ q.2 := by
  refine ⟨?_, (h.1 q (List.mem_of_getElem? hq)).2.1⟩
  obtain ⟨ha, rfl⟩ := List.getElem?_eq_some_iff.1 hp
  obtain ⟨hb, rfl⟩ := List.getElem?_eq_some_iff.1 hq
  exact List.pairwise_iff_getElem.1 h.2 a b ha hb hab
set_option maxHeartbeats 2000000 in
set_option maxRecDepth 100000 in
theorem search_any (gs gt n c : Nat) (A : Option Addr) (X : List Rg) (t : Int) (w : World) (hs : w.cell? ⟨gs, 0, none⟩ = some (.slice A n c)) (ht : w.cell? ⟨gt, 0, none⟩ = some (.int .i64 t)) (h : Cl w A (twoC .i64 X)) (hn : n = X.length) (hc : Can X) (hl : X.length ≤ 10000) :
    Calls Try.prog 28 #[.int .i64 (n : Int), .func (.func 29) #[] #[.pointer (some ⟨gs, 0, none⟩), .pointer (some ⟨gt, 0, none⟩)]] w fun e w' => SrPost X t e ∧ ∃ q, w' = w.drewN q := by
  have HH := Lib.hid (fun (i : Nat) (p : Rg) (hp : X[i]? = some p) (q : Nat) => has1_any gs gt i n c A X t p (w.drewN q) hs ht (h.kept ((Kept.refl w).drewN q)) hn hp)
  subst hn
  have HC := Lib.hid hc
  clear hs ht h hc
  go_enter Try.func28, Try.ntmps28
  go_wp2_with fail
  go_loopw [5, 6] (fun vi vj wr => SrRel X t w vi vj wr) (fun vi vj _ => (intOf vj).toNat - (intOf vi).toNat)
  case atStart => exact ⟨0, X.length, by omega, by omega, rfl, rfl, fun m p h => by omega, fun m p h hp => by have := (List.getElem?_eq_some_iff.1 hp).1; omega, 0, rfl⟩
  case round =>
    obtain ⟨i, j, hij, hjl, rfl, rfl, hlo, hhi, nq, rfl⟩ := hrel
    have HL := Lib.hid (And.intro hlo hhi)
    clear hlo hhi
    by_cases hlt : i < j
    · obtain ⟨h, hh⟩ : ∃ h : Nat, (i + j) / 2 = h := ⟨_, rfl⟩
      have hhi : ((i : Int) + (j : Int)) / 2 = (h : Int) := by rw [← hh]; push_cast; rfl
      have h1 : i ≤ h := by omega
      have h2 : h < j := by omega
      have hhl : h < X.length := by omega
      clear hh
      obtain ⟨p, hp⟩ := getElem?_lt hhl
      have HPP := Lib.hid hp
      have HQ := Lib.hid (HH.out h p hp nq)
      obtain ⟨z, hz⟩ : ∃ z, decide (t ≤ p.2) = z := ⟨_, rfl⟩
      have HZ := Lib.hid hz
      rw [hz] at HQ
      clear hp hz
      cases z with
      | true =>
        go_wp2_with (rw [hhi])
        refine HQ.out.mono ?_
        rintro e w2 ⟨rfl, q2, rfl⟩
        go_wp2_with fail
        go_roundw
        case rel =>
          refine ⟨i, h, by omega, by omega, rfl, rfl, HL.out.1, fun m q hm hq => ?_, nq + q2, rfl⟩
          have hpz : t ≤ p.2 := by simpa using HZ.out
          by_cases hmh : m = h
          · subst hmh
            have e := HPP.out.symm.trans hq
            simp at e
            rw [← e]; exact hpz
          · have := can_at HC.out (show h < m by omega) HPP.out hq
            omega
        case measure => simp [intOf]; omega
      | false =>
        go_wp2_with (rw [hhi])
        refine HQ.out.mono ?_
        rintro e w2 ⟨rfl, q2, rfl⟩
        go_wp2_with fail
        go_roundw
        case rel =>
          refine ⟨h + 1, j, by omega, hjl, by go_num, rfl, fun m q hm hq => ?_, HL.out.2, nq + q2, rfl⟩
          have hpz : p.2 < t := by have := HZ.out; simp at this; exact this
          by_cases hmh : m = h
          · subst hmh
            have e := HPP.out.symm.trans hq
            simp at e
            rw [← e]; exact hpz
          · have := can_at HC.out (show m < h by omega) hq HPP.out
            omega
        case measure => simp [intOf]; omega
    · obtain rfl : i = j := by omega
      have hki : ¬ ((i : Int) < (i : Int)) := by omega
      go_wp2_with fail
      go_ret
      exact ⟨⟨i, hjl, rfl, HL.out.1, HL.out.2⟩, _, rfl⟩
theorem has_at {X : List Rg} {t : Int} {k : Nat} {p : Rg} (h : Can X) (h1 : ∀ m p, m < k → X[m]? = some p → p.2 < t) (h2 : ∀ m p, k ≤ m → X[m]? = some p → t ≤ p.2) (hp : X[k]? = some p) : hasB X t = decide (p.1 ≤ t) := by
  unfold hasB
  rw [Bool.eq_iff_iff, decide_eq_true_eq, decide_eq_true_eq]
  have hpt := h2 k p (Nat.le_refl _) hp
  constructor
  · rintro ⟨r, hr, i1, i2⟩
    obtain ⟨m, hm⟩ := List.mem_iff_getElem?.1 hr
    by_cases hmk : m < k
    · have := h1 m r hmk hm; omega
    · by_cases he : m = k
      · subst he
        rw [hm] at hp
        simp at hp
        rw [← hp]; exact i1
      · have := can_at h (show k < m by omega) hp hm
        omega
  · intro h3
    exact ⟨p, List.mem_of_getElem? hp, h3, hpt⟩
theorem has_end {X : List Rg} {t : Int} (h1 : ∀ m p, m < X.length → X[m]? = some p → p.2 < t) : hasB X t = false := by
  unfold hasB
  rw [decide_eq_false_iff_not]
  rintro ⟨r, hr, i1, i2⟩
  obtain ⟨m, hm⟩ := List.mem_iff_getElem?.1 hr
  have := h1 m r (List.getElem?_eq_some_iff.1 hm).1 hm
  omega
set_option maxHeartbeats 1000000 in
set_option maxRecDepth 100000 in
theorem has_any (v : Value) (X : List Rg) (t : Int) (w : World) (h : St w v X) (hc : Can X) (hl : X.length ≤ 10000) :
    Calls Try.prog 17 #[v, .int .i64 t] w fun e w' => e = .returned (.bool (hasB X t)) ∧ Below w.heap.size w w' := by
  obtain ⟨A, c, rfl, h1, h2⟩ := h
  obtain ⟨n, hn⟩ : ∃ n, X.length = n := ⟨_, rfl⟩
  obtain ⟨W, hW⟩ : ∃ W, (w.alloc (.cells #[.slice A n c] 28)).alloc (.cells #[.int .i64 t] 2) = W := ⟨_, rfl⟩
  obtain ⟨g, hg⟩ : ∃ g, w.heap.size = g := ⟨_, rfl⟩
  have b0 : Below w.heap.size w W := hW ▸ ((Below.refl _ _).alloc (Nat.le_refl _) _).alloc (by simp) _
  have x0 : W.cell? ⟨g, 0, none⟩ = some (.slice A n c) := (box1 (hg ▸ hW ▸ (Below.heap_alloc _ _ _ (by simp)).trans (heap_alloc_new w _))).1
  have x1 : W.cell? ⟨g + 1, 0, none⟩ = some (.int .i64 t) := by
    have := heap_alloc_new (w.alloc (.cells #[.slice A n c] 28)) (.cells #[.int .i64 t] 2)
    have e : (w.alloc (.cells #[.slice A n c] 28)).heap.size = g + 1 := by simp [hg]
    rw [e, hW] at this
    exact (box1 this).1
  have HS := Lib.hid (search_any g (g + 1) n c A X t W x0 x1 (h2.below b0) hn.symm hc hl)
  have HC := Lib.hid (h2.below b0)
  have HCN := Lib.hid hc
  have HB := Lib.hid b0
  have HN := Lib.hid hn
  rw [hn]
  clear h1 h2 b0 hc hn
  go_enter Try.func17, Try.ntmps17
  go_wp2_with fail
  clear hW
  refine HS.out.mono ?_
  rintro e w2 ⟨⟨k, hk, rfl, hlo, hhi⟩, q, rfl⟩
  rw [HN.out] at hk
  by_cases hlt : k < n
  · obtain ⟨p, hp⟩ := getElem?_lt (l := X) (k := k) (by rw [HN.out]; exact hlt)
    obtain ⟨b, off, rfl, hcell⟩ := HC.out.twos (by rw [HN.out]; omega)
    obtain ⟨q0, q1⟩ := hcell k p hp
    have HE := Lib.hid (has_at HCN.out hlo hhi hp).symm
    obtain ⟨p1, p2⟩ := p
    simp only at q0 q1 HE
    have hki : decide ((k : Int) < (n : Int)) = true := by simp; omega
    have hkj : (k : Int) < (n : Int) := by omega
    clear hcell hp hlo hhi q1
    go_wp2_with fail
    go_quiet (fail)
    go_wp2_with fail
    go_ret
    exact ⟨ret_bool HE.out, below_drewN (below_drewN HB.out q) _⟩
  · obtain rfl : k = n := by omega
    have HE := Lib.hid (has_end (X := X) (t := t) (fun m p hm hp => hlo m p (by rw [HN.out] at hm; exact hm) hp)).symm
    have hki : decide ((k : Int) < (k : Int)) = false := by simp
    clear hlo hhi
    go_wp2_with fail
    go_quiet (fail)
    go_wp2_with fail
    go_ret
    exact ⟨ret_bool HE.out, below_drewN (below_drewN HB.out q) _⟩
end Go.Proofs.Ytdmlogpmojmikaa.Tm
