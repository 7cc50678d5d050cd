import Derived.Test.YtakomfnajeolcaaGreatDoorCtA29
import Derived.Deep.RegionHeld3
set_option linter.unusedVariables false
/- Down, whole; the law's own example. -/
namespace Go.Proofs.YtakomfnajeolcaaGreatDoor
open Go.RowKit Go.Sort Go.Maps
set_option linter.unusedVariables false

theorem downC : DownC := by
  intro h t A B c d w hP hQ o ht hle
  by_cases e : t = h.s
  · subst e
    refine (down_same_any h.k h.s h.z h.zc h.ct h.sm A B c d h.P h.Q w hP hQ o).mono ?_
    intro e w' hR
    exact hR.as (by unfold downF; rw [if_pos rfl]) rfl
  · exact down_less_any h.k h.s h.z h.zc h.ct h.sm t A B c d h.P h.Q w hP hQ o ht (by omega) _ ((swG_raw o t h.z).trans (by unfold downF; rw [if_neg e]))
end Go.Proofs.YtakomfnajeolcaaGreatDoor


/- right: histograms that may be, with few buckets. -/
namespace Go.Proofs.YtakomfnajeolcaaGreatDoor
open Go.RowKit Go.Sort Go.Maps
set_option linter.unusedVariables false

/-- a slice of histograms -/
def Hl (w : World) (D : Option Addr) (hs : List HV) : Prop :=
  hs.length ≤ 1000000 ∧ (hs.length = 0 ∨ ∃ b off, D = some ⟨b, off, none⟩ ∧ ∀ (j : Nat) (h : HV), hs[j]? = some h → ∃ (A B : Option Addr) (c d : Nat),
    (w.cell? ⟨b, off + j * 8, none⟩ = some (.int .i64 h.k) ∧ w.cell? ⟨b, off + j * 8 + 1, none⟩ = some (.int .i64 h.s) ∧ w.cell? ⟨b, off + j * 8 + 2, none⟩ = some (.int .i64 h.z) ∧ w.cell? ⟨b, off + j * 8 + 3, none⟩ = some (.int .u64 h.zc) ∧ w.cell? ⟨b, off + j * 8 + 4, none⟩ = some (.int .u64 h.ct) ∧ w.cell? ⟨b, off + j * 8 + 5, none⟩ = some (.int .i64 h.sm) ∧ w.cell? ⟨b, off + j * 8 + 6, none⟩ = some (.slice A h.P.length c) ∧ w.cell? ⟨b, off + j * 8 + 7, none⟩ = some (.slice B h.Q.length d)) ∧
    Bk w A h.P ∧ Bk w B h.Q ∧ 0 ≤ h.zc ∧ h.zc ≤ 18446744073709551615)
theorem Hl.some_ {w : World} {D : Option Addr} {hs : List HV} (h : Hl w D hs) (h0 : 0 < hs.length) : ∃ b off, D = some ⟨b, off, none⟩ ∧ ∀ (j : Nat) (h : HV), hs[j]? = some h → ∃ (A B : Option Addr) (c d : Nat),
    (w.cell? ⟨b, off + j * 8, none⟩ = some (.int .i64 h.k) ∧ w.cell? ⟨b, off + j * 8 + 1, none⟩ = some (.int .i64 h.s) ∧ w.cell? ⟨b, off + j * 8 + 2, none⟩ = some (.int .i64 h.z) ∧ w.cell? ⟨b, off + j * 8 + 3, none⟩ = some (.int .u64 h.zc) ∧ w.cell? ⟨b, off + j * 8 + 4, none⟩ = some (.int .u64 h.ct) ∧ w.cell? ⟨b, off + j * 8 + 5, none⟩ = some (.int .i64 h.sm) ∧ w.cell? ⟨b, off + j * 8 + 6, none⟩ = some (.slice A h.P.length c) ∧ w.cell? ⟨b, off + j * 8 + 7, none⟩ = some (.slice B h.Q.length d)) ∧
    Bk w A h.P ∧ Bk w B h.Q ∧ 0 ≤ h.zc ∧ h.zc ≤ 18446744073709551615 := by
  rcases h.2 with h | h
  · omega
  · exact h
theorem Hl.below {w w' : World} {D : Option Addr} {hs : List HV} (h : Hl w D hs) (hb : Below w.heap.size w w') : Hl w' D hs := by
  refine ⟨h.1, ?_⟩
  rcases h.2 with h0 | ⟨b, off, e, hc⟩
  · exact .inl h0
  · refine .inr ⟨b, off, e, fun j x hj => ?_⟩
    obtain ⟨A, B, c, d, ⟨a0, a1, a2, a3, a4, a5, a6, a7⟩, hA, hB, z⟩ := hc j x hj
    have k := Kept.of_below hb
    exact ⟨A, B, c, d, ⟨k _ _ a0, k _ _ a1, k _ _ a2, k _ _ a3, k _ _ a4, k _ _ a5, k _ _ a6, k _ _ a7⟩, hA.below hb, hB.below hb, z⟩
def fewB (h : HV) : Bool := decide (h.P.length ≤ 100 ∧ h.Q.length ≤ 100 ∧ chk h = 0)
def rightF (hs : List HV) : Bool := hs.all fewB
theorem rightF_no {hs : List HV} {j : Nat} {h : HV} (hj : hs[j]? = some h) (hb : fewB h = false) : rightF hs = false := by
  unfold rightF
  rw [List.all_eq_false]
  exact ⟨h, List.mem_of_getElem? hj, by rw [hb]; simp⟩
theorem rightF_yes {hs : List HV} (h : ∀ x ∈ hs, fewB x = true) : rightF hs = true := List.all_eq_true.2 h
end Go.Proofs.YtakomfnajeolcaaGreatDoor


/- Add. -/
namespace Go.Proofs.YtakomfnajeolcaaGreatDoor
open Go.RowKit Go.Sort Go.Maps
set_option linter.unusedVariables false

theorem Alk.oks {a0 b0 x y : HV} (h : Alk a0 b0 x y) {a b : HV} (oa : Ok a) (ob : Ok b) (ha : downF a (min a.s b.s) = a0) (hb : downF b (min a.s b.s) = b0) : (Ok x ∧ Ok y) ∧ x.s = min a.s b.s ∧ y.s = min a.s b.s ∧ x.z = y.z ∧ Cut a0 x ∧ Cut b0 y := by
  have ht : rightB (min a.s b.s) = true := by
    have h1 := right_yes oa.s
    have h2 := right_yes ob.s
    exact right_iff.2 (by omega)
  have o1 : Ok a0 := by rw [← ha]; exact down_ok oa ht (Int.min_le_left _ _)
  have o2 : Ok b0 := by rw [← hb]; exact down_ok ob ht (Int.min_le_right _ _)
  obtain ⟨c1, c2, o3, o4, e⟩ := h.cut o1 o2
  refine ⟨⟨o3, o4⟩, ?_, ?_, e, c1, c2⟩
  · rw [c1.same.2.1, ← ha, down_s]
  · rw [c2.same.2.1, ← hb, down_s]
/-- what is handed to Make when two alike histograms are added -/
def mAddV (x y : HV) : HV := { x with k := if y.k = 0 then x.k else y.k, zc := x.zc + y.zc, sm := x.sm + y.sm }
def mAddE (x y : HV) : Int := if 18446744073709551615 < x.zc + y.zc then 5 else if inI64 (x.sm + y.sm) then mkE (mAddV x y) (x.P ++ y.P) (x.Q ++ y.Q) else 5
def mAddO (x y : HV) : HV := if mAddE x y = 0 then mkR (mAddV x y) (x.P ++ y.P) (x.Q ++ y.Q) else zeroV
def AddT (w w0 : World) (x y : HV) (K S M : Int) (A1 B1 A2 B2 : Option Addr) (c1 d1 c2 d2 : Nat) (W : World) : Prop :=
  (Box W w.heap.size (.int .i64 K) (.int .i64 x.s) (.int .i64 x.z) (.int .u64 S) (.int .u64 x.ct) (.int .i64 M) (.slice A1 x.P.length c1) (.slice B1 x.Q.length d1) ∧ Box W (w.heap.size + 1) (.int .i64 y.k) (.int .i64 y.s) (.int .i64 y.z) (.int .u64 y.zc) (.int .u64 y.ct) (.int .i64 y.sm) (.slice A2 y.P.length c2) (.slice B2 y.Q.length d2)) ∧ (∃ v0 v1 v2 v3 v4 v5 v6 v7, Box W (w.heap.size + 1 + 1) v0 v1 v2 v3 v4 v5 v6 v7) ∧ ((Bk W A1 x.P ∧ Bk W B1 x.Q) ∧ (Bk W A2 y.P ∧ Bk W B2 y.Q)) ∧ w0.heap.size ≤ W.heap.size ∧ Below w.heap.size w W
theorem AddT.below {w w0 W W' : World} {x y : HV} {K S M : Int} {A1 B1 A2 B2 : Option Addr} {c1 d1 c2 d2 : Nat} (hb : Below W.heap.size W W') (h : AddT w w0 x y K S M A1 B1 A2 B2 c1 d1 c2 d2 W) : AddT w w0 x y K S M A1 B1 A2 B2 c1 d1 c2 d2 W' := by
  obtain ⟨⟨a, b⟩, ⟨v0, v1, v2, v3, v4, v5, v6, v7, c⟩, ⟨⟨d, e⟩, ⟨f, g⟩⟩, i, j⟩ := h
  exact ⟨⟨a.below hb, b.below hb⟩, ⟨v0, v1, v2, v3, v4, v5, v6, v7, c.below hb⟩, ⟨⟨d.below hb, e.below hb⟩, ⟨f.below hb, g.below hb⟩⟩, Nat.le_trans i hb.size, j.trans (hb.mono j.size)⟩
theorem AddT.store {w w0 W : World} {x y : HV} {K S M : Int} {A1 B1 A2 B2 : Option Addr} {c1 d1 c2 d2 : Nat} (n : (NewA w0 A1 ∧ NewA w0 B1) ∧ (NewA w0 A2 ∧ NewA w0 B2)) (hl : w.heap.size + 1 + 1 < w0.heap.size) (u0 u1 u2 u3 u4 u5 u6 u7 : Value) (h : AddT w w0 x y K S M A1 B1 A2 B2 c1 d1 c2 d2 W) : AddT w w0 x y K S M A1 B1 A2 B2 c1 d1 c2 d2 (set8 W (w.heap.size + 1 + 1) u0 u1 u2 u3 u4 u5 u6 u7) := by
  obtain ⟨⟨a, b⟩, ⟨v0, v1, v2, v3, v4, v5, v6, v7, c⟩, ⟨⟨d, e⟩, ⟨f, g⟩⟩, i, j⟩ := h
  exact ⟨⟨a.off8 (by omega) _ _ _ _ _ _ _ _, b.off8 (by omega) _ _ _ _ _ _ _ _⟩, ⟨_, _, _, _, _, _, _, _, c.put8 _ _ _ _ _ _ _ _⟩, ⟨⟨d.set8 (n.1.1.ne hl) _ _ _ _ _ _ _ _, e.set8 (n.1.2.ne hl) _ _ _ _ _ _ _ _⟩, ⟨f.set8 (n.2.1.ne hl) _ _ _ _ _ _ _ _, g.set8 (n.2.2.ne hl) _ _ _ _ _ _ _ _⟩⟩, by rw [size_set8]; exact i, below_set8 j (by omega) _ _ _ _ _ _ _ _⟩
theorem AddT.cells {w w0 W : World} {x y : HV} {K S M : Int} {A1 B1 A2 B2 : Option Addr} {c1 d1 c2 d2 : Nat} (h : AddT w w0 x y K S M A1 B1 A2 B2 c1 d1 c2 d2 W) :
    (W.cell? ⟨w.heap.size, 0, none⟩ = some (.int .i64 K) ∧ W.cell? ⟨w.heap.size, 1, none⟩ = some (.int .i64 x.s) ∧ W.cell? ⟨w.heap.size, 2, none⟩ = some (.int .i64 x.z) ∧ W.cell? ⟨w.heap.size, 3, none⟩ = some (.int .u64 S) ∧ W.cell? ⟨w.heap.size, 4, none⟩ = some (.int .u64 x.ct) ∧ W.cell? ⟨w.heap.size, 5, none⟩ = some (.int .i64 M) ∧ W.cell? ⟨w.heap.size, 6, none⟩ = some (.slice A1 x.P.length c1) ∧ W.cell? ⟨w.heap.size, 7, none⟩ = some (.slice B1 x.Q.length d1)) ∧ (W.cell? ⟨w.heap.size + 1, 6, none⟩ = some (.slice A2 y.P.length c2) ∧ W.cell? ⟨w.heap.size + 1, 7, none⟩ = some (.slice B2 y.Q.length d2)) ∧ AddT w w0 x y K S M A1 B1 A2 B2 c1 d1 c2 d2 W :=
  ⟨h.1.1.cells, ⟨h.1.2.cells.2.2.2.2.2.2.1, h.1.2.cells.2.2.2.2.2.2.2⟩, h⟩
end Go.Proofs.YtakomfnajeolcaaGreatDoor


/- The search for a bucket in a side. -/
namespace Go.Proofs.YtakomfnajeolcaaGreatDoor
open Go.RowKit Go.Sort Go.Maps
set_option linter.unusedVariables false

theorem atcmp_any (a b i v : Int) (w : World) (hv : cmpV a i = v) : Calls Tryz.prog 145 #[.agg #[.int .i64 a, .int .u64 b], .int .i64 i] w fun e w' => e = .returned (.int .i64 v) ∧ Below w.heap.size w w' := by
  subst hv
  go_enter Tryz.func145, Tryz.ntmps145
  go_wp2_with (go_at_call 129; refine (cmp_any _ _ _).mono ?_; rintro e w' ⟨rfl, rfl⟩)
  go_ret
  exact ⟨rfl, (Below.refl _ _).alloc (Nat.le_refl _) _⟩
theorem cmpI_lt {a i : Int} (h : a < i) : cmpV a i = -1 := by unfold cmpV; rw [if_pos h]
theorem cmpI_gt {a i : Int} (h : i < a) : cmpV a i = 1 := by unfold cmpV; rw [if_neg (by omega), if_pos h]
theorem cmpI_eq {a i : Int} (h : a = i) : cmpV a i = 0 := by unfold cmpV; rw [if_neg (by omega), if_neg (by omega)]
def BsPost (l : List (Int × Int)) (idx : Int) (e : Ending) : Prop := ∃ (k : Nat) (b : Bool), e = .returned (.tuple #[.int .i64 k, .bool b]) ∧ (b = true → ∃ p, l[k]? = some p ∧ p.1 = idx) ∧ (b = false → ∀ p ∈ l, p.1 ≠ idx)
def BsRel (l : List (Int × Int)) (idx : Int) (w0 : World) (vi vj : Value) (wr : World) : Prop :=
  ∃ i j : Nat, i ≤ j ∧ j ≤ l.length ∧ vi = .int .i64 i ∧ vj = .int .i64 j ∧ (∀ m p, m < i → l[m]? = some p → p.1 < idx) ∧ (∀ m p, j ≤ m → l[m]? = some p → idx ≤ p.1) ∧ Below w0.heap.size w0 wr
theorem asc_at {l : List (Int × Int)} (h : Asc l) {a b : Nat} {p q : Int × Int} (hab : a < b) (hp : l[a]? = some p) (hq : l[b]? = some q) : p.1 < q.1 := by
  obtain ⟨ha, rfl⟩ := List.getElem?_eq_some_iff.1 hp
  obtain ⟨hb, rfl⟩ := List.getElem?_eq_some_iff.1 hq
  exact List.pairwise_iff_getElem.1 h a b ha hb hab
set_option maxHeartbeats 2000000 in
set_option maxRecDepth 100000 in
theorem bsearch_any (A : Option Addr) (c : Nat) (l : List (Int × Int)) (idx : Int) (w : World) (hP : Bk w A l) (ha : Asc l) (hl : l.length ≤ 1100) :
    Calls Tryz.prog 144 #[.slice A l.length c, .int .i64 idx, .func (.func 145) #[] #[]] w fun e w' => BsPost l idx e ∧ Below w.heap.size w w' := by
  have HP := Lib.hid hP
  have HA := Lib.hid ha
  clear hP ha
  go_enter Tryz.func144, Tryz.ntmps144
  go_wp2_with fail
  go_loopw [9, 10] (fun vi vj wr => BsRel l idx w vi vj wr) (fun vi vj _ => (intOf vj).toNat - (intOf vi).toNat)
  case atStart => exact ⟨0, l.length, by omega, by omega, rfl, rfl, fun m p h => by omega, fun m p h hp => by have := (List.getElem?_eq_some_iff.1 hp).1; omega, Below.refl _ _⟩
  case round =>
    obtain ⟨i, j, hij, hjl, rfl, rfl, hlo, hhi, hb⟩ := hrel
    have HL := Lib.hid (And.intro hlo hhi)
    have HB := Lib.hid hb
    clear hlo hhi hb
    by_cases hlt : i < j
    · obtain ⟨h, hh⟩ : ∃ h : Nat, (i + j) / 2 = h := ⟨_, rfl⟩
      have hhi : ((i : Int) + (j : Int)) / 2 = (h : Int) := by rw [← hh]; push_cast; rfl
      have h1 : i ≤ h := by omega
      have h2 : h < j := by omega
      have hhl : h < l.length := by omega
      clear hh
      obtain ⟨b', off', rfl, hc'⟩ := (HP.out.below HB.out).some_ (by omega)
      obtain ⟨p, hp⟩ := getElem?_lt hhl
      obtain ⟨q1, q2⟩ := hc' h p hp
      have HPP := Lib.hid hp
      obtain ⟨pi, pc⟩ := p
      simp only at q1 q2
      have hlb := block_lt_of_cell q1
      simp only at hlb
      clear hc' hp
      have hhlI : (h : Int) < (l.length : Int) := by omega
      by_cases hc : pi < idx
      · have HC := Lib.hid hc
        clear hc
        go_wp2_with (rw [hhi])
        refine (atcmp_any _ _ _ _ _ (cmpI_lt HC.out)).mono ?_
        rintro e w2 ⟨rfl, hb2⟩
        have HB2 := Lib.hid (HB.out.trans (hb2.mono HB.out.size))
        clear hb2
        go_wp2_with fail
        go_roundw
        case rel =>
          refine ⟨h + 1, j, by omega, hjl, by go_num, rfl, fun m q hm hq => ?_, HL.out.2, HB2.out⟩
          by_cases hmh : m = h
          · subst hmh
            have e := HPP.out.symm.trans hq
            simp at e
            rw [← e]; exact HC.out
          · have := asc_at HA.out (show m < h by omega) hq HPP.out
            have := HC.out
            simp only at *
            omega
        case measure => simp [intOf]; omega
      · have HC := Lib.hid (show 0 ≤ cmpV pi idx from by unfold cmpV; rw [if_neg hc]; split <;> omega)
        have HC2 := Lib.hid (show idx ≤ pi by omega)
        obtain ⟨v, hv⟩ : ∃ v, cmpV pi idx = v := ⟨_, rfl⟩
        have hv0 : ¬ v < 0 := by have := HC.out; omega
        clear hc
        go_wp2_with (rw [hhi])
        refine (atcmp_any _ _ _ v _ hv).mono ?_
        rintro e w2 ⟨rfl, hb2⟩
        have HB2 := Lib.hid (HB.out.trans (hb2.mono HB.out.size))
        clear hb2 hv
        go_wp2_with fail
        go_roundw
        case rel =>
          refine ⟨i, h, by omega, by omega, rfl, rfl, HL.out.1, fun m q hm hq => ?_, HB2.out⟩
          by_cases hmh : m = h
          · subst hmh
            have e := HPP.out.symm.trans hq
            simp at e
            rw [← e]; exact HC2.out
          · have := asc_at HA.out (show h < m by omega) HPP.out hq
            have := HC2.out
            simp only at *
            omega
        case measure => simp [intOf]; omega
    · obtain rfl : i = j := by omega
      by_cases hin : i < l.length
      · obtain ⟨b', off', rfl, hc'⟩ := (HP.out.below HB.out).some_ (by omega)
        obtain ⟨p, hp⟩ := getElem?_lt hin
        obtain ⟨q1, q2⟩ := hc' i p hp
        have HPP := Lib.hid hp
        obtain ⟨pi, pc⟩ := p
        simp only at q1 q2
        have hlb := block_lt_of_cell q1
        simp only at hlb
        clear hc' hp
        have hinI : (i : Int) < (l.length : Int) := by omega
        have HC2 := Lib.hid (show idx ≤ pi from HL.out.2 i _ (Nat.le_refl _) HPP.out)
        by_cases hc : pi = idx
        · have HC := Lib.hid hc
          clear hc
          go_wp2_with fail
          refine (atcmp_any _ _ _ _ _ (cmpI_eq HC.out)).mono ?_
          rintro e w2 ⟨rfl, hb2⟩
          have HB2 := Lib.hid (HB.out.trans (hb2.mono HB.out.size))
          clear hb2
          go_wp2_with fail
          go_ret2
          exact ⟨⟨i, true, rfl, fun _ => ⟨_, HPP.out, HC.out⟩, fun h => by cases h⟩, HB2.out⟩
        · have HC := Lib.hid (show idx < pi by have := HC2.out; omega)
          clear hc
          go_wp2_with fail
          refine (atcmp_any _ _ _ _ _ (cmpI_gt HC.out)).mono ?_
          rintro e w2 ⟨rfl, hb2⟩
          have HB2 := Lib.hid (HB.out.trans (hb2.mono HB.out.size))
          clear hb2
          go_wp2_with fail
          go_ret2
          refine ⟨⟨i, false, rfl, (fun h => by cases h), fun _ q hq => ?_⟩, HB2.out⟩
          obtain ⟨m, hm, rfl⟩ := List.getElem_of_mem hq
          have hq' : l[m]? = some l[m] := List.getElem?_eq_getElem hm
          by_cases hmi : m < i
          · have := HL.out.1 m _ hmi hq'; omega
          · by_cases hme : m = i
            · subst hme
              have e := HPP.out.symm.trans hq'
              simp at e
              rw [← e]; have := HC.out; simp only; omega
            · have := asc_at HA.out (show i < m by omega) HPP.out hq'
              have := HC.out
              simp only at *
              omega
      · have hinI : ¬ (i : Int) < (l.length : Int) := by omega
        go_wp2_with fail
        go_ret2
        refine ⟨⟨i, false, rfl, (fun h => by cases h), fun _ q hq => ?_⟩, HB.out⟩
        obtain ⟨m, hm, rfl⟩ := List.getElem_of_mem hq
        have := HL.out.1 m _ (by omega) (List.getElem?_eq_getElem hm)
        omega
theorem bs_yes {l : List (Int × Int)} (ha : Asc l) {k : Nat} {p : Int × Int} {idx : Int} (hp : l[k]? = some p) (he : p.1 = idx) : atI l idx = p.2 := by
  refine atI_asc ha ?_
  rw [← he]
  exact List.mem_of_getElem? hp
end Go.Proofs.YtakomfnajeolcaaGreatDoor


/- less: buckets less others, bucket by bucket. -/
namespace Go.Proofs.YtakomfnajeolcaaGreatDoor
open Go.RowKit Go.Sort Go.Maps
set_option linter.unusedVariables false

/-- each bucket less what it has in another list -/
def subL (P Q : List (Int × Int)) : List (Int × Int) := P.map fun p => (p.1, p.2 - atI Q p.1)
/-- has the first list as much as the second one, bucket by bucket? -/
def lessB (P Q : List (Int × Int)) : Bool := Q.all fun q => decide (q.2 ≤ atI P q.1)
theorem subL_length (P Q : List (Int × Int)) : (subL P Q).length = P.length := List.length_map ..
theorem subL_nil (P : List (Int × Int)) : subL P [] = P := by
  unfold subL
  conv => rhs; rw [← List.map_id P]
  exact List.map_congr_left fun p _ => by simp [atI]
theorem subL_at {P Q : List (Int × Int)} {k : Nat} {p : Int × Int} (h : P[k]? = some p) : (subL P Q)[k]? = some (p.1, p.2 - atI Q p.1) := by
  unfold subL
  rw [List.getElem?_map, h]; rfl
theorem subL_asc {P : List (Int × Int)} (h : Asc P) (Q : List (Int × Int)) : Asc (subL P Q) := by
  unfold subL Asc
  rw [List.pairwise_map]
  exact h
/-- one more bucket taken off: the k-th of the list gets less -/
theorem subL_snoc {P Q : List (Int × Int)} (ha : Asc P) {k : Nat} {p q : Int × Int} (hk : P[k]? = some p) (he : p.1 = q.1) : subL P (Q ++ [q]) = (subL P Q).set k (p.1, p.2 - atI Q p.1 - q.2) := by
  refine List.ext_getElem? fun j => ?_
  by_cases hj : j = k
  · subst hj
    rw [subL_at hk, List.getElem?_set_self (by rw [subL_length]; exact (List.getElem?_eq_some_iff.1 hk).1), atI_snoc, if_pos he.symm]
    congr 2
    omega
  · rw [List.getElem?_set_ne (fun h => hj h.symm)]
    rcases hP : P[j]? with _ | p'
    · have : P.length ≤ j := List.getElem?_eq_none_iff.1 hP
      rw [List.getElem?_eq_none_iff.2 (by rw [subL_length]; exact this), List.getElem?_eq_none_iff.2 (by rw [subL_length]; exact this)]
    · rw [subL_at hP, subL_at hP, atI_snoc, if_neg]
      intro e
      have : p'.1 = p.1 := by rw [he, e]
      rcases Nat.lt_or_gt_of_ne hj with h | h
      · have := asc_at ha h hP hk; omega
      · have := asc_at ha h hk hP; omega
/-- a list of rising indices has nothing of the next one's index ahead of it -/
theorem atI_take {Q : List (Int × Int)} (ha : Asc Q) {j : Nat} {q : Int × Int} (hq : Q[j]? = some q) : atI (Q.take j) q.1 = 0 := by
  refine atI_none fun p hp => ?_
  obtain ⟨i, hi, rfl⟩ := List.getElem_of_mem hp
  have hi' : i < j := by rw [List.length_take] at hi; omega
  have h1 : Q[i]? = some (Q.take j)[i] := by
    rw [← List.getElem?_take_of_lt hi']
    exact List.getElem?_eq_getElem hi
  have := asc_at ha hi' h1 hq
  omega
theorem lessB_no {P Q : List (Int × Int)} {q : Int × Int} (hq : q ∈ Q) (h : ¬ q.2 ≤ atI P q.1) : lessB P Q = false := by
  unfold lessB
  rw [List.all_eq_false]
  exact ⟨q, hq, by simpa using h⟩
theorem lessB_yes {P Q : List (Int × Int)} (h : ∀ q ∈ Q, q.2 ≤ atI P q.1) : lessB P Q = true := List.all_eq_true.2 fun q hq => by simpa using h q hq
def LessP (w : World) (P Q : List (Int × Int)) (e : Ending) (w' : World) : Prop :=
  (lessB P Q = false ∧ e = .returned (.tuple #[.slice none 0 0, .bool false]) ∧ Below w.heap.size w w') ∨
  (lessB P Q = true ∧ ∃ A c, e = .returned (.tuple #[.slice A P.length c, .bool true]) ∧ Bk w' A (subL P Q) ∧ Below w.heap.size w w' ∧ NewA w A)
theorem OwnC.below {w0 w w' : World} {A : Option Addr} {c : Nat} {X : List (Int × Int)} (h : OwnC w0 w A c X) (hb : Below w.heap.size w w') : OwnC w0 w' A c X := ⟨own_below h.1 hb, h.2.trans (hb.mono h.2.size)⟩
theorem OwnC.drewN {w0 w : World} {A : Option Addr} {c : Nat} {X : List (Int × Int)} (h : OwnC w0 w A c X) (n : Nat) : OwnC w0 (w.drewN n) A c X := ⟨h.1, below_drewN h.2 n⟩
theorem OwnC.drew {w0 w : World} {A : Option Addr} {c : Nat} {X : List (Int × Int)} (h : OwnC w0 w A c X) : OwnC w0 w.drew A c X := ⟨h.1, Below.drew h.2⟩
theorem subL_wb {P Q : List (Int × Int)} (hP : ∀ p ∈ P, Wb p) (hQ : Nn Q) (h : ∀ p ∈ P, atI Q p.1 ≤ p.2) : ∀ p ∈ subL P Q, Wb p := fun p hp => by
  obtain ⟨q, hq, rfl⟩ := List.mem_map.1 hp
  obtain ⟨a, b, c, d⟩ := hP q hq
  have h1 := h q hq
  have h2 := (hQ.at q.1).1
  exact ⟨a, b, by simp only; omega, by simp only; omega⟩
theorem less_all {P Q : List (Int × Int)} (aP : Asc P) (nP : Nn P) (aQ : Asc Q) (h : ∀ q ∈ Q, q.2 ≤ atI P q.1) : ∀ p ∈ P, atI Q p.1 ≤ p.2 := fun p hp => by
  by_cases h0 : atI Q p.1 = 0
  · rw [h0]; exact nP p hp
  · obtain ⟨q, hq, e⟩ := at_mem h0
    have h1 := h q hq
    rw [e, atI_asc aP (i := p.1) (n := p.2) hp] at h1
    rw [← e, atI_asc aQ (i := q.1) (n := q.2) hq]
    exact h1
theorem asc_take {l : List (Int × Int)} (h : Asc l) (k : Nat) : Asc (l.take k) := List.Pairwise.sublist (List.take_sublist k l) h
set_option maxHeartbeats 3000000 in
set_option maxRecDepth 100000 in
theorem less_any' (A B : Option Addr) (c d : Nat) (P Q : List (Int × Int)) (w : World) (hP : Bk w A P) (hQ : Bk w B Q) (aP : Asc P) (aQ : Asc Q) (nP : Nn P) (pQ : Pos Q) (lP : P.length ≤ 1000) (lQ : Q.length ≤ 1000) :
    Calls Tryz.prog 133 #[.slice A P.length c, .slice B Q.length d] w (LessP w P Q) := by
  have HP := Lib.hid hP
  have HQ := Lib.hid hQ
  have HA := Lib.hid (And.intro aP aQ)
  have HN := Lib.hid (And.intro nP pQ)
  have hlen : (Q.length : Int) ≤ 1000 := by omega
  clear hP hQ aP aQ nP pQ
  go_enter Tryz.func133, Tryz.ntmps133
  go_wp2_with fail
  refine (cloneB_any _ _ _ _ HP.out (by omega)).mono ?_
  rintro e w1 ⟨A1, c1, rfl, ⟨ho, hb⟩, hb1⟩
  have HO := Lib.hid (show OwnC w w1 A1 c1 P from ⟨ho, hb1⟩)
  clear ho hb hb1
  go_wp2_with fail
  go_loopw [15] (fun i wr => ∃ j : Nat, j ≤ Q.length ∧ i = .int .i64 j ∧ Hid (∀ q ∈ Q.take j, q.2 ≤ atI P q.1) ∧ Hid (OwnC w wr A1 c1 (subL P (Q.take j)))) (fun i _ => Q.length - (intOf i).toNat)
  case atStart => exact ⟨0, by omega, rfl, Lib.hid (by simp), Lib.hid (by rw [List.take_zero, subL_nil]; exact HO.out)⟩
  case round =>
    obtain ⟨j, hj, rfl, HF, HR⟩ := hrel
    by_cases hlt : j < Q.length
    · have hki : (j : Int) < (Q.length : Int) := by omega
      obtain ⟨b, off, rfl, hc⟩ := (HQ.out.below HR.out.2).some_ (by omega)
      obtain ⟨q, hq⟩ := getElem?_lt hlt
      obtain ⟨q1, q2⟩ := hc j q hq
      have HT := Lib.hid (take_snoc Q j q hq)
      have HM := Lib.hid (mem_of_at hq)
      have H0 := Lib.hid (atI_take HA.out.2 hq)
      have hwq := HQ.out.2.1 q (mem_of_at hq)
      have hpos := HN.out.2 q (mem_of_at hq)
      obtain ⟨qi, qc⟩ := q
      simp only at q1 q2 hwq hpos H0
      have hlb := block_lt_of_cell q1
      simp only at hlb
      have hwb : ∀ p ∈ subL P (Q.take j), Wb p := subL_wb HP.out.2.1 (fun p hp => Int.le_of_lt (HN.out.2 p (List.mem_of_mem_take hp))) (less_all HA.out.1 HN.out.1 (asc_take HA.out.2 j) HF.out)
      have hbl : Below wr.heap.size wr (wr.alloc (.cells #[.int .i64 qi, .int .u64 qc] 86)) := (Below.refl _ _).alloc (Nat.le_refl _) _
      have HR1 := Lib.hid (HR.out.below hbl)
      have hbs := bsearch_any A1 c1 (subL P (Q.take j)) qi (wr.alloc (.cells #[.int .i64 qi, .int .u64 qc] 86)) (HR1.out.bk hwb (by rw [subL_length]; omega)) (subL_asc HA.out.1 _) (by rw [subL_length]; omega)
      rw [subL_length] at hbs
      have HBS := Lib.hid hbs
      have hbx := box2 (heap_alloc_new wr (.cells #[.int .i64 qi, .int .u64 qc] 86))
      clear hc hq hbs hwb hbl
      go_wp2_with fail
      refine HBS.out.mono ?_
      rintro e w2 ⟨⟨k, bb, rfl, hy, hno⟩, hb2⟩
      have HR2 := Lib.hid (HR1.out.below hb2)
      have hx0 := (Kept.of_below hb2) _ _ hbx.1
      have hx1 := (Kept.of_below hb2) _ _ hbx.2
      have hxl := block_lt_of_cell hx0
      simp only at hxl
      have HY := Lib.hid (And.intro hy hno)
      clear hy hno hb2 hbx
      cases bb with
      | false =>
        have HL := Lib.hid (show lessB P Q = false from lessB_no HM.out (by
          have h1 := HY.out.2 rfl
          have : atI P qi = 0 := atI_none fun p hp e => h1 (p.1, p.2 - atI (Q.take j) p.1) (List.mem_map.2 ⟨p, hp, rfl⟩) e
          rw [this]; simp only; omega))
        go_wp2_with fail
        go_quiet (fail)
        go_wp2_with fail
        go_ret2
        exact .inl ⟨HL.out, rfl, by first | exact HR2.out.2 | exact below_drewN HR2.out.2 _ | exact below_drewN (below_drewN HR2.out.2 _) _⟩
      | true =>
        obtain ⟨p', hp', hpi⟩ := HY.out.1 rfl
        have hkl : k < P.length := by have := (List.getElem?_eq_some_iff.1 hp').1; rwa [subL_length] at this
        obtain ⟨p, hp⟩ := getElem?_lt hkl
        rw [subL_at hp] at hp'
        injection hp' with hp'
        subst hp'
        simp only at hpi
        have hpq : p.2 - atI (Q.take j) p.1 = p.2 := by rw [hpi, H0.out]; omega
        have hat : atI P qi = p.2 := bs_yes HA.out.1 hp hpi
        obtain ⟨g, rfl⟩ := HR2.out.some_ (by rw [subL_length]; omega)
        obtain ⟨m0, m1, m2, m3, m4⟩ := RowB.at ⟨HR2.out.1, HR2.out.2⟩ (subL_at (Q := Q.take j) hp)
        have hwp := (HP.out.2.1 p (mem_of_at hp)).2.2
        simp only at m0 m1
        rw [hpq] at m1
        obtain ⟨pi, pc⟩ := p
        simp only at m0 m1 hpi hpq hat hwp
        have hkI : (k : Int) < (P.length : Int) := by omega
        by_cases hc : pc < qc
        · have HL := Lib.hid (show lessB P Q = false from lessB_no HM.out (by rw [hat]; simp only; omega))
          have d1 : decide (pc < qc) = true := by simpa using hc
          clear hc hpi hpq hat hp
          go_wp2_with fail
          go_quiet (fail)
          go_wp2_with fail
          go_ret2
          exact .inl ⟨HL.out, rfl, by first | exact HR2.out.2 | exact below_drewN HR2.out.2 _ | exact below_drewN (below_drewN HR2.out.2 _) _⟩
        · have d1 : decide (pc < qc) = false := by simpa using hc
          have hle : qc ≤ pc := by omega
          have HF2 := Lib.hid (show ∀ q ∈ Q.take (j + 1), q.2 ≤ atI P q.1 from by rw [HT.out]; exact all_snoc HF.out (by rw [hat]; exact hle))
          have HS := Lib.hid (fun n => (HR2.out.drewN n).set (k * 2 + 1) (.int .u64 (pc - qc)) (subL P (Q.take (j + 1))) (by rw [HT.out, subL_snoc HA.out.1 hp hpi]; simp only; rw [hpq]; exact cellsL_setc _ k _ _ (subL_at hp)) (by rw [subL_length, subL_length]))
          clear hc hpi hpq hat hp
          go_wp2_with fail
          go_quiet (fail)
          go_wp2_with fail
          go_region_with (fail)
          all_goals (go_wp2_with fail)
          all_goals
            exact ⟨⟨j + 1, by omega, by go_num, HF2, Lib.hid (HS.out _)⟩, by simp [intOf]; omega⟩
    · obtain rfl : j = Q.length := by omega
      have hki : ¬ ((Q.length : Int) < (Q.length : Int)) := by omega
      have hF := HF.out
      have hR := HR.out
      rw [List.take_length] at hF hR
      have H1 := Lib.hid (hR.bk (subL_wb HP.out.2.1 (HN.out.2.nn) (less_all HA.out.1 HN.out.1 HA.out.2 hF)) (by rw [subL_length]; omega))
      have H2 := Lib.hid (And.intro hR.2 hR.new)
      have H3 := Lib.hid (lessB_yes hF)
      clear hF hR HF HR
      go_wp2_with fail
      go_ret2
      exact .inr ⟨H3.out, A1, c1, rfl, H1.out, H2.out.1, H2.out.2⟩
end Go.Proofs.YtakomfnajeolcaaGreatDoor
