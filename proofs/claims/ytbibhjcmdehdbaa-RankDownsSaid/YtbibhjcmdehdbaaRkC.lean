/- slices.IndexFunc and slices.DeleteFunc at rank's cells, by its own predicate. -/
import Derived.Test.YtbibhjcmdehdbaaRkB
import Derived.Laws.OwnMore
namespace Go.Proofs.Ytbibhjcmdehdbaa
open Go.RowKit Go.Sort
set_option linter.unusedVariables false

theorem emptyC_any (p : Cel) (w : World) :
    Calls Try.prog 61 #[.agg #[.int .i64 p.d, .int .i64 p.s, .int .i64 p.i, .int .u64 p.n]] w fun e w' => e = .returned (.bool (p.n == 0)) ∧ Below w.heap.size w w' := by
  go_enter Try.func61, Try.ntmps61
  go_wp2
  go_ret
  exact ⟨rfl, (Below.refl _ _).alloc (Nat.le_refl _) _⟩
def IxP (l : List Cel) (e : Ending) : Prop := (e = .returned (.int .i64 (-1)) ∧ ∀ p ∈ l, p.n ≠ 0) ∨ (∃ (k : Nat) (p : Cel), e = .returned (.int .i64 k) ∧ l[k]? = some p ∧ p.n = 0)
set_option maxHeartbeats 1000000 in
theorem cindex_any (A : Option Addr) (c : Nat) (l : List Cel) (w : World) (h : Cs w A l) (hl : l.length ≤ 2000) :
    Calls Try.prog 97 #[.slice A l.length c, .func (.func 61) #[] #[]] w fun e w' => IxP l e ∧ Below w.heap.size w w' := by
  have HC := Lib.hid h
  have hl2 : (l.length : Int) ≤ 2000 := by omega
  clear h
  go_enter Try.func97, Try.ntmps97
  go_wp2_with fail
  go_loopw [8] (fun i wr => ∃ k : Nat, k ≤ l.length ∧ i = .int .i64 k ∧ Hid (∀ p ∈ l.take k, p.n ≠ 0) ∧ Hid (Below w.heap.size w wr)) (fun i _ => l.length - (intOf i).toNat)
  case atStart => exact ⟨0, by omega, rfl, Lib.hid (by simp), Lib.hid (Below.refl _ _)⟩
  case round =>
    obtain ⟨k, hk, rfl, HN, HB⟩ := hrel
    by_cases hlt : k < l.length
    · have hki : (k : Int) < (l.length : Int) := by omega
      obtain ⟨b, off, rfl, hcell⟩ := (HC.out.below HB.out).some_ (by omega)
      obtain ⟨p, hp⟩ := getElem?_lt hlt
      obtain ⟨q0, q1, q2, q3⟩ := hcell k p hp
      have HT := Lib.hid (take_snoc l k p hp)
      have HP := Lib.hid hp
      have hlb := block_lt_of_cell q0
      simp only at hlb
      clear hcell hp
      go_wp2_with fail
      obtain ⟨z, hz⟩ : ∃ z, (p.n == 0) = z := ⟨_, rfl⟩
      have HZ := Lib.hid hz
      refine (emptyC_any p wr).mono ?_
      rw [hz]
      rintro e w2 ⟨rfl, hb2⟩
      have HB2 := Lib.hid (HB.out.trans (hb2.mono HB.out.size))
      clear hb2 hz q0 q1 q2 q3 hlb
      cases z with
      | true =>
        go_wp2_with fail
        go_ret
        exact ⟨.inr ⟨k, p, rfl, HP.out, by have := HZ.out; simpa using this⟩, HB2.out⟩
      | false =>
        go_wp2_with fail
        go_roundw
        case rel => exact ⟨k + 1, by omega, by go_num, Lib.hid (by rw [HT.out]; intro q hq; rcases List.mem_append.1 hq with hq | hq; exact HN.out q hq; rw [List.mem_singleton.1 hq]; have := HZ.out; simpa using this), HB2⟩
        case measure => simp [intOf]; omega
    · obtain rfl : k = l.length := by omega
      have hki : ¬ ((l.length : Int) < (l.length : Int)) := by omega
      have hN := HN.out
      rw [List.take_length] at hN
      have HF := Lib.hid (show IxP l (.returned (.int .i64 (-1))) from .inl ⟨rfl, hN⟩)
      clear hN HN
      go_wp2_with fail
      go_ret
      exact ⟨HF.out, HB.out⟩
theorem cellsC_set (M : List Cel) (i : Nat) (p : Cel) (h : i < M.length) :
    ((((cellsC M).set (i * 4) (.int .i64 p.d)).set (i * 4 + 1) (.int .i64 p.s)).set (i * 4 + 2) (.int .i64 p.i)).set (i * 4 + 3) (.int .u64 p.n) = cellsC (M.set i p) := by
  induction M generalizing i with
  | nil => simp at h
  | cons a r ih =>
    have e : cellsC (a :: r) = .int .i64 a.d :: .int .i64 a.s :: .int .i64 a.i :: .int .u64 a.n :: cellsC r := rfl
    cases i with
    | zero => rw [e]; rfl
    | succ i =>
      have h' : i < r.length := by simpa using h
      have e2 : cellsC ((a :: r).set (i + 1) p) = .int .i64 a.d :: .int .i64 a.s :: .int .i64 a.i :: .int .u64 a.n :: cellsC (r.set i p) := rfl
      rw [e, e2, ← ih i h', show (i + 1) * 4 = i * 4 + 4 by omega]
      rfl
theorem OwP.put {w0 w : World} {g c : Nat} {M : List Cel} (h : OwP w0 w (some ⟨g, 0, none⟩) c M) (i : Nat) (p : Cel) (hi : i < M.length) :
    OwP w0 ((((w.setCell ⟨g, i * 4, none⟩ (.int .i64 p.d)).setCell ⟨g, i * 4 + 1, none⟩ (.int .i64 p.s)).setCell ⟨g, i * 4 + 2, none⟩ (.int .i64 p.i)).setCell ⟨g, i * 4 + 3, none⟩ (.int .u64 p.n)) (some ⟨g, 0, none⟩) c (M.set i p) := by
  have s1 := h.1.stored (i * 4) (.int .i64 p.d)
  have s2 := s1.1.stored (i * 4 + 1) (.int .i64 p.s)
  have s3 := s2.1.stored (i * 4 + 2) (.int .i64 p.i)
  have s4 := s3.1.stored (i * 4 + 3) (.int .u64 p.n)
  have hg : w0.heap.size ≤ g := (h.1.lt g rfl).1
  refine ⟨?_, ((((h.2.setCell (p := ⟨g, i * 4, none⟩) hg _).setCell (p := ⟨g, i * 4 + 1, none⟩) hg _).setCell (p := ⟨g, i * 4 + 2, none⟩) hg _).setCell (p := ⟨g, i * 4 + 3, none⟩) hg _)⟩
  have := s4.1
  rw [cellsC_set M i p hi] at this
  rw [List.length_set]
  exact this
theorem OwP.below {w0 w w' : World} {A : Option Addr} {c : Nat} {M : List Cel} (h : OwP w0 w A c M) (hb : Below w.heap.size w w') : OwP w0 w' A c M := by
  refine ⟨⟨h.1.1, ?_⟩, h.2.trans (hb.mono h.2.size)⟩
  rcases h.1.2 with h1 | ⟨g, cap, cur, h1, h2, h3, h4⟩
  · exact .inl h1
  · have hlt : g < w.heap.size := (Array.getElem?_eq_some_iff.1 h3).1
    exact .inr ⟨g, cap, cur, h1, h2, (hb.block g hlt).trans h3, h4⟩
theorem OwP.some_ {w0 w : World} {A : Option Addr} {c : Nat} {M : List Cel} (h : OwP w0 w A c M) (h0 : 0 < M.length) : ∃ g, A = some ⟨g, 0, none⟩ ∧ g < w.heap.size ∧ ∀ i, w.frozen? ⟨g, i, none⟩ = false := by
  obtain ⟨g, cap', hv, _, _⟩ := h.1.form (by omega)
  injection hv with e1 e2 e3
  subst e1
  refine ⟨g, rfl, (h.1.lt g rfl).2, fun i => ?_⟩
  rcases h.1.2 with ⟨h1, h2⟩ | ⟨g', cap, cur, h1, h2, h3, h4⟩
  · cases h1
  · injection h1 with e1 e2 e3
    injection e1 with e1
    injection e1 with e1 _ _
    subst e1
    simp [World.frozen?, h3]
theorem OwP.cap {w0 w : World} {A : Option Addr} {c : Nat} {M : List Cel} (h : OwP w0 w A c M) : M.length ≤ c := by
  rcases h.1.2 with ⟨h1, h2⟩ | ⟨g, cap, cur, h1, h2, h3, h4, _⟩
  · omega
  · injection h1 with _ _ e3
    omega
/-- clear(s) of one cell -/
theorem run_clear1 (g o c : Nat) (ty : TypeId) (w : World) (v0 v1 v2 v3 : Value) (r0 : w.cell? ⟨g, o, none⟩ = some v0) (r1 : w.cell? ⟨g, o + 1, none⟩ = some v1) (r2 : w.cell? ⟨g, o + 2, none⟩ = some v2) (r3 : w.cell? ⟨g, o + 3, none⟩ = some v3)
    (f0 : w.frozen? ⟨g, o, none⟩ = false) (f1 : w.frozen? ⟨g, o + 1, none⟩ = false) (f2 : w.frozen? ⟨g, o + 2, none⟩ = false) (f3 : w.frozen? ⟨g, o + 3, none⟩ = false) :
    (Builtin.clear_ #[40] ty #[.slice (some ⟨g, o, none⟩) 1 c]).run Try.prog w = .ok (.tuple #[]) ((((w.setCell ⟨g, o, none⟩ (.int .i64 0)).setCell ⟨g, o + 1, none⟩ (.int .i64 0)).setCell ⟨g, o + 2, none⟩ (.int .i64 0)).setCell ⟨g, o + 3, none⟩ (.int .u64 0)) := by
  simp [Builtin.clear_, run_underlying Try.underlying40, Try.zeroValue50, Builtin.zeroCells, storeCells, r0, r1, r2, r3, f0, f1, f2, f3, go_sem]
/-- the row while what was struck is filled up -/
def midL (X Y : List Cel) (z : Cel) (m : Nat) : List Cel := X ++ (Y.take m ++ (z :: Y).drop m)
theorem midL_len (X Y : List Cel) (z : Cel) (m : Nat) (h : m ≤ Y.length) : (midL X Y z m).length = X.length + 1 + Y.length := by
  simp [midL, List.length_take]; omega
theorem midL_at {X Y : List Cel} {z p : Cel} {m : Nat} (h : Y[m]? = some p) : (midL X Y z m)[X.length + m + 1]? = some p := by
  have hm : m < Y.length := (List.getElem?_eq_some_iff.1 h).1
  unfold midL
  rw [List.getElem?_append_right (by omega), List.getElem?_append_right (by simp; omega)]
  rw [List.getElem?_drop, List.length_take, show m + (X.length + m + 1 - X.length - min m Y.length) = m + 1 by omega]
  simpa using h
theorem midL_put {X Y : List Cel} {z p : Cel} {m : Nat} (h : Y[m]? = some p) : (midL X Y z m).set (X.length + m) p = midL X Y z (m + 1) := by
  have hm : m < Y.length := (List.getElem?_eq_some_iff.1 h).1
  have hd : (z :: Y).drop m = (z :: Y)[m]'(by simp; omega) :: (z :: Y).drop (m + 1) := List.drop_eq_getElem_cons (by simp; omega)
  have e1 : X.length + m - X.length = m := by omega
  have e2 : (List.take m Y).length = m := by rw [List.length_take]; omega
  unfold midL
  rw [List.set_append, if_neg (by omega), e1, List.set_append, if_neg (by omega), e2, Nat.sub_self, hd]
  show X ++ (List.take m Y ++ p :: List.drop (m + 1) (z :: Y)) = _
  rw [take_snoc Y m p h, List.append_assoc]
  rfl
theorem midL_end (X Y : List Cel) (z q : Cel) : ((midL X Y z Y.length).set (X.length + Y.length) q).take (X.length + Y.length) = X ++ Y := by
  have e : midL X Y z Y.length = (X ++ Y) ++ [(z :: Y)[Y.length]'(by simp)] := by
    unfold midL
    rw [List.take_length, List.drop_eq_getElem_cons (by simp), List.drop_of_length_le (by simp), List.append_assoc]
  rw [e, List.set_append, if_neg (by simp), List.take_append_of_le_length (by simp), List.take_of_length_le (by simp)]
theorem Cs.take {w : World} {A : Option Addr} {l : List Cel} (h : Cs w A l) (n : Nat) : Cs w A (l.take n) := by
  refine ⟨by have := h.1; rw [List.length_take]; omega, ?_⟩
  rcases h.2 with h2 | ⟨b, off, e, hc⟩
  · exact .inl (by rw [List.length_take]; omega)
  · refine .inr ⟨b, off, e, fun j p hj => hc j p ?_⟩
    rw [List.getElem?_take] at hj
    split at hj
    · exact hj
    · cases hj
/-- all blocks but one lie as they lay -/
def KpO (g : Nat) (w wr : World) : Prop := w.heap.size ≤ wr.heap.size ∧ ∀ k, k < w.heap.size → k ≠ g → wr.heap[k]? = w.heap[k]?
theorem KpO.refl (g : Nat) (w : World) : KpO g w w := ⟨Nat.le_refl _, fun _ _ _ => rfl⟩
theorem KpO.below {g : Nat} {w wr w2 : World} (h : KpO g w wr) (hb : Below wr.heap.size wr w2) : KpO g w w2 := ⟨Nat.le_trans h.1 hb.size, fun k hk hg => (hb.block k (Nat.lt_of_lt_of_le hk h.1)).trans (h.2 k hk hg)⟩
theorem KpO.set {g : Nat} {w wr : World} (h : KpO g w wr) (i : Nat) (u : Value) : KpO g w (wr.setCell ⟨g, i, none⟩ u) := ⟨by simpa [World.setCell] using h.1, fun k hk hg => (heap_setCell_other wr ⟨g, i, none⟩ k u hg).trans (h.2 k hk hg)⟩
set_option maxHeartbeats 2000000 in
set_option maxRecDepth 100000 in
theorem cdel_one (A : Option Addr) (n c : Nat) (X Y : List Cel) (z : Cel) (w0 w : World) (h : OwP w0 w A c (X ++ z :: Y)) (hn : n = (X ++ z :: Y).length) (hl : (X ++ z :: Y).length ≤ 2000) (hz : z.n = 0) (hX : ∀ p ∈ X, p.n ≠ 0) (hY : ∀ p ∈ Y, p.n ≠ 0) :
    Calls Try.prog 60 #[.slice A n c, .func (.func 61) #[] #[]] w fun e w' => e = .returned (.slice A (X.length + Y.length) c) ∧ Cs w' A (X ++ Y) ∧ Below w0.heap.size w0 w' ∧ ∃ g, A = some ⟨g, 0, none⟩ ∧ KpO g w w' := by
  obtain ⟨g, rfl, hg, _⟩ := h.some_ (by simp; omega)
  have HO := Lib.hid h
  have HXY := Lib.hid (And.intro hX hY)
  obtain ⟨a, ha⟩ : ∃ a, X.length = a := ⟨_, rfl⟩
  obtain ⟨b, hb⟩ : ∃ b, Y.length = b := ⟨_, rfl⟩
  have hnn : n = a + 1 + b := by rw [hn, ← ha, ← hb, List.length_append, List.length_cons]; omega
  have hl2 : n ≤ 2000 := by rw [hn]; exact hl
  have HNN := Lib.hid hnn
  have HIX := Lib.hid (fun (w1 : World) (hc : Cs w1 (some ⟨g, 0, none⟩) (X ++ z :: Y)) => show Calls Try.prog 97 #[.slice (some ⟨g, 0, none⟩) n c, .func (.func 61) #[] #[]] w1 fun e w' => e = .returned (.int .i64 a) ∧ Below w1.heap.size w1 w' from by
    rw [hn]
    refine (cindex_any _ c _ w1 hc hl).mono ?_
    rintro e w' ⟨hI, hb⟩
    refine ⟨?_, hb⟩
    rcases hI with ⟨rfl, hall⟩ | ⟨k, p, rfl, hk, hp⟩
    · exact absurd hz (hall z (by simp))
    · have hka : k = a := by
        rw [← ha]
        by_cases h1 : k < X.length
        · rw [List.getElem?_append_left h1] at hk
          exact absurd hp (hX p (mem_of_at hk))
        · rw [List.getElem?_append_right (by omega)] at hk
          by_cases h2 : k - X.length = 0
          · omega
          · obtain ⟨k', hk'⟩ : ∃ k', k - X.length = k' + 1 := ⟨k - X.length - 1, by omega⟩
            rw [hk'] at hk
            simp at hk
            exact absurd hp (hY p (mem_of_at hk))
      rw [hka])
  have HA := Lib.hid (And.intro ha hb)
  clear h hX hY hn hl hz ha hb hnn
  go_enter Try.func60, Try.ntmps60
  go_wp2_with fail
  refine (HIX.out w (HO.out.cs (by have h1 := HA.out; have h2 := HNN.out; simp; omega))).mono ?_
  rintro e w1 ⟨rfl, hb1⟩
  have HO1 := Lib.hid (show OwP w0 w1 (some ⟨g, 0, none⟩) c (midL X Y z 0) from HO.out.below hb1)
  have hae : ((a : Int) == -1) = false := by simp
  have haI : (a : Int) ≤ 2000 := by have := HNN.out; omega
  have HKO1 := Lib.hid ((KpO.refl g w).below hb1)
  clear HIX HO hb1 hg
  go_wp2_with fail
  have hnI : (n : Int) ≤ 2000 := by omega
  go_loopw [5, 6] (fun vi vj wr => ∃ m i j : Nat, m ≤ b ∧ i = a + m ∧ j = i + 1 ∧ vi = .int .i64 (i : Int) ∧ vj = .int .i64 (j : Int) ∧ Hid (OwP w0 wr (some ⟨g, 0, none⟩) c (midL X Y z m)) ∧ Hid (KpO g w wr)) (fun _ vj _ => n - (intOf vj).toNat)
  case atStart => exact ⟨0, a, a + 1, by omega, by omega, by omega, rfl, by go_num, HO1, HKO1⟩
  case round =>
    obtain ⟨m, i, j, hm, hi, hj, rfl, rfl, HO, HKO⟩ := hrel
    have hn2 := HNN.out
    obtain ⟨g', hg', hgl, hfz⟩ := HO.out.some_ (by rw [midL_len _ _ _ _ (by rw [HA.out.2]; omega)]; omega)
    obtain rfl : g = g' := by injection hg' with e; injection e with e _ _
    clear hg'
    have HIJ := Lib.hid (And.intro hi hj)
    by_cases hlt : j < n
    · have hmb : m < Y.length := by rw [HA.out.2]; omega
      obtain ⟨p, hp⟩ := getElem?_lt hmb
      have HP := Lib.hid hp
      have hat := midL_at (X := X) (z := z) hp
      rw [HA.out.1, show a + m + 1 = j by omega] at hat
      have hcs := HO.out.cs (by rw [midL_len _ _ _ _ (by omega), HA.out.1, HA.out.2]; omega)
      obtain ⟨b', off', hb', hcell⟩ := hcs.some_ (by rw [midL_len _ _ _ _ (by omega)]; omega)
      injection hb' with hb'
      injection hb' with e1 e2 _
      subst e1
      subst e2
      obtain ⟨q0, q1, q2, q3⟩ := hcell j p hat
      have hil : i < n := by omega
      have hltI : (j : Int) < (n : Int) := by omega
      have hilI : (i : Int) < (n : Int) := by omega
      have hpn : (p.n == 0) = false := by have := HXY.out.2 p (mem_of_at hp); simpa using this
      simp only [Nat.zero_add] at q0 q1 q2 q3
      clear hcs hcell hp hat hn2 hi hj hmb
      go_wp2_with fail
      refine (emptyC_any p _).mono ?_
      rw [hpn]
      rintro e w2 ⟨rfl, hb2⟩
      have hbx : Below wr.heap.size wr (wr.alloc (.cells #[.int .i64 p.d, .int .i64 p.s, .int .i64 p.i, .int .u64 p.n] 50)) := (Below.refl _ _).alloc (Nat.le_refl _) _
      have HV := Lib.hid ((Rb.new wr wr.heap.size rfl 50 #[.int .i64 p.d, .int .i64 p.s, .int .i64 p.i, .int .u64 p.n]).below hb2)
      have HO2 := Lib.hid ((HO.out.below hbx).below hb2)
      have HKO2 := Lib.hid (((((HKO.out.below hbx).below hb2).set (i * 4) (.int .i64 p.d)).set (i * 4 + 1) (.int .i64 p.s)).set (i * 4 + 2) (.int .i64 p.i) |>.set (i * 4 + 3) (.int .u64 p.n))
      obtain ⟨v0, v1, v2, v3⟩ := HV.out.four
      have lv := HV.out.lt
      have hcs2 := HO2.out.cs (by rw [midL_len _ _ _ _ (by have := HIJ.out.1; rw [HA.out.2]; omega), HA.out.1, HA.out.2]; have := HNN.out; omega)
      obtain ⟨g2, hg2, hgl2, hfz2⟩ := HO2.out.some_ (by rw [midL_len _ _ _ _ (by rw [HA.out.2]; omega)]; omega)
      obtain rfl : g = g2 := by injection hg2 with e; injection e with e _ _
      have f0 := hfz2 (i * 4)
      have f1 := hfz2 (i * 4 + 1)
      have f2 := hfz2 (i * 4 + 2)
      have f3 := hfz2 (i * 4 + 3)
      obtain ⟨b3, off3, hb3, hcell3⟩ := hcs2.some_ (by rw [midL_len _ _ _ _ (by rw [HA.out.2]; omega)]; omega)
      injection hb3 with hb3
      injection hb3 with e1 e2 _
      subst e1
      subst e2
      obtain ⟨po, hpo⟩ := getElem?_lt (l := midL X Y z m) (k := i) (by rw [midL_len _ _ _ _ (by rw [HA.out.2]; omega), HA.out.1, HA.out.2]; have := HNN.out; omega)
      obtain ⟨r0, r1, r2, r3⟩ := hcell3 i po hpo
      simp only [Nat.zero_add] at r0 r1 r2 r3
      have HPUT := Lib.hid (HO2.out.put i p (by rw [midL_len _ _ _ _ (by rw [HA.out.2]; omega), HA.out.1, HA.out.2]; have := HNN.out; omega))
      clear hg2 hfz2 hfz hcs2 q0 q1 q2 q3 hbx hb2 hgl hcell3 hpo
      go_wp2_with fail
      have HO3 := Lib.hid (show OwP w0 _ (some ⟨g, 0, none⟩) c (midL X Y z (m + 1)) from by have h := HPUT.out; rw [show i = X.length + m by rw [HA.out.1]; exact HIJ.out.1, midL_put HP.out, show X.length + m = i by rw [HA.out.1]; exact HIJ.out.1.symm] at h; exact h)
      go_roundw
      case rel => exact ⟨m + 1, i + 1, j + 1, by have := HIJ.out; have := HNN.out; omega, by have := HIJ.out; omega, by have := HIJ.out; omega, by go_num, by go_num, HO3, HKO2⟩
      case measure => simp [intOf]; omega
    · obtain rfl : m = b := by omega
      obtain rfl : n = i + 1 := by omega
      have hjn : j = i + 1 := by omega
      have f0 := hfz (i * 4)
      have f1 := hfz (i * 4 + 1)
      have f2 := hfz (i * 4 + 2)
      have f3 := hfz (i * 4 + 3)
      have hcs := HO.out.cs (by rw [midL_len _ _ _ _ (by rw [HA.out.2]; omega), HA.out.1, HA.out.2]; omega)
      obtain ⟨b3, off3, hb3, hcell3⟩ := hcs.some_ (by rw [midL_len _ _ _ _ (by rw [HA.out.2]; omega)]; omega)
      injection hb3 with hb3
      injection hb3 with e1 e2 _
      subst e1
      subst e2
      obtain ⟨po, hpo⟩ := getElem?_lt (l := midL X Y z m) (k := i) (by rw [midL_len _ _ _ _ (by rw [HA.out.2]; omega), HA.out.1, HA.out.2]; omega)
      obtain ⟨r0, r1, r2, r3⟩ := hcell3 i po hpo
      simp only [Nat.zero_add] at r0 r1 r2 r3
      have HPUT := Lib.hid (HO.out.put i ⟨0, 0, 0, 0⟩ (by rw [midL_len _ _ _ _ (by rw [HA.out.2]; omega), HA.out.1, HA.out.2]; omega))
      have hii : i + 1 - i = 1 := by omega
      have hcap := HO.out.cap
      rw [midL_len _ _ _ _ (by rw [HA.out.2]; omega), HA.out.1, HA.out.2] at hcap
      have hci : i + 1 ≤ c := by omega
      have hcl := fun ty => run_clear1 g (i * 4) (c - i) ty wr _ _ _ _ r0 r1 r2 r3 f0 f1 f2 f3
      clear r0 r1 r2 r3 f0 f1 f2 f3 hcap
      clear hcs hcell3 hpo hfz hlt hn2 hi hj hm
      subst hjn
      have HIA := Lib.hid (show X.length + Y.length = i by rw [HA.out.1, HA.out.2]; have := HNN.out; omega)
      have HFIN := Lib.hid (show Cs ((((wr.setCell ⟨g, i * 4, none⟩ (.int .i64 0)).setCell ⟨g, i * 4 + 1, none⟩ (.int .i64 0)).setCell ⟨g, i * 4 + 2, none⟩ (.int .i64 0)).setCell ⟨g, i * 4 + 3, none⟩ (.int .u64 0)) (some ⟨g, 0, none⟩) (X ++ Y) from by
        have h := (HPUT.out.cs (by rw [List.length_set, midL_len _ _ _ _ (by rw [HA.out.2]; omega), HA.out.1, HA.out.2]; have := HNN.out; omega)).take i
        have e : ((midL X Y z m).set i ⟨0, 0, 0, 0⟩).take i = X ++ Y := by
          have := midL_end X Y z ⟨0, 0, 0, 0⟩
          rw [HIA.out, HA.out.2] at this
          exact this
        rw [e] at h
        exact h)
      go_wp2_with fail
      go_ret
      rw [HIA.out]
      exact ⟨rfl, HFIN.out, HPUT.out.2, (((HKO.out.set _ _).set _ _).set _ _).set _ _⟩
theorem cdel_none (A : Option Addr) (n c : Nat) (X : List Cel) (w : World) (h : Cs w A X) (hn : n = X.length) (hl : X.length ≤ 2000) (hX : ∀ p ∈ X, p.n ≠ 0) :
    Calls Try.prog 60 #[.slice A n c, .func (.func 61) #[] #[]] w fun e w' => e = .returned (.slice A n c) ∧ Below w.heap.size w w' := by
  have HIX := Lib.hid (show Calls Try.prog 97 #[.slice A n c, .func (.func 61) #[] #[]] w fun e w' => e = .returned (.int .i64 (-1)) ∧ Below w.heap.size w w' from by
    rw [hn]
    refine (cindex_any _ c _ w h hl).mono ?_
    rintro e w' ⟨hI, hb⟩
    refine ⟨?_, hb⟩
    rcases hI with ⟨rfl, hall⟩ | ⟨k, p, rfl, hk, hp⟩
    · rfl
    · exact absurd hp (hX p (mem_of_at hk)))
  clear h hn hl hX
  go_enter Try.func60, Try.ntmps60
  go_wp2_with fail
  refine HIX.out.mono ?_
  rintro e w1 ⟨rfl, hb1⟩
  have HB := Lib.hid hb1
  clear HIX hb1
  go_wp2_with fail
  go_ret
  exact ⟨rfl, HB.out⟩
end Go.Proofs.Ytbibhjcmdehdbaa
