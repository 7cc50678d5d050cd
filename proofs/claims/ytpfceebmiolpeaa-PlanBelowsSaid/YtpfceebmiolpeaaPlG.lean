/- Apart, several, Next. -/
import Derived.Test.YtpfceebmiolpeaaPlE
import Derived.Test.YtpfceebmiolpeaaPlF
namespace Go.Proofs.Ytpfceebmiolpeaa.Pl
open Go.RowKit Go.Sort
set_option linter.unusedVariables false

theorem right_perm {l Y : List It} (hp : Y.Perm l) (h : ∀ x ∈ l, RightI x) : ∀ x ∈ Y, RightI x := fun x hx => h x (hp.mem_iff.1 hx)
noncomputable def aptB (l : List It) : Bool := @decide (Apt l) (Classical.propDecidable _)
theorem aptB_true {l : List It} (h : Apt l) : aptB l = true := @decide_eq_true _ (Classical.propDecidable _) h
theorem aptB_false {l : List It} (h : ¬ Apt l) : aptB l = false := @decide_eq_false _ (Classical.propDecidable _) h
theorem aptB_perm {l m : List It} (h : l.Perm m) : aptB l = aptB m := by
  by_cases ha : Apt l
  · rw [aptB_true ha, aptB_true ((Apt.perm h).1 ha)]
  · rw [aptB_false ha, aptB_false fun hm => ha ((Apt.perm h).2 hm)]
set_option maxHeartbeats 2000000 in
set_option maxRecDepth 100000 in
theorem apart_any (A : Option Addr) (n c : Nat) (l : List It) (w : World) (hn : n = l.length) (h : Cl w A (fC itA l)) (hr : ∀ x ∈ l, RightI x) (hl : l.length ≤ 1000) :
    Calls Try.prog 19 #[.slice A n c] w fun e w' => e = .returned (.bool (aptB l)) ∧ Below w.heap.size w w' := by
  subst hn
  have HS := Lib.hid (byLow_any A l.length c l w rfl h hl)
  have HR := Lib.hid hr
  clear h hr
  go_enter Try.func19, Try.ntmps19
  go_wp2_with fail
  refine HS.out.mono ?_
  rintro e w2 ⟨v, Y, rfl, hp, hs, B, d, rfl, hown, hb⟩
  obtain ⟨m, hm⟩ : ∃ m, Y.length = m := ⟨_, rfl⟩
  have hml : (m : Int) ≤ 1000 := by rw [← hm, hp.length_eq]; omega
  have HY := Lib.hid (And.intro hp hs)
  have HYR := Lib.hid (right_perm hp HR.out)
  have HC := Lib.hid (own_cl hown)
  have HB := Lib.hid hb
  have HM := Lib.hid hm
  rw [hm]
  clear hp hs hown hb hm
  go_wp2_with fail
  go_loopw [4] (fun i wr => ∃ k : Nat, 1 ≤ k ∧ k ≤ max m 1 ∧ i = .int .i64 k ∧ Hid ((∀ (j : Nat) (x y : It), j + 1 < k → Y[j]? = some x → Y[j + 1]? = some y → x.hi ≤ y.lo) ∧ Below w2.heap.size w2 wr)) (fun i _ => max m 1 - (intOf i).toNat)
  case atStart => exact ⟨1, by omega, by omega, rfl, Lib.hid ⟨fun j x y hj => absurd hj (by omega), Below.refl _ _⟩⟩
  case round =>
    obtain ⟨k, hk1, hk, rfl, HI⟩ := hrel
    by_cases hlt : k < m
    · have hki : (k : Int) < (m : Int) := by omega
      obtain ⟨j, rfl⟩ : ∃ j, k = j + 1 := ⟨k - 1, by omega⟩
      obtain ⟨x, hx⟩ := getElem?_lt (l := Y) (k := j) (by rw [HM.out]; omega)
      obtain ⟨y, hy⟩ := getElem?_lt (l := Y) (k := j + 1) (by rw [HM.out]; omega)
      obtain ⟨b, off, rfl, hcell⟩ := (HC.out.below HI.out.2).its (by rw [HM.out]; omega)
      obtain ⟨p0, p1, p2, p3⟩ := hcell j x hx
      obtain ⟨q0, q1, q2, q3⟩ := hcell (j + 1) y hy
      have HX := Lib.hid (And.intro hx hy)
      have hj1 : ((j + 1 : Nat) : Int) - 1 = (j : Int) := by omega
      have hj2 : ((j + 1 : Nat) : Int) < (m : Int) := by omega
      have hjm : (j : Int) < (m : Int) := by omega
      clear hcell hx hy
      by_cases hlo : y.lo < x.hi
      · have HN := Lib.hid (aptB_false fun ha => apt_not HYR.out HY.out.2 HX.out.1 HX.out.2 hlo ((Apt.perm HY.out.1).2 ha))
        have HB2 := Lib.hid (HB.out.trans (HI.out.2.mono HB.out.size))
        go_wp2_with fail
        go_quiet (fail)
        go_wp2_with fail
        go_ret
        exact ⟨ret_bool HN.out.symm, below_drewN HB2.out _⟩
      · have hlo' : decide (y.lo < x.hi) = false := by simpa using hlo
        have HR3 := Lib.hid (fun nq => show (∀ (i : Nat) (a b : It), i + 1 < j + 1 + 1 → Y[i]? = some a → Y[i + 1]? = some b → a.hi ≤ b.lo) ∧ Below w2.heap.size w2 (wr.drewN nq) from ⟨fun i a b hi ha hb => by
          by_cases hij : i = j
          · subst hij
            have e1 := Option.some.inj (ha.symm.trans HX.out.1)
            have e2 := Option.some.inj (hb.symm.trans HX.out.2)
            rw [e1, e2]
            omega
          · exact HI.out.1 i a b (by omega) ha hb, below_drewN HI.out.2 _⟩)
        go_wp2_with fail
        go_quiet (fail)
        go_wp2_with fail
        go_roundw
        case rel => exact ⟨j + 1 + 1, by omega, by omega, by go_num, Lib.hid (HR3.out _)⟩
        case measure => simp [intOf]; omega
    · have hki : ¬ ((k : Int) < (m : Int)) := by omega
      have HN := Lib.hid (aptB_true ((Apt.perm HY.out.1).1 (apt_adj HYR.out HY.out.2 fun j x y hx hy => HI.out.1 j x y (by have := (List.getElem?_eq_some_iff.1 hy).1; rw [HM.out] at this; omega) hx hy)))
      have HB2 := Lib.hid (HB.out.trans (HI.out.2.mono HB.out.size))
      go_wp2_with fail
      go_ret
      exact ⟨ret_bool HN.out.symm, HB2.out⟩
theorem sevF_cons (k a : Int) (x : It) (r : List It) : sevF k a (x :: r) = if k < x.lv then sevF k a r else if lowF k x.lo = a then some a else sevF k (lowF k x.lo) r := rfl
def sevV (r : Option Int) : Value := .tuple #[.int .i64 (r.getD 0), .bool r.isSome]
theorem drop_cons {Y : List It} {i : Nat} {x : It} (h : Y[i]? = some x) : Y.drop i = x :: Y.drop (i + 1) := by
  obtain ⟨h1, rfl⟩ := List.getElem?_eq_some_iff.1 h
  exact List.drop_eq_getElem_cons h1
set_option maxHeartbeats 2000000 in
set_option maxRecDepth 100000 in
theorem several_any (A : Option Addr) (n c : Nat) (Y : List It) (k : Int) (w : World) (hn : n = Y.length) (h : Cl w A (fC itA Y)) (hr : ∀ x ∈ Y, RightI x) (hl : Y.length ≤ 1000) (hk : 0 ≤ k ∧ k ≤ 4) :
    Calls Try.prog 33 #[.slice A n c, .int .i64 k] w fun e w' => e = .returned (sevV (sevF k (-1) Y)) ∧ Below w.heap.size w w' := by
  subst hn
  have HL := Lib.hid h
  have HR := Lib.hid hr
  obtain ⟨m, hm⟩ : ∃ m, Y.length = m := ⟨_, rfl⟩
  have HM := Lib.hid hm
  rw [hm] at hl ⊢
  clear h hr hm
  go_enter Try.func33, Try.ntmps33
  go_wp2_with fail
  go_loopw [6, 12] (fun u i wr => ∃ (j : Nat) (a : Int), j ≤ m ∧ i = .int .i64 j ∧ u = .int .i64 a ∧ Hid (sevF k (-1) Y = sevF k a (Y.drop j) ∧ Below w.heap.size w wr)) (fun _ i _ => m - (intOf i).toNat)
  case atStart => exact ⟨0, -1, by omega, rfl, rfl, Lib.hid ⟨rfl, Below.refl _ _⟩⟩
  case round =>
    obtain ⟨j, a, hj, rfl, rfl, HI⟩ := hrel
    by_cases hlt : j < m
    · have hji : (j : Int) < (m : Int) := by omega
      obtain ⟨x, hx⟩ := getElem?_lt (l := Y) (k := j) (by rw [HM.out]; exact hlt)
      obtain ⟨b, off, rfl, hcell⟩ := (HL.out.below HI.out.2).its (by rw [HM.out]; omega)
      obtain ⟨q0, q1, q2, q3⟩ := hcell j x hx
      have HX := Lib.hid (HR.out x (mem_of_at hx))
      have hE := HI.out.1
      rw [drop_cons hx, sevF_cons] at hE
      have HB := Lib.hid (HI.out.2.alloc HI.out.2.size (.cells (itA x) 78))
      obtain ⟨y0, y1, y2, y3⟩ := box4 (heap_alloc_new wr (.cells (itA x) 78))
      unfold itA at y0 y1 y2 y3 HB
      have HLo := Lib.hid (fun w => low_any k x.lo ⟨by omega, by omega⟩ HX.out.o0 (by have := HX.out.o1; omega) w)
      clear hcell hx HI
      by_cases hlv : k < x.lv
      · rw [if_pos hlv] at hE
        have HE := Lib.hid hE
        clear hE
        go_wp2_with fail
        go_roundw
        case rel => exact ⟨j + 1, a, by omega, by go_num, rfl, Lib.hid ⟨HE.out, HB.out⟩⟩
        case measure => simp [intOf]; omega
      · rw [if_neg hlv] at hE
        obtain ⟨z, hz⟩ : ∃ z, lowF k x.lo = z := ⟨_, rfl⟩
        rw [hz] at hE
        simp only [hz] at HLo
        clear hz
        by_cases hza : z = a
        · subst hza
          rw [if_pos rfl] at hE
          have HE := Lib.hid hE
          clear hE
          go_wp2_with (go_at_call 9; refine (HLo.out _).mono ?_; rintro e w2 ⟨rfl, rfl⟩)
          go_ret2
          exact ⟨(show _ = Ending.returned (sevV (sevF k (-1) Y)) by rw [HE.out]; rfl), HB.out⟩
        · rw [if_neg hza] at hE
          have HE := Lib.hid hE
          clear hE
          go_wp2_with (go_at_call 9; refine (HLo.out _).mono ?_; rintro e w2 ⟨rfl, rfl⟩)
          go_roundw
          case rel => exact ⟨j + 1, z, by omega, by go_num, rfl, Lib.hid ⟨HE.out, HB.out⟩⟩
          case measure => simp [intOf]; omega
    · obtain rfl : j = m := by omega
      have hji : ¬ ((j : Int) < (j : Int)) := by omega
      have HE := Lib.hid (show sevF k (-1) Y = none from by
        have := HI.out.1
        rw [List.drop_of_length_le (by rw [HM.out]; exact Nat.le_refl _)] at this
        exact this)
      have HB := Lib.hid HI.out.2
      clear HI
      go_wp2_with fail
      go_ret2
      exact ⟨(show _ = Ending.returned (sevV (sevF k (-1) Y)) by rw [HE.out]; rfl), HB.out⟩
end Go.Proofs.Ytpfceebmiolpeaa.Pl
