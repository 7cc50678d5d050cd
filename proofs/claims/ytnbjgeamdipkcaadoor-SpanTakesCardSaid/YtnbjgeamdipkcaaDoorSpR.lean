/- The contract of Right. -/
import Derived.Test.YtnbjgeamdipkcaaDoorSpW
namespace Go.Proofs.YtnbjgeamdipkcaaDoor
open Go.RowKit Go.Sort
set_option linter.unusedVariables false

theorem rightR_step {s : List (Int × Int)} {k : Nat} {p : Int × Int} {x : Int} (h : s[k]? = some p) : rightR (s.drop k) k x = (okAt k p x && rightR (s.drop (k + 1)) (k + 1) (x - p.2)) := by
  obtain ⟨hk, rfl⟩ := List.getElem?_eq_some_iff.1 h
  rw [List.drop_eq_getElem_cons hk]
  rfl
theorem rightF_no {f : Int} {s : List (Int × Int)} {m : Int} (h0 : s ≠ []) (h : rightR s 0 m = false) : rightF f s m = false := by
  unfold rightF
  rw [if_neg h0, h, Bool.and_false]
theorem rightF_yes {f : Int} {s : List (Int × Int)} {m : Int} (h0 : s ≠ []) (h1 : -262144 ≤ f) (h2 : f ≤ 262144) : rightF f s m = rightR s 0 m := by
  unfold rightF
  rw [if_neg h0]
  simp [h1, h2]
def RtRel (s : List (Int × Int)) (m : Int) (W0 : World) (l i : Value) (wr : World) : Prop :=
  ∃ (k : Nat) (x : Int), k ≤ s.length ∧ i = .int .i64 k ∧ l = .int .i64 x ∧ I64 x ∧ rightR s 0 m = rightR (s.drop k) k x ∧ Below W0.heap.size W0 wr

set_option maxHeartbeats 1000000 in
set_option maxRecDepth 100000 in
theorem right_any (f m : Int) (A : Option Addr) (c : Nat) (s : List (Int × Int)) (w : World) (hS : Cl w A (twoC .i64 s)) (hb : Sb s) (hm : I64 m) (hl : s.length ≤ 9223372036854775807) :
    Calls Tryd.prog 16 #[.agg #[.int .i64 f, .slice A s.length c], .int .i64 m] w fun e w' => e = .returned (.bool (rightF f s m)) ∧ Below w.heap.size w w' := by
  have hb0 : Below w.heap.size w (w.alloc (.cells #[.int .i64 f, .slice A s.length c] 29)) := (Below.refl _ _).alloc (Nat.le_refl _) _
  have HS := Lib.hid (hS.below hb0)
  have HB0 := Lib.hid hb0
  have HB := Lib.hid hb
  have HM := Lib.hid hm
  clear hS hb0 hb hm
  by_cases h0 : s = []
  · subst h0
    have HE := Lib.hid (show (f == 0) = rightF f [] m from rfl)
    go_enter Tryd.func16, Tryd.ntmps16
    go_wp2_with fail
    go_ret
    exact ⟨ret_bool HE.out, HB0.out⟩
  · have H0 := Lib.hid h0
    have hlen : 0 < s.length := List.length_pos_iff.2 h0
    have hz : ((s.length : Int) == 0) = false := by simp; exact h0
    clear h0
    by_cases h1 : -262144 ≤ f
    case neg =>
      have HE := Lib.hid (show false = rightF f s m by unfold rightF; rw [if_neg H0.out]; simp [h1])
      go_enter Tryd.func16, Tryd.ntmps16
      go_wp2_with fail
      go_ret
      exact ⟨ret_bool HE.out, HB0.out⟩
    by_cases h2 : f ≤ 262144
    case neg =>
      have HE := Lib.hid (show false = rightF f s m by unfold rightF; rw [if_neg H0.out]; simp [h2])
      go_enter Tryd.func16, Tryd.ntmps16
      go_wp2_with fail
      go_ret
      exact ⟨ret_bool HE.out, HB0.out⟩
    have HY := Lib.hid (rightF_yes (m := m) H0.out h1 h2)
    have hlt1 : decide (f < -262144) = false := by simp; omega
    have hlt2 : decide (262144 < f) = false := by simp; omega
    obtain ⟨W0, hW0⟩ : ∃ W, w.alloc (.cells #[.int .i64 f, .slice A s.length c] 29) = W := ⟨_, rfl⟩
    have x0 : W0.cell? ⟨w.heap.size, 0, none⟩ = some (.int .i64 f) := by rw [← hW0]; simp [go_sem]
    have x1 : W0.cell? ⟨w.heap.size, 1, none⟩ = some (.slice A s.length c) := by rw [← hW0]; simp [go_sem]
    rw [hW0] at HS HB0
    have hWW := Lib.hid hW0
    clear hW0
    go_enter Tryd.func16, Tryd.ntmps16
    go_wp2_with fail
    rw [hWW.out]
    clear hlt1 hlt2 x0 x1 hz
    go_loopw [5, 27] (fun l i wr => RtRel s m W0 l i wr) (fun _ i _ => s.length - (intOf i).toNat)
    case atStart => exact ⟨0, m, by omega, rfl, rfl, HM.out, by simp, Below.refl _ _⟩
    case round =>
      obtain ⟨k, x, hk, rfl, rfl, hx, hr, hb⟩ := hrel
      have HX := Lib.hid hx
      have HR := Lib.hid hr
      have HBR := Lib.hid hb
      obtain ⟨hx1, hx2⟩ := hx
      clear hr hb
      by_cases hlt : k < s.length
      · obtain ⟨b, off, rfl, hc⟩ := (HS.out.below HBR.out).twos (by omega)
        obtain ⟨p, hp⟩ := getElem?_lt hlt
        obtain ⟨q1, q2⟩ := hc k p hp
        have HP := Lib.hid (rightR_step (x := x) hp)
        have hpb := HB.out p (mem_of_at hp)
        obtain ⟨o, n⟩ := p
        simp only at q1 q2 HP hpb
        obtain ⟨⟨o1, o2⟩, n1, n2⟩ := hpb
        have hki : (k : Int) < (s.length : Int) := by omega
        clear hc hp
        by_cases hof : offB k o = true
        case neg =>
          have hof' : offB k o = false := by simpa using hof
          have HE := Lib.hid (show false = rightF f s m by rw [HY.out, HR.out, HP.out]; unfold okAt; simp [hof'])
          clear hof
          go_wp2_with fail
          refine (offset_any _ _ _).mono ?_
          rintro e w' ⟨rfl, rfl⟩
          go_wp2_with fail
          go_ret
          exact ⟨ret_bool HE.out, HB0.out.trans ((HBR.out.alloc HBR.out.size _).mono HB0.out.size)⟩
        by_cases hn1 : 1 ≤ n
        case neg =>
          have HE := Lib.hid (show false = rightF f s m by rw [HY.out, HR.out, HP.out]; unfold okAt; simp [hn1])
          have hn1' : decide (n < 1) = true := by simp; omega
          go_wp2_with fail
          refine (offset_any _ _ _).mono ?_
          rintro e w' ⟨rfl, rfl⟩
          go_wp2_with fail
          go_ret
          exact ⟨ret_bool HE.out, HB0.out.trans ((HBR.out.alloc HBR.out.size _).mono HB0.out.size)⟩
        have hn1' : decide (n < 1) = false := by simp; omega
        by_cases hn2 : n ≤ x
        case neg =>
          have HE := Lib.hid (show false = rightF f s m by rw [HY.out, HR.out, HP.out]; unfold okAt; simp [hn2])
          have hn2' : decide (x < n) = true := by simp; omega
          go_wp2_with fail
          refine (offset_any _ _ _).mono ?_
          rintro e w' ⟨rfl, rfl⟩
          go_wp2_with fail
          go_ret
          exact ⟨ret_bool HE.out, HB0.out.trans ((HBR.out.alloc HBR.out.size _).mono HB0.out.size)⟩
        have hn2' : decide (x < n) = false := by simp; omega
        have HE := Lib.hid (show rightR s 0 m = rightR (s.drop (k + 1)) (k + 1) (x - n) by rw [HR.out, HP.out]; unfold okAt; simp [hof, hn1, hn2])
        go_wp2_with fail
        refine (offset_any _ _ _).mono ?_
        rintro e w' ⟨rfl, rfl⟩
        go_wp2_with fail
        go_roundw
        case rel => exact ⟨k + 1, x - n, by omega, by go_num, rfl, ⟨by omega, by omega⟩, HE.out, HBR.out.alloc HBR.out.size _⟩
        case measure => simp [intOf]; omega
      · obtain rfl : k = s.length := by omega
        have HE := Lib.hid (show true = rightF f s m by rw [HY.out, HR.out]; simp [rightR])
        have hki : ¬ ((s.length : Int) < (s.length : Int)) := by omega
        go_wp2_with fail
        go_ret
        exact ⟨ret_bool HE.out, HB0.out.trans (HBR.out.mono HB0.out.size)⟩
end Go.Proofs.YtnbjgeamdipkcaaDoor
