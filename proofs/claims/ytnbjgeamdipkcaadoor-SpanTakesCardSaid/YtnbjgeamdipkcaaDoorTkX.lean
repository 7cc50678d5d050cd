/- The document's Right. -/
import Derived.Test.YtnbjgeamdipkcaaDoorTkW
namespace Go.Proofs.YtnbjgeamdipkcaaDoor
open Go.RowKit Go.Sort
set_option linter.unusedVariables false

def RrRel (s : List (Int × Int)) (m : Int) (l i : Value) : Prop :=
  ∃ (k : Nat) (x : Int), k ≤ s.length ∧ i = .int .i64 (k : Int) ∧ l = .int .i64 x ∧ I64 x ∧ rightR s 0 m = rightR (s.drop k) k x

/-- the document's Right where it is known that it says yes -/
theorem refright_yes (f m : Int) (A : Option Addr) (c : Nat) (s : List (Int × Int)) (w : World) (hS : Cl w A (twoC .i64 s)) (h0 : 0 < s.length) (hl : s.length ≤ 1000) (hm : I64 m) (hr : rightF f s m = true) :
    Calls Tryd.prog 10 #[.int .i64 f, .slice A s.length c, .int .i64 m] w fun e w' => e = .returned (.bool true) ∧ w = w' := by
  have hne : s ≠ [] := fun e => by rw [e] at h0; simp at h0
  unfold rightF at hr
  rw [if_neg hne] at hr
  simp only [Bool.and_eq_true, decide_eq_true_eq] at hr
  obtain ⟨⟨f1, f2⟩, hr⟩ := hr
  have HS := Lib.hid hS
  have HR := Lib.hid hr
  have HM := Lib.hid hm
  have hz : ((s.length : Int) == 0) = false := by simp; exact hne
  have hlt1 : decide (f < -262144) = false := by simp; omega
  have hlt2 : decide (262144 < f) = false := by simp; omega
  clear hS hr hm hne
  go_enter Tryd.func10, Tryd.ntmps10
  go_wp2_with fail
  clear hlt1 hlt2 hz
  go_loop [7, 8] (fun l i => RrRel s m l i) (fun _ i => s.length - (intOf i).toNat)
  case atStart => exact ⟨0, m, by omega, rfl, rfl, HM.out, by simp⟩
  case round =>
    obtain ⟨k, x, hk, rfl, rfl, hx, hrr⟩ := hrel
    have HX := Lib.hid hx
    have HRR := Lib.hid hrr
    obtain ⟨hx1, hx2⟩ := hx
    clear hrr
    by_cases hlt : k < s.length
    · obtain ⟨b, off, rfl, hc⟩ := HS.out.twos (by omega)
      obtain ⟨p, hp⟩ := getElem?_lt hlt
      obtain ⟨q1, q2⟩ := hc k p hp
      have HP := Lib.hid (rightR_step (x := x) hp)
      obtain ⟨o, n⟩ := p
      simp only at q1 q2 HP
      have hok : (okAt k (o, n) x && rightR (s.drop (k + 1)) (k + 1) (x - n)) = true := by rw [← HP.out, ← HRR.out]; exact HR.out
      rw [Bool.and_eq_true] at hok
      obtain ⟨hok, hnext⟩ := hok
      unfold okAt at hok
      simp only [Bool.and_eq_true, decide_eq_true_eq] at hok
      obtain ⟨ho, n1, n2⟩ := hok
      have HNX := Lib.hid (show RrRel s m (.int .i64 (x - n)) (.int .i64 ((k : Int) + 1)) from ⟨k + 1, x - n, by omega, by go_num, rfl, ⟨by omega, by omega⟩, by rw [HR.out, hnext]⟩)
      have hki : (k : Int) < (s.length : Int) := by omega
      have hn1 : decide (n < 1) = false := by simp; omega
      have hn2 : decide (x < n) = false := by simp; omega
      clear hc hp hnext
      by_cases hk0 : k = 0
      · subst hk0
        have ho0 : o = 0 := by unfold offB at ho; simpa using ho
        subst ho0
        simp only [Nat.zero_mul, Nat.add_zero] at q1 q2
        clear ho
        go_wp2_with fail
        go_round
        case rel => exact HNX.out
        case measure => simp [intOf]; omega
      · have hko : ((k : Int) == 0) = false := by simp; exact hk0
        have hk1 : decide ((0 : Int) < (k : Int)) = true := by simp; omega
        have hob : 1 ≤ o ∧ o ≤ 524288 := by
          unfold offB at ho
          rw [if_neg (by omega)] at ho
          simpa using ho
        have ho1 : decide (o < 1) = false := by simp; omega
        have ho2 : decide (524288 < o) = false := by simp; omega
        clear ho
        go_wp2_with fail
        go_round
        case rel => exact HNX.out
        case measure => simp [intOf]; omega
    · obtain rfl : k = s.length := by omega
      go_wp2_with fail
      go_ret
      exact ⟨rfl, rfl⟩
end Go.Proofs.YtnbjgeamdipkcaaDoor
