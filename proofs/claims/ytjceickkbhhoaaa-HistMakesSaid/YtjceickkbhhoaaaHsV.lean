/- The law HistMakes: all its inputs. -/
import Derived.Test.YtjceickkbhhoaaaHsU
namespace Go.Proofs.Ytjceickkbhhoaaa
open Go.RowKit Go.Sort Go.Maps
set_option linter.unusedVariables false
set_option maxHeartbeats 2000000 in
set_option maxRecDepth 100000 in
theorem makes_heavy (k s z zc ct sm : Int) (A0 B0 A B : Option Addr) (n0 c0 m0 d0 c d n m : Nat) (bn : Int) (w : World) (h : ¬ (n0 ≤ 600 ∧ m0 ≤ 600)) :
    Calls Try.prog 5 #[.agg #[.int .i64 k, .int .i64 s, .int .i64 z, .int .u64 zc, .int .u64 ct, .int .i64 sm, .slice A0 n0 c0, .slice B0 m0 d0], .slice A n c, .slice B m d, .int .u8 bn] w fun e w' => e = .returned (.bool true) ∧ Below w.heap.size w w' := by
  have hb0 : Below w.heap.size w (w.alloc (.cells #[.int .i64 k, .int .i64 s, .int .i64 z, .int .u64 zc, .int .u64 ct, .int .i64 sm, .slice A0 n0 c0, .slice B0 m0 d0] 25)) := (Below.refl _ _).alloc (Nat.le_refl _) _
  have HB0 := Lib.hid hb0
  have HL := Lib.hid (show false = (decide (n0 ≤ 600) && decide (m0 ≤ 600)) from by
    symm
    rw [Bool.and_eq_false_iff, decide_eq_false_iff_not, decide_eq_false_iff_not]
    omega)
  clear hb0 h
  go_enter Try.func5, Try.ntmps5
  go_wp2_with fail
  refine (light_any _ _ _ _ _ _ _ _ _ _ _ _ _ false HL.out).mono ?_
  rintro e w1 ⟨rfl, hb1⟩
  have HB1 := Lib.hid (HB0.out.trans (hb1.mono HB0.out.size))
  clear hb1
  go_wp2_with fail
  refine (awake05 _).mono ?_
  rintro e w2 ⟨rfl, hb2⟩
  have HB2 := Lib.hid (HB1.out.trans (hb2.mono HB1.out.size))
  clear hb2
  go_wp2_with fail
  go_ret
  exact ⟨rfl, HB2.out⟩
set_option maxHeartbeats 2000000 in
set_option maxRecDepth 100000 in
theorem makes_long (k s z zc ct sm : Int) (A0 B0 A B : Option Addr) (n0 c0 m0 d0 c d n m : Nat) (bn : Int) (w : World) (h0 : n0 ≤ 600 ∧ m0 ≤ 600) (h : ¬ (n ≤ 100 ∧ m ≤ 100)) :
    Calls Try.prog 5 #[.agg #[.int .i64 k, .int .i64 s, .int .i64 z, .int .u64 zc, .int .u64 ct, .int .i64 sm, .slice A0 n0 c0, .slice B0 m0 d0], .slice A n c, .slice B m d, .int .u8 bn] w fun e w' => e = .returned (.bool true) ∧ Below w.heap.size w w' := by
  have hb0 : Below w.heap.size w (w.alloc (.cells #[.int .i64 k, .int .i64 s, .int .i64 z, .int .u64 zc, .int .u64 ct, .int .i64 sm, .slice A0 n0 c0, .slice B0 m0 d0] 25)) := (Below.refl _ _).alloc (Nat.le_refl _) _
  have HB0 := Lib.hid hb0
  have HL := Lib.hid (show true = (decide (n0 ≤ 600) && decide (m0 ≤ 600)) from by
    rw [decide_eq_true h0.1, decide_eq_true h0.2]; rfl)
  clear hb0 h0
  by_cases hn : n ≤ 100
  · have hm : ¬ m ≤ 100 := fun e => h ⟨hn, e⟩
    have a1 : decide ((100 : Int) < (n : Int)) = false := by simp; omega
    have a2 : decide ((100 : Int) < (m : Int)) = true := by simp; omega
    clear h hn hm
    go_enter Try.func5, Try.ntmps5
    go_wp2_with fail
    refine (light_any _ _ _ _ _ _ _ _ _ _ _ _ _ true HL.out).mono ?_
    rintro e w1 ⟨rfl, hb1⟩
    have HB1 := Lib.hid (HB0.out.trans (hb1.mono HB0.out.size))
    clear hb1
    go_wp2_with fail
    refine (awake05 _).mono ?_
    rintro e w2 ⟨rfl, hb2⟩
    have HB2 := Lib.hid (HB1.out.trans (hb2.mono HB1.out.size))
    clear hb2
    go_wp2_with fail
    go_ret
    exact ⟨rfl, HB2.out⟩
  · have a1 : decide ((100 : Int) < (n : Int)) = true := by simp; omega
    clear h hn
    go_enter Try.func5, Try.ntmps5
    go_wp2_with fail
    refine (light_any _ _ _ _ _ _ _ _ _ _ _ _ _ true HL.out).mono ?_
    rintro e w1 ⟨rfl, hb1⟩
    have HB1 := Lib.hid (HB0.out.trans (hb1.mono HB0.out.size))
    clear hb1
    go_wp2_with fail
    refine (awake05 _).mono ?_
    rintro e w2 ⟨rfl, hb2⟩
    have HB2 := Lib.hid (HB1.out.trans (hb2.mono HB1.out.size))
    clear hb2
    go_wp2_with fail
    go_ret
    exact ⟨rfl, HB2.out⟩
theorem makes_walk (k s z zc ct sm : Int) (A0 B0 A B : Option Addr) (n0 c0 m0 d0 c d : Nat) (P Q : List (Int × Int)) (bn : Int) (w : World) (hs : I64 s) (z0 : 0 ≤ zc) (z1 : zc ≤ 18446744073709551615) (hP : Bk w A P) (hQ : Bk w B Q) (hb0 : 0 ≤ bn) (hb1 : bn ≤ 255) :
    Calls Try.prog 5 #[.agg #[.int .i64 k, .int .i64 s, .int .i64 z, .int .u64 zc, .int .u64 ct, .int .i64 sm, .slice A0 n0 c0, .slice B0 m0 d0], .slice A P.length c, .slice B Q.length d, .int .u8 bn] w fun e w' => e = .returned (.bool true) ∧ Below w.heap.size w w' := by
  by_cases h0 : n0 ≤ 600 ∧ m0 ≤ 600
  · by_cases h1 : P.length ≤ 100 ∧ Q.length ≤ 100
    · obtain ⟨b, rfl⟩ : ∃ b : Nat, bn = (b : Int) := ⟨bn.toNat, by omega⟩
      exact makes_main k s z zc ct sm A0 B0 A B n0 c0 m0 d0 c d P Q b w hs z0 z1 hP hQ h1.1 h1.2 (by omega) h0.1 h0.2
    · exact makes_long k s z zc ct sm A0 B0 A B n0 c0 m0 d0 c d P.length Q.length bn w h0 h1
  · exact makes_heavy k s z zc ct sm A0 B0 A B n0 c0 m0 d0 c d P.length Q.length bn w h0
end Go.Proofs.Ytjceickkbhhoaaa
