/- The law SpanJoins, for whatever comes in. -/
import Derived.Test.YtnbjgeamdipkcaaSpJo
namespace Go.Proofs.Ytnbjgeamdipkcaa
open Go.RowKit Go.Sort
set_option linter.unusedVariables false
set_option maxRecDepth 100000 in
theorem joins_long (A B C : Option Addr) (n m ca cb cc k : Nat) (f t : Int) (w : World) (hn : n ≤ 9223372036854775807) (hm : m ≤ 9223372036854775807) (h : ¬ (n ≤ 200 ∧ m ≤ 200)) :
    Calls Try.prog 3 #[.slice A n ca, .slice B m cb, .int .i16 f, .int .i16 t, .slice C k cc] w fun e w' => e = .returned (.bool true) ∧ Below w.heap.size w w' := by
  by_cases h1 : n ≤ 200
  · have h2 : decide ((200 : Int) < (m : Int)) = true := by simp; omega
    have h3 : decide ((200 : Int) < (n : Int)) = false := by simp; omega
    clear h h1
    go_enter Try.func3, Try.ntmps3
    go_wp2_with fail
    refine (awake06 _).mono ?_
    rintro e w7 ⟨rfl, hb7⟩
    have HB := Lib.hid hb7
    clear hb7
    go_wp2_with fail
    go_ret
    exact ⟨rfl, HB.out⟩
  · have h3 : decide ((200 : Int) < (n : Int)) = true := by simp; omega
    clear h h1
    go_enter Try.func3, Try.ntmps3
    go_wp2_with fail
    refine (awake06 _).mono ?_
    rintro e w7 ⟨rfl, hb7⟩
    have HB := Lib.hid hb7
    clear hb7
    go_wp2_with fail
    go_ret
    exact ⟨rfl, HB.out⟩
theorem spanJoins_walk (a0 : Option Addr) (len0 cap0 : Nat) (z0 : List Int) (a1 : Option Addr) (len1 cap1 : Nat) (z1 : List Int) (a2 a3 : Int) (a4 : Option Addr) (len4 cap4 : Nat) (z4 : List Int) (w : World) (w0 : RowIn .u8 w a0 len0 cap0 z0) (w1 : RowIn .u8 w a1 len1 cap1 z1) (w2 : (Lit.int .i16 a2).wf = true) (w3 : (Lit.int .i16 a3).wf = true) (w4 : RowIn .u64 w a4 len4 cap4 z4) :
    Calls Try.prog 3 #[.slice a0 len0 cap0, .slice a1 len1 cap1, .int .i16 a2, .int .i16 a3, .slice a4 len4 cap4] w fun e w' => e = .returned (.bool true) ∧ Below w.heap.size w w' := by
  obtain ⟨l0, rfl, hS0, hw0, hlc0, hcm0⟩ := cl_of_row w0
  obtain ⟨l1, rfl, hS1, hw1, hlc1, hcm1⟩ := cl_of_row w1
  obtain ⟨l4, rfl, hS4, hw4, hlc4, hcm4⟩ := cl_of_row w4
  obtain ⟨b1, b2⟩ := bounds_i16 w2
  obtain ⟨b3, b4⟩ := bounds_i16 w3
  by_cases hl : l0.length ≤ 200 ∧ l1.length ≤ 200
  · exact joins_main a0 a1 a4 cap0 cap1 cap4 l0 l1 l4 a2 a3 w hS0 hS1 hS4 (fun x hx => bounds_u8 (hw0 x hx)) (fun x hx => bounds_u8 (hw1 x hx)) hl.1 hl.2 (by omega) (fun x hx => bounds_u64 (hw4 x hx)) b1 b2 b3 b4
  · exact joins_long a0 a1 a4 l0.length l1.length cap0 cap1 cap4 l4.length a2 a3 w (by omega) (by omega) hl
end Go.Proofs.Ytnbjgeamdipkcaa
