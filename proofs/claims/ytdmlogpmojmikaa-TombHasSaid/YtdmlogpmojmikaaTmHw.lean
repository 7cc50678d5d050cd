/- TombHas beyond its bounds, and the law's walk. -/
import Derived.Test.YtdmlogpmojmikaaTmH2
namespace Go.Proofs.Ytdmlogpmojmikaa.Tm
open Go.RowKit Go.Sort
set_option linter.unusedVariables false
set_option maxHeartbeats 16000000 in
set_option maxRecDepth 100000 in
theorem has_long (A B : Option Addr) (n m c d : Nat) (r1 r2 t : Int) (w : World) (hn : n ≤ 9223372036854775807) (hm : m ≤ 9223372036854775807) (h : 60 < n ∨ 60 < m ∨ 4611686018427387904 < t) :
    Calls Try.prog 3 #[.slice A n c, .slice B m d, .agg #[.int .i64 r1, .int .i64 r2], .int .i64 t] w fun e w' => e = .returned (.bool true) ∧ Below w.heap.size w w' := by
  have HA := Lib.hid (awake14 (w.alloc (.cells #[.int .i64 r1, .int .i64 r2] 24)))
  have B1 := Lib.hid (grows w (.cells #[.int .i64 r1, .int .i64 r2] 24))
  by_cases h1 : 60 < n
  · have hn60 : (60 : Int) < (n : Int) := by omega
    clear h h1
    go_enter Try.func3, Try.ntmps3
    go_wp2_with fail
    refine HA.out.mono ?_
    rintro e w2 ⟨rfl, hb⟩
    have B2 := Lib.hid (B1.out.trans (hb.mono B1.out.size))
    clear hb
    go_wp2_with fail
    go_ret
    exact ⟨rfl, B2.out⟩
  · by_cases h2 : 60 < m
    · have hn60 : ¬ (60 : Int) < (n : Int) := by omega
      have hm60 : (60 : Int) < (m : Int) := by omega
      clear h h1 h2
      go_enter Try.func3, Try.ntmps3
      go_wp2_with fail
      refine HA.out.mono ?_
      rintro e w2 ⟨rfl, hb⟩
      have B2 := Lib.hid (B1.out.trans (hb.mono B1.out.size))
      clear hb
      go_wp2_with fail
      go_ret
      exact ⟨rfl, B2.out⟩
    · have hn60 : ¬ (60 : Int) < (n : Int) := by omega
      have hm60 : ¬ (60 : Int) < (m : Int) := by omega
      have ht3 : (4611686018427387904 : Int) < t := by omega
      clear h h1 h2
      go_enter Try.func3, Try.ntmps3
      go_wp2_with fail
      refine HA.out.mono ?_
      rintro e w2 ⟨rfl, hb⟩
      have B2 := Lib.hid (B1.out.trans (hb.mono B1.out.size))
      clear hb
      go_wp2_with fail
      go_ret
      exact ⟨rfl, B2.out⟩
theorem tombHas_walk (A B : Option Addr) (n m c d : Nat) (a b : List Rg) (r1 r2 t : Int) (w : World) (hn : n = a.length) (hm : m = b.length) (hA : Cl w A (twoC .i64 a)) (hB : Cl w B (twoC .i64 b)) (zn : a.length ≤ 9223372036854775807) (zm : b.length ≤ 9223372036854775807) (ht : -9223372036854775808 ≤ t) :
    Calls Try.prog 3 #[.slice A n c, .slice B m d, .agg #[.int .i64 r1, .int .i64 r2], .int .i64 t] w fun e w' => e = .returned (.bool true) ∧ Below w.heap.size w w' := by
  by_cases hl : a.length ≤ 60
  · by_cases hk : b.length ≤ 60
    · by_cases h3 : t ≤ 4611686018427387904
      · exact has_main A B n m c d a b r1 r2 t w hn hm hA hB hl hk ht h3
      · exact has_long A B n m c d r1 r2 t w (by omega) (by omega) (.inr (.inr (by omega)))
    · exact has_long A B n m c d r1 r2 t w (by omega) (by omega) (.inr (.inl (by omega)))
  · exact has_long A B n m c d r1 r2 t w (by omega) (by omega) (.inl (by omega))
end Go.Proofs.Ytdmlogpmojmikaa.Tm
