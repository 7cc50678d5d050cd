/- The law SpanGaps, for whatever comes in. -/
import Derived.Test.YtnbjgeamdipkcaaSpGa
import Derived.Test.YtnbjgeamdipkcaaSpQ
namespace Go.Proofs.Ytnbjgeamdipkcaa
open Go.RowKit Go.Sort
set_option linter.unusedVariables false
theorem spanGaps_walk (a0 : Option Addr) (len0 cap0 : Nat) (z0 : List Int) (a1 a2 : Int) (w : World) (w0 : RowIn .u8 w a0 len0 cap0 z0) (w1 : (Lit.int .i16 a1).wf = true) (w2 : (Lit.int .i16 a2).wf = true) :
    Calls Try.prog 5 #[.slice a0 len0 cap0, .int .i16 a1, .int .i16 a2] w fun e w' => e = .returned (.bool true) ∧ Below w.heap.size w w' := by
  obtain ⟨l, rfl, hS, hw, hlc, hcm⟩ := cl_of_row w0
  obtain ⟨b1, b2⟩ := bounds_i16 w1
  obtain ⟨b3, b4⟩ := bounds_i16 w2
  by_cases hl : l.length ≤ 200
  · exact gaps_main a0 cap0 l a1 a2 w hS (fun x hx => bounds_u8 (hw x hx)) hl b1 b2 b3 b4
  · exact gaps_long a0 l.length cap0 a1 a2 w (by omega) (by omega)
end Go.Proofs.Ytnbjgeamdipkcaa
