/- slices.Concat of two; Ranges, Empty. -/
import Derived.Test.YtbnbammgjmeicaaDoorTmB
namespace Go.Proofs.YtbnbammgjmeicaaDoor.Tm
open Go.RowKit Go.Sort
set_option linter.unusedVariables false

def GrowP (w : World) (e : Ending) (w' : World) : Prop := ∃ G c, e = .returned (.slice G 0 c) ∧ w'.ownsRow w.heap.size 32 2 (.slice G 0 c) 0 (twoC .i64 []) ∧ Below w.heap.size w w'
/-- a set that reads as X -/
def St (w : World) (v : Value) (X : List Rg) : Prop := ∃ A c, v = .agg #[.slice A X.length c] ∧ (A = none → c = 0) ∧ Cl w A (twoC .i64 X)
theorem St.below {w w' : World} {v : Value} {X : List Rg} (h : St w v X) (k : Below w.heap.size w w') : St w' v X := by
  obtain ⟨A, c, h1, h2, h3⟩ := h
  exact ⟨A, c, h1, h2, h3.below k⟩
theorem St.nil (w : World) : St w (.agg #[.slice none 0 0]) [] := ⟨none, 0, rfl, fun _ => rfl, Cl.nil _ _⟩
theorem ranges_any (v : Value) (X : List Rg) (w : World) (h : St w v X) (hl : X.length ≤ 10000) :
    Calls Tryd.prog 6 #[v] w (RowP w X) := by
  obtain ⟨A, c, rfl, h1, h2⟩ := h
  obtain ⟨n, hn⟩ : ∃ n, X.length = n := ⟨_, rfl⟩
  have hb0 : Below w.heap.size w (w.alloc (.cells #[.slice A n c] 27)) := (Below.refl _ _).alloc (Nat.le_refl _) _
  have HB0 := Lib.hid hb0
  have HC := Lib.hid (h2.below hb0)
  have HN := Lib.hid hn
  rw [hn]
  clear hn hb0 h1 h2
  go_enter Tryd.func6, Tryd.ntmps6
  go_wp2_with fail
  refine (clone_any A n c X _ HN.out.symm HC.out (by omega)).mono ?_
  rintro e w2 ⟨A2, c2, rfl, ho, hb⟩
  have HP := Lib.hid (show RowP w X (.returned (.slice A2 X.length c2)) w2 from ⟨A2, c2, rfl, own_base ho HB0.out.size, HB0.out.trans (hb.mono HB0.out.size)⟩)
  clear ho hb
  go_wp2_with fail
  go_ret
  exact HP.out
theorem empty_any (v : Value) (X : List Rg) (w : World) (h : St w v X) :
    Calls Tryd.prog 18 #[v] w fun e w' => e = .returned (.bool (decide (X = []))) ∧ Below w.heap.size w w' := by
  obtain ⟨A, c, rfl, h1, h2⟩ := h
  obtain ⟨n, hn⟩ : ∃ n, X.length = n := ⟨_, rfl⟩
  have HE := Lib.hid (show ((n : Int) == 0) = decide (X = []) by
    rw [Bool.eq_iff_iff, decide_eq_true_eq, beq_iff_eq, ← List.length_eq_zero_iff, hn]
    omega)
  rw [hn]
  clear hn h1 h2
  go_enter Tryd.func18, Tryd.ntmps18
  go_wp2_with fail
  go_ret
  exact ⟨ret_bool HE.out, (Below.refl _ _).alloc (Nat.le_refl _) _⟩
end Go.Proofs.YtbnbammgjmeicaaDoor.Tm
