/- The document's example. -/
import Derived.Test.YtnbjgeamdipkcaaDoorSpO
import Derived.Test.YtnbjgeamdipkcaaDoorSpE
namespace Go.Proofs.YtnbjgeamdipkcaaDoor
open Go.RowKit Go.Sort
set_option linter.unusedVariables false

def exB : List (Int × Int) := [(1, 0), (2, 0), (5, 0)]
theorem exB_cl (w : World) (t : TypeId) : Cl (w.alloc (.cells #[.int .i64 1, .int .u64 0, .int .i64 2, .int .u64 0, .int .i64 5, .int .u64 0] t)) (some ⟨w.heap.size, 0, none⟩) (twoC .u64 exB) := by
  refine .inr ⟨w.heap.size, 0, rfl, fun j v hj => ?_⟩
  have e : twoC .u64 exB = #[.int .i64 1, .int .u64 0, .int .i64 2, .int .u64 0, .int .i64 5, .int .u64 0].toList := rfl
  rw [e] at hj
  rw [Nat.zero_add, cell_of_row _ _ _ _ _ _ (heap_alloc_new w _)]
  simpa using hj
theorem of_ex (w : World) (t : TypeId) :
    Calls Tryd.prog 12 #[.slice (some ⟨w.heap.size, 0, none⟩) 3 3] (w.alloc (.cells #[.int .i64 1, .int .u64 0, .int .i64 2, .int .u64 0, .int .i64 5, .int .u64 0] t)) fun e w' => ∃ b off c, e = .returned (.agg #[.int .i64 1, .slice (some ⟨b, off, none⟩) 2 c]) ∧
      (w'.cell? ⟨b, off, none⟩ = some (.int .i64 0) ∧ w'.cell? ⟨b, off + 1, none⟩ = some (.int .i64 2) ∧ w'.cell? ⟨b, off + 2, none⟩ = some (.int .i64 2) ∧ w'.cell? ⟨b, off + 2 + 1, none⟩ = some (.int .i64 1)) ∧ b < w'.heap.size ∧ Below w.heap.size w w' := by
  have h := of_any (some ⟨w.heap.size, 0, none⟩) 3 exB (w.alloc (.cells #[.int .i64 1, .int .u64 0, .int .i64 2, .int .u64 0, .int .i64 5, .int .u64 0] t)) (exB_cl w t) (show Asc [1, 2, 5] from by unfold Asc; decide) (show Inb [1, 2, 5] from by intro x hx; simp at hx; omega) (by decide)
  refine h.mono ?_
  rintro e w' ⟨A, c, rfl, hly, hnw, hb⟩
  obtain ⟨b, off, rfl, hc⟩ := Cl.twos (l := runsL (idsL exB)) hly (by decide)
  obtain ⟨a0, a1⟩ := hc 0 (0, 2) rfl
  obtain ⟨b0, b1⟩ := hc 1 (2, 1) rfl
  refine ⟨b, off, c, rfl, ⟨by simpa using a0, by simpa using a1, by simpa using b0, by simpa using b1⟩, block_lt_of_cell a0, ?_⟩
  exact ((Below.refl _ _).alloc (Nat.le_refl _) _).trans (hb.mono (by simp))
set_option maxRecDepth 100000 in
theorem awake06 (w : World) : Calls Tryd.prog 4 #[] w fun e w' => e = .returned (.bool true) ∧ Below w.heap.size w w' := by
  have q1 := eqlS 0 2 0 2
  have q2 := eqlS 2 1 2 1
  simp only [beq_self_eq_true, Bool.and_self] at q1 q2
  have hgd := guardS
  go_enter Tryd.func4, Tryd.ntmps4
  go_wp2_with fail
  refine (of_ex _ _).mono ?_
  rintro e w1 ⟨b, off, c, rfl, ⟨a0, a1, b0, b1⟩, hlt, hb⟩
  have HB := Lib.hid hb
  clear hb
  go_wp2_with fail
  go_ret
  exact ⟨rfl, HB.out.alloc HB.out.size _⟩
end Go.Proofs.YtnbjgeamdipkcaaDoor
