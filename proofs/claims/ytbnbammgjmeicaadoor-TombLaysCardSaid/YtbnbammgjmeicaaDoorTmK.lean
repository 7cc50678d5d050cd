/- The law's own example; what the document's answer has. -/
import Derived.Test.YtbnbammgjmeicaaDoorTmJ
namespace Go.Proofs.YtbnbammgjmeicaaDoor.Tm
open Go.RowKit Go.Sort
set_option linter.unusedVariables false

def exL : List Rg := [(4, 5), (1, 3), (9, 9)]
theorem ex_is {X : List Rg} (h : Is X exL) : X = [(1, 5), (9, 9)] := by
  refine can_one h.1 ⟨?_, ?_⟩ fun t => ?_
  · intro r hr
    simp at hr
    rcases hr with rfl | rfl <;> (refine ⟨?_, ?_, ?_⟩ <;> decide)
  · simp
  · rw [h.2]
    unfold HasR HasP exL
    simp [RightP, InR]
    omega
theorem ex_cl (w : World) (t : TypeId) : Cl (w.alloc (.cells #[.int .i64 4, .int .i64 5, .int .i64 1, .int .i64 3, .int .i64 9, .int .i64 9] t)) (some ⟨w.heap.size, 0, none⟩) (twoC .i64 exL) := by
  refine .inr ⟨w.heap.size, 0, rfl, fun j v hj => ?_⟩
  have e : twoC .i64 exL = #[Value.int .i64 4, .int .i64 5, .int .i64 1, .int .i64 3, .int .i64 9, .int .i64 9].toList := rfl
  rw [e] at hj
  rw [Nat.zero_add, cell_of_row _ _ _ _ _ _ (heap_alloc_new w _)]
  simpa using hj
set_option maxHeartbeats 1000000 in
set_option maxRecDepth 100000 in
theorem awake14 (w : World) : Calls Tryd.prog 4 #[] w fun e w' => e = .returned (.bool true) ∧ Below w.heap.size w w' := by
  have q1 := eqlS 1 5 1 5
  have q2 := eqlS 9 9 9 9
  simp only [beq_self_eq_true, Bool.and_self] at q1 q2
  have hgd := guardS
  obtain ⟨W1, hW1⟩ : ∃ W1, w.alloc (.cells #[.int .i64 4, .int .i64 5, .int .i64 1, .int .i64 3, .int .i64 9, .int .i64 9] 32) = W1 := ⟨_, rfl⟩
  have HO := Lib.hid (of_any (some ⟨w.heap.size, 0, none⟩) 3 3 exL W1 rfl (hW1 ▸ ex_cl w _) (by decide))
  have B1 := Lib.hid (show Below w.heap.size w W1 from hW1 ▸ grows w _)
  go_enter Tryd.func4, Tryd.ntmps4
  go_wp2_with fail
  refine HO.out.mono ?_
  rintro e w2 ⟨v, X, rfl, hx, _, hst, hb2⟩
  obtain rfl := ex_is hx
  have HR := Lib.hid (ranges_any v [(1, 5), (9, 9)] w2 hst (by decide))
  have B2 := Lib.hid (B1.out.trans (hb2.mono B1.out.size))
  clear hx hst hb2 hW1
  go_wp2_with fail
  refine HR.out.mono ?_
  rintro e w3 ⟨A, c, rfl, ho, hb3⟩
  have B3 := Lib.hid (B2.out.trans (hb3.mono B2.out.size))
  obtain ⟨b, off, rfl, hc⟩ := (own_cl ho).twos (by decide)
  obtain ⟨a0, a1⟩ := hc 0 (1, 5) rfl
  obtain ⟨b0, b1⟩ := hc 1 (9, 9) rfl
  simp only [Nat.zero_mul, Nat.add_zero, Nat.one_mul] at a0 a1 b0 b1
  clear ho hb3 hc
  simp only [List.length_cons, List.length_nil]
  go_wp2_with fail
  go_ret
  exact ⟨rfl, B3.out⟩
end Go.Proofs.YtbnbammgjmeicaaDoor.Tm
