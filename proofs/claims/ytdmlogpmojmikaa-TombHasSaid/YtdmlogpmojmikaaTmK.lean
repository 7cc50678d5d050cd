/- The law's own example; what the document's answer has. -/
import Derived.Test.YtdmlogpmojmikaaTmJ
namespace Go.Proofs.Ytdmlogpmojmikaa.Tm
open Go.RowKit Go.Sort
set_option linter.unusedVariables false

def exL : List Rg := [(4, 5), (1, 3), (9, 9)]
theorem ex_is {X : List Rg} (h : Is X exL) : X = [(1, 5), (9, 9)] := by
  refine can_one h.1 ⟨?_, ?_⟩ fun t => ?_
  · intro r hr
    simp at hr
    rcases hr with rfl | rfl <;> (refine ⟨?_, ?_, ?_⟩ <;> decide)
  · simp
  · rw [h.2]
    unfold HasR HasP exL
    simp [RightP, InR]
    omega
theorem ex_cl (w : World) (t : TypeId) : Cl (w.alloc (.cells #[.int .i64 4, .int .i64 5, .int .i64 1, .int .i64 3, .int .i64 9, .int .i64 9] t)) (some ⟨w.heap.size, 0, none⟩) (twoC .i64 exL) := by
  refine .inr ⟨w.heap.size, 0, rfl, fun j v hj => ?_⟩
  have e : twoC .i64 exL = #[Value.int .i64 4, .int .i64 5, .int .i64 1, .int .i64 3, .int .i64 9, .int .i64 9].toList := rfl
  rw [e] at hj
  rw [Nat.zero_add, cell_of_row _ _ _ _ _ _ (heap_alloc_new w _)]
  simpa using hj
set_option maxHeartbeats 1000000 in
set_option maxRecDepth 100000 in
theorem awake14 (w : World) : Calls Try.prog 6 #[] w fun e w' => e = .returned (.bool true) ∧ Below w.heap.size w w' := by
  have q1 := eqlS 1 5 1 5
  have q2 := eqlS 9 9 9 9
  simp only [beq_self_eq_true, Bool.and_self] at q1 q2
  have hgd := guardS
  obtain ⟨W1, hW1⟩ : ∃ W1, w.alloc (.cells #[.int .i64 4, .int .i64 5, .int .i64 1, .int .i64 3, .int .i64 9, .int .i64 9] 33) = W1 := ⟨_, rfl⟩
  have HO := Lib.hid (of_any (some ⟨w.heap.size, 0, none⟩) 3 3 exL W1 rfl (hW1 ▸ ex_cl w _) (by decide))
  have B1 := Lib.hid (show Below w.heap.size w W1 from hW1 ▸ grows w _)
  go_enter Try.func6, Try.ntmps6
  go_wp2_with fail
  refine HO.out.mono ?_
  rintro e w2 ⟨v, X, rfl, hx, _, hst, hb2⟩
  obtain rfl := ex_is hx
  have HR := Lib.hid (ranges_any v [(1, 5), (9, 9)] w2 hst (by decide))
  have B2 := Lib.hid (B1.out.trans (hb2.mono B1.out.size))
  clear hx hst hb2 hW1
  go_wp2_with fail
  refine HR.out.mono ?_
  rintro e w3 ⟨A, c, rfl, ho, hb3⟩
  have B3 := Lib.hid (B2.out.trans (hb3.mono B2.out.size))
  obtain ⟨b, off, rfl, hc⟩ := (own_cl ho).twos (by decide)
  obtain ⟨a0, a1⟩ := hc 0 (1, 5) rfl
  obtain ⟨b0, b1⟩ := hc 1 (9, 9) rfl
  simp only [Nat.zero_mul, Nat.add_zero, Nat.one_mul] at a0 a1 b0 b1
  clear ho hb3 hc
  simp only [List.length_cons, List.length_nil]
  go_wp2_with fail
  go_ret
  exact ⟨rfl, B3.out⟩
set_option maxHeartbeats 1000000 in
/-- has the document's answer a time? -/
theorem rhas_any (A : Option Addr) (n c : Nat) (l : List Rg) (t : Int) (w : World) (hn : n = l.length) (h : Cl w A (twoC .i64 l)) (hl : l.length ≤ 1000) :
    Calls Try.prog 16 #[.slice A n c, .int .i64 t] w fun e w' => e = .returned (.bool (hasRB l t)) ∧ Below w.heap.size w w' := by
  subst hn
  have HL := Lib.hid h
  clear h
  go_enter Try.func16, Try.ntmps16
  go_wp2_with fail
  go_loopw [5] (fun i wr => ∃ k : Nat, k ≤ l.length ∧ i = .int .i64 k ∧ Hid (¬ HasR (l.take k) t) ∧ Hid (Below w.heap.size w wr)) (fun i _ => l.length - (intOf i).toNat)
  case atStart => exact ⟨0, by omega, rfl, Lib.hid (by rintro ⟨r, hr, _⟩; simp at hr), Lib.hid (Below.refl _ _)⟩
  case round =>
    obtain ⟨k, hk, rfl, HT, HB⟩ := hrel
    by_cases hlt : k < l.length
    · have hki : (k : Int) < (l.length : Int) := by omega
      obtain ⟨p, hp⟩ := getElem?_lt hlt
      obtain ⟨b, off, rfl, hc⟩ := (HL.out.below HB.out).twos (by omega)
      obtain ⟨q0, q1⟩ := hc k p hp
      have HTK := Lib.hid (take_snoc l k p hp)
      have HM := Lib.hid (List.mem_of_getElem? hp)
      obtain ⟨z, hz⟩ : ∃ z, rightB p = z := ⟨_, rfl⟩
      have HZ := Lib.hid hz
      obtain ⟨p1, p2⟩ := p
      simp only at q0 q1
      clear hc hp hz
      go_wp2_with fail
      refine (rright_any (p1, p2) wr).mono ?_
      rw [HZ.out]
      rintro e w2 ⟨rfl, hb2⟩
      have HB2 := Lib.hid (HB.out.trans (hb2.mono HB.out.size))
      have q0' := cell_below q0 hb2
      have q1' := cell_below q1 hb2
      clear hb2 q0 q1
      cases z with
      | false =>
        have HN := Lib.hid (show ¬ HasR (l.take (k + 1)) t from by
          rw [HTK.out, hasR_append, hasR_one]
          rintro (h | ⟨h, _⟩)
          · exact HT.out h
          · have := HZ.out; unfold rightB at this; rw [decide_eq_false_iff_not] at this; exact this h)
        go_wp2_with fail
        go_roundw
        case rel => exact ⟨k + 1, by omega, by go_num, HN, HB2⟩
        case measure => simp [intOf]; omega
      | true =>
        by_cases h1 : p1 ≤ t
        · by_cases h2 : t ≤ p2
          · have HY := Lib.hid (show true = hasRB l t from by
              unfold hasRB
              refine (decide_eq_true ?_).symm
              exact ⟨(p1, p2), HM.out, by have := HZ.out; unfold rightB at this; exact of_decide_eq_true this, h1, h2⟩)
            go_wp2_with fail
            go_ret
            exact ⟨ret_bool HY.out, HB2.out⟩
          · have HN := Lib.hid (show ¬ HasR (l.take (k + 1)) t from by
              rw [HTK.out, hasR_append, hasR_one]
              rintro (h | ⟨_, _, h⟩)
              · exact HT.out h
              · exact h2 h)
            go_wp2_with fail
            go_roundw
            case rel => exact ⟨k + 1, by omega, by go_num, HN, HB2⟩
            case measure => simp [intOf]; omega
        · have HN := Lib.hid (show ¬ HasR (l.take (k + 1)) t from by
            rw [HTK.out, hasR_append, hasR_one]
            rintro (h | ⟨_, h, _⟩)
            · exact HT.out h
            · exact h1 h)
          go_wp2_with fail
          go_roundw
          case rel => exact ⟨k + 1, by omega, by go_num, HN, HB2⟩
          case measure => simp [intOf]; omega
    · obtain rfl : k = l.length := by omega
      have hki : ¬ ((l.length : Int) < (l.length : Int)) := by omega
      have HN := Lib.hid (show false = hasRB l t from by
        have := HT.out
        rw [List.take_length] at this
        unfold hasRB
        exact (decide_eq_false this).symm)
      go_wp2_with fail
      go_ret
      exact ⟨ret_bool HN.out, HB.out⟩
end Go.Proofs.Ytdmlogpmojmikaa.Tm
