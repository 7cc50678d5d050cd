/- The law BitsJoin's walk, where no count is laid. -/
import Derived.Test.YtdnihkmdigmnoaaDoorBitsJoinW
namespace Go.Proofs.YtdnihkmdigmnoaaDoor
open Go.RowKit

theorem clone_nil (w : World) :
    Calls Tryd.prog 17 #[.slice none 0 0] w fun e w' => e = .returned (.slice none 0 0) ∧ w = w' := by
  have hnil := fun (w : World) => Lib.run_eql_slice_nil (P := Tryd.prog) w 23 5 none 0 0 0 0 Tryd.underlying23
  go_enter Tryd.func17, Tryd.ntmps17
  go_wp2_with fail
  go_ret
  exact ⟨rfl, rfl⟩

theorem bytes_nil (p : Nat) (w : World) (c0 : w.cell? ⟨p, 0, none⟩ = some (.slice none 0 0)) :
    Calls Tryd.prog 9 #[.pointer (some ⟨p, 0, none⟩)] w fun e w' => e = .returned (.slice none 0 0) ∧ w = w' := by
  go_enter Tryd.func9, Tryd.ntmps9
  go_wp2_with fail
  refine (clone_nil _).mono ?_
  rintro e w' ⟨rfl, rfl⟩
  go_wp2_with fail
  go_ret
  exact ⟨rfl, rfl⟩

/-- a reader of nothing, at block q -/
structure Nr (w : World) (q : Nat) : Prop where
  qw : q < w.heap.size
  c0 : w.cell? ⟨q, 0, none⟩ = some (.slice none 0 0)
  c1 : w.cell? ⟨q, 1, none⟩ = some (.int .i64 0)
  c2 : w.cell? ⟨q, 2, none⟩ = some (.int .i64 0)
theorem Nr.below {w w' : World} {q : Nat} (h : Nr w q) (hb : Below w.heap.size w w') : Nr w' q :=
  ⟨Nat.lt_of_lt_of_le h.qw hb.size, (hb.cell (p := ⟨q, 0, none⟩) h.qw).trans h.c0, (hb.cell (p := ⟨q, 1, none⟩) h.qw).trans h.c1, (hb.cell (p := ⟨q, 2, none⟩) h.qw).trans h.c2⟩

theorem read_nil (w : World) :
    Calls Tryd.prog 10 #[.slice none 0 0] w fun e w' => ∃ q, e = .returned (.pointer (some ⟨q, 0, none⟩)) ∧ Nr w' q ∧ Below w.heap.size w w' := by
  go_enter Tryd.func10, Tryd.ntmps10
  go_wp2_with fail
  refine (clone_nil _).mono ?_
  rintro e w1 ⟨rfl, rfl⟩
  go_wp2_with fail
  go_ret
  exact ⟨w.heap.size, rfl, ⟨by simp, by simp [go_sem], by simp [go_sem], by simp [go_sem]⟩, (Below.refl _ _).alloc (Nat.le_refl _) _⟩

theorem err_nil (q : Nat) (w : World) (h : Nr w q) :
    Calls Tryd.prog 18 #[.pointer (some ⟨q, 0, none⟩)] w fun e w' => e = .returned (.int .i64 0) ∧ w = w' := by
  have c2 := h.c2
  clear h
  go_enter Tryd.func18, Tryd.ntmps18
  go_wp2
  go_ret
  exact ⟨rfl, rfl⟩

theorem left_nil (q : Nat) (w : World) (h : Nr w q) :
    Calls Tryd.prog 12 #[.pointer (some ⟨q, 0, none⟩)] w fun e w' => e = .returned (.int .i64 0) ∧ ∃ n, w' = w.drewN n := by
  have c0 := h.c0
  have c1 := h.c1
  clear h
  go_enter Tryd.func12, Tryd.ntmps12
  go_wp2
  go_quiet (fail)
  go_wp2
  go_ret
  exact ⟨rfl, _, rfl⟩

theorem end_nil (q : Nat) (w : World) (h : Nr w q) :
    Calls Tryd.prog 13 #[.pointer (some ⟨q, 0, none⟩)] w fun e w' => e = .returned (.int .i64 0) ∧ Below w.heap.size w w' := by
  have H := Lib.hid h
  have c0 := h.c0
  clear h
  go_enter Tryd.func13, Tryd.ntmps13
  go_wp2_with fail
  refine (err_nil _ _ H.out).mono ?_
  rintro e w' ⟨rfl, rfl⟩
  go_wp2_with fail
  refine (left_nil _ _ H.out).mono ?_
  rintro e w' ⟨rfl, n0, rfl⟩
  go_wp2_with fail
  go_quiet (fail)
  go_wp2_with fail
  go_ret
  exact ⟨rfl, below_drewN (below_drewN (Below.refl _ _) _) _⟩

set_option maxRecDepth 100000 in
set_option maxHeartbeats 2000000 in
theorem join_none (a b : Option Addr) (ca cb : Nat) (w : World) (hT : Tab w) :
    Calls Tryd.prog 4 #[.slice a 0 ca, .slice b 0 cb] w fun e w' => e = .returned (.bool true) ∧ Below w.heap.size w w' := by
  have hz := hT.pos
  go_enter Tryd.func4, Tryd.ntmps4
  go_wp2_with fail
  obtain ⟨w1, hw1⟩ : ∃ w1, (w.alloc (.cells #[.slice none 0 0, .int .i64 0] 25)).alloc (.cells #[.slice none 0 0, .int .i64 0] 25) = w1 := ⟨_, rfl⟩
  have q1 : Wr w1 w.heap.size (w.heap.size + 2) (.slice none 0 0) [] 0 := by
    rw [← hw1]; exact Wr.fresh (by omega) (by simp) (by simp [go_sem]) (by simp [go_sem]) (by simp [go_sem]) (by simp [go_sem])
  have q2 : Wr w1 (w.heap.size + 1) (w.heap.size + 2) (.slice none 0 0) [] 0 := by
    rw [← hw1]; exact Wr.fresh (by omega) (by simp) (by simp [go_sem]) (by simp [go_sem]) (by simp [go_sem]) (by simp [go_sem])
  have be : Below w.heap.size w w1 := by rw [← hw1]; exact ((Below.refl _ _).alloc (Nat.le_refl _) _).alloc (by simp) _
  have Q1 := Lib.hid q1
  have Q2 := Lib.hid q2
  have BE := Lib.hid be
  rw [hw1]
  clear hw1 q1 q2 be
  refine wp_loop_rounds 1 ?_
  rw [rounds_succ]
  go_wp2_with fail
  refine (len_any _ _ _ _ _ _ Q1.out).mono ?_
  rintro e w' ⟨rfl, rfl⟩
  go_wp2_with fail
  refine wp_loop_rounds 1 ?_
  rw [rounds_succ]
  go_wp2_with fail
  refine (len_any _ _ _ _ _ _ Q1.out).mono ?_
  rintro e w' ⟨rfl, rfl⟩
  go_wp2_with fail
  refine (len_any _ _ _ _ _ _ Q2.out).mono ?_
  rintro e w' ⟨rfl, rfl⟩
  go_wp2_with fail
  refine (bytes_nil _ _ Q1.out.c0).mono ?_
  rintro e w' ⟨rfl, rfl⟩
  go_wp2_with fail
  refine (read_nil _).mono ?_
  rintro e w2 ⟨q, rfl, hq, hB2⟩
  have hbe2 := BE.out.trans (hB2.mono BE.out.size)
  have hT2 := hT.below hbe2 hz
  have W2 := Lib.hid (Q2.out.below hB2)
  have RD := Lib.hid hq
  have BE2 := Lib.hid hbe2
  have HT2 := Lib.hid hT2
  clear hq hB2 hbe2 hT2
  go_wp2_with fail
  refine wp_loop_rounds 1 ?_
  rw [rounds_succ]
  go_wp2_with fail
  refine (left_nil _ _ RD.out).mono ?_
  rintro e w' ⟨rfl, n0, rfl⟩
  have W3 := Lib.hid (W2.out.below (below_drewN (Below.refl _ w2) n0))
  go_wp2_with fail
  refine (len_any _ _ _ _ _ _ W3.out).mono ?_
  rintro e w' ⟨rfl, rfl⟩
  go_wp2_with fail
  refine wp_loop_rounds 1 ?_
  rw [rounds_succ]
  have hb3 : Below w.heap.size w (w2.drewN n0) := below_drewN BE2.out n0
  have AW := Lib.hid (awake02 (w2.drewN n0) (hT.below hb3 hz))
  have BE3 := Lib.hid hb3
  clear hb3
  go_wp2_with fail
  refine AW.out.mono ?_
  rintro e w3 ⟨rfl, hB3⟩
  have EC := Lib.hid (end_nil q w3 ((RD.out.below (below_drewN (Below.refl _ w2) n0)).below hB3))
  have HB3 := Lib.hid hB3
  clear hB3
  go_wp2_with fail
  refine EC.out.mono ?_
  rintro e w4 ⟨rfl, hB4⟩
  have HB4 := Lib.hid hB4
  clear hB4
  go_wp2_with fail
  go_ret
  have h3 := BE3.out.trans (HB3.out.mono BE3.out.size)
  exact ⟨rfl, h3.trans (HB4.out.mono h3.size)⟩
end Go.Proofs.YtdnihkmdigmnoaaDoor
