/- Ranges compared: slices.Equal, Same, and the law's own same; are ranges apart, has the document's answer a time. -/
import Derived.Test.YtdmlogpmojmikaaTmH
import Derived.Laws.StructEq
namespace Go.Proofs.Ytdmlogpmojmikaa.Tm
open Go.RowKit Go.Sort
set_option linter.unusedVariables false

theorem eqlS (a b c d : Int) (w : World) : (binOp .eql 33 (.agg #[.int .i64 a, .int .i64 b]) (.agg #[.int .i64 c, .int .i64 d])).run Try.prog w = .ok (.bool (a == c && b == d)) w := by
  have u3 := Try.underlying2
  have a3 := Try.isAgg2
  have z3 := Try.sizeOf2
  have hS : Try.prog.underlying 33 = some (.struct (Try.prog.fieldsOf 33)) := by kernel_rfl
  have hp : Try.prog.stoodInHeld 33 = false := by kernel_rfl
  rw [run_eql_struct, show (10000 : Nat) = 9999 + 1 from rfl, run_equalIn_agg w 9999 33 _ _ hS hp]
  simp only [Program.fieldsOf, Try.underlying33]
  go_simp
  by_cases h1 : a = c <;> by_cases h2 : b = d <;> simp [h1, h2]
theorem neqS (a b c d : Int) (w : World) : (binOp .neq 33 (.agg #[.int .i64 a, .int .i64 b]) (.agg #[.int .i64 c, .int .i64 d])).run Try.prog w = .ok (.bool (!(a == c && b == d))) w := by
  have u3 := Try.underlying2
  have a3 := Try.isAgg2
  have z3 := Try.sizeOf2
  have hS : Try.prog.underlying 33 = some (.struct (Try.prog.fieldsOf 33)) := by kernel_rfl
  have hp : Try.prog.stoodInHeld 33 = false := by kernel_rfl
  rw [run_neq_struct, show (10000 : Nat) = 9999 + 1 from rfl, run_equalIn_agg w 9999 33 _ _ hS hp]
  simp only [Program.fieldsOf, Try.underlying33]
  go_simp
  by_cases h1 : a = c <;> by_cases h2 : b = d <;> simp [h1, h2]
theorem guardS (op : BinOp) (x y : Operand) (xs ys : Array Value) (w : World) : (eqGuard op 33 x y (.agg xs) (.agg ys)).run Try.prog w = .ok () w := run_eqGuard_agg w op _ x y xs ys (by kernel_rfl)
def eqL (P Q : List (Int × Int)) : Bool := decide (P = Q)
theorem eqL_len {P Q : List (Int × Int)} (h : P.length ≠ Q.length) : eqL P Q = false := by
  unfold eqL
  rw [decide_eq_false_iff_not]
  intro e
  exact h (by rw [e])
theorem eqL_at {P Q : List (Int × Int)} {k : Nat} {p q : Int × Int} (hp : P[k]? = some p) (hq : Q[k]? = some q) (h : p ≠ q) : eqL P Q = false := by
  unfold eqL
  rw [decide_eq_false_iff_not]
  intro e
  rw [e, hq] at hp
  exact h (by simpa using hp.symm)
theorem take_both {P Q : List (Int × Int)} {k : Nat} {p : Int × Int} (hp : P[k]? = some p) (hq : Q[k]? = some p) (h : P.take k = Q.take k) : P.take (k + 1) = Q.take (k + 1) := by
  rw [take_snoc P k p hp, take_snoc Q k p hq, h]
def EqRel (P Q : List (Int × Int)) (w : World) (i : Value) (wr : World) : Prop := ∃ k : Nat, k ≤ P.length ∧ i = .int .i64 k ∧ P.take k = Q.take k ∧ ∃ q, wr = w.drewN q

set_option maxHeartbeats 1000000 in
set_option maxRecDepth 100000 in
theorem equal_any (A B : Option Addr) (c d : Nat) (P Q : List (Int × Int)) (w : World) (hP : Cl w A (twoC .i64 P)) (hQ : Cl w B (twoC .i64 Q)) (hl1 : P.length ≤ 9223372036854775807) (hl2 : Q.length ≤ 9223372036854775807) :
    Calls Try.prog 31 #[.slice A P.length c, .slice B Q.length d] w fun e w' => e = .returned (.bool (eqL P Q)) ∧ ∃ q, w' = w.drewN q := by
  have HP := Lib.hid hP
  have HQ := Lib.hid hQ
  clear hP hQ
  by_cases hlen : P.length = Q.length
  · have t0 : ((P.length : Int) != (Q.length : Int)) = false := by simp; omega
    have HL := Lib.hid hlen
    clear hlen
    have hgd := guardS
    go_enter Try.func31, Try.ntmps31
    go_wp2_with fail
    go_loopw [13] (fun i wr => EqRel P Q w i wr) (fun i _ => P.length - (intOf i).toNat)
    case atStart => exact ⟨0, by omega, rfl, rfl, 0, rfl⟩
    case round =>
      obtain ⟨k, hk, rfl, ht, nd, rfl⟩ := hrel
      have HT := Lib.hid ht
      clear ht
      by_cases hlt : k < P.length
      · obtain ⟨b1, o1, rfl, h1⟩ := HP.out.twos (by omega)
        obtain ⟨b2, o2, rfl, h2⟩ := HQ.out.twos (by have := HL.out; omega)
        obtain ⟨p, hp⟩ := getElem?_lt hlt
        obtain ⟨q, hq⟩ := getElem?_lt (l := Q) (k := k) (by have := HL.out; omega)
        obtain ⟨p1, p2⟩ := h1 k p hp
        obtain ⟨q1, q2⟩ := h2 k q hq
        have hki : (k : Int) < (P.length : Int) := by omega
        have hkj : (k : Int) < (Q.length : Int) := by have := HL.out; omega
        obtain ⟨pi, pc⟩ := p
        obtain ⟨qi, qc⟩ := q
        simp only at p1 p2 q1 q2
        have hne := neqS pi pc qi qc
        by_cases he : pi = qi ∧ pc = qc
        · obtain ⟨rfl, rfl⟩ := he
          simp only [beq_self_eq_true, Bool.and_self, Bool.not_true] at hne
          have HN := Lib.hid (take_both hp hq HT.out)
          clear h1 h2 hp hq
          go_wp2_with fail
          go_quiet (fail)
          go_wp2_with fail
          go_roundw
          case rel => exact ⟨k + 1, by omega, by go_num, HN.out, _, rfl⟩
          case measure => simp [intOf]; omega
        · have hx : (!(pi == qi && pc == qc)) = true := by
            by_cases h : pi = qi
            · have : ¬ pc = qc := fun e => he ⟨h, e⟩
              simp [h, this]
            · simp [h]
          rw [hx] at hne
          have HN := Lib.hid (eqL_at hp hq (fun e => he (by simpa using e)))
          clear h1 h2 hp hq hx he
          go_wp2_with fail
          go_quiet (fail)
          go_wp2_with fail
          go_ret
          exact ⟨ret_bool HN.out.symm, _, by rw [World.drewN_drewN]⟩
      · obtain rfl : k = P.length := by omega
        have hki : ¬ ((P.length : Int) < (P.length : Int)) := by omega
        have HN := Lib.hid (show true = eqL P Q by
          have h1 := HT.out
          rw [List.take_length, HL.out, List.take_length] at h1
          unfold eqL
          simp [h1])
        go_wp2_with fail
        go_ret
        exact ⟨ret_bool HN.out, _, rfl⟩
  · have t0 : ((P.length : Int) != (Q.length : Int)) = true := by simp; omega
    have HN := Lib.hid (eqL_len hlen)
    clear hlen
    go_enter Try.func31, Try.ntmps31
    go_wp2_with fail
    go_ret
    exact ⟨ret_bool HN.out.symm, 0, rfl⟩
theorem eqL_iff (P Q : List Rg) : eqL P Q = true ↔ P = Q := by unfold eqL; rw [decide_eq_true_eq]
theorem eqL_self (P : List Rg) : eqL P P = true := (eqL_iff P P).2 rfl
theorem equal_at (A B : Option Addr) (n m c d : Nat) (P Q : List Rg) (w : World) (hn : n = P.length) (hm : m = Q.length) (hP : Cl w A (twoC .i64 P)) (hQ : Cl w B (twoC .i64 Q)) (hl1 : P.length ≤ 100000) (hl2 : Q.length ≤ 100000) :
    Calls Try.prog 31 #[.slice A n c, .slice B m d] w fun e w' => e = .returned (.bool (eqL P Q)) ∧ ∃ q, w' = w.drewN q := by
  subst hn hm
  exact equal_any A B c d P Q w hP hQ (by omega) (by omega)
set_option maxHeartbeats 1000000 in
theorem sameS_any (v u : Value) (X Y : List Rg) (w : World) (h : St w v X) (k : St w u Y) (hl1 : X.length ≤ 100000) (hl2 : Y.length ≤ 100000) :
    Calls Try.prog 20 #[v, u] w fun e w' => e = .returned (.bool (eqL X Y)) ∧ Below w.heap.size w w' := by
  obtain ⟨A, c, rfl, _, h2⟩ := h
  obtain ⟨B, d, rfl, _, k2⟩ := k
  obtain ⟨n, hn⟩ : ∃ n, X.length = n := ⟨_, rfl⟩
  obtain ⟨m, hm⟩ : ∃ m, Y.length = m := ⟨_, rfl⟩
  have hb0 : Below w.heap.size w ((w.alloc (.cells #[.slice A n c] 28)).alloc (.cells #[.slice B m d] 28)) := (grows w _).alloc (by simp) _
  have HE := Lib.hid (fun W (hW : Below w.heap.size w W) => equal_at A B n m c d X Y W hn.symm hm.symm (h2.below hW) (k2.below hW) hl1 hl2)
  have HB := Lib.hid hb0
  rw [hn, hm]
  clear h2 k2 hn hm hb0 hl1 hl2
  go_enter Try.func20, Try.ntmps20
  go_wp2_with fail
  refine (HE.out _ HB.out).mono ?_
  rintro e w1 ⟨rfl, q, rfl⟩
  go_wp2_with fail
  go_ret
  exact ⟨rfl, below_drewN HB.out q⟩
end Go.Proofs.Ytdmlogpmojmikaa.Tm
