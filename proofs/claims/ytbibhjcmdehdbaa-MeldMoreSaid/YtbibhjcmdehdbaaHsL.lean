/- Equal lists of buckets: the library's slices.Equal and the document's own; histograms that are one. -/
import Derived.Test.YtbibhjcmdehdbaaHsK
import Derived.Laws.StructEq
namespace Go.Proofs.Ytbibhjcmdehdbaa
open Go.RowKit Go.Sort Go.Maps
set_option linter.unusedVariables false

def bkV (a b : Int) : Value := .agg #[.int .i64 a, .int .u64 b]
theorem eqlB (a b c d : Int) (w : World) : (binOp .eql 80 (.agg #[.int .i64 a, .int .u64 b]) (.agg #[.int .i64 c, .int .u64 d])).run Try.prog w = .ok (.bool (a == c && b == d)) w := by
  have u3 := Try.underlying3
  have a3 := Try.isAgg3
  have z3 := Try.sizeOf3
  have u2 := Try.underlying22
  have a2 := Try.isAgg22
  have z2 := Try.sizeOf22
  have hS : Try.prog.underlying 80 = some (.struct (Try.prog.fieldsOf 80)) := by kernel_rfl
  have hp : Try.prog.stoodInHeld 80 = false := by kernel_rfl
  rw [run_eql_struct, show (10000 : Nat) = 9999 + 1 from rfl, run_equalIn_agg w 9999 80 _ _ hS hp]
  simp only [Program.fieldsOf, Try.underlying80]
  go_simp
  by_cases h1 : a = c <;> by_cases h2 : b = d <;> simp [h1, h2]
theorem neqB (a b c d : Int) (w : World) : (binOp .neq 80 (.agg #[.int .i64 a, .int .u64 b]) (.agg #[.int .i64 c, .int .u64 d])).run Try.prog w = .ok (.bool (!(a == c && b == d))) w := by
  have u3 := Try.underlying3
  have a3 := Try.isAgg3
  have z3 := Try.sizeOf3
  have u2 := Try.underlying22
  have a2 := Try.isAgg22
  have z2 := Try.sizeOf22
  have hS : Try.prog.underlying 80 = some (.struct (Try.prog.fieldsOf 80)) := by kernel_rfl
  have hp : Try.prog.stoodInHeld 80 = false := by kernel_rfl
  rw [run_neq_struct, show (10000 : Nat) = 9999 + 1 from rfl, run_equalIn_agg w 9999 80 _ _ hS hp]
  simp only [Program.fieldsOf, Try.underlying80]
  go_simp
  by_cases h1 : a = c <;> by_cases h2 : b = d <;> simp [h1, h2]
theorem guardB (op : BinOp) (x y : Operand) (xs ys : Array Value) (w : World) : (eqGuard op 80 x y (.agg xs) (.agg ys)).run Try.prog w = .ok () w := run_eqGuard_agg w op _ x y xs ys (by kernel_rfl)
def eqL (P Q : List (Int × Int)) : Bool := decide (P = Q)
theorem eqL_len {P Q : List (Int × Int)} (h : P.length ≠ Q.length) : eqL P Q = false := by
  unfold eqL
  rw [decide_eq_false_iff_not]
  intro e
  exact h (by rw [e])
theorem eqL_at {P Q : List (Int × Int)} {k : Nat} {p q : Int × Int} (hp : P[k]? = some p) (hq : Q[k]? = some q) (h : p ≠ q) : eqL P Q = false := by
  unfold eqL
  rw [decide_eq_false_iff_not]
  intro e
  rw [e, hq] at hp
  exact h (by simpa using hp.symm)
theorem take_both {P Q : List (Int × Int)} {k : Nat} {p : Int × Int} (hp : P[k]? = some p) (hq : Q[k]? = some p) (h : P.take k = Q.take k) : P.take (k + 1) = Q.take (k + 1) := by
  rw [take_snoc P k p hp, take_snoc Q k p hq, h]
def EqRel (P Q : List (Int × Int)) (w : World) (i : Value) (wr : World) : Prop := ∃ k : Nat, k ≤ P.length ∧ i = .int .i64 k ∧ P.take k = Q.take k ∧ ∃ q, wr = w.drewN q


set_option maxHeartbeats 1000000 in
set_option maxRecDepth 100000 in
theorem same_any (A B : Option Addr) (c d : Nat) (P Q : List (Int × Int)) (w : World) (hP : Bk w A P) (hQ : Bk w B Q) :
    Calls Try.prog 50 #[.slice A P.length c, .slice B Q.length d] w fun e w' => e = .returned (.bool (eqL P Q)) ∧ ∃ q, w' = w.drewN q := by
  have hl1 := hP.1
  have hl2 := hQ.1
  have HP := Lib.hid hP
  have HQ := Lib.hid hQ
  clear hP hQ
  by_cases hlen : P.length = Q.length
  · have t0 : ((P.length : Int) != (Q.length : Int)) = false := by simp; omega
    have HL := Lib.hid hlen
    clear hlen
    have hgd := guardB
    go_enter Try.func50, Try.ntmps50
    go_wp2_with fail
    go_loopw [5] (fun i wr => EqRel P Q w i wr) (fun i _ => P.length - (intOf i).toNat)
    case atStart => exact ⟨0, by omega, rfl, rfl, 0, rfl⟩
    case round =>
      obtain ⟨k, hk, rfl, ht, nd, rfl⟩ := hrel
      have HT := Lib.hid ht
      clear ht
      by_cases hlt : k < P.length
      · obtain ⟨b1, o1, rfl, h1⟩ := HP.out.some_ (by omega)
        obtain ⟨b2, o2, rfl, h2⟩ := HQ.out.some_ (by have := HL.out; omega)
        obtain ⟨p, hp⟩ := getElem?_lt hlt
        obtain ⟨q, hq⟩ := getElem?_lt (l := Q) (k := k) (by have := HL.out; omega)
        obtain ⟨p1, p2⟩ := h1 k p hp
        obtain ⟨q1, q2⟩ := h2 k q hq
        have hki : (k : Int) < (P.length : Int) := by omega
        have hkj : (k : Int) < (Q.length : Int) := by have := HL.out; omega
        obtain ⟨pi, pc⟩ := p
        obtain ⟨qi, qc⟩ := q
        simp only at p1 p2 q1 q2
        have hne := neqB pi pc qi qc
        by_cases he : pi = qi ∧ pc = qc
        · obtain ⟨rfl, rfl⟩ := he
          simp only [beq_self_eq_true, Bool.and_self, Bool.not_true] at hne
          have HN := Lib.hid (take_both hp hq HT.out)
          clear h1 h2 hp hq
          go_wp2_with fail
          go_quiet (fail)
          go_wp2_with fail
          go_roundw
          case rel => exact ⟨k + 1, by omega, by go_num, HN.out, _, rfl⟩
          case measure => simp [intOf]; omega
        · have hx : (!(pi == qi && pc == qc)) = true := by
            by_cases h : pi = qi
            · have : ¬ pc = qc := fun e => he ⟨h, e⟩
              simp [h, this]
            · simp [h]
          rw [hx] at hne
          have HN := Lib.hid (eqL_at hp hq (fun e => he (by simpa using e)))
          clear h1 h2 hp hq hx he
          go_wp2_with fail
          go_quiet (fail)
          go_wp2_with fail
          go_ret
          exact ⟨ret_bool HN.out.symm, _, by rw [World.drewN_drewN]⟩
      · obtain rfl : k = P.length := by omega
        have hki : ¬ ((P.length : Int) < (P.length : Int)) := by omega
        have HN := Lib.hid (show true = eqL P Q by
          have h1 := HT.out
          rw [List.take_length, HL.out, List.take_length] at h1
          unfold eqL
          simp [h1])
        go_wp2_with fail
        go_ret
        exact ⟨ret_bool HN.out, _, rfl⟩
  · have t0 : ((P.length : Int) != (Q.length : Int)) = true := by simp; omega
    have HN := Lib.hid (eqL_len hlen)
    clear hlen
    go_enter Try.func50, Try.ntmps50
    go_wp2_with fail
    go_ret
    exact ⟨ret_bool HN.out.symm, 0, rfl⟩

def sameF (k s z zc ct sm k' s' z' zc' ct' sm' : Int) (P Q P' Q' : List (Int × Int)) : Bool := decide (k = k' ∧ s = s' ∧ z = z' ∧ zc = zc' ∧ ct = ct' ∧ sm = sm') && (eqL P P' && eqL Q Q')
theorem sameF_no {k s z zc ct sm k' s' z' zc' ct' sm' : Int} {P Q P' Q' : List (Int × Int)} (h : ¬ (k = k' ∧ s = s' ∧ z = z' ∧ zc = zc' ∧ ct = ct' ∧ sm = sm')) : sameF k s z zc ct sm k' s' z' zc' ct' sm' P Q P' Q' = false := by
  unfold sameF; rw [decide_eq_false h]; rfl
theorem sameF_yes {k s z zc ct sm k' s' z' zc' ct' sm' : Int} {P Q P' Q' : List (Int × Int)} (h : k = k' ∧ s = s' ∧ z = z' ∧ zc = zc' ∧ ct = ct' ∧ sm = sm') : sameF k s z zc ct sm k' s' z' zc' ct' sm' P Q P' Q' = (eqL P P' && eqL Q Q') := by
  unfold sameF; rw [decide_eq_true h]; rfl
theorem Bk.drewN {w : World} {A : Option Addr} {l : List (Int × Int)} (h : Bk w A l) (n : Nat) : Bk (w.drewN n) A l := h


set_option maxHeartbeats 2000000 in
set_option maxRecDepth 100000 in
theorem rsame_any (k s z zc ct sm k' s' z' zc' ct' sm' : Int) (A B A' B' : Option Addr) (c d c' d' : Nat) (P Q P' Q' : List (Int × Int)) (w : World) (hP : Bk w A P) (hQ : Bk w B Q) (hP' : Bk w A' P') (hQ' : Bk w B' Q') :
    Calls Try.prog 16 #[.agg #[.int .i64 k, .int .i64 s, .int .i64 z, .int .u64 zc, .int .u64 ct, .int .i64 sm, .slice A P.length c, .slice B Q.length d], .agg #[.int .i64 k', .int .i64 s', .int .i64 z', .int .u64 zc', .int .u64 ct', .int .i64 sm', .slice A' P'.length c', .slice B' Q'.length d']] w fun e w' => e = .returned (.bool (sameF k s z zc ct sm k' s' z' zc' ct' sm' P Q P' Q')) ∧ Below w.heap.size w w' := by
  have hb0 : Below w.heap.size w ((w.alloc (.cells #[.int .i64 k, .int .i64 s, .int .i64 z, .int .u64 zc, .int .u64 ct, .int .i64 sm, .slice A P.length c, .slice B Q.length d] 25)).alloc (.cells #[.int .i64 k', .int .i64 s', .int .i64 z', .int .u64 zc', .int .u64 ct', .int .i64 sm', .slice A' P'.length c', .slice B' Q'.length d'] 25)) := ((Below.refl _ _).alloc (Nat.le_refl _) _).alloc (by simp) _
  have HP := Lib.hid (hP.below hb0)
  have HQ := Lib.hid (hQ.below hb0)
  have HP' := Lib.hid (hP'.below hb0)
  have HQ' := Lib.hid (hQ'.below hb0)
  have HB0 := Lib.hid hb0
  clear hP hQ hP' hQ' hb0
  by_cases h0 : k = k'
  case neg =>
    have t0 : (k == k') = false := by simpa using h0
    have HE := Lib.hid (sameF_no (P := P) (Q := Q) (P' := P') (Q' := Q') (show ¬ (k = k' ∧ s = s' ∧ z = z' ∧ zc = zc' ∧ ct = ct' ∧ sm = sm') from fun ⟨e, _⟩ => h0 e))
    clear h0
    go_enter Try.func16, Try.ntmps16
    go_wp2_with fail
    go_ret
    exact ⟨ret_bool HE.out.symm, HB0.out⟩
  by_cases h1 : s = s'
  case neg =>
    have t0 : (k == k') = true := by simpa using h0
    have t1 : (s == s') = false := by simpa using h1
    have HE := Lib.hid (sameF_no (P := P) (Q := Q) (P' := P') (Q' := Q') (show ¬ (k = k' ∧ s = s' ∧ z = z' ∧ zc = zc' ∧ ct = ct' ∧ sm = sm') from fun ⟨_, e, _⟩ => h1 e))
    clear h0 h1
    go_enter Try.func16, Try.ntmps16
    go_wp2_with fail
    go_ret
    exact ⟨ret_bool HE.out.symm, HB0.out⟩
  by_cases h2 : z = z'
  case neg =>
    have t0 : (k == k') = true := by simpa using h0
    have t1 : (s == s') = true := by simpa using h1
    have t2 : (z == z') = false := by simpa using h2
    have HE := Lib.hid (sameF_no (P := P) (Q := Q) (P' := P') (Q' := Q') (show ¬ (k = k' ∧ s = s' ∧ z = z' ∧ zc = zc' ∧ ct = ct' ∧ sm = sm') from fun ⟨_, _, e, _⟩ => h2 e))
    clear h0 h1 h2
    go_enter Try.func16, Try.ntmps16
    go_wp2_with fail
    go_ret
    exact ⟨ret_bool HE.out.symm, HB0.out⟩
  by_cases h3 : zc = zc'
  case neg =>
    have t0 : (k == k') = true := by simpa using h0
    have t1 : (s == s') = true := by simpa using h1
    have t2 : (z == z') = true := by simpa using h2
    have t3 : (zc == zc') = false := by simpa using h3
    have HE := Lib.hid (sameF_no (P := P) (Q := Q) (P' := P') (Q' := Q') (show ¬ (k = k' ∧ s = s' ∧ z = z' ∧ zc = zc' ∧ ct = ct' ∧ sm = sm') from fun ⟨_, _, _, e, _⟩ => h3 e))
    clear h0 h1 h2 h3
    go_enter Try.func16, Try.ntmps16
    go_wp2_with fail
    go_ret
    exact ⟨ret_bool HE.out.symm, HB0.out⟩
  by_cases h4 : ct = ct'
  case neg =>
    have t0 : (k == k') = true := by simpa using h0
    have t1 : (s == s') = true := by simpa using h1
    have t2 : (z == z') = true := by simpa using h2
    have t3 : (zc == zc') = true := by simpa using h3
    have t4 : (ct == ct') = false := by simpa using h4
    have HE := Lib.hid (sameF_no (P := P) (Q := Q) (P' := P') (Q' := Q') (show ¬ (k = k' ∧ s = s' ∧ z = z' ∧ zc = zc' ∧ ct = ct' ∧ sm = sm') from fun ⟨_, _, _, _, e, _⟩ => h4 e))
    clear h0 h1 h2 h3 h4
    go_enter Try.func16, Try.ntmps16
    go_wp2_with fail
    go_ret
    exact ⟨ret_bool HE.out.symm, HB0.out⟩
  by_cases h5 : sm = sm'
  case neg =>
    have t0 : (k == k') = true := by simpa using h0
    have t1 : (s == s') = true := by simpa using h1
    have t2 : (z == z') = true := by simpa using h2
    have t3 : (zc == zc') = true := by simpa using h3
    have t4 : (ct == ct') = true := by simpa using h4
    have t5 : (sm == sm') = false := by simpa using h5
    have HE := Lib.hid (sameF_no (P := P) (Q := Q) (P' := P') (Q' := Q') (show ¬ (k = k' ∧ s = s' ∧ z = z' ∧ zc = zc' ∧ ct = ct' ∧ sm = sm') from fun ⟨_, _, _, _, _, e⟩ => h5 e))
    clear h0 h1 h2 h3 h4 h5
    go_enter Try.func16, Try.ntmps16
    go_wp2_with fail
    go_ret
    exact ⟨ret_bool HE.out.symm, HB0.out⟩
  have t0 : (k == k') = true := by simpa using h0
  have t1 : (s == s') = true := by simpa using h1
  have t2 : (z == z') = true := by simpa using h2
  have t3 : (zc == zc') = true := by simpa using h3
  have t4 : (ct == ct') = true := by simpa using h4
  have t5 : (sm == sm') = true := by simpa using h5
  have HE := Lib.hid (sameF_yes (P := P) (Q := Q) (P' := P') (Q' := Q') (show k = k' ∧ s = s' ∧ z = z' ∧ zc = zc' ∧ ct = ct' ∧ sm = sm' from ⟨h0, h1, h2, h3, h4, h5⟩))
  clear h0 h1 h2 h3 h4 h5
  cases hA : eqL P P'
  · have HX := Lib.hid (show false = (eqL P P' && eqL Q Q') by rw [hA]; rfl)
    go_enter Try.func16, Try.ntmps16
    go_wp2_with fail
    refine (same_any _ _ _ _ _ _ _ HP.out HP'.out).mono ?_
    rintro e w1 ⟨rfl, q, rfl⟩
    go_wp2_with fail
    go_ret
    exact ⟨ret_bool (HX.out.trans HE.out.symm), below_drewN HB0.out _⟩
  · have HX := Lib.hid (show eqL Q Q' = (eqL P P' && eqL Q Q') by rw [hA]; rfl)
    go_enter Try.func16, Try.ntmps16
    go_wp2_with fail
    refine (same_any _ _ _ _ _ _ _ HP.out HP'.out).mono ?_
    rintro e w1 ⟨rfl, q, rfl⟩
    go_wp2_with fail
    refine (same_any _ _ _ _ _ _ _ (HQ.out.drewN q) (HQ'.out.drewN q)).mono ?_
    rintro e w1 ⟨rfl, q', rfl⟩
    go_wp2_with fail
    go_ret
    exact ⟨ret_bool (HX.out.trans HE.out.symm), by (repeat apply below_drewN); exact HB0.out⟩
end Go.Proofs.Ytbibhjcmdehdbaa
