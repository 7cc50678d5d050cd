import Derived.Test.YtakomfnajeolcaaGreatDoorCtA24
set_option linter.unusedVariables false
/- Equal lists of buckets: the library's slices.Equal and the document's own; histograms that are one. -/
namespace Go.Proofs.YtakomfnajeolcaaGreatDoor
open Go.RowKit Go.Sort Go.Maps
set_option linter.unusedVariables false

theorem neqB (a b c d : Int) (w : World) : (binOp .neq 86 (.agg #[.int .i64 a, .int .u64 b]) (.agg #[.int .i64 c, .int .u64 d])).run Tryz.prog w = .ok (.bool (!(a == c && b == d))) w := by
  have u3 := Tryz.underlying3
  have a3 := Tryz.isAgg3
  have z3 := Tryz.sizeOf3
  have u2 := Tryz.underlying36
  have a2 := Tryz.isAgg36
  have z2 := Tryz.sizeOf36
  have hS : Tryz.prog.underlying 86 = some (.struct (Tryz.prog.fieldsOf 86)) := by kernel_rfl
  have hp : Tryz.prog.stoodInHeld 86 = false := by kernel_rfl
  rw [run_neq_struct, show (10000 : Nat) = 9999 + 1 from rfl, run_equalIn_agg w 9999 86 _ _ hS hp]
  simp only [Program.fieldsOf, Tryz.underlying86]
  go_simp
  by_cases h1 : a = c <;> by_cases h2 : b = d <;> simp [h1, h2]
theorem guardB (op : BinOp) (x y : Operand) (xs ys : Array Value) (w : World) : (eqGuard op 86 x y (.agg xs) (.agg ys)).run Tryz.prog w = .ok () w := run_eqGuard_agg w op _ x y xs ys (by kernel_rfl)
def eqL (P Q : List (Int × Int)) : Bool := decide (P = Q)
theorem eqL_len {P Q : List (Int × Int)} (h : P.length ≠ Q.length) : eqL P Q = false := by
  unfold eqL
  rw [decide_eq_false_iff_not]
  intro e
  exact h (by rw [e])
theorem eqL_at {P Q : List (Int × Int)} {k : Nat} {p q : Int × Int} (hp : P[k]? = some p) (hq : Q[k]? = some q) (h : p ≠ q) : eqL P Q = false := by
  unfold eqL
  rw [decide_eq_false_iff_not]
  intro e
  rw [e, hq] at hp
  exact h (by simpa using hp.symm)
theorem take_both {P Q : List (Int × Int)} {k : Nat} {p : Int × Int} (hp : P[k]? = some p) (hq : Q[k]? = some p) (h : P.take k = Q.take k) : P.take (k + 1) = Q.take (k + 1) := by
  rw [take_snoc P k p hp, take_snoc Q k p hq, h]
def EqRel (P Q : List (Int × Int)) (w : World) (i : Value) (wr : World) : Prop := ∃ k : Nat, k ≤ P.length ∧ i = .int .i64 k ∧ P.take k = Q.take k ∧ ∃ q, wr = w.drewN q

set_option maxHeartbeats 1000000 in
set_option maxRecDepth 100000 in
theorem same_any (A B : Option Addr) (c d : Nat) (P Q : List (Int × Int)) (w : World) (hP : Bk w A P) (hQ : Bk w B Q) :
    Calls Tryz.prog 73 #[.slice A P.length c, .slice B Q.length d] w fun e w' => e = .returned (.bool (eqL P Q)) ∧ ∃ q, w' = w.drewN q := by
  have hl1 := hP.1
  have hl2 := hQ.1
  have HP := Lib.hid hP
  have HQ := Lib.hid hQ
  clear hP hQ
  by_cases hlen : P.length = Q.length
  · have t0 : ((P.length : Int) != (Q.length : Int)) = false := by simp; omega
    have HL := Lib.hid hlen
    clear hlen
    have hgd := guardB
    go_enter Tryz.func73, Tryz.ntmps73
    go_wp2_with fail
    go_loopw [5] (fun i wr => EqRel P Q w i wr) (fun i _ => P.length - (intOf i).toNat)
    case atStart => exact ⟨0, by omega, rfl, rfl, 0, rfl⟩
    case round =>
      obtain ⟨k, hk, rfl, ht, nd, rfl⟩ := hrel
      have HT := Lib.hid ht
      clear ht
      by_cases hlt : k < P.length
      · obtain ⟨b1, o1, rfl, h1⟩ := HP.out.some_ (by omega)
        obtain ⟨b2, o2, rfl, h2⟩ := HQ.out.some_ (by have := HL.out; omega)
        obtain ⟨p, hp⟩ := getElem?_lt hlt
        obtain ⟨q, hq⟩ := getElem?_lt (l := Q) (k := k) (by have := HL.out; omega)
        obtain ⟨p1, p2⟩ := h1 k p hp
        obtain ⟨q1, q2⟩ := h2 k q hq
        have hki : (k : Int) < (P.length : Int) := by omega
        have hkj : (k : Int) < (Q.length : Int) := by have := HL.out; omega
        obtain ⟨pi, pc⟩ := p
        obtain ⟨qi, qc⟩ := q
        simp only at p1 p2 q1 q2
        have hne := neqB pi pc qi qc
        by_cases he : pi = qi ∧ pc = qc
        · obtain ⟨rfl, rfl⟩ := he
          simp only [beq_self_eq_true, Bool.and_self, Bool.not_true] at hne
          have HN := Lib.hid (take_both hp hq HT.out)
          clear h1 h2 hp hq
          go_wp2_with fail
          go_quiet (fail)
          go_wp2_with fail
          go_roundw
          case rel => exact ⟨k + 1, by omega, by go_num, HN.out, _, rfl⟩
          case measure => simp [intOf]; omega
        · have hx : (!(pi == qi && pc == qc)) = true := by
            by_cases h : pi = qi
            · have : ¬ pc = qc := fun e => he ⟨h, e⟩
              simp [h, this]
            · simp [h]
          rw [hx] at hne
          have HN := Lib.hid (eqL_at hp hq (fun e => he (by simpa using e)))
          clear h1 h2 hp hq hx he
          go_wp2_with fail
          go_quiet (fail)
          go_wp2_with fail
          go_ret
          exact ⟨ret_bool HN.out.symm, _, by rw [World.drewN_drewN]⟩
      · obtain rfl : k = P.length := by omega
        have hki : ¬ ((P.length : Int) < (P.length : Int)) := by omega
        have HN := Lib.hid (show true = eqL P Q by
          have h1 := HT.out
          rw [List.take_length, HL.out, List.take_length] at h1
          unfold eqL
          simp [h1])
        go_wp2_with fail
        go_ret
        exact ⟨ret_bool HN.out, _, rfl⟩
  · have t0 : ((P.length : Int) != (Q.length : Int)) = true := by simp; omega
    have HN := Lib.hid (eqL_len hlen)
    clear hlen
    go_enter Tryz.func73, Tryz.ntmps73
    go_wp2_with fail
    go_ret
    exact ⟨ret_bool HN.out.symm, 0, rfl⟩

def sameF (k s z zc ct sm k' s' z' zc' ct' sm' : Int) (P Q P' Q' : List (Int × Int)) : Bool := decide (k = k' ∧ s = s' ∧ z = z' ∧ zc = zc' ∧ ct = ct' ∧ sm = sm') && (eqL P P' && eqL Q Q')
theorem sameF_no {k s z zc ct sm k' s' z' zc' ct' sm' : Int} {P Q P' Q' : List (Int × Int)} (h : ¬ (k = k' ∧ s = s' ∧ z = z' ∧ zc = zc' ∧ ct = ct' ∧ sm = sm')) : sameF k s z zc ct sm k' s' z' zc' ct' sm' P Q P' Q' = false := by
  unfold sameF; rw [decide_eq_false h]; rfl
theorem sameF_yes {k s z zc ct sm k' s' z' zc' ct' sm' : Int} {P Q P' Q' : List (Int × Int)} (h : k = k' ∧ s = s' ∧ z = z' ∧ zc = zc' ∧ ct = ct' ∧ sm = sm') : sameF k s z zc ct sm k' s' z' zc' ct' sm' P Q P' Q' = (eqL P P' && eqL Q Q') := by
  unfold sameF; rw [decide_eq_true h]; rfl
theorem Bk.drewN {w : World} {A : Option Addr} {l : List (Int × Int)} (h : Bk w A l) (n : Nat) : Bk (w.drewN n) A l := h

set_option maxHeartbeats 2000000 in
set_option maxRecDepth 100000 in
theorem rsame_any (k s z zc ct sm k' s' z' zc' ct' sm' : Int) (A B A' B' : Option Addr) (c d c' d' : Nat) (P Q P' Q' : List (Int × Int)) (w : World) (hP : Bk w A P) (hQ : Bk w B Q) (hP' : Bk w A' P') (hQ' : Bk w B' Q') :
    Calls Tryz.prog 40 #[.agg #[.int .i64 k, .int .i64 s, .int .i64 z, .int .u64 zc, .int .u64 ct, .int .i64 sm, .slice A P.length c, .slice B Q.length d], .agg #[.int .i64 k', .int .i64 s', .int .i64 z', .int .u64 zc', .int .u64 ct', .int .i64 sm', .slice A' P'.length c', .slice B' Q'.length d']] w fun e w' => e = .returned (.bool (sameF k s z zc ct sm k' s' z' zc' ct' sm' P Q P' Q')) ∧ Below w.heap.size w w' := by
  have hb0 : Below w.heap.size w ((w.alloc (.cells #[.int .i64 k, .int .i64 s, .int .i64 z, .int .u64 zc, .int .u64 ct, .int .i64 sm, .slice A P.length c, .slice B Q.length d] 39)).alloc (.cells #[.int .i64 k', .int .i64 s', .int .i64 z', .int .u64 zc', .int .u64 ct', .int .i64 sm', .slice A' P'.length c', .slice B' Q'.length d'] 39)) := ((Below.refl _ _).alloc (Nat.le_refl _) _).alloc (by simp) _
  have HP := Lib.hid (hP.below hb0)
  have HQ := Lib.hid (hQ.below hb0)
  have HP' := Lib.hid (hP'.below hb0)
  have HQ' := Lib.hid (hQ'.below hb0)
  have HB0 := Lib.hid hb0
  clear hP hQ hP' hQ' hb0
  by_cases h0 : k = k'
  case neg =>
    have t0 : (k == k') = false := by simpa using h0
    have HE := Lib.hid (sameF_no (P := P) (Q := Q) (P' := P') (Q' := Q') (show ¬ (k = k' ∧ s = s' ∧ z = z' ∧ zc = zc' ∧ ct = ct' ∧ sm = sm') from fun ⟨e, _⟩ => h0 e))
    clear h0
    go_enter Tryz.func40, Tryz.ntmps40
    go_wp2_with fail
    go_ret
    exact ⟨ret_bool HE.out.symm, HB0.out⟩
  by_cases h1 : s = s'
  case neg =>
    have t0 : (k == k') = true := by simpa using h0
    have t1 : (s == s') = false := by simpa using h1
    have HE := Lib.hid (sameF_no (P := P) (Q := Q) (P' := P') (Q' := Q') (show ¬ (k = k' ∧ s = s' ∧ z = z' ∧ zc = zc' ∧ ct = ct' ∧ sm = sm') from fun ⟨_, e, _⟩ => h1 e))
    clear h0 h1
    go_enter Tryz.func40, Tryz.ntmps40
    go_wp2_with fail
    go_ret
    exact ⟨ret_bool HE.out.symm, HB0.out⟩
  by_cases h2 : z = z'
  case neg =>
    have t0 : (k == k') = true := by simpa using h0
    have t1 : (s == s') = true := by simpa using h1
    have t2 : (z == z') = false := by simpa using h2
    have HE := Lib.hid (sameF_no (P := P) (Q := Q) (P' := P') (Q' := Q') (show ¬ (k = k' ∧ s = s' ∧ z = z' ∧ zc = zc' ∧ ct = ct' ∧ sm = sm') from fun ⟨_, _, e, _⟩ => h2 e))
    clear h0 h1 h2
    go_enter Tryz.func40, Tryz.ntmps40
    go_wp2_with fail
    go_ret
    exact ⟨ret_bool HE.out.symm, HB0.out⟩
  by_cases h3 : zc = zc'
  case neg =>
    have t0 : (k == k') = true := by simpa using h0
    have t1 : (s == s') = true := by simpa using h1
    have t2 : (z == z') = true := by simpa using h2
    have t3 : (zc == zc') = false := by simpa using h3
    have HE := Lib.hid (sameF_no (P := P) (Q := Q) (P' := P') (Q' := Q') (show ¬ (k = k' ∧ s = s' ∧ z = z' ∧ zc = zc' ∧ ct = ct' ∧ sm = sm') from fun ⟨_, _, _, e, _⟩ => h3 e))
    clear h0 h1 h2 h3
    go_enter Tryz.func40, Tryz.ntmps40
    go_wp2_with fail
    go_ret
    exact ⟨ret_bool HE.out.symm, HB0.out⟩
  by_cases h4 : ct = ct'
  case neg =>
    have t0 : (k == k') = true := by simpa using h0
    have t1 : (s == s') = true := by simpa using h1
    have t2 : (z == z') = true := by simpa using h2
    have t3 : (zc == zc') = true := by simpa using h3
    have t4 : (ct == ct') = false := by simpa using h4
    have HE := Lib.hid (sameF_no (P := P) (Q := Q) (P' := P') (Q' := Q') (show ¬ (k = k' ∧ s = s' ∧ z = z' ∧ zc = zc' ∧ ct = ct' ∧ sm = sm') from fun ⟨_, _, _, _, e, _⟩ => h4 e))
    clear h0 h1 h2 h3 h4
    go_enter Tryz.func40, Tryz.ntmps40
    go_wp2_with fail
    go_ret
    exact ⟨ret_bool HE.out.symm, HB0.out⟩
  by_cases h5 : sm = sm'
  case neg =>
    have t0 : (k == k') = true := by simpa using h0
    have t1 : (s == s') = true := by simpa using h1
    have t2 : (z == z') = true := by simpa using h2
    have t3 : (zc == zc') = true := by simpa using h3
    have t4 : (ct == ct') = true := by simpa using h4
    have t5 : (sm == sm') = false := by simpa using h5
    have HE := Lib.hid (sameF_no (P := P) (Q := Q) (P' := P') (Q' := Q') (show ¬ (k = k' ∧ s = s' ∧ z = z' ∧ zc = zc' ∧ ct = ct' ∧ sm = sm') from fun ⟨_, _, _, _, _, e⟩ => h5 e))
    clear h0 h1 h2 h3 h4 h5
    go_enter Tryz.func40, Tryz.ntmps40
    go_wp2_with fail
    go_ret
    exact ⟨ret_bool HE.out.symm, HB0.out⟩
  have t0 : (k == k') = true := by simpa using h0
  have t1 : (s == s') = true := by simpa using h1
  have t2 : (z == z') = true := by simpa using h2
  have t3 : (zc == zc') = true := by simpa using h3
  have t4 : (ct == ct') = true := by simpa using h4
  have t5 : (sm == sm') = true := by simpa using h5
  have HE := Lib.hid (sameF_yes (P := P) (Q := Q) (P' := P') (Q' := Q') (show k = k' ∧ s = s' ∧ z = z' ∧ zc = zc' ∧ ct = ct' ∧ sm = sm' from ⟨h0, h1, h2, h3, h4, h5⟩))
  clear h0 h1 h2 h3 h4 h5
  cases hA : eqL P P'
  · have HX := Lib.hid (show false = (eqL P P' && eqL Q Q') by rw [hA]; rfl)
    go_enter Tryz.func40, Tryz.ntmps40
    go_wp2_with fail
    refine (same_any _ _ _ _ _ _ _ HP.out HP'.out).mono ?_
    rintro e w1 ⟨rfl, q, rfl⟩
    go_wp2_with fail
    go_ret
    exact ⟨ret_bool (HX.out.trans HE.out.symm), below_drewN HB0.out _⟩
  · have HX := Lib.hid (show eqL Q Q' = (eqL P P' && eqL Q Q') by rw [hA]; rfl)
    go_enter Tryz.func40, Tryz.ntmps40
    go_wp2_with fail
    refine (same_any _ _ _ _ _ _ _ HP.out HP'.out).mono ?_
    rintro e w1 ⟨rfl, q, rfl⟩
    go_wp2_with fail
    refine (same_any _ _ _ _ _ _ _ (HQ.out.drewN q) (HQ'.out.drewN q)).mono ?_
    rintro e w1 ⟨rfl, q', rfl⟩
    go_wp2_with fail
    go_ret
    exact ⟨ret_bool (HX.out.trans HE.out.symm), by (repeat apply below_drewN); exact HB0.out⟩
end Go.Proofs.YtakomfnajeolcaaGreatDoor


/- What Make answers, as a relation. -/
/-! Rising lists are one by what they hold. -/
namespace Go.Proofs.YtakomfnajeolcaaGreatDoor
open Go.RowKit Go.Sort Go.Maps
set_option linter.unusedVariables false

theorem side_unique {f g : F3} {sc s sc' s' : Int} {X Y : List (Int × Int)} (aX : Asc X) (aY : Asc Y) (hX : Side f sc s X) (hY : Side g sc' s' Y) (h : ∀ i, I64 i → f s sc i = g s' sc' i) : X = Y := by
  refine asc_unique aX aY fun ⟨i, n⟩ => ?_
  constructor
  · intro hm
    have hi := hX.2.1 _ hm
    rw [hY.2.2 i n hi, ← h i hi]
    exact (hX.2.2 i n hi).1 hm
  · intro hm
    have hi := hY.2.1 _ hm
    rw [hX.2.2 i n hi, h i hi]
    exact (hY.2.2 i n hi).1 hm
end Go.Proofs.YtakomfnajeolcaaGreatDoor

/-! What Make hands out, whatever it is; that it hangs on what the buckets have, index by index. -/
namespace Go.Proofs.YtakomfnajeolcaaGreatDoor
open Go.RowKit Go.Sort Go.Maps
set_option linter.unusedVariables false

/-- what is made: of no use (its fields all nought), or the histogram -/
def MkOut (k s z zc sm : Int) (P Q : List (Int × Int)) (k' s' z' zc' ct' sm' : Int) (X Y : List (Int × Int)) (E : Int) : Prop :=
  (E ≠ 0 ∧ (k' = 0 ∧ s' = 0 ∧ z' = 0 ∧ zc' = 0 ∧ ct' = 0 ∧ sm' = 0 ∧ X = [] ∧ Y = []) ∧ ((18446744073709551615 < zc + cnt (P ++ Q) ∧ E = 5) ∨ (zc + cnt (P ++ Q) ≤ 18446744073709551615 ∧ ∃ X0 Y0, Asc X0 ∧ Asc Y0 ∧ Side (gF s P Q) s 1 X0 ∧ Side (gF s P Q) s (-1) Y0 ∧ E = checkF k s z zc (zc + cnt (P ++ Q)) X0 Y0))) ∨
  (E = 0 ∧ zc + cnt (P ++ Q) ≤ 18446744073709551615 ∧ Asc X ∧ Asc Y ∧ Side (gF s P Q) s 1 X ∧ Side (gF s P Q) s (-1) Y ∧ checkF k s z zc (zc + cnt (P ++ Q)) X Y = 0 ∧ k' = k ∧ s' = s ∧ z' = z ∧ zc' = zc ∧ ct' = zc + cnt (P ++ Q) ∧ sm' = sm)
theorem MkOut.one {k s z zc sm : Int} {P Q P2 Q2 : List (Int × Int)} (hc : cnt (P ++ Q) = cnt (P2 ++ Q2)) (hf : ∀ a c i, gF s P Q a c i = gF s P2 Q2 a c i) {k1 s1 z1 zc1 ct1 sm1 : Int} {X1 Y1 : List (Int × Int)} {E1 : Int} {k2 s2 z2 zc2 ct2 sm2 : Int} {X2 Y2 : List (Int × Int)} {E2 : Int}
    (h1 : MkOut k s z zc sm P Q k1 s1 z1 zc1 ct1 sm1 X1 Y1 E1) (h2 : MkOut k s z zc sm P2 Q2 k2 s2 z2 zc2 ct2 sm2 X2 Y2 E2) : E2 = E1 ∧ k2 = k1 ∧ s2 = s1 ∧ z2 = z1 ∧ zc2 = zc1 ∧ ct2 = ct1 ∧ sm2 = sm1 ∧ X2 = X1 ∧ Y2 = Y1 := by
  unfold MkOut at h1 h2
  rw [← hc] at h2
  have un : ∀ {Xa Ya Xb Yb : List (Int × Int)}, Asc Xa → Asc Ya → Side (gF s P Q) s 1 Xa → Side (gF s P Q) s (-1) Ya → Asc Xb → Asc Yb → Side (gF s P2 Q2) s 1 Xb → Side (gF s P2 Q2) s (-1) Yb → Xb = Xa ∧ Yb = Ya := fun a1 a2 a3 a4 b1 b2 b3 b4 =>
    ⟨side_unique b1 a1 b3 a3 (fun i _ => (hf _ _ i).symm), side_unique b2 a2 b4 a4 (fun i _ => (hf _ _ i).symm)⟩
  rcases h1 with ⟨n1, z1', c1⟩ | ⟨n1, l1, a1, a2, a3, a4, c1, f1⟩
  · rcases h2 with ⟨n2, z2', c2⟩ | ⟨n2, l2, b1, b2, b3, b4, c2, f2⟩
    · obtain ⟨rfl, rfl, rfl, rfl, rfl, rfl, rfl, rfl⟩ := z1'
      obtain ⟨rfl, rfl, rfl, rfl, rfl, rfl, rfl, rfl⟩ := z2'
      refine ⟨?_, rfl, rfl, rfl, rfl, rfl, rfl, rfl, rfl⟩
      rcases c1 with ⟨c1, e1⟩ | ⟨c1, Xa, Ya, a1, a2, a3, a4, e1⟩
      · rcases c2 with ⟨c2, e2⟩ | ⟨c2, _⟩
        · rw [e1, e2]
        · omega
      · rcases c2 with ⟨c2, e2⟩ | ⟨c2, Xb, Yb, b1, b2, b3, b4, e2⟩
        · omega
        · obtain ⟨rfl, rfl⟩ := un a1 a2 a3 a4 b1 b2 b3 b4
          rw [e1, e2]
    · exfalso
      rcases c1 with ⟨c1, e1⟩ | ⟨c1, Xa, Ya, a1, a2, a3, a4, e1⟩
      · omega
      · obtain ⟨rfl, rfl⟩ := un a1 a2 a3 a4 b1 b2 b3 b4
        rw [c2] at e1
        exact n1 e1
  · rcases h2 with ⟨n2, z2', c2⟩ | ⟨n2, l2, b1, b2, b3, b4, c2, f2⟩
    · exfalso
      rcases c2 with ⟨c2, e2⟩ | ⟨c2, Xb, Yb, b1, b2, b3, b4, e2⟩
      · omega
      · obtain ⟨rfl, rfl⟩ := un a1 a2 a3 a4 b1 b2 b3 b4
        rw [c1] at e2
        exact n2 e2
    · obtain ⟨rfl, rfl⟩ := un a1 a2 a3 a4 b1 b2 b3 b4
      obtain ⟨rfl, rfl, rfl, rfl, rfl, rfl⟩ := f1
      obtain ⟨rfl, rfl, rfl, rfl, rfl, rfl⟩ := f2
      exact ⟨by rw [n1, n2], rfl, rfl, rfl, rfl, rfl, rfl, rfl, rfl⟩
end Go.Proofs.YtakomfnajeolcaaGreatDoor

/-! What Make answers, as a relation. -/
namespace Go.Proofs.YtakomfnajeolcaaGreatDoor
open Go.RowKit Go.Sort Go.Maps
set_option linter.unusedVariables false

def MakeRes (w : World) (k s z zc sm : Int) (P Q : List (Int × Int)) (e : Ending) (w' : World) : Prop :=
  ∃ (k' s' z' zc' ct' sm' : Int) (A C : Option Addr) (c d : Nat) (X Y : List (Int × Int)) (E : Int), e = .returned (.tuple #[.agg #[.int .i64 k', .int .i64 s', .int .i64 z', .int .u64 zc', .int .u64 ct', .int .i64 sm', .slice A X.length c, .slice C Y.length d], .int .i64 E]) ∧
    MkOut k s z zc sm P Q k' s' z' zc' ct' sm' X Y E ∧ Bk w' A X ∧ Bk w' C Y ∧ I64 s' ∧ (0 ≤ zc' ∧ zc' ≤ 18446744073709551615) ∧ (NewA w A ∧ NewA w C) ∧ Below w.heap.size w w'
theorem newA_none (w : World) : NewA w none := fun a h => by cases h
theorem make_res (k s z zc ct sm : Int) (A0 B0 A B : Option Addr) (n0 c0 m0 d0 c d : Nat) (P Q : List (Int × Int)) (w : World) (hs : I64 s) (z0 : 0 ≤ zc) (z1 : zc ≤ 18446744073709551615) (hP : Bk w A P) (hQ : Bk w B Q) (hlp : P.length ≤ 1100) (hlq : Q.length ≤ 1100) :
    Calls Tryz.prog 99 #[.agg #[.int .i64 k, .int .i64 s, .int .i64 z, .int .u64 zc, .int .u64 ct, .int .i64 sm, .slice A0 n0 c0, .slice B0 m0 d0], .slice A P.length c, .slice B Q.length d] w (MakeRes w k s z zc sm P Q) := by
  refine (make_any k s z zc ct sm A0 B0 A B n0 c0 m0 d0 c d P Q w hs z0 z1 hP hQ hlp hlq).mono ?_
  rintro e w' ⟨hb, h⟩
  rcases h with ⟨h, rfl⟩ | ⟨hc, A', C', c', d', X, Y, hX, hY, aX, aY, sX, sY, hl, nA, nC, h⟩
  · exact ⟨0, 0, 0, 0, 0, 0, none, none, 0, 0, [], [], 5, rfl, .inl ⟨by decide, ⟨rfl, rfl, rfl, rfl, rfl, rfl, rfl, rfl⟩, .inl ⟨h, rfl⟩⟩, Bk.nil _ _, Bk.nil _ _, ⟨by decide, by decide⟩, ⟨by decide, by decide⟩, ⟨newA_none _, newA_none _⟩, hb⟩
  · rcases h with ⟨h, rfl⟩ | ⟨h, rfl⟩
    · exact ⟨0, 0, 0, 0, 0, 0, none, none, 0, 0, [], [], _, rfl, .inl ⟨h, ⟨rfl, rfl, rfl, rfl, rfl, rfl, rfl, rfl⟩, .inr ⟨hc, X, Y, aX, aY, sX, sY, rfl⟩⟩, Bk.nil _ _, Bk.nil _ _, ⟨by decide, by decide⟩, ⟨by decide, by decide⟩, ⟨newA_none _, newA_none _⟩, hb⟩
    · exact ⟨k, s, z, zc, _, sm, A', C', c', d', X, Y, 0, rfl, .inr ⟨rfl, hc, aX, aY, sX, sY, h, rfl, rfl, rfl, rfl, rfl, rfl⟩, hX, hY, hs, ⟨z0, z1⟩, ⟨nA, nC⟩, hb⟩
end Go.Proofs.YtakomfnajeolcaaGreatDoor


/- Make by the plain model; swallow. -/
namespace Go.Proofs.YtakomfnajeolcaaGreatDoor
open Go.RowKit Go.Sort Go.Maps
set_option linter.unusedVariables false

@[reducible] def hvA (h : HV) (A B : Option Addr) (c d : Nat) : Value := .agg #[.int .i64 h.k, .int .i64 h.s, .int .i64 h.z, .int .u64 h.zc, .int .u64 h.ct, .int .i64 h.sm, .slice A h.P.length c, .slice B h.Q.length d]
/-- a histogram and an error are returned; memory grows -/
def RetH (w : World) (r : HV) (E : Int) (e : Ending) (w' : World) : Prop :=
  ∃ (A B : Option Addr) (c d : Nat), e = .returned (.tuple #[hvA r A B c d, .int .i64 E]) ∧ Bk w' A r.P ∧ Bk w' B r.Q ∧ Below w.heap.size w w' ∧ NewA w A ∧ NewA w B
def mkR (h : HV) (P Q : List (Int × Int)) : HV := { h with ct := h.zc + cnt P + cnt Q, P := tidy P, Q := tidy Q }
def mkE (h : HV) (P Q : List (Int × Int)) : Int := if 18446744073709551615 < h.zc + cnt P + cnt Q then 5 else chk (mkR h P Q)
def mkO (h : HV) (P Q : List (Int × Int)) : HV := if mkE h P Q = 0 then mkR h P Q else zeroV
theorem wb_nn {l : List (Int × Int)} (h : ∀ p ∈ l, Wb p) : Nn l := fun p hp => (h p hp).2.2.1
theorem side_tidyP {s : Int} {P Q X : List (Int × Int)} (hw : ∀ p ∈ P, Wb p) (a : Asc X) (h : Side (gF s P Q) s 1 X) : X = tidy P := by
  refine asc_unique a (tidy_asc P) fun p => ?_
  obtain ⟨i, n⟩ := p
  rw [pos_mem (tidy_asc P) (tidy_pos (wb_nn hw)), atI_tidy]
  have e : gF s P Q 1 s i = atI P i := by unfold gF; simp
  constructor
  · intro hx
    have h1 := (h.2.2 i n (h.2.1 _ hx)).1 hx
    rw [e] at h1
    exact h1
  · rintro ⟨h1, h2⟩
    obtain ⟨q, hq, hqi⟩ := at_mem (l := P) (i := i) (by omega)
    have hq1 := hw q hq
    exact (h.2.2 i n ⟨by rw [← hqi]; exact hq1.1, by rw [← hqi]; exact hq1.2.1⟩).2 ⟨by rw [e]; exact h1, h2⟩
theorem side_tidyQ {s : Int} {P Q X : List (Int × Int)} (hw : ∀ p ∈ Q, Wb p) (a : Asc X) (h : Side (gF s P Q) s (-1) X) : X = tidy Q := by
  refine asc_unique a (tidy_asc Q) fun p => ?_
  obtain ⟨i, n⟩ := p
  rw [pos_mem (tidy_asc Q) (tidy_pos (wb_nn hw)), atI_tidy]
  have e : gF s P Q (-1) s i = atI Q i := by unfold gF; simp
  constructor
  · intro hx
    have h1 := (h.2.2 i n (h.2.1 _ hx)).1 hx
    rw [e] at h1
    exact h1
  · rintro ⟨h1, h2⟩
    obtain ⟨q, hq, hqi⟩ := at_mem (l := Q) (i := i) (by omega)
    have hq1 := hw q hq
    exact (h.2.2 i n ⟨by rw [← hqi]; exact hq1.1, by rw [← hqi]; exact hq1.2.1⟩).2 ⟨by rw [e]; exact h1, h2⟩
theorem mk_out {h : HV} {P Q : List (Int × Int)} (hP : ∀ p ∈ P, Wb p) (hQ : ∀ p ∈ Q, Wb p) {k' s' z' zc' ct' sm' : Int} {X Y : List (Int × Int)} {E : Int} (m : MkOut h.k h.s h.z h.zc h.sm P Q k' s' z' zc' ct' sm' X Y E) :
    E = mkE h P Q ∧ HV.mk k' s' z' zc' ct' sm' X Y = mkO h P Q := by
  have ec : h.zc + cnt (P ++ Q) = h.zc + cnt P + cnt Q := by rw [cnt_append]; omega
  rcases m with ⟨hE, ⟨rfl, rfl, rfl, rfl, rfl, rfl, rfl, rfl⟩, h5 | ⟨hc, X0, Y0, a1, a2, s1, s2, he⟩⟩ | ⟨rfl, hc, a1, a2, s1, s2, hk, rfl, rfl, rfl, rfl, rfl, rfl⟩
  · have e1 : mkE h P Q = 5 := by unfold mkE; rw [if_pos (by omega)]
    exact ⟨by rw [e1]; exact h5.2, by unfold mkO; rw [e1, if_neg (by decide)]; rfl⟩
  · rw [side_tidyP hP a1 s1, side_tidyQ hQ a2 s2, ec] at he
    have e1 : mkE h P Q = E := by unfold mkE; rw [if_neg (by omega)]; exact he.symm
    exact ⟨e1.symm, by unfold mkO; rw [e1, if_neg hE]; rfl⟩
  · rw [side_tidyP hP a1 s1, side_tidyQ hQ a2 s2, ec] at *
    have e1 : mkE h P Q = 0 := by unfold mkE; rw [if_neg (by omega)]; exact hk
    exact ⟨e1.symm, by unfold mkO; rw [e1, if_pos rfl]; rfl⟩
theorem make_hv (h : HV) (ct : Int) (A0 B0 A B : Option Addr) (n0 c0 m0 d0 c d : Nat) (P Q : List (Int × Int)) (w : World) (hs : I64 h.s) (z0 : 0 ≤ h.zc) (z1 : h.zc ≤ 18446744073709551615) (hP : Bk w A P) (hQ : Bk w B Q) (hlp : P.length ≤ 1100) (hlq : Q.length ≤ 1100) :
    Calls Tryz.prog 99 #[.agg #[.int .i64 h.k, .int .i64 h.s, .int .i64 h.z, .int .u64 h.zc, .int .u64 ct, .int .i64 h.sm, .slice A0 n0 c0, .slice B0 m0 d0], .slice A P.length c, .slice B Q.length d] w (RetH w (mkO h P Q) (mkE h P Q)) := by
  refine (make_res h.k h.s h.z h.zc ct h.sm A0 B0 A B n0 c0 m0 d0 c d P Q w hs z0 z1 hP hQ hlp hlq).mono ?_
  rintro e w' ⟨k', s', z', zc', ct', sm', A', C', c', d', X, Y, E, rfl, m, hX, hY, _, _, nA, hb⟩
  obtain ⟨rfl, e2⟩ := mk_out hP.2.1 hQ.2.1 m
  rw [← e2]
  exact ⟨A', C', c', d', rfl, hX, hY, hb, nA⟩
/-- the result under other names -/
theorem RetH.as {w : World} {r r' : HV} {E E' : Int} (hr : r = r') (hE : E = E') {e : Ending} {w' : World} (h : RetH w r E e w') : RetH w r' E' e w' := by
  subst hr hE; exact h
theorem swG_parts {h : HV} (g : Good h) {u : Int} (hu : zr u) : Good (swG h u) ∧ cnt (keepL h.s (outF h.s (h.P ++ h.Q) u) h.P) + goneN h.s (outF h.s (h.P ++ h.Q) u) h.P = cnt h.P := ⟨by
  have c1 := keep_gone h.s (outF h.s (h.P ++ h.Q) u) h.P
  have c2 := keep_gone h.s (outF h.s (h.P ++ h.Q) u) h.Q
  have n1 : 0 ≤ goneN h.s (outF h.s (h.P ++ h.Q) u) h.P := g.nP.cw _
  have n2 : 0 ≤ goneN h.s (outF h.s (h.P ++ h.Q) u) h.Q := g.nQ.cw _
  have g0 := g.zc
  have gc := g.ct
  exact { k := g.k, s := g.s, zc := by show 0 ≤ h.zc + _ + _; omega, ct := by { show h.zc + goneN h.s (outF h.s (h.P ++ h.Q) u) h.P + goneN h.s (outF h.s (h.P ++ h.Q) u) h.Q + cnt (tidy _) + cnt (tidy _) = h.ct; rw [cnt_tidy, cnt_tidy]; omega }, big := g.big, sm := g.sm,
          nP := (tidy_pos (g.nP.filter _)).nn, nQ := (tidy_pos (g.nQ.filter _)).nn, iP := fun p hp => by { obtain ⟨q, hq, e⟩ := mem_tidy hp; rw [← e]; exact g.iP q (List.mem_filter.1 hq).1 }, iQ := fun p hp => by { obtain ⟨q, hq, e⟩ := mem_tidy hp; rw [← e]; exact g.iQ q (List.mem_filter.1 hq).1 } }, keep_gone _ _ _⟩
theorem swG_okG {h : HV} (g : Good h) (l1 : h.P.length ≤ 512) (l2 : h.Q.length ≤ 512) {u : Int} (hu : zr u) : Ok (swG h u) := by
  have gg := (swG_parts g hu).1
  have hz := outF_zr g.s g.inPQ hu
  have hf := outF_free g.s (h.P ++ h.Q) u
  have low : ∀ (l : List (Int × Int)), (∀ p ∈ l, p ∈ h.P ++ h.Q) → ∀ p ∈ tidy (keepL h.s (outF h.s (h.P ++ h.Q) u) l), outF h.s (h.P ++ h.Q) u ≤ un h.s (p.1 - 1) := by
    intro l hl p hp
    obtain ⟨q, hq, e⟩ := mem_tidy hp
    obtain ⟨m1, m2⟩ := List.mem_filter.1 hq
    rw [← e]
    rcases hf q (hl q m1) with e1 | e1
    · exact e1
    · unfold G at m2; simp at m2; omega
  have t1 := tidy_length (keepL h.s (outF h.s (h.P ++ h.Q) u) h.P)
  have t2 := tidy_length (keepL h.s (outF h.s (h.P ++ h.Q) u) h.Q)
  have f1 := List.length_filter_le (fun p => G h.s (outF h.s (h.P ++ h.Q) u) p.1) h.P
  have f2 := List.length_filter_le (fun p => G h.s (outF h.s (h.P ++ h.Q) u) p.1) h.Q
  exact { gg with z := hz, aP := tidy_asc _, aQ := tidy_asc _, pP := tidy_pos (g.nP.filter _), pQ := tidy_pos (g.nQ.filter _), lP := by { show (tidy (keepL _ _ _)).length ≤ 512; unfold keepL at *; omega }, lQ := by { show (tidy (keepL _ _ _)).length ≤ 512; unfold keepL at *; omega }, zP := low h.P (fun p hp => by simp [hp]), zQ := low h.Q (fun p hp => by simp [hp]) }
theorem mk_sw {h : HV} (g : Good h) (l1 : h.P.length ≤ 512) (l2 : h.Q.length ≤ 512) {u : Int} (hu : zr u) (v : Int) (hv : outF h.s (h.P ++ h.Q) u = v) :
    mkE { h with z := v, zc := h.zc + (goneN h.s v h.P + goneN h.s v h.Q) } (keepL h.s v h.P) (keepL h.s v h.Q) = 0 ∧ mkO { h with z := v, zc := h.zc + (goneN h.s v h.P + goneN h.s v h.Q) } (keepL h.s v h.P) (keepL h.s v h.Q) = swG h u := by
  subst hv
  have ok := swG_okG g l1 l2 hu
  have c1 := keep_gone h.s (outF h.s (h.P ++ h.Q) u) h.P
  have c2 := keep_gone h.s (outF h.s (h.P ++ h.Q) u) h.Q
  have gc := g.ct
  have gb := g.big
  have er : mkR { h with z := outF h.s (h.P ++ h.Q) u, zc := h.zc + (goneN h.s (outF h.s (h.P ++ h.Q) u) h.P + goneN h.s (outF h.s (h.P ++ h.Q) u) h.Q) } (keepL h.s (outF h.s (h.P ++ h.Q) u) h.P) (keepL h.s (outF h.s (h.P ++ h.Q) u) h.Q) = swG h u :=
    HV.eq rfl rfl rfl (by show h.zc + (_ + _) = h.zc + _ + _; omega) (by show h.zc + (_ + _) + _ + _ = h.ct; omega) rfl rfl rfl
  have e1 : mkE { h with z := outF h.s (h.P ++ h.Q) u, zc := h.zc + (goneN h.s (outF h.s (h.P ++ h.Q) u) h.P + goneN h.s (outF h.s (h.P ++ h.Q) u) h.Q) } (keepL h.s (outF h.s (h.P ++ h.Q) u) h.P) (keepL h.s (outF h.s (h.P ++ h.Q) u) h.Q) = 0 := by
    unfold mkE
    rw [er, if_neg (by show ¬ _ < h.zc + (_ + _) + _ + _; omega), ok.chk]
  exact ⟨e1, by unfold mkO; rw [e1, if_pos rfl, er]⟩
end Go.Proofs.YtakomfnajeolcaaGreatDoor
