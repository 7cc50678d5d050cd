/- The walk of the law RegexPlain. -/
import Derived.Test.YtfnmbembclgknaaRxRw
import Derived.Test.YtfnmbembclgknaaRxPm
import Derived.Test.YtfnmbembclgknaaShelfS
namespace Go.Proofs.Ytfnmbembclgknaa
open Go.RowKit
set_option linter.unusedVariables false

theorem data_at (s : ByteArray) (k : Nat) (h : k < s.size) : s.data.toList[k]? = some s[k] := by
  rw [List.getElem?_eq_getElem (by simpa using h)]; rfl
theorem byte_tx (s : ByteArray) (k : Nat) (h : k < s.size) : s.extract k (k + 1) = tx [s[k]] := by
  rw [Lib.extract_eq]
  unfold tx
  congr 2
  apply List.ext_getElem?
  intro j
  rw [show k + 1 - k = 1 by omega]
  by_cases hj : j = 0
  · subst hj
    rw [List.getElem?_take_of_lt (by omega), List.getElem?_drop, Nat.add_zero, data_at s k h]; rfl
  · rw [List.getElem?_eq_none (by simp; omega), List.getElem?_eq_none (by simp; omega)]
theorem ix_cons (b c : UInt8) (l : List UInt8) : decide (0 ≤ Lib.indexByte (b :: l) c) = (b == c || decide (0 ≤ Lib.indexByte l c)) := by
  have hge := Lib.indexByte_ge l c
  rw [show Lib.indexByte (b :: l) c = if b == c then 0 else if Lib.indexByte l c == -1 then -1 else Lib.indexByte l c + 1 from rfl]
  by_cases h : b = c
  · subst h
    simp
  · have h' : (b == c) = false := by simpa using h
    rw [h']
    simp only [Bool.false_eq_true, if_false, Bool.false_or]
    by_cases h1 : Lib.indexByte l c = -1
    · simp [h1]
    · have h2 : (Lib.indexByte l c == -1) = false := by simpa using h1
      rw [h2]
      simp only [Bool.false_eq_true, if_false]
      exact decide_eq_decide.2 (by omega)
theorem ix_has (c : UInt8) : ∀ l : List UInt8, decide (0 ≤ Lib.indexByte l c) = l.contains c
  | [] => by simp [Lib.indexByte]
  | b :: l => by
    rw [ix_cons, ix_has c l, List.contains_cons]
    congr 1
    exact Bool.beq_comm
theorem has_is (c : UInt8) (w : World) : Calls Try.prog 14 #[.string ⟨#[42, 43, 63, 124, 40, 41, 91, 93, 123, 125, 94, 36, 46, 92]⟩, .string (tx [c])] w fun e w' => e = .returned (.bool (!plainB c)) ∧ w = w' :=
  (Try.strings_Contains_one ⟨#[42, 43, 63, 124, 40, 41, 91, 93, 123, 125, 94, 36, 46, 92]⟩ c w).mono fun e w' ⟨he, hw⟩ => ⟨by
    rw [he, ix_has]
    unfold plainB
    rw [Bool.not_not], hw.symm⟩
theorem take_snoc {α : Type} (l : List α) (k : Nat) (x : α) (h : l[k]? = some x) : l.take (k + 1) = l.take k ++ [x] := by
  rw [List.take_add_one, h]; rfl
def PaRel (S : List UInt8) (w : World) (v5 v6 v23 : Value) (wr : World) : Prop :=
  ∃ (k : Nat) (T : ByteArray), v5 = .string T ∧ T = tx (bsl (S.take k)) ∧ v6 = .bool ((S.take k).all plainB) ∧ v23 = .int .i64 (k : Int) ∧ k ≤ S.length ∧ Below w.heap.size w wr
set_option maxHeartbeats 4000000 in
set_option maxRecDepth 100000 in
theorem regexPlain_walk (a0 a1 : ByteArray) (w0 : a0.size ≤ maxLen) (w1 : a1.size ≤ maxLen) (w : World) :
    Calls Try.prog 5 #[.string a0, .string a1] w fun e w' => e = .returned (.bool true) ∧ Below w.heap.size w w' := by
  unfold maxLen at w0 w1
  by_cases h0 : 32 < a0.size
  · have h0i : (32 : Int) < (a0.size : Int) := by omega
    go_enter Try.func5, Try.ntmps5
    go_wp2_with fail
    refine (awake_any _).mono ?_
    rintro y w3 ⟨rfl, hb⟩
    have B1 := Lib.hid hb
    clear hb
    go_wp2_with fail
    go_ret
    exact ⟨rfl, B1.out⟩
  have h0i : ¬ (32 : Int) < (a0.size : Int) := by omega
  by_cases h1 : 64 < a1.size
  · have h1i : (64 : Int) < (a1.size : Int) := by omega
    go_enter Try.func5, Try.ntmps5
    go_wp2_with fail
    refine (awake_any _).mono ?_
    rintro y w3 ⟨rfl, hb⟩
    have B1 := Lib.hid hb
    clear hb
    go_wp2_with fail
    go_ret
    exact ⟨rfl, B1.out⟩
  have h1i : ¬ (64 : Int) < (a1.size : Int) := by omega
  obtain ⟨S, hS⟩ : ∃ S, a0.data.toList = S := ⟨_, rfl⟩
  obtain ⟨T, hT⟩ : ∃ T, a1.data.toList = T := ⟨_, rfl⟩
  have hSl : S.length = a0.size := by rw [← hS, Array.length_toList]; rfl
  obtain ⟨z, hz⟩ : ∃ z, decide (S = T) = z := ⟨_, rfl⟩
  have heq : (a0.toList == a1.toList) = z := by
    rw [Lib.toList_data, Lib.toList_data, hS, hT, ← hz]
    apply bool_iff
    rw [beq_iff_eq, decide_eq_true_eq]
  have HS := Lib.hid hS
  have HT := Lib.hid hT
  have HSL := Lib.hid hSl
  have HZ := Lib.hid hz
  have HAT := Lib.hid (data_at a0)
  have HQ := Lib.hid heq
  have hz0 : a0.size ≤ 32 := by omega
  have hz1 : a1.size ≤ 64 := by omega
  clear hS hT hSl hz heq h0 h1
  go_enter Try.func5, Try.ntmps5
  go_wp2_with fail
  go_loopw [5, 6, 23] (fun v5 v6 v23 wr => Hid (PaRel S w v5 v6 v23 wr)) (fun _ _ v23 _ => a0.size - (intOf v23).toNat)
  case atStart => exact Lib.hid ⟨0, _, rfl, rfl, rfl, rfl, Nat.zero_le _, Below.refl _ _⟩
  case round =>
    obtain ⟨k, X, rfl, hX, rfl, rfl, hk, hbel⟩ := hrel.out
    clear hrel
    have hks : k ≤ a0.size := by have := HSL.out; omega
    have BR := Lib.hid hbel
    clear hbel
    by_cases hlt : k < a0.size
    · have hki : (k : Int) < (a0.size : Int) := by omega
      have ha2 : (k : Int) + 1 ≤ (a0.size : Int) := by omega
      have ha3 : ((k : Int) + 1).toNat = k + 1 := by omega
      have hx := byte_tx a0 k hlt
      have hat : S[k]? = some a0[k] := by rw [← HS.out]; exact HAT.out k hlt
      obtain ⟨c, hc⟩ : ∃ c, a0[k] = c := ⟨_, rfl⟩
      rw [hc] at hx hat
      have htk := take_snoc S k c hat
      obtain ⟨u1, hu1, s1⟩ := add_tx (s := ⟨#[92]⟩) (t := tx [c]) (X := [92]) (Y := [c]) rfl rfl (by simp)
      obtain ⟨u2, hu2, s2⟩ := add_tx (s := X) (t := u1) (X := bsl (S.take k)) (Y := [92, c]) hX hu1 (by rw [bsl_len, List.length_take]; simp; omega)
      have HU2 := Lib.hid (show u2 = tx (bsl (S.take (k + 1))) by rw [hu2, htk, bsl_snoc])
      have HPL := Lib.hid (show (S.take (k + 1)).all plainB = ((S.take k).all plainB && plainB c) by rw [htk, List.all_append]; simp)
      obtain ⟨pl, hpl⟩ : ∃ pl, (S.take k).all plainB = pl := ⟨_, rfl⟩
      rw [hpl] at HPL ⊢
      have hkk : k + 1 ≤ S.length := by have := HSL.out; omega
      clear hX hat hc htk hu1 hu2 hpl
      cases pl with
      | false =>
        go_wp2_with fail
        go_roundw
        case rel => exact Lib.hid ⟨k + 1, u2, rfl, HU2.out, by rw [HPL.out]; rfl, by go_num, hkk, BR.out⟩
        case measure => simp [intOf]; omega
      | true =>
        go_wp2_with fail
        refine (has_is c _).mono ?_
        rintro y w' ⟨rfl, rfl⟩
        go_wp2_with fail
        go_roundw
        case rel => exact Lib.hid ⟨k + 1, u2, rfl, HU2.out, by rw [HPL.out]; simp, by go_num, hkk, BR.out⟩
        case measure => simp [intOf]; omega
    · obtain rfl : k = a0.size := by omega
      have hki : ¬ ((a0.size : Int) < (a0.size : Int)) := by omega
      have hfull : S.take a0.size = S := List.take_of_length_le (by rw [HSL.out]; exact Nat.le_refl _)
      have HR := Lib.hid (show parseF X.data.toList = .ok (litR .eps S) [] by
        rw [hX, tx_data, hfull]
        exact parse_bsl (by rw [HSL.out]; exact hz0))
      obtain ⟨pl, hpl⟩ : ∃ pl, S.all plainB = pl := ⟨_, rfl⟩
      have HPL := Lib.hid hpl
      rw [hfull, hpl]
      obtain ⟨r, hr⟩ : ∃ r, Res.ok (litR .eps S) [] = r := ⟨_, rfl⟩
      rw [hr] at HR
      have HE := Lib.hid (show errN r = 0 by rw [← hr]; rfl)
      have HM0 := Lib.hid (show mtR r a0.data.toList = true by rw [← hr, HS.out, mt_text]; simp)
      have HM1 := Lib.hid (show mtR r a1.data.toList = z by rw [← hr, HT.out, mt_text, HZ.out])
      have HRR := Lib.hid hr
      have heq := HQ.out
      clear hX hfull hpl hr
      go_wp2_with fail
      refine (parse_any X _).mono ?_
      rw [HR.out]
      intro y wp hp
      obtain ⟨Ap, np, cp, fp, lp, ep, rfl, Rp, _, hb⟩ := par_open hp
      rw [HE.out]
      obtain ⟨Wp, hWp⟩ : ∃ Wp, wp.alloc (.cells #[.slice Ap np cp, .int .u64 (fp : Nat), .int .u64 (lp : Nat), .bool ep] 28 (0, 0)) = Wp := ⟨_, rfl⟩
      obtain ⟨gp, hgp⟩ : ∃ gp, wp.heap.size = gp := ⟨_, rfl⟩
      have bb : Below wp.heap.size wp Wp := hWp ▸ (Below.refl _ _).alloc (Nat.le_refl _) _
      have Xp := Lib.hid (show Px Wp gp Ap np cp fp lp ep r from ⟨hgp ▸ hWp ▸ Vb.new wp Ap np cp fp lp ep, Rp.out.below bb⟩)
      have Bp := Lib.hid ((BR.out.trans (hb.mono BR.out.size)).trans (bb.mono (Nat.le_trans BR.out.size hb.size)))
      clear hp hb bb Rp
      obtain ⟨z0, z1, z2, z3⟩ := Xp.out.v.cells
      go_wp2_with fail
      clear hWp hgp z0 z1 z2 z3
      refine (Xp.out.m a0 (by omega) _ HM0.out).mono ?_
      rintro y w1 ⟨rfl, hb⟩
      have B1 := Lib.hid (Bp.out.trans (hb.mono Bp.out.size))
      have Xp1 := Lib.hid (Xp.out.below hb)
      obtain ⟨z0, z1, z2, z3⟩ := Xp1.out.v.cells
      clear hb
      go_wp2_with fail
      clear z0 z1 z2 z3
      refine (Xp1.out.m a1 (by omega) _ HM1.out).mono ?_
      rintro y w2 ⟨rfl, hb⟩
      have B2 := Lib.hid (B1.out.trans (hb.mono B1.out.size))
      clear hb
      cases pl with
      | false =>
        cases z
        all_goals
          go_wp2_with fail
          refine (awake_any _).mono ?_
          rintro y wz ⟨rfl, hb⟩
          have Bz := Lib.hid (B2.out.trans (hb.mono B2.out.size))
          clear hb
          go_wp2_with fail
          go_ret
          exact ⟨rfl, Bz.out⟩
      | true =>
        have HR2 := Lib.hid (show parseF a0.data.toList = r by
          rw [← HRR.out, HS.out]
          exact parse_plain (fun c hc => List.all_eq_true.1 HPL.out c hc) (by rw [HSL.out]; exact hz0))
        cases z
        all_goals
          go_wp2_with fail
          refine (parse_any a0 _).mono ?_
          rw [HR2.out]
          intro y wq hp
          obtain ⟨Aq, nq, cq, fq, lq, eq, rfl, Rq, _, hb⟩ := par_open hp
          rw [HE.out]
          obtain ⟨Wq, hWq⟩ : ∃ Wq, wq.alloc (.cells #[.slice Aq nq cq, .int .u64 (fq : Nat), .int .u64 (lq : Nat), .bool eq] 28 (0, 0)) = Wq := ⟨_, rfl⟩
          obtain ⟨gq, hgq⟩ : ∃ gq, wq.heap.size = gq := ⟨_, rfl⟩
          have bb : Below wq.heap.size wq Wq := hWq ▸ (Below.refl _ _).alloc (Nat.le_refl _) _
          have Xq := Lib.hid (show Px Wq gq Aq nq cq fq lq eq r from ⟨hgq ▸ hWq ▸ Vb.new wq Aq nq cq fq lq eq, Rq.out.below bb⟩)
          have Bq := Lib.hid ((B2.out.trans (hb.mono B2.out.size)).trans (bb.mono (Nat.le_trans B2.out.size hb.size)))
          clear hp hb bb Rq
          obtain ⟨z0, z1, z2, z3⟩ := Xq.out.v.cells
          go_wp2_with fail
          clear hWq hgq z0 z1 z2 z3
          refine (awake_any _).mono ?_
          rintro y w3 ⟨rfl, hb⟩
          have B3 := Lib.hid (Bq.out.trans (hb.mono Bq.out.size))
          have Xq1 := Lib.hid (Xq.out.below hb)
          obtain ⟨z0, z1, z2, z3⟩ := Xq1.out.v.cells
          clear hb
          go_wp2_with fail
          clear z0 z1 z2 z3
          refine (Xq1.out.m a1 (by omega) _ HM1.out).mono ?_
          rintro y w4 ⟨rfl, hb⟩
          have B4 := Lib.hid (B3.out.trans (hb.mono B3.out.size))
          have Xq2 := Lib.hid (Xq1.out.below hb)
          obtain ⟨z0, z1, z2, z3⟩ := Xq2.out.v.cells
          clear hb
          go_wp2_with fail
          clear z0 z1 z2 z3
          refine (Xq2.out.m a0 (by omega) _ HM0.out).mono ?_
          rintro y w5 ⟨rfl, hb⟩
          have B5 := Lib.hid (B4.out.trans (hb.mono B4.out.size))
          clear hb
          go_wp2_with fail
          go_ret
          exact ⟨rfl, B5.out⟩
end Go.Proofs.Ytfnmbembclgknaa
