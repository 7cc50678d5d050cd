/- What is quoted is read as it was, and what is read is what is quoted; the walk of the law LabelQuotes. -/
import Derived.Test.YtnnfoagdgoionabLbG
namespace Go.Proofs.Ytnnfoagdgoionab
open Go.RowKit
set_option linter.unusedVariables false

theorem unq_quote (more : List UInt8) : ∀ s : List UInt8, unqR (s.flatMap qB ++ 34 :: more) = some (s, more)
  | [] => by rw [List.flatMap_nil, List.nil_append, unqR_cons, if_pos rfl]
  | c :: r => by
    have ih := unq_quote more r
    rw [List.flatMap_cons, List.append_assoc]
    by_cases h1 : c = 10
    · subst h1
      show unqR (92 :: 110 :: (r.flatMap qB ++ 34 :: more)) = _
      rw [unqR_cons, if_neg (by decide), if_neg (by decide), if_pos rfl]
      have hm : meantF (110 :: (r.flatMap qB ++ 34 :: more)) = some 10 := rfl
      simp only [hm]
      rw [ih]; rfl
    · by_cases h2 : c = 34 ∨ c = 92
      · have hq : qB c = [92, c] := by unfold qB; rw [if_neg h1, if_pos h2]
        rw [hq]
        show unqR (92 :: c :: (r.flatMap qB ++ 34 :: more)) = _
        rw [unqR_cons, if_neg (by decide), if_neg (by decide), if_pos rfl]
        have hm : meantF (c :: (r.flatMap qB ++ 34 :: more)) = some c := by rcases h2 with rfl | rfl <;> rfl
        simp only [hm]
        rw [ih]; rfl
      · have hq : qB c = [c] := by unfold qB; rw [if_neg h1, if_neg h2]
        rw [hq]
        show unqR (c :: (r.flatMap qB ++ 34 :: more)) = _
        rw [unqR_cons, if_neg (fun e => h2 (.inl e)), if_neg h1, if_neg (fun e => h2 (.inr e)), ih]; rfl
theorem meant_qB {d m : UInt8} {r : List UInt8} (h : meantF (d :: r) = some m) : qB m = [92, d] := by
  unfold meantF at h
  split at h
  · rename_i h1
    injection h with h
    subst h
    simp [hdB] at h1
    subst h1
    rfl
  · split at h
    · rename_i h1
      injection h with h
      subst h
      simp [hdB] at h1
      subst h1
      rfl
    · split at h
      · rename_i h1
        injection h with h
        subst h
        simp [hdB] at h1
        subst h1
        rfl
      · cases h
theorem quote_unq : ∀ (n : Nat) (l a b : List UInt8), l.length ≤ n → unqR l = some (a, b) → l = a.flatMap qB ++ 34 :: b
  | n, [], a, b, _, h => by cases h
  | 0, c :: r, a, b, hn, h => by simp at hn
  | n + 1, c :: r, a, b, hn, h => by
    rw [unqR_cons] at h
    split at h
    · rename_i h1
      injection h with h
      injection h with e1 e2
      rw [← e1, ← e2, h1]; rfl
    · rename_i h34
      split at h
      · cases h
      · rename_i h10
        split at h
        · rename_i h92
          cases r with
          | nil => cases h
          | cons d r2 =>
            simp only at h
            split at h
            · cases h
            · rename_i m hm
              cases hu : unqR r2 with
              | none => rw [hu] at h; cases h
              | some x =>
                obtain ⟨x1, x2⟩ := x
                rw [hu] at h
                injection h with h
                injection h with e1 e2
                have ih := quote_unq n r2 x1 x2 (by simp at hn; omega) hu
                rw [← e1, ← e2, List.flatMap_cons, meant_qB hm, h92, ih]; rfl
        · rename_i h92
          cases hu : unqR r with
          | none => rw [hu] at h; cases h
          | some x =>
            obtain ⟨x1, x2⟩ := x
            rw [hu] at h
            injection h with h
            injection h with e1 e2
            have ih := quote_unq n r x1 x2 (by simp at hn; omega) hu
            have hq : qB c = [c] := by unfold qB; rw [if_neg h10, if_neg (by rintro (e | e); exact h34 e; exact h92 e)]
            rw [← e1, ← e2, List.flatMap_cons, hq, ih]; rfl
theorem unqF_quote (s more : List UInt8) : unqF (quoteL s ++ more) = some (s, more) := by
  unfold unqF quoteL
  have e : (34 :: (s.flatMap qB ++ [34]) ++ more).drop 1 = s.flatMap qB ++ 34 :: more := by simp
  rw [e, unq_quote]
  rfl
theorem quote_unqF {l a b : List UInt8} (h : unqF l = some (a, b)) : quoteL a ++ b = l ∧ a.length ≤ l.length := by
  unfold unqF at h
  split at h
  · rename_i h1
    cases l with
    | nil => cases h1
    | cons c r =>
      simp [hdB] at h1
      subst h1
      have h' : unqR r = some (a, b) := h
      have := quote_unq _ r a b (Nat.le_refl _) h'
      have hl := unqR_len _ r a b (Nat.le_refl _) h'
      refine ⟨?_, by simp; omega⟩
      rw [this]
      simp [quoteL]
  · cases h
theorem quote_len (l : List UInt8) : (quoteL l).length ≤ 2 * l.length + 2 := by
  have := flat_len l
  unfold quoteL
  rw [List.length_cons, List.length_append, List.length_singleton]
  omega
set_option maxHeartbeats 2000000 in
theorem labelQuotes_walk (a0 a1 : ByteArray) (w0 : a0.size ≤ maxLen) (w1 : a1.size ≤ maxLen) (w : World) :
    Calls Try.prog 5 #[.string a0, .string a1] w fun e w' => e = .returned (.bool true) ∧ Below w.heap.size w w' := by
  unfold maxLen at w0 w1
  by_cases h0 : 1000 < a0.size
  · have h0i : (1000 : Int) < (a0.size : Int) := by omega
    go_enter Try.func5, Try.ntmps5
    go_wp2_with fail
    refine (awake_any _).mono ?_
    rintro e w1 ⟨rfl, hb⟩
    go_wp2_with fail
    go_ret
    exact ⟨rfl, hb⟩
  · have h0i : ¬ ((1000 : Int) < (a0.size : Int)) := by omega
    by_cases h1 : 1000 < a1.size
    · have h1i : (1000 : Int) < (a1.size : Int) := by omega
      go_enter Try.func5, Try.ntmps5
      go_wp2_with fail
      refine (awake_any _).mono ?_
      rintro e w1 ⟨rfl, hb⟩
      go_wp2_with fail
      go_ret
      exact ⟨rfl, hb⟩
    · have h1i : ¬ ((1000 : Int) < (a1.size : Int)) := by omega
      have hql := quote_len a0.data.toList
      rw [data_len] at hql
      obtain ⟨Q, hQ⟩ : ∃ Q : ByteArray, ⟨(quoteL a0.data.toList).toArray⟩ = Q := ⟨_, rfl⟩
      obtain ⟨M, hM, hadd⟩ := add_tx (s := Q) (t := a1) (X := quoteL a0.data.toList) (Y := a1.data.toList) hQ.symm (tx_of a1).symm (by rw [data_len]; omega)
      have hMs : M.size ≤ 4000 := by rw [hM, tx_size, List.length_append, data_len]; omega
      have HMs := Lib.hid hMs
      have HQ := Lib.hid hQ
      have HU := Lib.hid (show unqV (unqF M.data.toList) = .tuple #[.string a0, .string a1, .bool true] by
        rw [hM, tx_data, unqF_quote]
        simp only [unqV]
        rw [tx_of, tx_of])
      have h0s : a0.size ≤ 4000 := by omega
      have h1s : a1.size ≤ 4000 := by omega
      have hqq : (!(Q.toList == Q.toList)) = false := by simp
      have ha0 : (!(a0.toList == a0.toList)) = false := by simp
      have ha1 : (!(a1.toList == a1.toList)) = false := by simp
      obtain ⟨u, hu⟩ : ∃ u, unqF a1.data.toList = u := ⟨_, rfl⟩
      have HV := Lib.hid hu
      clear hQ hM hMs hql hu
      go_enter Try.func5, Try.ntmps5
      go_wp2_with fail
      refine (quote_any a0 _ h0s).mono ?_
      rw [HQ.out]
      rintro e w1 ⟨rfl, hb1⟩
      have HB1 := Lib.hid hb1
      clear hb1
      go_wp2_with fail
      refine (unquote_any M _ HMs.out).mono ?_
      rw [HU.out]
      rintro e w2 ⟨rfl, hb2⟩
      have HB2 := Lib.hid (HB1.out.trans (hb2.mono HB1.out.size))
      clear hb2
      go_wp2_with fail
      refine (rquote_any a0 _ h0s).mono ?_
      rw [HQ.out]
      rintro e w' ⟨rfl, rfl⟩
      go_wp2_with fail
      refine (unquote_any a1 _ h1s).mono ?_
      rw [HV.out]
      rintro e w3 ⟨rfl, hb3⟩
      have HB3 := Lib.hid (HB2.out.trans (hb3.mono HB2.out.size))
      clear hb3
      cases u with
      | none =>
        simp only [unqV]
        go_wp2_with fail
        refine (awake_any _).mono ?_
        rintro e w4 ⟨rfl, hb4⟩
        have HB4 := Lib.hid (HB3.out.trans (hb4.mono HB3.out.size))
        clear hb4
        go_wp2_with fail
        go_ret
        exact ⟨rfl, HB4.out⟩
      | some x =>
        obtain ⟨a, b⟩ := x
        simp only [unqV]
        obtain ⟨hab, hal⟩ := quote_unqF HV.out
        rw [data_len] at hal
        obtain ⟨T, hT⟩ : ∃ T : ByteArray, ⟨(quoteL a).toArray⟩ = T := ⟨_, rfl⟩
        have hql := quote_len a
        have hbl : b.length ≤ 4000 := by
          have := congrArg List.length hab
          rw [List.length_append, data_len] at this
          omega
        obtain ⟨R, hR, hadd2⟩ := add_tx (s := T) (t := tx b) (X := quoteL a) (Y := b) hT.symm rfl (by omega)
        have hRa : R = a1 := by rw [hR, hab, tx_of]
        rw [hRa] at hadd2
        have HT := Lib.hid hT
        have hz : (tx a).size ≤ 4000 := by rw [tx_size]; omega
        have HZ := Lib.hid hz
        have he : (a1.toList == a1.toList) = true := by simp
        clear hab hal hT hql hbl hR hRa hz
        go_wp2_with fail
        refine (awake_any _).mono ?_
        rintro e w4 ⟨rfl, hb4⟩
        have HB4 := Lib.hid (HB3.out.trans (hb4.mono HB3.out.size))
        clear hb4
        go_wp2_with fail
        refine (rquote_any (tx a) _ HZ.out).mono ?_
        rw [tx_data, HT.out]
        rintro e w' ⟨rfl, rfl⟩
        go_wp2_with fail
        go_ret
        exact ⟨rfl, HB4.out⟩
end Go.Proofs.Ytnnfoagdgoionab
