/- What is quoted is read as it was, and what is read is what is quoted; matchers as a text, plainly. -/
import Derived.Test.YtnabfganecghkaaDoorMaT
namespace Go.Proofs.YtnabfganecghkaaDoor.Lb
open Go.RowKit
set_option linter.unusedVariables false

theorem unq_quote (more : List UInt8) : ∀ s : List UInt8, unqR (s.flatMap qB ++ 34 :: more) = some (s, more)
  | [] => by rw [List.flatMap_nil, List.nil_append, unqR_cons, if_pos rfl]
  | c :: r => by
    have ih := unq_quote more r
    rw [List.flatMap_cons, List.append_assoc]
    by_cases h1 : c = 10
    · subst h1
      show unqR (92 :: 110 :: (r.flatMap qB ++ 34 :: more)) = _
      rw [unqR_cons, if_neg (by decide), if_neg (by decide), if_pos rfl]
      have hm : meantF (110 :: (r.flatMap qB ++ 34 :: more)) = some 10 := rfl
      simp only [hm]
      rw [ih]; rfl
    · by_cases h2 : c = 34 ∨ c = 92
      · have hq : qB c = [92, c] := by unfold qB; rw [if_neg h1, if_pos h2]
        rw [hq]
        show unqR (92 :: c :: (r.flatMap qB ++ 34 :: more)) = _
        rw [unqR_cons, if_neg (by decide), if_neg (by decide), if_pos rfl]
        have hm : meantF (c :: (r.flatMap qB ++ 34 :: more)) = some c := by rcases h2 with rfl | rfl <;> rfl
        simp only [hm]
        rw [ih]; rfl
      · have hq : qB c = [c] := by unfold qB; rw [if_neg h1, if_neg h2]
        rw [hq]
        show unqR (c :: (r.flatMap qB ++ 34 :: more)) = _
        rw [unqR_cons, if_neg (fun e => h2 (.inl e)), if_neg h1, if_neg (fun e => h2 (.inr e)), ih]; rfl
theorem meant_qB {d m : UInt8} {r : List UInt8} (h : meantF (d :: r) = some m) : qB m = [92, d] := by
  unfold meantF at h
  split at h
  · rename_i h1
    injection h with h
    subst h
    simp [hdB] at h1
    subst h1
    rfl
  · split at h
    · rename_i h1
      injection h with h
      subst h
      simp [hdB] at h1
      subst h1
      rfl
    · split at h
      · rename_i h1
        injection h with h
        subst h
        simp [hdB] at h1
        subst h1
        rfl
      · cases h
theorem quote_unq : ∀ (n : Nat) (l a b : List UInt8), l.length ≤ n → unqR l = some (a, b) → l = a.flatMap qB ++ 34 :: b
  | n, [], a, b, _, h => by cases h
  | 0, c :: r, a, b, hn, h => by simp at hn
  | n + 1, c :: r, a, b, hn, h => by
    rw [unqR_cons] at h
    split at h
    · rename_i h1
      injection h with h
      injection h with e1 e2
      rw [← e1, ← e2, h1]; rfl
    · rename_i h34
      split at h
      · cases h
      · rename_i h10
        split at h
        · rename_i h92
          cases r with
          | nil => cases h
          | cons d r2 =>
            simp only at h
            split at h
            · cases h
            · rename_i m hm
              cases hu : unqR r2 with
              | none => rw [hu] at h; cases h
              | some x =>
                obtain ⟨x1, x2⟩ := x
                rw [hu] at h
                injection h with h
                injection h with e1 e2
                have ih := quote_unq n r2 x1 x2 (by simp at hn; omega) hu
                rw [← e1, ← e2, List.flatMap_cons, meant_qB hm, h92, ih]; rfl
        · rename_i h92
          cases hu : unqR r with
          | none => rw [hu] at h; cases h
          | some x =>
            obtain ⟨x1, x2⟩ := x
            rw [hu] at h
            injection h with h
            injection h with e1 e2
            have ih := quote_unq n r x1 x2 (by simp at hn; omega) hu
            have hq : qB c = [c] := by unfold qB; rw [if_neg h10, if_neg (by rintro (e | e); exact h34 e; exact h92 e)]
            rw [← e1, ← e2, List.flatMap_cons, hq, ih]; rfl
theorem unqF_quote (s more : List UInt8) : unqF (quoteL s ++ more) = some (s, more) := by
  unfold unqF quoteL
  have e : (34 :: (s.flatMap qB ++ [34]) ++ more).drop 1 = s.flatMap qB ++ 34 :: more := by simp
  rw [e, unq_quote]
  rfl
theorem quote_unqF {l a b : List UInt8} (h : unqF l = some (a, b)) : quoteL a ++ b = l := by
  unfold unqF at h
  split at h
  · rename_i h1
    cases l with
    | nil => cases h1
    | cons c r =>
      simp [hdB] at h1
      subst h1
      have h' : unqR r = some (a, b) := h
      have := quote_unq _ r a b (Nat.le_refl _) h'
      rw [this]
      simp [quoteL]
  · cases h
end Go.Proofs.YtnabfganecghkaaDoor.Lb
namespace Go.Proofs.YtnabfganecghkaaDoor
open Go.RowKit
set_option linter.unusedVariables false
/-- a matcher as a text -/
def oneT (m : Mt) : List UInt8 := m.nm.data.toList ++ (sgT m.op.toNat ++ Lb.quoteL m.vl.data.toList)
def prT : List Mt → List UInt8
  | [] => []
  | m :: r => oneT m ++ (if r = [] then [] else 44 :: prT r)
def printF (l : List Mt) : List UInt8 := 123 :: (prT l ++ [125])
theorem prT_one (m : Mt) : prT [m] = oneT m := by simp [prT]
theorem prT_cons (m : Mt) {r : List Mt} (h : r ≠ []) : prT (m :: r) = oneT m ++ 44 :: prT r := by rw [prT, if_neg h]
theorem prT_snoc (m : Mt) : ∀ l : List Mt, l ≠ [] → prT (l ++ [m]) = prT l ++ 44 :: oneT m
  | [], h => absurd rfl h
  | a :: r, _ => by
    rw [List.cons_append]
    cases r with
    | nil => rw [List.nil_append, prT_cons a (by simp), prT_one, prT_one]
    | cons b r => rw [prT_cons a (by simp), prT_cons a (by simp), prT_snoc m (b :: r) (by simp), List.append_assoc, List.cons_append]
theorem sgF_text {l q : List UInt8} {k : Nat} (h : sgF l = some (k, q)) : l = sgT k ++ q := by
  have hp : ∀ {p l : List UInt8}, pre p l = true → p <+: l := fun h => by unfold pre at h; first | exact List.isPrefixOf_iff_prefix.1 h | simpa using h
  unfold sgF at h
  split at h
  · rename_i h1
    injection h with h; injection h with e1 e2
    obtain ⟨t, rfl⟩ := hp h1
    rw [← e1, ← e2]; rfl
  split at h
  · rename_i h1
    injection h with h; injection h with e1 e2
    obtain ⟨t, rfl⟩ := hp h1
    rw [← e1, ← e2]; rfl
  split at h
  · rename_i h1
    injection h with h; injection h with e1 e2
    obtain ⟨t, rfl⟩ := hp h1
    rw [← e1, ← e2]; rfl
  split at h
  · rename_i h1
    injection h with h; injection h with e1 e2
    obtain ⟨t, rfl⟩ := hp h1
    rw [← e1, ← e2]; rfl
  · cases h
theorem oneM_text {l r : List UInt8} {m : Mt} (h : oneM l = some (m, r)) : l = oneT m ++ r := by
  unfold oneM at h
  split at h
  · cases h
  · cases hs : sgF (l.drop (ixM l).toNat) with
    | none => rw [hs] at h; cases h
    | some p =>
      obtain ⟨k, q⟩ := p
      rw [hs] at h
      have h1 := sgF_text hs
      unfold oneG at h
      cases hu : Lb.unqF q with
      | none => simp only [hu] at h; cases h
      | some x =>
        obtain ⟨v, r2⟩ := x
        simp only [hu] at h
        injection h with h
        injection h with e1 e2
        have h3 := Lb.quote_unqF hu
        subst e1 e2
        unfold oneT
        simp only [tx_data, Int.toNat_natCast]
        rw [List.append_assoc, List.append_assoc, h3, ← h1, List.take_append_drop]
theorem rdL_text : ∀ (n : Nat) (c : UInt8) (l : List UInt8) (ms : List Mt), rdL n c l = some ms → ms ≠ [] ∧ l = c :: (prT ms ++ [125])
  | 0, c, l, ms, h => by cases h
  | n + 1, c, l, ms, h => by
    unfold rdL at h
    split at h
    · rename_i h1
      obtain ⟨r0, rfl⟩ : ∃ r0, l = c :: r0 := by
        cases l with
        | nil => cases h1
        | cons d r0 => simp [Lb.hdB] at h1; exact ⟨r0, by rw [h1]⟩
      rw [show (c :: r0).drop 1 = r0 from rfl] at h
      cases ho : oneM r0 with
      | none => rw [ho] at h; cases h
      | some p =>
        obtain ⟨m, r⟩ := p
        rw [ho] at h
        simp only at h
        have h2 := oneM_text ho
        split at h
        · rename_i h3
          injection h with h
          subst h
          exact ⟨by simp, by rw [prT_one, h2, h3]⟩
        · cases hr : rdL n 44 r with
          | none => rw [hr] at h; cases h
          | some ms2 =>
            rw [hr] at h
            simp only [Option.map_some, Option.some.injEq] at h
            subst h
            obtain ⟨g1, g2⟩ := rdL_text n 44 r ms2 hr
            exact ⟨by simp, by rw [prT_cons m g1, h2, g2]; simp⟩
    · cases h
theorem readF_text {l : List UInt8} {ms : List Mt} (h : readF l = some ms) : printF ms = l := by
  unfold readF at h
  split at h
  · rename_i h1
    injection h with h
    subst h
    rw [h1]; rfl
  · rw [(rdL_text _ _ _ _ h).2]; rfl
end Go.Proofs.YtnabfganecghkaaDoor
