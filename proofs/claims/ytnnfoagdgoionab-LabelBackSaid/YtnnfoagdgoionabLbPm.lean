/- Labels as a text: plain facts. -/
import Derived.Test.YtnnfoagdgoionabLbFm
import Derived.Test.YtnnfoagdgoionabLbQw
import Derived.Lib.Join
namespace Go.Proofs.Ytnnfoagdgoionab
open Go.RowKit
set_option linter.unusedVariables false

def jn : List (List UInt8) → List UInt8
  | [] => []
  | x :: r => match r with
    | [] => x
    | _ :: _ => x ++ 44 :: jn r
theorem jn_one (x : List UInt8) : jn [x] = x := rfl
theorem jn_two (x y : List UInt8) (r : List (List UInt8)) : jn (x :: y :: r) = x ++ 44 :: jn (y :: r) := rfl
theorem jn_join : ∀ xs : List (List UInt8), Lib.join xs [44] = jn xs
  | [] => rfl
  | [x] => Lib.join_one x [44]
  | x :: y :: r => by
    have ih := jn_join (y :: r)
    rw [jn_two, ← ih]
    simp [Lib.join, List.intercalate]
theorem jn_snoc : ∀ (xs : List (List UInt8)) (y : List UInt8), jn (xs ++ [y]) = if xs = [] then y else jn xs ++ 44 :: y
  | [], y => rfl
  | [x], y => rfl
  | x :: z :: r, y => by
    have ih := jn_snoc (z :: r) y
    rw [if_neg (by simp)] at ih ⊢
    show jn (x :: z :: (r ++ [y])) = _
    rw [jn_two, jn_two]
    have e : z :: (r ++ [y]) = (z :: r) ++ [y] := rfl
    rw [e, ih]; simp
/-- a label in a text -/
def textT (p : LabL) : List UInt8 := p.1 ++ 61 :: quoteL p.2
def printT (L : List LabL) : List UInt8 := 123 :: (jn (L.map textT) ++ [125])
def noSign (a : List UInt8) : Prop := ∀ c ∈ a, signsL.contains c = false
theorem ix_text {a rest : List UInt8} (h : noSign a) : ixL (a ++ 61 :: rest) = a.length := by
  unfold ixL
  refine Lib.indexAny_hit (i := a.length) (x := 61) (fun j b hj hb => ?_) (by rw [List.getElem?_append_right (Nat.le_refl _)]; simp) (by decide)
  rw [List.getElem?_append_left hj] at hb
  exact h b (mem_of_at hb)
theorem one_text {a v rest : List UInt8} (h : noSign a) : oneF (textT (a, v) ++ rest) = some (a, v, rest) := by
  unfold textT
  have e : a ++ 61 :: quoteL v ++ rest = a ++ 61 :: (quoteL v ++ rest) := by simp
  simp only
  rw [e]
  unfold oneF
  rw [ix_text h, if_pos ⟨by omega, by rw [Int.toNat_natCast, List.getElem?_append_right (Nat.le_refl _)]; simp⟩, Int.toNat_natCast]
  have e2 : (a ++ 61 :: (quoteL v ++ rest)).drop (a.length + 1) = quoteL v ++ rest := by
    rw [List.drop_append, List.drop_of_length_le (by omega), Nat.add_sub_cancel_left]; rfl
  rw [e2, unqF_quote, List.take_left]
  rfl
theorem one_back {l a v r : List UInt8} (h : oneF l = some (a, v, r)) : l = textT (a, v) ++ r := by
  unfold oneF at h
  split at h
  · rename_i hc
    cases hu : unqF (l.drop ((ixL l).toNat + 1)) with
    | none => rw [hu] at h; cases h
    | some x =>
      obtain ⟨x1, x2⟩ := x
      rw [hu] at h
      injection h with h
      injection h with h1 h
      injection h with h2 h3
      simp only at h2 h3
      have hq := (quote_unqF hu).1
      have hx := (List.getElem?_eq_some_iff.1 hc.2)
      obtain ⟨hlt, hx⟩ := hx
      unfold textT
      simp only
      rw [← h1, ← h2, ← h3, List.append_assoc, List.cons_append, hq]
      conv => lhs; rw [← List.take_append_drop (ixL l).toNat l]
      congr 1
      rw [List.drop_eq_getElem_cons hlt, hx]
  · cases h
theorem readN_print : ∀ (L : List LabL) (n : Nat), L ≠ [] → L.length ≤ n → (∀ p ∈ L, noSign p.1) → readN n (jn (L.map textT) ++ [125]) = some L
  | [], n, h, _, _ => absurd rfl h
  | p :: r, 0, _, h, _ => by simp at h
  | [p], n + 1, _, _, hs => by
    rw [List.map_cons, List.map_nil, jn_one, readN, one_text (hs p (by simp))]
    simp
  | p :: q :: r, n + 1, _, hl, hs => by
    have ih := readN_print (q :: r) n (by simp) (by simpa using hl) (fun x hx => hs x (by simp at hx ⊢; exact .inr hx))
    rw [List.map_cons, List.map_cons, jn_two, List.append_assoc, List.cons_append, readN, one_text (hs p (by simp))]
    simp only
    have hne : ¬ (44 :: (jn (textT q :: r.map textT) ++ [125]) = [125]) := by
      intro e
      injection e with e1
      exact absurd e1 (by decide)
    rw [if_neg hne, if_pos (by rfl)]
    show ((readN n (jn (textT q :: r.map textT) ++ [125])).map fun x => (p.1, p.2) :: x) = _
    rw [List.map_cons] at ih
    rw [ih]
    rfl
theorem readN_back : ∀ (n : Nat) (l : List UInt8) (L : List LabL), readN n l = some L → L ≠ [] ∧ l = jn (L.map textT) ++ [125]
  | 0, l, L, h => by cases h
  | n + 1, l, L, h => by
    rw [readN] at h
    cases ho : oneF l with
    | none => rw [ho] at h; cases h
    | some x =>
      obtain ⟨a, v, r⟩ := x
      rw [ho] at h
      simp only at h
      have hb := one_back ho
      split at h
      · rename_i hr
        injection h with h
        subst h
        refine ⟨by simp, ?_⟩
        rw [List.map_cons, List.map_nil, jn_one, hb, hr]
      · split at h
        · rename_i hr h44
          cases hn : readN n (r.drop 1) with
          | none => rw [hn] at h; cases h
          | some L' =>
            rw [hn] at h
            injection h with h
            subst h
            obtain ⟨hne, ih⟩ := readN_back n (r.drop 1) L' hn
            refine ⟨by simp, ?_⟩
            cases L' with
            | nil => exact absurd rfl hne
            | cons q s =>
              rw [List.map_cons, List.map_cons, jn_two, hb]
              rw [List.map_cons] at ih
              cases r with
              | nil => cases h44
              | cons c t =>
                simp [hdB] at h44
                subst h44
                have ih' : t = jn (textT q :: s.map textT) ++ [125] := ih
                rw [ih']; simp
        · cases h
theorem text_ne (p : LabL) : textT p ≠ [] := by unfold textT; simp
theorem jn_ne {L : List LabL} (h : L ≠ []) : jn (L.map textT) ≠ [] := by
  cases L with
  | nil => exact absurd rfl h
  | cons p r =>
    cases r with
    | nil => exact text_ne p
    | cons q s => rw [List.map_cons, List.map_cons, jn_two]; simp
theorem jn_len : ∀ L : List LabL, L.length ≤ (jn (L.map textT)).length
  | [] => by simp
  | [p] => by
    rw [List.map_cons, List.map_nil, jn_one]
    unfold textT; simp; omega
  | p :: q :: r => by
    have ih := jn_len (q :: r)
    rw [List.map_cons] at ih
    rw [List.map_cons, List.map_cons, jn_two, List.length_append, List.length_cons]
    simp at ih ⊢
    omega
theorem read_print (L : List LabL) (hs : ∀ p ∈ L, noSign p.1) : readL (printT L) = some L := by
  unfold readL printT
  rw [if_pos (by rfl)]
  have e : (123 :: (jn (L.map textT) ++ [125])).drop 1 = jn (L.map textT) ++ [125] := rfl
  rw [e]
  by_cases h : L = []
  · subst h
    rfl
  · have hne := jn_ne h
    rw [if_neg (fun e => hne (by
      have := congrArg List.length e
      simp at this
      exact this)), readN_print L _ h (by have := jn_len L; simp; omega) hs]
theorem print_read {s : List UInt8} {L : List LabL} (h : readL s = some L) : printT L = s := by
  unfold readL at h
  split at h
  · rename_i h1
    cases s with
    | nil => cases h1
    | cons c t =>
      simp [hdB] at h1
      subst h1
      have e : (123 :: t).drop 1 = t := rfl
      rw [e] at h
      split at h
      · rename_i ht
        injection h with h
        rw [← h, ht]; rfl
      · have := (readN_back _ _ _ h).2
        unfold printT
        rw [← this]
  · cases h
theorem nm_nosign {c : UInt8} (h : nmC c = true) : signsL.contains c = false := by
  cases hc : signsL.contains c with
  | false => rfl
  | true =>
    have := List.contains_iff_mem.1 hc
    simp [signsL] at this
    rcases this with rfl | rfl | rfl | rfl | rfl <;> exact absurd h (by decide)
theorem good_nosign {l : List LabL} (h : chk (l.map labT) = 0) : ∀ p ∈ l, noSign p.1 := by
  intro p hp
  obtain ⟨k, hk, rfl⟩ := List.getElem_of_mem hp
  have hg := ((chk_ok h).2 k (labT l[k]) (by rw [List.getElem?_map, List.getElem?_eq_getElem hk]; rfl)).1.1
  intro c hc
  obtain ⟨i, hi, rfl⟩ := List.getElem_of_mem hc
  exact nm_nosign (hg.2.2 i hi)
theorem text_len {p : LabL} (h : p.1.length ≤ 64 ∧ p.2.length ≤ 64) : (textT p).length ≤ 195 := by
  have := quote_len p.2
  unfold textT
  rw [List.length_append, List.length_cons]
  omega
theorem jn_le : ∀ L : List LabL, (∀ p ∈ L, p.1.length ≤ 64 ∧ p.2.length ≤ 64) → (jn (L.map textT)).length ≤ 196 * L.length
  | [], _ => by simp [jn]
  | [p], h => by
    have := text_len (h p (by simp))
    rw [List.map_cons, List.map_nil, jn_one]; simp; omega
  | p :: q :: r, h => by
    have ih := jn_le (q :: r) (fun x hx => h x (by simp at hx ⊢; exact .inr hx))
    have := text_len (h p (by simp))
    rw [List.map_cons] at ih
    rw [List.map_cons, List.map_cons, jn_two, List.length_append, List.length_cons]
    simp at ih ⊢
    omega
end Go.Proofs.Ytnnfoagdgoionab
