/- Sealed bytes one behind the other, by plain lists: what opens of them, of a beginning of them, and of them with a byte turned. -/
import Derived.Test.YtlebgbigbiaanaaAllM
namespace Go.Proofs.Ytlebgbigbiaanaa
open Go.RowKit Go.Sort
set_option linter.unusedVariables false

/-- bytes, sealed -/
def sealF (bs : List Nat) : List Nat := fourL bs.length ++ (fourL (crcOf (fourL bs.length ++ bs)) ++ bs)
def catF (ls : List (List Nat)) : List Nat := (ls.map sealF).flatten
def endL (ls : List (List Nat)) (k : Nat) : Nat := (catF (ls.take k)).length
def stopF (bs : List Nat) (k : Nat) : Prop := posF bs k = bs.length ∨ (posF bs k < bs.length ∧ errF (bs.drop (posF bs k)) ≠ 0)

theorem fourL_len (n : Nat) : (fourL n).length = 4 := rfl
theorem sealF_len (bs : List Nat) : (sealF bs).length = 8 + bs.length := by
  unfold sealF
  rw [List.length_append, List.length_append, fourL_len, fourL_len]
  omega
theorem sealF_b8 {bs : List Nat} (h : ∀ x ∈ bs, x < 256) : ∀ x ∈ sealF bs, x < 256 := by
  intro x hx
  unfold sealF at hx
  rcases List.mem_append.1 hx with h1 | h1
  · exact fourL_lt _ x h1
  · rcases List.mem_append.1 h1 with h2 | h2
    · exact fourL_lt _ x h2
    · exact h x h2
theorem numL_front {a r : List Nat} (h : 4 ≤ a.length) : numL (a ++ r) = numL a := by
  have := numL_take (a ++ r) a.length h
  rw [List.take_left] at this
  exact this.symm
theorem crc_small {bs : List Nat} (h : ∀ x ∈ bs, x < 256) : crcOf (fourL bs.length ++ bs) < 4294967296 := by
  refine crcOf_lt fun x hx => ?_
  rcases List.mem_append.1 hx with h1 | h1
  · exact fourL_lt _ x h1
  · exact h x h1
/-- what opens as these: four bytes of how many, four of the sum, they -/
theorem open_parts (s c l r : List Nat) (hs : s.length = 4) (hc : c.length = 4) (hn : numL s = l.length) :
    numL (s ++ (c ++ l) ++ r) = l.length ∧ core (s ++ (c ++ l) ++ r) = s ++ l ∧ numL ((s ++ (c ++ l) ++ r).drop 4) = numL c ∧ 8 + l.length ≤ (s ++ (c ++ l) ++ r).length := by
  have e1 : numL (s ++ (c ++ l) ++ r) = l.length := by
    rw [List.append_assoc, numL_front (by omega), hn]
  have e4 : (s ++ (c ++ l) ++ r).drop 4 = c ++ (l ++ r) := by
    rw [List.append_assoc, ← hs, List.drop_left, List.append_assoc]
  have e8 : (s ++ (c ++ l) ++ r).drop 8 = l ++ r := by
    rw [show 8 = 4 + 4 by rfl, ← List.drop_drop, e4]
    conv => lhs; rw [← hc]
    rw [List.drop_left]
  have et : (s ++ (c ++ l) ++ r).take 4 = s := by
    rw [List.append_assoc, ← hs, List.take_left]
  refine ⟨e1, ?_, ?_, ?_⟩
  · unfold core
    rw [e1, e8, et, List.take_left]
  · rw [e4, numL_front (by omega)]
  · rw [List.length_append, List.length_append, List.length_append]
    omega
theorem errF_parts {s c l r : List Nat} (hs : s.length = 4) (hc : c.length = 4) (hn : numL s = l.length) :
    errF (s ++ (c ++ l) ++ r) = (if crcOf (s ++ l) = numL c then 0 else 8) := by
  obtain ⟨a, b, d, e⟩ := open_parts s c l r hs hc hn
  unfold errF
  rw [if_neg (by rw [a]; omega), b, d]
theorem seal_opens {l : List Nat} (r : List Nat) (h8 : ∀ x ∈ l, x < 256) (hl : l.length < 4294967296) :
    errF (sealF l ++ r) = 0 ∧ numL (sealF l ++ r) = l.length ∧ inF (sealF l ++ r) = l := by
  have hn := numL_four hl
  have hc := numL_four (crc_small h8)
  have e0 : errF (sealF l ++ r) = 0 := by
    unfold sealF
    rw [errF_parts (fourL_len _) (fourL_len _) hn, hc, if_pos rfl]
  obtain ⟨a, b, d, e⟩ := open_parts (fourL l.length) (fourL (crcOf (fourL l.length ++ l))) l r (fourL_len _) (fourL_len _) hn
  refine ⟨e0, a, ?_⟩
  have := b
  unfold core at this
  have ht : (sealF l ++ r).take 4 = fourL l.length := by
    unfold sealF
    rw [List.append_assoc]
    exact List.take_left (l₁ := fourL l.length)
  unfold inF
  rw [if_pos e0]
  have b' : (sealF l ++ r).take 4 ++ ((sealF l ++ r).drop 8).take (numL (sealF l ++ r)) = fourL l.length ++ l := b
  rw [ht] at b'
  exact List.append_cancel_left b'

theorem catF_split (ls : List (List Nat)) (k : Nat) : catF ls = catF (ls.take k) ++ catF (ls.drop k) := by
  unfold catF
  rw [← List.flatten_append, ← List.map_append, List.take_append_drop]
theorem catF_drop {ls : List (List Nat)} {k : Nat} {l : List Nat} (h : ls[k]? = some l) : catF (ls.drop k) = sealF l ++ catF (ls.drop (k + 1)) := by
  obtain ⟨hk, rfl⟩ := List.getElem?_eq_some_iff.1 h
  rw [List.drop_eq_getElem_cons hk]
  rfl
theorem catF_at {ls : List (List Nat)} {k : Nat} {l : List Nat} (h : ls[k]? = some l) (r : List Nat) : (catF ls ++ r).drop (endL ls k) = sealF l ++ (catF (ls.drop (k + 1)) ++ r) := by
  rw [catF_split ls k, catF_drop h, List.append_assoc, List.append_assoc]
  exact List.drop_left (l₁ := catF (ls.take k))
theorem catF_succ {ls : List (List Nat)} {k : Nat} {l : List Nat} (h : ls[k]? = some l) : catF (ls.take (k + 1)) = catF (ls.take k) ++ sealF l := by
  unfold catF
  rw [List.take_add_one, h]
  simp
theorem endL_succ {ls : List (List Nat)} {k : Nat} {l : List Nat} (h : ls[k]? = some l) : endL ls (k + 1) = endL ls k + (8 + l.length) := by
  unfold endL
  rw [catF_succ h, List.length_append, sealF_len]
theorem endL_zero (ls : List (List Nat)) : endL ls 0 = 0 := rfl
theorem endL_all (ls : List (List Nat)) : endL ls ls.length = (catF ls).length := by unfold endL; rw [List.take_length]
theorem endL_le (ls : List (List Nat)) (k : Nat) : endL ls k ≤ (catF ls).length := by
  rw [catF_split ls k, List.length_append]
  exact Nat.le_add_right _ _
theorem endL_lt {ls : List (List Nat)} {k : Nat} (h : k < ls.length) : endL ls k + 8 ≤ endL ls (k + 1) := by
  rw [endL_succ (List.getElem?_eq_getElem h)]
  omega
theorem endL_take (ls : List (List Nat)) {n k : Nat} (h : k ≤ n) : endL (ls.take n) k = endL ls k := by
  unfold endL
  rw [List.take_take, Nat.min_eq_left h]

theorem cat_opens {ls : List (List Nat)} (r : List Nat) (h8 : ∀ l ∈ ls, ∀ x ∈ l, x < 256) (hl : ∀ l ∈ ls, l.length < 4294967296) :
    ∀ k, k ≤ ls.length → posF (catF ls ++ r) k = endL ls k := by
  intro k
  induction k with
  | zero => intro _; rfl
  | succ k ih =>
    intro hk
    have h := List.getElem?_eq_getElem (l := ls) (i := k) (by omega)
    have hm := List.mem_of_getElem? h
    show posF (catF ls ++ r) k + (8 + numL ((catF ls ++ r).drop (posF (catF ls ++ r) k))) = _
    rw [ih (by omega), catF_at h, (seal_opens _ (h8 _ hm) (hl _ hm)).2.1, endL_succ h]
theorem cat_item {ls : List (List Nat)} (r : List Nat) (h8 : ∀ l ∈ ls, ∀ x ∈ l, x < 256) (hl : ∀ l ∈ ls, l.length < 4294967296) {k : Nat} {l : List Nat} (h : ls[k]? = some l) :
    errF ((catF ls ++ r).drop (posF (catF ls ++ r) k)) = 0 ∧ itemF (catF ls ++ r) k = l ∧ posF (catF ls ++ r) k < (catF ls ++ r).length := by
  have hk : k < ls.length := (List.getElem?_eq_some_iff.1 h).1
  have hm := List.mem_of_getElem? h
  have e := cat_opens r h8 hl k (by omega)
  obtain ⟨a, b, c⟩ := seal_opens (catF (ls.drop (k + 1)) ++ r) (h8 _ hm) (hl _ hm)
  refine ⟨by rw [e, catF_at h]; exact a, by unfold itemF; rw [e, catF_at h]; exact c, ?_⟩
  rw [e]
  have h1 := endL_le ls (k + 1)
  have h2 := endL_lt hk
  rw [List.length_append]
  omega
theorem cat_ok {ls : List (List Nat)} (r : List Nat) (h8 : ∀ l ∈ ls, ∀ x ∈ l, x < 256) (hl : ∀ l ∈ ls, l.length < 4294967296) : okF (catF ls ++ r) ls.length := by
  intro j hj
  obtain ⟨a, _, c⟩ := cat_item r h8 hl (List.getElem?_eq_getElem hj)
  exact ⟨c, a⟩
theorem stop_uniq {bs : List Nat} {a b : Nat} (ha : okF bs a) (sa : stopF bs a) (hb : okF bs b) (sb : stopF bs b) : a = b := by
  have side : ∀ a b, stopF bs a → okF bs b → ¬ a < b := by
    intro a b sa hb hlt
    obtain ⟨h1, h2⟩ := hb a hlt
    rcases sa with h | ⟨_, h⟩
    · omega
    · exact h h2
  have := side a b sa hb
  have := side b a sb ha
  omega

/-- of a beginning all opens that is in it whole -/
theorem cut_opens {ls : List (List Nat)} {k0 n : Nat} (h8 : ∀ l ∈ ls, ∀ x ∈ l, x < 256) (hl : ∀ l ∈ ls, l.length < 4294967296) (hk : k0 ≤ (catF ls).length) (hn : n ≤ ls.length) (h1 : endL ls n ≤ k0) (h2 : n = ls.length ∨ k0 < endL ls (n + 1)) :
    okF ((catF ls).take k0) n ∧ stopF ((catF ls).take k0) n ∧ ∀ j, j < n → itemF ((catF ls).take k0) j = ls.getD j [] := by
  obtain ⟨r, hr⟩ : ∃ r, (catF (ls.drop n)).take (k0 - endL ls n) = r := ⟨_, rfl⟩
  have hT : (catF ls).take k0 = catF (ls.take n) ++ r := by
    rw [← hr, catF_split ls n, List.take_append, List.take_of_length_le (i := k0) (show (catF (ls.take n)).length ≤ k0 from h1)]
    rfl
  have hrl : r.length = k0 - endL ls n := by
    have := congrArg List.length hT
    rw [List.length_append, List.length_take] at this
    have e : (catF (ls.take n)).length = endL ls n := rfl
    omega
  have h8' : ∀ l ∈ ls.take n, ∀ x ∈ l, x < 256 := fun l h => h8 l (List.mem_of_mem_take h)
  have hl' : ∀ l ∈ ls.take n, l.length < 4294967296 := fun l h => hl l (List.mem_of_mem_take h)
  have hnl : (ls.take n).length = n := by rw [List.length_take]; omega
  have hok := cat_ok r h8' hl'
  have hps := cat_opens r h8' hl' n (by omega)
  rw [hnl] at hok
  rw [endL_take ls (Nat.le_refl n)] at hps
  rw [hT]
  refine ⟨hok, ?_, fun j hj => ?_⟩
  · have hle : (catF (ls.take n) ++ r).length = endL ls n + r.length := by rw [List.length_append]; rfl
    by_cases hz : r.length = 0
    · exact .inl (by rw [hps, hle, hz]; rfl)
    · refine .inr ⟨by rw [hps, hle]; omega, ?_⟩
      have hd : (catF (ls.take n) ++ r).drop (endL ls n) = r := List.drop_left (l₁ := catF (ls.take n))
      rw [hps, hd]
      have hnlt : n < ls.length := by
        by_cases e : n = ls.length
        · subst e
          rw [List.drop_length] at hr
          rw [← hr] at hz
          exact absurd (by simp [catF]) hz
        · omega
      have h := List.getElem?_eq_getElem hnlt
      have hm := List.mem_of_getElem? h
      have hlt : k0 < endL ls n + (8 + (ls[n]).length) := by
        rcases h2 with e | e
        · omega
        · rw [endL_succ h] at e; exact e
      have hsh : r.length < 8 ∨ r.length < 8 + numL r := by
        by_cases h4 : r.length < 8
        · exact .inl h4
        · refine .inr ?_
          have e : numL r = (ls[n]).length := by
            rw [← hr, numL_take _ _ (by omega), catF_drop h]
            exact (seal_opens _ (h8 _ hm) (hl _ hm)).2.1
          rw [e]
          omega
      rw [(errF_short hsh).1]
      decide
  · have hj' : (ls.take n)[j]? = some (ls.getD j []) := by
      rw [List.getElem?_take, if_pos hj, List.getD_eq_getElem?_getD, List.getElem?_eq_getElem (by omega)]
      rfl
    exact (cat_item r h8' hl' hj').2.1

theorem numL_turned {c : List Nat} {i x y : Nat} (hc : c.length = 4) (hx : c[i]? = some x) (hne : y ≠ x) : numL (c.set i y) ≠ numL c := by
  obtain ⟨a0, a1, a2, a3, rfl⟩ : ∃ a0 a1 a2 a3, c = [a0, a1, a2, a3] := by
    match c, hc with
    | [a0, a1, a2, a3], _ => exact ⟨a0, a1, a2, a3, rfl⟩
  have hi : i < 4 := (List.getElem?_eq_some_iff.1 hx).1
  have e := fun (b0 b1 b2 b3 : Nat) => (numK_at [b0, b1, b2, b3]).2.2.2.2
  have e' : ∀ b0 b1 b2 b3, numL [b0, b1, b2, b3] = b0 + b1 * 256 + b2 * 65536 + b3 * 16777216 := fun b0 b1 b2 b3 => e b0 b1 b2 b3
  rcases (show i = 0 ∨ i = 1 ∨ i = 2 ∨ i = 3 by omega) with rfl | rfl | rfl | rfl
  · obtain rfl : a0 = x := by simpa using hx
    show numL [y, a1, a2, a3] ≠ _
    rw [e', e']; omega
  · obtain rfl : a1 = x := by simpa using hx
    show numL [a0, y, a2, a3] ≠ _
    rw [e', e']; omega
  · obtain rfl : a2 = x := by simpa using hx
    show numL [a0, a1, y, a3] ≠ _
    rw [e', e']; omega
  · obtain rfl : a3 = x := by simpa using hx
    show numL [a0, a1, a2, y] ≠ _
    rw [e', e']; omega
/-- a byte turned, but for the first four: it can't be opened -/
theorem seal_turned {l : List Nat} (r : List Nat) (h8 : ∀ x ∈ l, x < 256) (hl : l.length < 4294967296) {q x y : Nat} (h4 : 4 ≤ q) (hx : (sealF l)[q]? = some x) (hy : y < 256) (hne : y ≠ x) : errF ((sealF l).set q y ++ r) = 8 := by
  have hq : q < 8 + l.length := by
    have := (List.getElem?_eq_some_iff.1 hx).1
    rw [sealF_len] at this
    exact this
  have hn := numL_four hl
  have hcr := numL_four (crc_small h8)
  unfold sealF at hx ⊢
  rw [List.getElem?_append_right (by rw [fourL_len]; exact h4), fourL_len] at hx
  rw [List.set_append_right _ _ (by rw [fourL_len]; exact h4), fourL_len]
  by_cases h : q < 8
  · rw [List.getElem?_append_left (by rw [fourL_len]; omega)] at hx
    rw [List.set_append_left _ _ (by rw [fourL_len]; omega)]
    rw [errF_parts (fourL_len _) (by rw [List.length_set]; rfl) hn, if_neg]
    intro e
    exact numL_turned (fourL_len _) hx hne (by rw [← e, hcr])
  · rw [List.getElem?_append_right (by rw [fourL_len]; omega), fourL_len] at hx
    rw [List.set_append_right _ _ (by rw [fourL_len]; omega), fourL_len]
    rw [errF_parts (fourL_len _) (fourL_len _) (by rw [List.length_set]; exact hn), if_neg]
    intro e
    rw [hcr] at e
    have hset : fourL l.length ++ l.set (q - 4 - 4) y = (fourL l.length ++ l).set (q - 4) y := by
      rw [List.set_append_right _ _ (by rw [fourL_len]; omega), fourL_len]
    rw [hset] at e
    refine crc_set (i := q - 4) (x := x) (fun z hz => ?_) ?_ hy hne e
    · rcases List.mem_append.1 hz with h1 | h1
      · exact fourL_lt _ z h1
      · exact h8 z h1
    · rw [List.getElem?_append_right (by rw [fourL_len]; omega), fourL_len]
      exact hx
theorem turned_stops {ls : List (List Nat)} {p i x y : Nat} (h8 : ∀ l ∈ ls, ∀ x ∈ l, x < 256) (hl : ∀ l ∈ ls, l.length < 4294967296) (hi : i < ls.length) (h1 : endL ls i + 4 ≤ p) (h2 : p < endL ls (i + 1)) (hx : (catF ls)[p]? = some x) (hy : y < 256) (hne : y ≠ x) :
    okF ((catF ls).set p y) i ∧ posF ((catF ls).set p y) i < ((catF ls).set p y).length ∧ errF (((catF ls).set p y).drop (posF ((catF ls).set p y) i)) = 8 := by
  have h := List.getElem?_eq_getElem hi
  have hm := List.mem_of_getElem? h
  obtain ⟨l, hlq⟩ : ∃ l, ls[i] = l := ⟨_, rfl⟩
  rw [hlq] at h hm
  have hs := catF_split ls i
  rw [catF_drop h] at hs
  have hE : (catF (ls.take i)).length = endL ls i := rfl
  rw [endL_succ h] at h2
  rw [hs, List.getElem?_append_right (by omega), hE, List.getElem?_append_left (by rw [sealF_len]; omega)] at hx
  have hset : (catF ls).set p y = catF (ls.take i) ++ ((sealF l).set (p - endL ls i) y ++ catF (ls.drop (i + 1))) := by
    rw [hs, List.set_append_right _ _ (by omega), hE, List.set_append_left _ _ (by rw [sealF_len]; omega)]
  have h8' : ∀ l ∈ ls.take i, ∀ x ∈ l, x < 256 := fun l h => h8 l (List.mem_of_mem_take h)
  have hl' : ∀ l ∈ ls.take i, l.length < 4294967296 := fun l h => hl l (List.mem_of_mem_take h)
  have hnl : (ls.take i).length = i := by rw [List.length_take]; omega
  have hok := cat_ok ((sealF l).set (p - endL ls i) y ++ catF (ls.drop (i + 1))) h8' hl'
  have hps := cat_opens ((sealF l).set (p - endL ls i) y ++ catF (ls.drop (i + 1))) h8' hl' i (by omega)
  rw [hnl] at hok
  rw [endL_take ls (Nat.le_refl i)] at hps
  rw [hset]
  refine ⟨hok, ?_, ?_⟩
  · rw [hps, List.length_append, List.length_append, List.length_set, sealF_len, hE]
    omega
  · have hd : (catF (ls.take i) ++ ((sealF l).set (p - endL ls i) y ++ catF (ls.drop (i + 1)))).drop (endL ls i) = (sealF l).set (p - endL ls i) y ++ catF (ls.drop (i + 1)) := List.drop_left (l₁ := catF (ls.take i))
    rw [hps, hd]
    exact seal_turned _ (h8 _ hm) (hl _ hm) (by omega) hx hy hne
theorem catF_b8 {ls : List (List Nat)} (h8 : ∀ l ∈ ls, ∀ x ∈ l, x < 256) : ∀ x ∈ catF ls, x < 256 := by
  intro x hx
  unfold catF at hx
  obtain ⟨s, hs, hxs⟩ := List.mem_flatten.1 hx
  obtain ⟨l, hl, rfl⟩ := List.mem_map.1 hs
  exact sealF_b8 (h8 l hl) x hxs
end Go.Proofs.Ytlebgbigbiaanaa
