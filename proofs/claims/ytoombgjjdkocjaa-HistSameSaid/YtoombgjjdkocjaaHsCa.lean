/- The law HistCells: a map of the two sides, held as they are. -/
import Derived.Test.YtoombgjjdkocjaaHsY
import Derived.Test.YtoombgjjdkocjaaHsT
namespace Go.Proofs.Ytoombgjjdkocjaa
open Go.RowKit Go.Sort Go.Maps
set_option linter.unusedVariables false

/-- any value, read as itself -/
def RV : Value → Option (DataW Value × List MemPlace) := fun v => some (.held v, [])
theorem keyI : Keyed Try.prog 3 := int_keyed Try.underlying3
/-- an entry of a literal, at the operation -/
theorem wpList_lit_entry {w : World} {ops : Array Oper} {rest : List Oper} {o : Oper} {a : Act} {Q : Exit → Act → World → Prop} (hg : o.guard = none) (m x v : Operand) (hop : o.op = Op.insert 33 m x v)
    (b n : Nat) (D : DataW Value) (hm : a.eval m = .map (some b)) (hown : w.ownsMap Try.prog 3 RV b n D) (hn : n < maxLen) (key : Int) (val : Value) (hx : a.eval x = .int .i64 key) (hv : a.eval v = val) (hkey : keyOf Try.prog 3 (.int .i64 key) = some (.int .i64 key))
    (hK : ∀ w', w'.ownsMap Try.prog 3 RV b (n + 1) (D.put (.int .i64 key) (.held val)) → w.grownBy w' (some b) → wpList Try.prog ops Q rest (a.put o.dst undef) w') : wpList Try.prog ops Q (o :: rest) a w := by
  refine wpList_plain hg fun K hK2 => ?_
  obtain ⟨w', hrun, h1, h2⟩ := hown.update keyI Try.underlying33 hn hkey (show RV val = some (.held val, []) from rfl)
  unfold Oper.wp
  simp [execOp, hop, hm, hx, hv, hrun, Result.andThen]
  exact hK2 _ _ (hK w' h1 h2)
theorem key_one : keyOf Try.prog 3 (.int .i64 1) = some (.int .i64 1) := by kernel_rfl
theorem key_neg : keyOf Try.prog 3 (.int .i64 (-1)) = some (.int .i64 (-1)) := by kernel_rfl
theorem ilit (n : Int) : WideAt.IsKeyLit (.int .i64 n) := by trivial
def D2 (SA SB : Value) : DataW Value := ((DataW.map []).put (.int .i64 1) (.held SA)).put (.int .i64 (-1)) (.held SB)
theorem d2_tidy1 (SA : Value) : Tidy ((DataW.map [] : DataW Value).put (.int .i64 1) (.held SA)) := tidy_empty.put (ilit 1) _
theorem d2_has (SA SB : Value) (x : Int) : has (D2 SA SB) (.int .i64 x) = true ↔ x = 1 ∨ x = -1 := by
  unfold D2
  by_cases h2 : x = -1
  · subst h2
    rw [has_put_same (d2_tidy1 SA).isMap (ilit _)]
    simp
  · rw [has_put_other (by simpa using h2)]
    by_cases h1 : x = 1
    · subst h1
      rw [has_put_same tidy_empty.isMap (ilit _)]
      simp
    · rw [has_put_other (by simpa using h1)]
      simp [has, h1, h2]
theorem d2_one (SA SB : Value) (zd : DataW Value) : (D2 SA SB).atKey (.int .i64 1) zd = .held SA := by
  unfold D2
  rw [atKey_put_other (by simp), atKey_put_same tidy_empty.isMap (ilit _)]
theorem d2_neg (SA SB : Value) (zd : DataW Value) : (D2 SA SB).atKey (.int .i64 (-1)) zd = .held SB := by
  unfold D2
  rw [atKey_put_same (d2_tidy1 SA).isMap (ilit _)]
theorem keys_len {s zc : Int} {P Q : List (Int × Int)} : ((keysF s zc P Q).length : Int) = (if zc = 0 then 0 else 1) + P.length + Q.length := by
  unfold keysF
  split <;> simp <;> omega
theorem lookup_cell {w : World} {b n : Nat} {D : DataW Unit} {f : F3} (ho : w.ownsMap Try.prog 32 (plainElem Try.prog 22) b n D) (hr : Rd D f) {a c i : Int} (ha : I64 a) (hc : I64 c) (hi : I64 i) {v : Int} (hv : f a c i = v) :
    (Instr.lookup 29 (.map (some b)) (.agg #[.int .i64 a, .int .i64 c, .int .i64 i]) false).run Try.prog w = .ok (.int .u64 v) w := by
  obtain ⟨x, h1, h2, _⟩ := ho.lookup_int lawK Try.underlying29 Try.underlying22 (zeroU _) (key_mk ha hc hi)
  rw [(hr.2.1 a c i ha hc hi).1] at h2
  have e : f a c i = x := by simpa using h2
  rw [h1, ← e, hv]
/-- what the bucket asked for has, as far as its side has been seen -/
def nF (side idx : Int) (p q : Bool) (P Q : List (Int × Int)) : Int := if 0 < side then (if p = true then atI P idx else 0) else if side < 0 then (if q = true then atI Q idx else 0) else 0
def aF (a0 : Int) (p q : Bool) (P Q : List (Int × Int)) : Int := a0 + (if p = true then (P.length : Int) else 0) + (if q = true then (Q.length : Int) else 0)
def mF (M : Bool) (x y : Int) : Int := if M = true then x else y
def CeRel (side idx a0 : Int) (P Q : List (Int × Int)) (SA SB : Value) (w3 : World) (m r : Nat) (s7 s8 : Value) (wr : World) : Prop :=
  ∃ (left : Lit → Bool) (cnt : Nat) (p q : Bool), wr.ranges Try.prog 3 RV m r 2 (D2 SA SB) left cnt ∧ (∀ x : Int, left (.int .i64 x) = true → (x = 1 ∧ p = false) ∨ (x = -1 ∧ q = false)) ∧ (p = false → left (.int .i64 1) = true) ∧ (q = false → left (.int .i64 (-1)) = true) ∧
    s8 = .int .i64 (aF a0 p q P Q) ∧ s7 = .int .u64 (nF side idx p q P Q) ∧ Below w3.heap.size w3 wr
def CiRel (M : Bool) (idx a1 n1 : Int) (l : List (Int × Int)) (w8 : World) (s7 s8 s50 : Value) (wr : World) : Prop :=
  ∃ j : Nat, j ≤ l.length ∧ s50 = .int .i64 j ∧ s8 = .int .i64 (a1 + j) ∧ s7 = .int .u64 (mF M (atI (l.take j) idx) n1) ∧ Below w8.heap.size w8 wr
theorem left_one {left : Lit → Bool} {q : Bool} (h1 : ∀ x : Int, left (.int .i64 x) = true → (x = 1 ∧ false = false) ∨ (x = -1 ∧ q = false)) (h3 : q = false → left (.int .i64 (-1)) = true) :
    (∀ x : Int, (left (.int .i64 x) && !(Lit.int .i64 x).sameKey (.int .i64 1)) = true → (x = 1 ∧ true = false) ∨ (x = -1 ∧ q = false)) ∧ (q = false → (left (.int .i64 (-1)) && !(Lit.int .i64 (-1)).sameKey (.int .i64 1)) = true) := by
  constructor
  · intro x hx
    simp only [Bool.and_eq_true, Bool.not_eq_true'] at hx
    rcases h1 x hx.1 with ⟨rfl, _⟩ | h
    · rw [WideAt.sameKey_self (ilit 1)] at hx; cases hx.2
    · exact .inr h
  · intro hq
    rw [h3 hq, sameKey_ne (by simp)]
    rfl
theorem left_neg {left : Lit → Bool} {p : Bool} (h1 : ∀ x : Int, left (.int .i64 x) = true → (x = 1 ∧ p = false) ∨ (x = -1 ∧ false = false)) (h3 : p = false → left (.int .i64 1) = true) :
    (∀ x : Int, (left (.int .i64 x) && !(Lit.int .i64 x).sameKey (.int .i64 (-1))) = true → (x = 1 ∧ p = false) ∨ (x = -1 ∧ true = false)) ∧ (p = false → (left (.int .i64 1) && !(Lit.int .i64 1).sameKey (.int .i64 (-1))) = true) := by
  constructor
  · intro x hx
    simp only [Bool.and_eq_true, Bool.not_eq_true'] at hx
    rcases h1 x hx.1 with h | ⟨rfl, _⟩
    · exact .inl h
    · rw [WideAt.sameKey_self (ilit (-1))] at hx; cases hx.2
  · intro hq
    rw [h3 hq, sameKey_ne (by simp)]
    rfl
theorem atI_take {l : List (Int × Int)} (ha : Asc l) {j : Nat} {p : Int × Int} (hp : l[j]? = some p) (idx : Int) : atI (l.take (j + 1)) idx = if p.1 = idx then p.2 else atI (l.take j) idx := by
  rw [take_snoc _ _ _ hp, atI_append]
  have e : atI [p] idx = if p.1 = idx then p.2 else 0 := by simp [atI]
  rw [e]
  by_cases h : p.1 = idx
  · rw [if_pos h, if_pos h]
    have h0 : atI (l.take j) idx = 0 := by
      refine atI_none (fun q hq => ?_)
      obtain ⟨i, hi, rfl⟩ := List.getElem_of_mem hq
      have hij : i < j := by simp at hi; omega
      have hil : i < l.length := by simp at hi; omega
      have h1 := asc_at ha hij (show l[i]? = some l[i] from List.getElem?_eq_getElem hil) hp
      simp only [List.getElem_take]
      omega
    omega
  · rw [if_neg h, if_neg h]
    omega
end Go.Proofs.Ytoombgjjdkocjaa
