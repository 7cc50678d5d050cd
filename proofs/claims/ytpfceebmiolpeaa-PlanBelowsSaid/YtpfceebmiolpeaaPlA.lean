/- Words for slices that read as lists, cell by cell, and for rows of a call's own; items, append of items. -/
import Derived.Test.YtpfceebmiolpeaaRows
import Derived.WalkKit
import Derived.Lib.Hide
import Derived.WalkLawsBesides
import Derived.WalkSpells
import Derived.OpenShut
import Derived.LoopTactic
import Derived.Below
import Derived.Lib.QuietBelow
import Derived.Deep.QuietTactic
import Derived.BigQuiet
import Derived.Deep.RegionWith
import Derived.Deep.RegionHeld3
import Derived.Outline
import Derived.Deep.AppendLies
import Derived.Laws.OwnMore
import Derived.Laws.AppendOwnNone
import Derived.IntWalk
namespace Go.Proofs.Ytpfceebmiolpeaa.Pl
open Go.RowKit Go.Sort
set_option linter.unusedVariables false

theorem ret_int {k : IntKind} {a b : Int} (h : a = b) : Ending.returned (.int k a) = .returned (.int k b) := by rw [h]
theorem ret_val {k : IntKind} {a b : Int} (h : a = b) : Value.int k a = .int k b := by rw [h]
theorem ret_bool {a b : Bool} (h : a = b) : Ending.returned (.bool a) = .returned (.bool b) := by rw [h]

/-- what an int, a uint64 can be -/
def I64 (n : Int) : Prop := -9223372036854775808 ≤ n ∧ n ≤ 9223372036854775807
def U64 (n : Int) : Prop := 0 ≤ n ∧ n ≤ 18446744073709551615
/-- all cells that there are are kept -/
def Kept (w w' : World) : Prop := ∀ (p : Addr) (v : Value), w.cell? p = some v → w'.cell? p = some v
theorem Kept.of_below {w w' : World} (h : Below w.heap.size w w') : Kept w w' := fun p v hp => (h.cell (block_lt_of_cell hp)).trans hp
theorem Kept.trans {a b c : World} (h : Kept a b) (k : Kept b c) : Kept a c := fun p v hp => k p v (h p v hp)
theorem Kept.refl (w : World) : Kept w w := fun _ _ h => h
theorem Kept.drewN {w w' : World} (h : Kept w w') (n : Nat) : Kept w (w'.drewN n) := h
theorem Kept.drew {w w' : World} (h : Kept w w') : Kept w w'.drew := h
theorem Kept.alloc {w w' : World} (h : Kept w w') (o : Obj) : Kept w (w'.alloc o) := h.trans (Kept.of_below ((Below.refl _ _).alloc (Nat.le_refl _) _))
theorem below_drewN {B : Nat} {a w : World} (h : Below B a w) (n : Nat) : Below B a (w.drewN n) := ⟨h.os, h.tape, h.output, h.size, h.block⟩

/-- the cells xs lie at A -/
def Cl (w : World) (A : Option Addr) (xs : List Value) : Prop := xs = [] ∨ ∃ b off, A = some ⟨b, off, none⟩ ∧ ∀ j v, xs[j]? = some v → w.cell? ⟨b, off + j, none⟩ = some v
theorem Cl.kept {w w' : World} {A : Option Addr} {xs : List Value} (h : Cl w A xs) (k : Kept w w') : Cl w' A xs := by
  rcases h with h | ⟨b, off, e, hc⟩
  · exact .inl h
  · exact .inr ⟨b, off, e, fun j v hj => k _ _ (hc j v hj)⟩
theorem Cl.below {w w' : World} {A : Option Addr} {xs : List Value} (h : Cl w A xs) (k : Below w.heap.size w w') : Cl w' A xs := h.kept (Kept.of_below k)
theorem Cl.nil (w : World) (A : Option Addr) : Cl w A [] := .inl rfl
theorem Cl.some_ {w : World} {A : Option Addr} {xs : List Value} (h : Cl w A xs) (h0 : 0 < xs.length) : ∃ b off, A = some ⟨b, off, none⟩ ∧ ∀ j v, xs[j]? = some v → w.cell? ⟨b, off + j, none⟩ = some v := by
  rcases h with h | h
  · rw [h] at h0; simp at h0
  · exact h
/-- a store elsewhere leaves the cells -/
theorem Cl.set {w : World} {A : Option Addr} {xs : List Value} (h : Cl w A xs) {p : Addr} (hp : ∀ a, A = some a → a.block ≠ p.block) (v : Value) : Cl (w.setCell p v) A xs := by
  rcases h with h | ⟨b, off, e, hc⟩
  · exact .inl h
  · refine .inr ⟨b, off, e, fun j v hj => ?_⟩
    have hne : p ≠ ⟨b, off + j, none⟩ := fun e' => hp _ e (by rw [e'])
    rw [World.cell?_setCell_other _ _ _ _ hne]
    exact hc j v hj
theorem getElem?_lt {α : Type} {l : List α} {k : Nat} (h : k < l.length) : ∃ x, l[k]? = some x := ⟨l[k], List.getElem?_eq_getElem h⟩
theorem take_snoc {α : Type} (l : List α) (k : Nat) (x : α) (h : l[k]? = some x) : l.take (k + 1) = l.take k ++ [x] := by
  rw [List.take_add_one, h]; rfl
theorem mem_of_at {α : Type} {l : List α} {k : Nat} {x : α} (h : l[k]? = some x) : x ∈ l := List.mem_of_getElem? h
theorem own_shape {w : World} {base : Nat} {e : TypeId} {size n : Nat} {v : Value} {xs : List Value} (h : w.ownsRow base e size v n xs) : ∃ A c, v = .slice A n c := by
  rcases h.2 with ⟨rfl, h0⟩ | ⟨g, cap, _, rfl, _⟩
  · exact ⟨none, 0, by rw [h0]⟩
  · exact ⟨_, cap, rfl⟩
theorem own_cl {w : World} {base : Nat} {e : TypeId} {size n c : Nat} {A : Option Addr} {xs : List Value} (h : w.ownsRow base e size (.slice A n c) n xs) : Cl w A xs := by
  by_cases h0 : n = 0
  · have := h.1
    rw [h0, Nat.zero_mul] at this
    exact .inl (List.eq_nil_of_length_eq_zero this)
  · obtain ⟨g, cap', hv, _, _⟩ := h.form (by omega)
    injection hv with e1 e2 e3
    subst e1
    refine .inr ⟨g, 0, rfl, fun j v hj => ?_⟩
    have hj' : j < n * size := by rw [← h.1]; exact (List.getElem?_eq_some_iff.1 hj).1
    rw [Nat.zero_add, h.cellAt j hj', hj]
theorem own_base {w : World} {B B' : Nat} {e : TypeId} {size n : Nat} {v : Value} {xs : List Value} (h : w.ownsRow B e size v n xs) (hB : B' ≤ B) : w.ownsRow B' e size v n xs := by
  obtain ⟨h1, h2⟩ := h
  refine ⟨h1, ?_⟩
  rcases h2 with h2 | ⟨g, cap, cur, hv, hb, r⟩
  · exact .inl h2
  · exact .inr ⟨g, cap, cur, hv, Nat.le_trans hB hb, r⟩
theorem own_below {w w' : World} {B : Nat} {e : TypeId} {size n : Nat} {v : Value} {xs : List Value} (h : w.ownsRow B e size v n xs) (hb : Below w.heap.size w w') : w'.ownsRow B e size v n xs :=
  h.kept (row := none) ⟨hb.os, hb.tape, hb.output, hb.size, fun k hk _ => hb.block k hk⟩ (by
    rcases ho : v.ownBlock with _ | g
    · exact .inl rfl
    · exact .inr (by simp))
theorem own_drewN {w : World} {B : Nat} {e : TypeId} {size n : Nat} {v : Value} {xs : List Value} (h : w.ownsRow B e size v n xs) (q : Nat) : (w.drewN q).ownsRow B e size v n xs := h
theorem below_own {W w w' : World} {B B' : Nat} {v : Value} {e : TypeId} {size n : Nat} {xs : List Value} (h : Below B W w) (hB : B ≤ w.heap.size) (hown : w.ownsRow B' e size v n xs) (hBB : B ≤ B') (hg : w.grownBy w' v.ownBlock) : Below B W w' :=
  h.grown hg hB (fun k hk => Nat.le_trans hBB (hown.lt k hk).1)
theorem heap_set_at {w : World} {g i : Nat} {cs : Array Value} {t : TypeId} {fr : Nat × Nat} (h : w.heap[g]? = some (.cells cs t fr)) (u : Value) : (w.setCell ⟨g, i, none⟩ u).heap[g]? = some (.cells (cs.setIfInBounds i u) t fr) := by
  simp [World.setCell, Array.getElem?_modify, h]
theorem addr_at (b o k : Nat) : (⟨b, o, none⟩ : Addr).add k = ⟨b, o + k, none⟩ := by
  unfold Addr.add
  split
  · subst_vars; rfl
  · rfl
/-- what append asks of its source -/
theorem Cl.src {w : World} {ad : Addr} {xs : List Value} (h : Cl w (some ad) xs) (j : Nat) (u : Value) (hu : xs[j]? = some u) : w.cell? (ad.add j) = some u := by
  obtain ⟨b, off, e, hc⟩ := h.some_ (by have := (List.getElem?_eq_some_iff.1 hu).1; omega)
  obtain rfl : ad = ⟨b, off, none⟩ := by simpa using e
  rw [addr_at]
  exact hc j u hu

/-- the cells of numbers -/
def intsC (k : IntKind) (l : List Int) : List Value := l.map (Value.int k)
theorem intsC_length (k : IntKind) (l : List Int) : (intsC k l).length = l.length := by simp [intsC]
theorem intsC_append (k : IntKind) (l m : List Int) : intsC k (l ++ m) = intsC k l ++ intsC k m := by simp [intsC]
theorem intsC_at {k : IntKind} {l : List Int} {j : Nat} {x : Int} (h : l[j]? = some x) : (intsC k l)[j]? = some (.int k x) := by simp [intsC, h]
theorem intsC_one (k : IntKind) (l : List Int) : ∀ u ∈ intsC k l, u.oneCell' = true := by
  intro u hu
  obtain ⟨p, _, rfl⟩ := List.mem_map.1 hu
  rfl
theorem Cl.ints {w : World} {A : Option Addr} {k : IntKind} {l : List Int} (h : Cl w A (intsC k l)) (h0 : 0 < l.length) : ∃ b off, A = some ⟨b, off, none⟩ ∧ ∀ (j : Nat) (x : Int), l[j]? = some x → w.cell? ⟨b, off + j, none⟩ = some (.int k x) := by
  obtain ⟨b, off, e, hc⟩ := h.some_ (by rw [intsC_length]; exact h0)
  exact ⟨b, off, e, fun j x hj => hc j _ (intsC_at hj)⟩
theorem infoI : (Try.prog.info? 3).map (fun i => (i.zero, i.size, i.bytes)) = some (some (.int .i64 0), 1, 8) := by kernel_rfl
theorem own_nil (w : World) (B e size : Nat) : w.ownsRow B e size (.slice none 0 0) 0 [] := ⟨by simp, .inl ⟨rfl, rfl⟩⟩
theorem cell_below {w w' : World} {p : Addr} {v : Value} (h : w.cell? p = some v) (k : Below w.heap.size w w') : w'.cell? p = some v := Kept.of_below k p v h
theorem own_none {w : World} {B n c size : Nat} {e : TypeId} {A : Option Addr} {xs : List Value} (h : w.ownsRow B e size (.slice A n c) n xs) : A = none → c = 0 := by
  rintro rfl
  rcases h.2 with ⟨hv, _⟩ | ⟨g, cap, cur, hv, _⟩
  · injection hv with e1 e2 e3
  · injection hv with e1
    cases e1

/-- a block by its number: where it begins, where it ends, of which level -/
structure It where
  q : Int
  lo : Int
  hi : Int
  lv : Int
deriving instance DecidableEq for It
/-- as the program has it, as the document has it -/
def itA (x : It) : Array Value := #[.int .i64 x.q, .int .i64 x.lo, .int .i64 x.hi, .int .i64 x.lv]
def rfA (x : It) : Array Value := #[.int .i64 x.q, .int .i64 x.lv, .int .i64 x.lo, .int .i64 x.hi]
def fC (f : It → Array Value) (l : List It) : List Value := l.flatMap fun x => (f x).toList
/-- four cells each -/
structure Four (f : It → Array Value) : Prop where
  len : ∀ x, (f x).toList.length = 4
  one : ∀ x, ∀ u ∈ (f x).toList, u.oneCell' = true
theorem fourI : Four itA := ⟨fun _ => rfl, fun x u hu => by simp [itA] at hu; rcases hu with rfl | rfl | rfl | rfl <;> rfl⟩
theorem fourR : Four rfA := ⟨fun _ => rfl, fun x u hu => by simp [rfA] at hu; rcases hu with rfl | rfl | rfl | rfl <;> rfl⟩
theorem fC_length {f : It → Array Value} (hf : Four f) (l : List It) : (fC f l).length = l.length * 4 := by
  induction l with
  | nil => rfl
  | cons a r ih =>
    have := hf.len a
    simp only [fC, List.flatMap_cons, List.length_append, List.length_cons] at *
    omega
theorem fC_append (f : It → Array Value) (l m : List It) : fC f (l ++ m) = fC f l ++ fC f m := by simp [fC]
theorem fC_at {f : It → Array Value} (hf : Four f) : ∀ {l : List It} {k : Nat} {p : It} {j : Nat}, l[k]? = some p → j < 4 → (fC f l)[k * 4 + j]? = (f p).toList[j]?
  | [], k, p, j, h, _ => by simp at h
  | a :: r, 0, p, j, h, hj => by
    simp at h
    subst h
    have e : fC f (a :: r) = (f a).toList ++ fC f r := rfl
    rw [e, Nat.zero_mul, Nat.zero_add, List.getElem?_append_left (by rw [hf.len]; exact hj)]
  | a :: r, k + 1, p, j, h, hj => by
    have e : fC f (a :: r) = (f a).toList ++ fC f r := rfl
    rw [e, show (k + 1) * 4 + j = 4 + (k * 4 + j) by omega, List.getElem?_append_right (by rw [hf.len]; omega), hf.len, Nat.add_sub_cancel_left]
    exact fC_at hf (by simpa using h) hj
theorem fC_one {f : It → Array Value} (hf : Four f) (l : List It) : ∀ u ∈ fC f l, u.oneCell' = true := by
  intro u hu
  obtain ⟨p, _, hp⟩ := List.mem_flatMap.1 hu
  exact hf.one p u hp
theorem Cl.fours {w : World} {A : Option Addr} {f : It → Array Value} {l : List It} (hf : Four f) (h : Cl w A (fC f l)) (h0 : 0 < l.length) : ∃ b off, A = some ⟨b, off, none⟩ ∧ ∀ (k : Nat) (x : It), l[k]? = some x → ∀ j, j < 4 → ∀ v, (f x).toList[j]? = some v → w.cell? ⟨b, off + k * 4 + j, none⟩ = some v := by
  obtain ⟨b, off, e, hc⟩ := h.some_ (by rw [fC_length hf]; omega)
  refine ⟨b, off, e, fun k x hk j hj v hv => ?_⟩
  rw [Nat.add_assoc]
  exact hc _ _ ((fC_at hf hk hj).trans hv)
theorem Cl.its {w : World} {A : Option Addr} {l : List It} (h : Cl w A (fC itA l)) (h0 : 0 < l.length) : ∃ b off, A = some ⟨b, off, none⟩ ∧ ∀ (k : Nat) (x : It), l[k]? = some x → w.cell? ⟨b, off + k * 4, none⟩ = some (.int .i64 x.q) ∧ w.cell? ⟨b, off + k * 4 + 1, none⟩ = some (.int .i64 x.lo) ∧ w.cell? ⟨b, off + k * 4 + 2, none⟩ = some (.int .i64 x.hi) ∧ w.cell? ⟨b, off + k * 4 + 3, none⟩ = some (.int .i64 x.lv) := by
  obtain ⟨b, off, e, hc⟩ := h.fours fourI h0
  exact ⟨b, off, e, fun k x hk => ⟨hc k x hk 0 (by omega) _ rfl, hc k x hk 1 (by omega) _ rfl, hc k x hk 2 (by omega) _ rfl, hc k x hk 3 (by omega) _ rfl⟩⟩
theorem Cl.rfs {w : World} {A : Option Addr} {l : List It} (h : Cl w A (fC rfA l)) (h0 : 0 < l.length) : ∃ b off, A = some ⟨b, off, none⟩ ∧ ∀ (k : Nat) (x : It), l[k]? = some x → w.cell? ⟨b, off + k * 4, none⟩ = some (.int .i64 x.q) ∧ w.cell? ⟨b, off + k * 4 + 1, none⟩ = some (.int .i64 x.lv) ∧ w.cell? ⟨b, off + k * 4 + 2, none⟩ = some (.int .i64 x.lo) ∧ w.cell? ⟨b, off + k * 4 + 3, none⟩ = some (.int .i64 x.hi) := by
  obtain ⟨b, off, e, hc⟩ := h.fours fourR h0
  exact ⟨b, off, e, fun k x hk => ⟨hc k x hk 0 (by omega) _ rfl, hc k x hk 1 (by omega) _ rfl, hc k x hk 2 (by omega) _ rfl, hc k x hk 3 (by omega) _ rfl⟩⟩
/-- a block of four cells -/
theorem box4 {W : World} {g : Nat} {t : TypeId} {v0 v1 v2 v3 : Value} (h : W.heap[g]? = some (.cells #[v0, v1, v2, v3] t (0, 0))) : W.cell? ⟨g, 0, none⟩ = some v0 ∧ W.cell? ⟨g, 1, none⟩ = some v1 ∧ W.cell? ⟨g, 2, none⟩ = some v2 ∧ W.cell? ⟨g, 3, none⟩ = some v3 :=
  ⟨by rw [cell_of_row _ _ _ _ _ _ h]; rfl, by rw [cell_of_row _ _ _ _ _ _ h]; rfl, by rw [cell_of_row _ _ _ _ _ _ h]; rfl, by rw [cell_of_row _ _ _ _ _ _ h]; rfl⟩
theorem box2 {W : World} {g : Nat} {t : TypeId} {v0 v1 : Value} (h : W.heap[g]? = some (.cells #[v0, v1] t (0, 0))) : W.cell? ⟨g, 0, none⟩ = some v0 ∧ W.cell? ⟨g, 1, none⟩ = some v1 :=
  ⟨by rw [cell_of_row _ _ _ _ _ _ h]; rfl, by rw [cell_of_row _ _ _ _ _ _ h]; rfl⟩
theorem box1 {W : World} {g : Nat} {t : TypeId} {v : Value} (h : W.heap[g]? = some (.cells #[v] t (0, 0))) : W.cell? ⟨g, 0, none⟩ = some v ∧ W.frozen? ⟨g, 0, none⟩ = false :=
  ⟨by rw [cell_of_row _ _ _ _ _ _ h]; rfl, by simp [World.frozen?, h]⟩
theorem infoT : (Try.prog.info? 78).map (fun i => (i.zero, i.size, i.bytes)) = some (some (.agg #[.int .i64 0, .int .i64 0, .int .i64 0, .int .i64 0]), 4, 32) := by kernel_rfl
theorem infoR : (Try.prog.info? 45).map (fun i => (i.zero, i.size, i.bytes)) = some (some (.agg #[.int .i64 0, .int .i64 0, .int .i64 0, .int .i64 0]), 4, 32) := by kernel_rfl
theorem cl_none {w : World} {f : It → Array Value} (hf : Four f) {l : List It} (h : Cl w none (fC f l)) : l = [] := by
  rcases h with h0 | ⟨_, _, h0, _⟩
  · cases l with
    | nil => rfl
    | cons p r => exact absurd (congrArg List.length h0) (by rw [fC_length hf]; simp)
  · cases h0
theorem own_len4 {w : World} {B n c : Nat} {e : TypeId} {A : Option Addr} {f : It → Array Value} (hf : Four f) {l : List It} (h : w.ownsRow B e 4 (.slice A n c) n (fC f l)) : n = l.length := by
  have := h.1
  rw [fC_length hf] at this
  omega
theorem own_lenI {w : World} {B n c : Nat} {e : TypeId} {A : Option Addr} {k : IntKind} {l : List Int} (h : w.ownsRow B e 1 (.slice A n c) n (intsC k l)) : n = l.length := by
  have := h.1
  rw [intsC_length] at this
  omega
/-- append(s, x...) at []plan.Item -/
theorem app_it {ops : Array Oper} {rest : List Oper} {o : Oper} {a : Act} {w : World} {Q : Exit → Act → World → Prop} (hgd : o.guard = none) (s x : Operand)
    (ho : o.op = .call { callee := .builtin .append, args := #[s, x], argTypes := #[32, 32] })
    (base : Nat) (A : Option Addr) (n c : Nat) (l : List It) (hs : a.eval s = .slice A n c) (hown : w.ownsRow base 78 4 (.slice A n c) n (fC itA l))
    (B : Option Addr) (m d : Nat) (L : List It) (hx : a.eval x = .slice B m d) (hd : B = none → d = 0) (hL : L.length = m) (hc : Cl w B (fC itA L)) (k : Nat) (hk : n + m = k) (hl : k ≤ 1000000) (hbase : base ≤ w.heap.size)
    (h : ∀ A' c' w', w'.ownsRow base 78 4 (.slice A' k c') k (fC itA (l ++ L)) → w.grownBy w' (Value.slice A n c).ownBlock → wpList Try.prog ops Q rest (a.put o.dst (.slice A' k c')) w') : wpList Try.prog ops Q (o :: rest) a w := by
  subst hk hL
  obtain ⟨i0, hi, hz0, hz1, hz2⟩ := info_parts infoT
  cases B with
  | none =>
    obtain rfl := cl_none fourI hc
    obtain rfl := hd rfl
    refine wpList_append_own_none hgd s x 32 ho base 78 i0 4 Try.underlying32 hi _ n (fC itA l) hs hown hx ?_
    have := h A c w (by simpa using hown) (World.grownBy.refl w _)
    simpa using this
  | some ad =>
    refine wpList_append_own w hgd s x 32 ho base 78 i0 (.agg #[.int .i64 0, .int .i64 0, .int .i64 0, .int .i64 0]) 4 32 Try.underlying32 hi hz0 hz1 hz2 rfl (by decide) _ n (fC itA l) hs hown ad L.length d (fC itA L) hx (fC_length fourI L) (fun j u hu => hc.src j u hu) (fC_one fourI L) (by unfold maxLen; omega) (by omega) hbase ?_
    intro v' w' h1 h2 _
    obtain ⟨A', c', rfl⟩ := own_shape h1
    rw [← fC_append] at h1
    exact h A' c' w' h1 h2
theorem new_it (w : World) (p : It) (t : TypeId) : Cl (w.alloc (.cells (itA p) t)) (some ⟨w.heap.size, 0, none⟩) (fC itA [p]) := by
  refine .inr ⟨w.heap.size, 0, rfl, fun j v hj => ?_⟩
  have e : fC itA [p] = (itA p).toList := by simp [fC]
  rw [e] at hj
  rw [Nat.zero_add, cell_of_row _ _ _ _ _ _ (heap_alloc_new w _)]
  simpa using hj
/-- append(s, p) behind p's block -/
theorem put_it {ops : Array Oper} {rest : List Oper} {o : Oper} {a : Act} {W w : World} {Q : Exit → Act → World → Prop} (hgd : o.guard = none) (s x : Operand)
    (ho : o.op = .call { callee := .builtin .append, args := #[s, x], argTypes := #[32, 32] })
    (base : Nat) (A : Option Addr) (n c : Nat) (l : List It) (hs : a.eval s = .slice A n c) (hown : w.ownsRow base 78 4 (.slice A n c) n (fC itA l)) (hb : Below base W w) (hbase : base ≤ w.heap.size) (hl : n + 1 ≤ 1000000)
    (b : Nat) (hbz : w.heap.size = b) (hx : a.eval x = .slice (some ⟨b, 0, none⟩) 1 1) (p : It)
    (h : ∀ A' c' w', w'.ownsRow base 78 4 (.slice A' (n + 1) c') (n + 1) (fC itA (l ++ [p])) → Below base W w' → base ≤ w'.heap.size → wpList Try.prog ops Q rest (a.put o.dst (.slice A' (n + 1) c')) w') :
    wpList Try.prog ops Q (o :: rest) a (w.alloc (.cells (itA p) 78)) := by
  subst hbz
  refine app_it hgd s x ho base A n c l hs (own_below hown ((Below.refl _ _).alloc (Nat.le_refl _) _)) (some ⟨w.heap.size, 0, none⟩) 1 1 [p] hx (by simp) rfl (new_it _ _ _) (n + 1) rfl hl (by simp; omega) ?_
  intro A' c' w' h1 h2
  refine h A' c' w' h1 ((hb.alloc hbase _).grown h2 (by simp; omega) (fun k hk => (hown.lt k hk).1)) ?_
  have hz := h2.size
  simp at hz
  omega
/-- append(s, x...) at []pluvialref17.Item -/
theorem app_rf {ops : Array Oper} {rest : List Oper} {o : Oper} {a : Act} {w : World} {Q : Exit → Act → World → Prop} (hgd : o.guard = none) (s x : Operand)
    (ho : o.op = .call { callee := .builtin .append, args := #[s, x], argTypes := #[30, 30] })
    (base : Nat) (A : Option Addr) (n c : Nat) (l : List It) (hs : a.eval s = .slice A n c) (hown : w.ownsRow base 45 4 (.slice A n c) n (fC rfA l))
    (B : Option Addr) (m d : Nat) (L : List It) (hx : a.eval x = .slice B m d) (hd : B = none → d = 0) (hL : L.length = m) (hc : Cl w B (fC rfA L)) (k : Nat) (hk : n + m = k) (hl : k ≤ 1000000) (hbase : base ≤ w.heap.size)
    (h : ∀ A' c' w', w'.ownsRow base 45 4 (.slice A' k c') k (fC rfA (l ++ L)) → w.grownBy w' (Value.slice A n c).ownBlock → wpList Try.prog ops Q rest (a.put o.dst (.slice A' k c')) w') : wpList Try.prog ops Q (o :: rest) a w := by
  subst hk hL
  obtain ⟨i0, hi, hz0, hz1, hz2⟩ := info_parts infoR
  cases B with
  | none =>
    obtain rfl := cl_none fourR hc
    obtain rfl := hd rfl
    refine wpList_append_own_none hgd s x 30 ho base 45 i0 4 Try.underlying30 hi _ n (fC rfA l) hs hown hx ?_
    have := h A c w (by simpa using hown) (World.grownBy.refl w _)
    simpa using this
  | some ad =>
    refine wpList_append_own w hgd s x 30 ho base 45 i0 (.agg #[.int .i64 0, .int .i64 0, .int .i64 0, .int .i64 0]) 4 32 Try.underlying30 hi hz0 hz1 hz2 rfl (by decide) _ n (fC rfA l) hs hown ad L.length d (fC rfA L) hx (fC_length fourR L) (fun j u hu => hc.src j u hu) (fC_one fourR L) (by unfold maxLen; omega) (by omega) hbase ?_
    intro v' w' h1 h2 _
    obtain ⟨A', c', rfl⟩ := own_shape h1
    rw [← fC_append] at h1
    exact h A' c' w' h1 h2
theorem new_rf (w : World) (p : It) (t : TypeId) : Cl (w.alloc (.cells (rfA p) t)) (some ⟨w.heap.size, 0, none⟩) (fC rfA [p]) := by
  refine .inr ⟨w.heap.size, 0, rfl, fun j v hj => ?_⟩
  have e : fC rfA [p] = (rfA p).toList := by simp [fC]
  rw [e] at hj
  rw [Nat.zero_add, cell_of_row _ _ _ _ _ _ (heap_alloc_new w _)]
  simpa using hj
/-- append(s, p) behind p's block -/
theorem put_rf {ops : Array Oper} {rest : List Oper} {o : Oper} {a : Act} {W w : World} {Q : Exit → Act → World → Prop} (hgd : o.guard = none) (s x : Operand)
    (ho : o.op = .call { callee := .builtin .append, args := #[s, x], argTypes := #[30, 30] })
    (base : Nat) (A : Option Addr) (n c : Nat) (l : List It) (hs : a.eval s = .slice A n c) (hown : w.ownsRow base 45 4 (.slice A n c) n (fC rfA l)) (hb : Below base W w) (hbase : base ≤ w.heap.size) (hl : n + 1 ≤ 1000000)
    (b : Nat) (hbz : w.heap.size = b) (hx : a.eval x = .slice (some ⟨b, 0, none⟩) 1 1) (p : It)
    (h : ∀ A' c' w', w'.ownsRow base 45 4 (.slice A' (n + 1) c') (n + 1) (fC rfA (l ++ [p])) → Below base W w' → base ≤ w'.heap.size → wpList Try.prog ops Q rest (a.put o.dst (.slice A' (n + 1) c')) w') :
    wpList Try.prog ops Q (o :: rest) a (w.alloc (.cells (rfA p) 45)) := by
  subst hbz
  refine app_rf hgd s x ho base A n c l hs (own_below hown ((Below.refl _ _).alloc (Nat.le_refl _) _)) (some ⟨w.heap.size, 0, none⟩) 1 1 [p] hx (by simp) rfl (new_rf _ _ _) (n + 1) rfl hl (by simp; omega) ?_
  intro A' c' w' h1 h2
  refine h A' c' w' h1 ((hb.alloc hbase _).grown h2 (by simp; omega) (fun k hk => (hown.lt k hk).1)) ?_
  have hz := h2.size
  simp at hz
  omega
/-- append(s, x...) at ints -/
theorem app_ints {ops : Array Oper} {rest : List Oper} {o : Oper} {a : Act} {w : World} {Q : Exit → Act → World → Prop} (hgd : o.guard = none) (s x : Operand)
    (ho : o.op = .call { callee := .builtin .append, args := #[s, x], argTypes := #[34, 34] })
    (base : Nat) (A : Option Addr) (n c : Nat) (l : List Int) (hs : a.eval s = .slice A n c) (hown : w.ownsRow base 3 1 (.slice A n c) n (intsC .i64 l))
    (B : Option Addr) (m d : Nat) (L : List Int) (hx : a.eval x = .slice B m d) (hd : B = none → d = 0) (hL : L.length = m) (hc : Cl w B (intsC .i64 L)) (k : Nat) (hk : n + m = k) (hl : k ≤ 1000000) (hbase : base ≤ w.heap.size)
    (h : ∀ A' c' w', w'.ownsRow base 3 1 (.slice A' k c') k (intsC .i64 (l ++ L)) → w.grownBy w' (Value.slice A n c).ownBlock → wpList Try.prog ops Q rest (a.put o.dst (.slice A' k c')) w') : wpList Try.prog ops Q (o :: rest) a w := by
  subst hk hL
  obtain ⟨i0, hi, hz0, hz1, hz2⟩ := info_parts infoI
  cases B with
  | none =>
    have hy0 : L = [] := by
      rcases hc with h0 | ⟨_, _, h0, _⟩
      · cases L with
        | nil => rfl
        | cons p r => simp [intsC] at h0
      · cases h0
    subst hy0
    obtain rfl := hd rfl
    refine wpList_append_own_none hgd s x 34 ho base 3 i0 1 Try.underlying34 hi _ n (intsC .i64 l) hs hown hx ?_
    have := h A c w (by simpa using hown) (World.grownBy.refl w _)
    simpa using this
  | some ad =>
    refine wpList_append_own w hgd s x 34 ho base 3 i0 (.int .i64 0) 1 8 Try.underlying34 hi hz0 hz1 hz2 rfl (by decide) _ n (intsC .i64 l) hs hown ad L.length d (intsC .i64 L) hx (by rw [intsC_length]; omega) (fun j u hu => hc.src j u hu) (intsC_one _ L) (by unfold maxLen; omega) (by omega) hbase ?_
    intro v' w' h1 h2 _
    obtain ⟨A', c', rfl⟩ := own_shape h1
    rw [← intsC_append] at h1
    exact h A' c' w' h1 h2
theorem new_ints (w : World) (cs : Array Value) (L : List Int) (t : TypeId) (h : cs.toList = intsC .i64 L) : Cl (w.alloc (.cells cs t)) (some ⟨w.heap.size, 0, none⟩) (intsC .i64 L) := by
  refine .inr ⟨w.heap.size, 0, rfl, fun j v hj => ?_⟩
  rw [← h] at hj
  rw [Nat.zero_add, cell_of_row _ _ _ _ _ _ (heap_alloc_new w _)]
  simpa using hj
/-- append(s, n) behind n's block -/
theorem put_int {ops : Array Oper} {rest : List Oper} {o : Oper} {a : Act} {W w : World} {Q : Exit → Act → World → Prop} (hgd : o.guard = none) (s x : Operand)
    (ho : o.op = .call { callee := .builtin .append, args := #[s, x], argTypes := #[34, 34] })
    (base : Nat) (A : Option Addr) (n c : Nat) (l : List Int) (hs : a.eval s = .slice A n c) (hown : w.ownsRow base 3 1 (.slice A n c) n (intsC .i64 l)) (hb : Below base W w) (hbase : base ≤ w.heap.size) (hl : n + 1 ≤ 1000000)
    (b : Nat) (hbz : w.heap.size = b) (hx : a.eval x = .slice (some ⟨b, 0, none⟩) 1 1) (p : Int)
    (h : ∀ A' c' w', w'.ownsRow base 3 1 (.slice A' (n + 1) c') (n + 1) (intsC .i64 (l ++ [p])) → Below base W w' → base ≤ w'.heap.size → wpList Try.prog ops Q rest (a.put o.dst (.slice A' (n + 1) c')) w') :
    wpList Try.prog ops Q (o :: rest) a (w.alloc (.cells #[.int .i64 p] 3)) := by
  subst hbz
  refine app_ints hgd s x ho base A n c l hs (own_below hown ((Below.refl _ _).alloc (Nat.le_refl _) _)) (some ⟨w.heap.size, 0, none⟩) 1 1 [p] hx (by simp) rfl (new_ints _ _ _ _ rfl) (n + 1) rfl hl (by simp; omega) ?_
  intro A' c' w' h1 h2
  refine h A' c' w' h1 ((hb.alloc hbase _).grown h2 (by simp; omega) (fun k hk => (hown.lt k hk).1)) ?_
  have hz := h2.size
  simp at hz
  omega
/-- a new row of items, of numbers -/
def RowP (e : TypeId) (f : It → Array Value) (w : World) (X : List It) (v : Value) (w' : World) : Prop := ∃ A c, v = .slice A X.length c ∧ w'.ownsRow w.heap.size e 4 (.slice A X.length c) X.length (fC f X) ∧ Below w.heap.size w w'
def IntP (w : World) (X : List Int) (v : Value) (w' : World) : Prop := ∃ A c, v = .slice A X.length c ∧ w'.ownsRow w.heap.size 3 1 (.slice A X.length c) X.length (intsC .i64 X) ∧ Below w.heap.size w w'
end Go.Proofs.Ytpfceebmiolpeaa.Pl
