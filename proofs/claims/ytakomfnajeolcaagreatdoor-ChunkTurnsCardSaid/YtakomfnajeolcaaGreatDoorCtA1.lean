import Derived.WalkKit
import Derived.Test.YtakomfnajeolcaaGreatDoorRows
import Derived.Lib.Hide
import Derived.WalkLawsBesides
import Derived.WalkSpells
import Derived.OpenShut
import Derived.LoopTactic
import Derived.Below
import Derived.Lib.QuietBelow
import Derived.Deep.QuietTactic
import Derived.BigQuiet
import Derived.Deep.RegionWith
import Derived.Outline
import Derived.Deep.AppendLies
import Derived.Laws.OwnMore
import Derived.Laws.AppendOwnNone
import Derived.IntWalk
set_option linter.unusedVariables false
/- Runs of indices as plain lists: the runs of rising indices, the indices of runs, and that each gives the other back. Nothing of the program stands here. -/
namespace Go.Proofs.YtakomfnajeolcaaGreatDoor.Tk

theorem snoc_ind {α : Type} {P : List α → Prop} (h0 : P []) (h1 : ∀ l x, P l → P (l ++ [x])) : ∀ l, P l := fun l => by
  have key : ∀ r : List α, P r.reverse := by
    intro r
    induction r with
    | nil => exact h0
    | cons a r ih => rw [List.reverse_cons]; exact h1 _ _ ih
  have := key l.reverse
  rwa [List.reverse_reverse] at this

/-- the first one, or 0 -/
def fstL (l : List Int) : Int := l.headD 0
/-- runs, and one index more, where the last run ends at e -/
def addIx (s : List (Int × Int)) (e x : Int) : List (Int × Int) :=
  match s.getLast? with
  | none => [(0, 1)]
  | some p => if x = e then s.dropLast ++ [(p.1, p.2 + 1)] else s ++ [(x - e, 1)]
def rstep (s : List (Int × Int) × Int) (x : Int) : List (Int × Int) × Int := (addIx s.1 s.2 x, x + 1)
def rfold (l : List Int) : List (Int × Int) × Int := l.foldl rstep ([], 0)
/-- the runs of indices -/
def runsL (l : List Int) : List (Int × Int) := (rfold l).1
/-- one behind the last index -/
def endL (l : List Int) : Int := (rfold l).2
theorem rfold_snoc (l : List Int) (x : Int) : rfold (l ++ [x]) = rstep (rfold l) x := by simp [rfold, List.foldl_append]
theorem runsL_nil : runsL [] = [] := rfl
theorem runsL_snoc (l : List Int) (x : Int) : runsL (l ++ [x]) = addIx (runsL l) (endL l) x := by unfold runsL endL; rw [rfold_snoc]; rfl
theorem endL_snoc (l : List Int) (x : Int) : endL (l ++ [x]) = x + 1 := by unfold endL; rw [rfold_snoc]; rfl
theorem addIx_nil (e x : Int) : addIx [] e x = [(0, 1)] := rfl
theorem addIx_more (s : List (Int × Int)) (p : Int × Int) (e : Int) : addIx (s ++ [p]) e e = s ++ [(p.1, p.2 + 1)] := by simp [addIx]
theorem addIx_new (s : List (Int × Int)) (e x : Int) (h : s ≠ []) (hx : x ≠ e) : addIx s e x = s ++ [(x - e, 1)] := by
  unfold addIx
  cases hs : s.getLast? with
  | none => exact absurd (List.getLast?_eq_none_iff.1 hs) h
  | some p => simp [hx]
theorem runsL_ne {l : List Int} (h : l ≠ []) : runsL l ≠ [] := by
  revert h
  refine snoc_ind (P := fun l => l ≠ [] → runsL l ≠ []) (fun h => absurd rfl h) (fun l x _ _ => ?_) l
  rw [runsL_snoc]
  unfold addIx
  cases (runsL l).getLast? with
  | none => simp
  | some p => by_cases hx : x = endL l <;> simp [hx]
theorem split_last {α : Type} {s : List α} (h : s ≠ []) : ∃ r p, s = r ++ [p] := ⟨s.dropLast, s.getLast h, (List.dropLast_concat_getLast h).symm⟩

/-- the n numbers from a on -/
def rng (a : Int) (n : Nat) : List Int := (List.range n).map fun (i : Nat) => a + (i : Int)
theorem rng_zero (a : Int) : rng a 0 = [] := rfl
theorem rng_succ (a : Int) (n : Nat) : rng a (n + 1) = rng a n ++ [a + (n : Int)] := by simp [rng, List.range_succ]
theorem rng_length (a : Int) (n : Nat) : (rng a n).length = n := by simp [rng]
/-- the indices of runs from a on -/
def indF : Int → List (Int × Int) → List Int
  | _, [] => []
  | a, p :: r => rng (a + p.1) p.2.toNat ++ indF (a + p.1 + p.2) r
/-- how far runs reach -/
def tot : List (Int × Int) → Int
  | [] => 0
  | p :: r => p.1 + p.2 + tot r
/-- how many indices runs have -/
def lens : List (Int × Int) → Int
  | [] => 0
  | p :: r => p.2 + lens r
theorem tot_append (s t : List (Int × Int)) : tot (s ++ t) = tot s + tot t := by
  induction s with
  | nil => simp [tot]
  | cons p r ih => simp only [List.cons_append, tot, ih]; omega
theorem lens_append (s t : List (Int × Int)) : lens (s ++ t) = lens s + lens t := by
  induction s with
  | nil => simp [lens]
  | cons p r ih => simp only [List.cons_append, lens, ih]; omega
theorem indF_append (s t : List (Int × Int)) (a : Int) : indF a (s ++ t) = indF a s ++ indF (a + tot s) t := by
  induction s generalizing a with
  | nil => simp [indF, tot]
  | cons p r ih =>
    simp only [List.cons_append, indF, ih, List.append_assoc, tot]
    rw [show a + p.1 + p.2 + tot r = a + (p.1 + p.2 + tot r) by omega]
theorem indF_one (a : Int) (p : Int × Int) : indF a [p] = rng (a + p.1) p.2.toNat := by simp [indF]
theorem indF_snoc (s : List (Int × Int)) (p : Int × Int) (a : Int) : indF a (s ++ [p]) = indF a s ++ rng (a + tot s + p.1) p.2.toNat := by rw [indF_append, indF_one]
theorem tot_snoc (s : List (Int × Int)) (p : Int × Int) : tot (s ++ [p]) = tot s + p.1 + p.2 := by rw [tot_append]; simp [tot]; omega
theorem lens_snoc (s : List (Int × Int)) (p : Int × Int) : lens (s ++ [p]) = lens s + p.2 := by rw [lens_append]; simp [lens]
theorem headD_snoc (l : List Int) (x : Int) (h : l ≠ []) : fstL (l ++ [x]) = fstL l := by
  cases l with
  | nil => exact absurd rfl h
  | cons a r => rfl
/-- what the runs of indices tell: those indices, where they end, how many there are -/
theorem runs_tell (l : List Int) : indF (fstL l) (runsL l) = l ∧ (l ≠ [] → fstL l + tot (runsL l) = endL l) ∧ lens (runsL l) = l.length ∧ ∀ p ∈ runsL l, 1 ≤ p.2 := by
  refine snoc_ind (P := fun l => indF (fstL l) (runsL l) = l ∧ (l ≠ [] → fstL l + tot (runsL l) = endL l) ∧ lens (runsL l) = l.length ∧ ∀ p ∈ runsL l, 1 ≤ p.2) ⟨rfl, fun h => absurd rfl h, rfl, by simp [runsL_nil]⟩ (fun l x ih => ?_) l
  obtain ⟨h1, h2, h3, h4⟩ := ih
  rw [runsL_snoc, endL_snoc]
  by_cases hl : l = []
  · subst hl
    refine ⟨?_, fun _ => ?_, rfl, fun p hp => ?_⟩
    · simp [runsL_nil, addIx_nil, indF, rng, fstL]
    · simp [runsL_nil, addIx_nil, tot, fstL]
    · rw [runsL_nil, addIx_nil] at hp; simp at hp; subst hp; decide
  · rw [headD_snoc l x hl]
    have h2 := h2 hl
    obtain ⟨r, p, hr⟩ := split_last (runsL_ne hl)
    rw [hr] at h1 h2 h3 h4 ⊢
    have hp := h4 p (by simp)
    by_cases hx : x = endL l
    · subst hx
      rw [addIx_more]
      rw [indF_snoc] at h1 ⊢
      rw [tot_snoc] at h2 ⊢
      rw [lens_snoc] at h3 ⊢
      refine ⟨?_, fun _ => by simp only; omega, by simp; omega, fun q hq => ?_⟩
      · have e : (p.2 + 1).toNat = p.2.toNat + 1 := by omega
        simp only [e, rng_succ, ← List.append_assoc, h1]
        congr 2
        omega
      · rcases List.mem_append.1 hq with hq | hq
        · exact h4 q (by simp [hq])
        · simp at hq; subst hq; simp only; omega
    · rw [addIx_new _ _ _ (by simp) hx, indF_snoc (r ++ [p]), tot_snoc (r ++ [p]), lens_snoc (r ++ [p]), h1]
      refine ⟨?_, fun _ => by simp only; omega, by simp; omega, fun q hq => ?_⟩
      · congr 1
        have e : fstL l + tot (r ++ [p]) + (x - endL l, (1 : Int)).1 = x := by simp only; omega
        rw [e]
        simp [rng]
      · rcases List.mem_append.1 hq with hq | hq
        · exact h4 q hq
        · simp at hq; subst hq; simp
/-- may the i-th run be so far behind the one ahead -/
def offB (i o : Int) : Bool := if i = 0 then o == 0 else (decide (1 ≤ o) && decide (o ≤ 524288))
/-- may a run be so, with so many buckets left -/
def okAt (i : Nat) (p : Int × Int) (left : Int) : Bool := offB i p.1 && (decide (1 ≤ p.2) && decide (p.2 ≤ left))
def rightR : List (Int × Int) → Nat → Int → Bool
  | [], _, _ => true
  | p :: r, i, left => okAt i p left && rightR r (i + 1) (left - p.2)
/-- is a layout right, of at most so many buckets -/
def rightF (f : Int) (s : List (Int × Int)) (most : Int) : Bool := if s = [] then f == 0 else ((decide (-262144 ≤ f) && decide (f ≤ 262144)) && rightR s 0 most)
theorem okAt_mono {i : Nat} {p : Int × Int} {a b : Int} (h : okAt i p a = true) (hab : a ≤ b) : okAt i p b = true := by
  unfold okAt at *
  rw [Bool.and_eq_true, Bool.and_eq_true, decide_eq_true_eq, decide_eq_true_eq] at h ⊢
  exact ⟨h.1, h.2.1, by omega⟩
theorem rightR_mono {s : List (Int × Int)} {i : Nat} {a b : Int} (h : rightR s i a = true) (hab : a ≤ b) : rightR s i b = true := by
  induction s generalizing i a b with
  | nil => rfl
  | cons p r ih =>
    simp only [rightR, Bool.and_eq_true] at h ⊢
    exact ⟨okAt_mono h.1 hab, ih h.2 (by omega)⟩
theorem rightR_append (s t : List (Int × Int)) (i : Nat) (m : Int) : rightR (s ++ t) i m = (rightR s i m && rightR t (i + s.length) (m - lens s)) := by
  induction s generalizing i m with
  | nil => simp [rightR, lens]
  | cons p r ih =>
    simp only [List.cons_append, rightR, ih, Bool.and_assoc, lens, List.length_cons]
    rw [show i + 1 + r.length = i + (r.length + 1) by omega, show m - p.2 - lens r = m - (p.2 + lens r) by omega]
/-- rising indices -/
def Asc (l : List Int) : Prop := l.Pairwise fun a b => a < b
/-- within the bounds that a layout has -/
def Inb (l : List Int) : Prop := ∀ x ∈ l, -262144 ≤ x ∧ x ≤ 262144
theorem Asc.init {l : List Int} {x : Int} (h : Asc (l ++ [x])) : Asc l ∧ ∀ y ∈ l, y < x := by
  unfold Asc at h
  rw [List.pairwise_append] at h
  exact ⟨h.1, fun y hy => h.2.2 y hy x (by simp)⟩
theorem endL_last {l : List Int} (h : l ≠ []) : ∃ y ∈ l, endL l = y + 1 := by
  obtain ⟨r, y, rfl⟩ := split_last h
  exact ⟨y, by simp, endL_snoc r y⟩
theorem runs_right_aux (l : List Int) : Asc l → Inb l → ∀ m : Int, (l.length : Int) ≤ m → rightR (runsL l) 0 m = true := by
  refine snoc_ind (P := fun l => Asc l → Inb l → ∀ m : Int, (l.length : Int) ≤ m → rightR (runsL l) 0 m = true) (fun _ _ _ _ => rfl) (fun l x ih ha hi m hm => ?_) l
  obtain ⟨h1, h2⟩ := ha.init
  have hil : Inb l := fun y hy => hi y (by simp [hy])
  have hx := hi x (by simp)
  simp only [List.length_append, List.length_cons, List.length_nil] at hm
  have ih' := ih h1 hil (m - 1) (by omega)
  obtain ⟨t1, t2, t3, t4⟩ := runs_tell l
  rw [runsL_snoc]
  by_cases hl : l = []
  · subst hl
    simp at hm
    simp [runsL_nil, addIx_nil, rightR, okAt, offB]
    omega
  · obtain ⟨r, p, hr⟩ := split_last (runsL_ne hl)
    have hp := t4 p (by rw [hr]; simp)
    by_cases hxe : x = endL l
    · subst hxe
      rw [hr] at ih' t3 ⊢
      rw [rightR_append] at ih'
      rw [addIx_more, rightR_append]
      rw [lens_snoc] at t3
      simp only [rightR, Bool.and_true, Bool.and_eq_true] at ih' ⊢
      refine ⟨rightR_mono ih'.1 (by omega), ?_⟩
      have h5 := ih'.2
      unfold okAt at h5 ⊢
      rw [Bool.and_eq_true, Bool.and_eq_true, decide_eq_true_eq, decide_eq_true_eq] at h5 ⊢
      exact ⟨h5.1, by simp only; omega, by simp only; omega⟩
    · rw [addIx_new _ _ _ (runsL_ne hl) hxe, rightR_append]
      obtain ⟨y, hy, hye⟩ := endL_last hl
      have h5 := h2 y hy
      have h6 := hil y hy
      simp only [rightR, Bool.and_true, Bool.and_eq_true]
      refine ⟨rightR_mono ih' (by omega), ?_⟩
      have hne : (runsL l).length ≠ 0 := fun e => runsL_ne hl (List.eq_nil_of_length_eq_zero e)
      unfold okAt offB
      rw [if_neg (by omega)]
      simp only [Bool.and_eq_true, decide_eq_true_eq]
      exact ⟨⟨by omega, by omega⟩, by decide, by omega⟩
theorem runs_right {l : List Int} (ha : Asc l) (hi : Inb l) {m : Int} (hm : (l.length : Int) ≤ m) : rightF (fstL l) (runsL l) m = true := by
  unfold rightF
  by_cases hl : l = []
  · subst hl; rfl
  · rw [if_neg (runsL_ne hl)]
    have hh : fstL l ∈ l := by
      cases l with
      | nil => exact absurd rfl hl
      | cons a r => simp [fstL]
    have := hi _ hh
    rw [runs_right_aux l ha hi m hm]
    simp only [Bool.and_true, Bool.and_eq_true, decide_eq_true_eq]
    exact this
/-- two rising rows of the same indices are one -/
theorem asc_ext : ∀ {l m : List Int}, Asc l → Asc m → (∀ z, z ∈ l ↔ z ∈ m) → l = m
  | [], [], _, _, _ => rfl
  | [], b :: s, _, _, h => by have := (h b).2 (by simp); simp at this
  | a :: r, [], _, _, h => by have := (h a).1 (by simp); simp at this
  | a :: r, b :: s, ha, hb, h => by
    unfold Asc at ha hb
    rw [List.pairwise_cons] at ha hb
    have e : a = b := by
      have h1 := (h a).1 (by simp)
      have h2 := (h b).2 (by simp)
      simp only [List.mem_cons] at h1 h2
      rcases h1 with h1 | h1
      · exact h1
      · rcases h2 with h2 | h2
        · exact h2.symm
        · have := hb.1 a h1; have := ha.1 b h2; omega
    subst e
    have : r = s := by
      refine asc_ext ha.2 hb.2 (fun z => ⟨fun hz => ?_, fun hz => ?_⟩)
      · have h1 := (h z).1 (by simp [hz])
        simp only [List.mem_cons] at h1
        rcases h1 with rfl | h1
        · have := ha.1 z hz; omega
        · exact h1
      · have h1 := (h z).2 (by simp [hz])
        simp only [List.mem_cons] at h1
        rcases h1 with rfl | h1
        · have := hb.1 z hz; omega
        · exact h1
    rw [this]
/-- the row of the indices of both -/
def Uni (xs ys U : List Int) : Prop := Asc U ∧ (∀ z, z ∈ U ↔ z ∈ xs ∨ z ∈ ys) ∧ U.length ≤ xs.length + ys.length
theorem Uni.one {xs ys U V : List Int} (h : Uni xs ys U) (k : Uni xs ys V) : U = V := asc_ext h.1 k.1 fun z => (h.2.1 z).trans (k.2.1 z).symm
theorem Uni.inb {xs ys U : List Int} (h : Uni xs ys U) (hx : Inb xs) (hy : Inb ys) : Inb U := fun z hz => by
  rcases (h.2.1 z).1 hz with h1 | h1
  · exact hx z h1
  · exact hy z h1
theorem Uni.has {xs ys U : List Int} (h : Uni xs ys U) (hx : Asc xs) : U = xs ↔ ∀ y ∈ ys, y ∈ xs := by
  constructor
  · rintro rfl y hy; exact (h.2.1 y).2 (.inr hy)
  · intro hh; exact asc_ext h.1 hx fun z => (h.2.1 z).trans ⟨fun h1 => h1.elim id (hh z), .inl⟩
end Go.Proofs.YtakomfnajeolcaaGreatDoor.Tk


/- Words for slices that read as lists, cell by cell, and for rows of a call's own. -/
namespace Go.Proofs.YtakomfnajeolcaaGreatDoor.Tk
open Go.RowKit Go.Sort
set_option linter.unusedVariables false

theorem ret_int {k : IntKind} {a b : Int} (h : a = b) : Ending.returned (.int k a) = .returned (.int k b) := by rw [h]
theorem ret_val {k : IntKind} {a b : Int} (h : a = b) : Value.int k a = .int k b := by rw [h]
theorem ret_bool {a b : Bool} (h : a = b) : Ending.returned (.bool a) = .returned (.bool b) := by rw [h]

/-- what an int, a uint64 can be -/
def I64 (n : Int) : Prop := -9223372036854775808 ≤ n ∧ n ≤ 9223372036854775807
def U64 (n : Int) : Prop := 0 ≤ n ∧ n ≤ 18446744073709551615
/-- all cells that there are are kept -/
def Kept (w w' : World) : Prop := ∀ (p : Addr) (v : Value), w.cell? p = some v → w'.cell? p = some v
theorem Kept.of_below {w w' : World} (h : Below w.heap.size w w') : Kept w w' := fun p v hp => (h.cell (block_lt_of_cell hp)).trans hp
theorem Kept.trans {a b c : World} (h : Kept a b) (k : Kept b c) : Kept a c := fun p v hp => k p v (h p v hp)
theorem Kept.refl (w : World) : Kept w w := fun _ _ h => h
theorem Kept.drewN {w w' : World} (h : Kept w w') (n : Nat) : Kept w (w'.drewN n) := h
theorem Kept.drew {w w' : World} (h : Kept w w') : Kept w w'.drew := h
theorem Kept.alloc {w w' : World} (h : Kept w w') (o : Obj) : Kept w (w'.alloc o) := h.trans (Kept.of_below ((Below.refl _ _).alloc (Nat.le_refl _) _))
theorem below_drewN {B : Nat} {a w : World} (h : Below B a w) (n : Nat) : Below B a (w.drewN n) := ⟨h.os, h.tape, h.output, h.size, h.block⟩

/-- the cells xs lie at A -/
def Cl (w : World) (A : Option Addr) (xs : List Value) : Prop := xs = [] ∨ ∃ b off, A = some ⟨b, off, none⟩ ∧ ∀ j v, xs[j]? = some v → w.cell? ⟨b, off + j, none⟩ = some v
theorem Cl.kept {w w' : World} {A : Option Addr} {xs : List Value} (h : Cl w A xs) (k : Kept w w') : Cl w' A xs := by
  rcases h with h | ⟨b, off, e, hc⟩
  · exact .inl h
  · exact .inr ⟨b, off, e, fun j v hj => k _ _ (hc j v hj)⟩
theorem Cl.below {w w' : World} {A : Option Addr} {xs : List Value} (h : Cl w A xs) (k : Below w.heap.size w w') : Cl w' A xs := h.kept (Kept.of_below k)
theorem Cl.nil (w : World) (A : Option Addr) : Cl w A [] := .inl rfl
theorem Cl.some_ {w : World} {A : Option Addr} {xs : List Value} (h : Cl w A xs) (h0 : 0 < xs.length) : ∃ b off, A = some ⟨b, off, none⟩ ∧ ∀ j v, xs[j]? = some v → w.cell? ⟨b, off + j, none⟩ = some v := by
  rcases h with h | h
  · rw [h] at h0; simp at h0
  · exact h
/-- a store elsewhere leaves the cells -/
theorem Cl.set {w : World} {A : Option Addr} {xs : List Value} (h : Cl w A xs) {p : Addr} (hp : ∀ a, A = some a → a.block ≠ p.block) (v : Value) : Cl (w.setCell p v) A xs := by
  rcases h with h | ⟨b, off, e, hc⟩
  · exact .inl h
  · refine .inr ⟨b, off, e, fun j v hj => ?_⟩
    have hne : p ≠ ⟨b, off + j, none⟩ := fun e' => hp _ e (by rw [e'])
    rw [World.cell?_setCell_other _ _ _ _ hne]
    exact hc j v hj
theorem getElem?_lt {α : Type} {l : List α} {k : Nat} (h : k < l.length) : ∃ x, l[k]? = some x := ⟨l[k], List.getElem?_eq_getElem h⟩
theorem take_snoc {α : Type} (l : List α) (k : Nat) (x : α) (h : l[k]? = some x) : l.take (k + 1) = l.take k ++ [x] := by
  rw [List.take_add_one, h]; rfl
theorem mem_of_at {α : Type} {l : List α} {k : Nat} {x : α} (h : l[k]? = some x) : x ∈ l := List.mem_of_getElem? h
theorem own_shape {w : World} {base : Nat} {e : TypeId} {size n : Nat} {v : Value} {xs : List Value} (h : w.ownsRow base e size v n xs) : ∃ A c, v = .slice A n c := by
  rcases h.2 with ⟨rfl, h0⟩ | ⟨g, cap, _, rfl, _⟩
  · exact ⟨none, 0, by rw [h0]⟩
  · exact ⟨_, cap, rfl⟩
theorem own_cl {w : World} {base : Nat} {e : TypeId} {size n c : Nat} {A : Option Addr} {xs : List Value} (h : w.ownsRow base e size (.slice A n c) n xs) : Cl w A xs := by
  by_cases h0 : n = 0
  · have := h.1
    rw [h0, Nat.zero_mul] at this
    exact .inl (List.eq_nil_of_length_eq_zero this)
  · obtain ⟨g, cap', hv, _, _⟩ := h.form (by omega)
    injection hv with e1 e2 e3
    subst e1
    refine .inr ⟨g, 0, rfl, fun j v hj => ?_⟩
    have hj' : j < n * size := by rw [← h.1]; exact (List.getElem?_eq_some_iff.1 hj).1
    rw [Nat.zero_add, h.cellAt j hj', hj]
theorem own_base {w : World} {B B' : Nat} {e : TypeId} {size n : Nat} {v : Value} {xs : List Value} (h : w.ownsRow B e size v n xs) (hB : B' ≤ B) : w.ownsRow B' e size v n xs := by
  obtain ⟨h1, h2⟩ := h
  refine ⟨h1, ?_⟩
  rcases h2 with h2 | ⟨g, cap, cur, hv, hb, r⟩
  · exact .inl h2
  · exact .inr ⟨g, cap, cur, hv, Nat.le_trans hB hb, r⟩
theorem own_below {w w' : World} {B : Nat} {e : TypeId} {size n : Nat} {v : Value} {xs : List Value} (h : w.ownsRow B e size v n xs) (hb : Below w.heap.size w w') : w'.ownsRow B e size v n xs :=
  h.kept (row := none) ⟨hb.os, hb.tape, hb.output, hb.size, fun k hk _ => hb.block k hk⟩ (by
    rcases ho : v.ownBlock with _ | g
    · exact .inl rfl
    · exact .inr (by simp))
theorem below_own {W w w' : World} {B B' : Nat} {v : Value} {e : TypeId} {size n : Nat} {xs : List Value} (h : Below B W w) (hB : B ≤ w.heap.size) (hown : w.ownsRow B' e size v n xs) (hBB : B ≤ B') (hg : w.grownBy w' v.ownBlock) : Below B W w' :=
  h.grown hg hB (fun k hk => Nat.le_trans hBB (hown.lt k hk).1)
theorem heap_set_at {w : World} {g i : Nat} {cs : Array Value} {t : TypeId} {fr : Nat × Nat} (h : w.heap[g]? = some (.cells cs t fr)) (u : Value) : (w.setCell ⟨g, i, none⟩ u).heap[g]? = some (.cells (cs.setIfInBounds i u) t fr) := by
  simp [World.setCell, Array.getElem?_modify, h]
theorem addr_at (b o k : Nat) : (⟨b, o, none⟩ : Addr).add k = ⟨b, o + k, none⟩ := by
  unfold Addr.add
  split
  · subst_vars; rfl
  · rfl
/-- what append asks of its source -/
theorem Cl.src {w : World} {ad : Addr} {xs : List Value} (h : Cl w (some ad) xs) (j : Nat) (u : Value) (hu : xs[j]? = some u) : w.cell? (ad.add j) = some u := by
  obtain ⟨b, off, e, hc⟩ := h.some_ (by have := (List.getElem?_eq_some_iff.1 hu).1; omega)
  obtain rfl : ad = ⟨b, off, none⟩ := by simpa using e
  rw [addr_at]
  exact hc j u hu

/-- the cells of numbers -/
def intsC (k : IntKind) (l : List Int) : List Value := l.map (Value.int k)
theorem intsC_length (k : IntKind) (l : List Int) : (intsC k l).length = l.length := by simp [intsC]
theorem intsC_append (k : IntKind) (l m : List Int) : intsC k (l ++ m) = intsC k l ++ intsC k m := by simp [intsC]
theorem intsC_at {k : IntKind} {l : List Int} {j : Nat} {x : Int} (h : l[j]? = some x) : (intsC k l)[j]? = some (.int k x) := by simp [intsC, h]
theorem intsC_one (k : IntKind) (l : List Int) : ∀ u ∈ intsC k l, u.oneCell' = true := by
  intro u hu
  obtain ⟨p, _, rfl⟩ := List.mem_map.1 hu
  rfl
/-- the cells of pairs: an int, and a number of kind k -/
def twoE (k : IntKind) (p : Int × Int) : List Value := [.int .i64 p.1, .int k p.2]
def twoC (k : IntKind) (l : List (Int × Int)) : List Value := l.flatMap (twoE k)
theorem twoC_length (k : IntKind) (l : List (Int × Int)) : (twoC k l).length = l.length * 2 := by
  induction l with
  | nil => rfl
  | cons a r ih => simp [twoC, twoE] at *; omega
theorem twoC_append (k : IntKind) (l m : List (Int × Int)) : twoC k (l ++ m) = twoC k l ++ twoC k m := by simp [twoC]
theorem twoC_at {k : IntKind} : ∀ {l : List (Int × Int)} {j : Nat} {p : Int × Int}, l[j]? = some p → (twoC k l)[j * 2]? = some (.int .i64 p.1) ∧ (twoC k l)[j * 2 + 1]? = some (.int k p.2)
  | [], j, p, h => by simp at h
  | a :: r, 0, p, h => by
    simp at h
    subst h
    exact ⟨rfl, rfl⟩
  | a :: r, j + 1, p, h => by
    have ih := twoC_at (k := k) (l := r) (j := j) (p := p) (by simpa using h)
    have e : twoC k (a :: r) = .int .i64 a.1 :: .int k a.2 :: twoC k r := rfl
    rw [e, show (j + 1) * 2 = j * 2 + 1 + 1 by omega]
    exact ih
/-- a slice of numbers, one of pairs, by its place -/
theorem Cl.ints {w : World} {A : Option Addr} {k : IntKind} {l : List Int} (h : Cl w A (intsC k l)) (h0 : 0 < l.length) : ∃ b off, A = some ⟨b, off, none⟩ ∧ ∀ (j : Nat) (x : Int), l[j]? = some x → w.cell? ⟨b, off + j, none⟩ = some (.int k x) := by
  obtain ⟨b, off, e, hc⟩ := h.some_ (by rw [intsC_length]; exact h0)
  exact ⟨b, off, e, fun j x hj => hc j _ (intsC_at hj)⟩
theorem Cl.twos {w : World} {A : Option Addr} {k : IntKind} {l : List (Int × Int)} (h : Cl w A (twoC k l)) (h0 : 0 < l.length) : ∃ b off, A = some ⟨b, off, none⟩ ∧ ∀ (j : Nat) (p : Int × Int), l[j]? = some p → w.cell? ⟨b, off + j * 2, none⟩ = some (.int .i64 p.1) ∧ w.cell? ⟨b, off + j * 2 + 1, none⟩ = some (.int k p.2) := by
  obtain ⟨b, off, e, hc⟩ := h.some_ (by rw [twoC_length]; omega)
  exact ⟨b, off, e, fun j p hj => ⟨hc _ _ (twoC_at hj).1, by rw [Nat.add_assoc]; exact hc _ _ (twoC_at hj).2⟩⟩
theorem box2 {W : World} {g : Nat} {t : TypeId} {v0 v1 : Value} (h : W.heap[g]? = some (.cells #[v0, v1] t (0, 0))) : W.cell? ⟨g, 0, none⟩ = some v0 ∧ W.cell? ⟨g, 1, none⟩ = some v1 ∧ ∀ i, W.frozen? ⟨g, i, none⟩ = false :=
  ⟨by rw [cell_of_row _ _ _ _ _ _ h]; rfl, by rw [cell_of_row _ _ _ _ _ _ h]; rfl, fun i => by simp [World.frozen?, h]⟩
/-- a block of two cells in whatever world keeps all below w0 -/
theorem box2b {w0 : World} {g : Nat} {t : TypeId} {v0 v1 : Value} (h : w0.heap[g]? = some (.cells #[v0, v1] t (0, 0))) (W : World) (hb : Below w0.heap.size w0 W) : W.cell? ⟨g, 0, none⟩ = some v0 ∧ W.cell? ⟨g, 1, none⟩ = some v1 :=
  let ⟨a, b, _⟩ := box2 ((hb.block g (Array.getElem?_eq_some_iff.1 h).1).trans h)
  ⟨a, b⟩
theorem infoI : (Tryz.prog.info? 3).map (fun i => (i.zero, i.size, i.bytes)) = some (some (.int .i64 0), 1, 8) := by kernel_rfl
theorem infoS : (Tryz.prog.info? 130).map (fun i => (i.zero, i.size, i.bytes)) = some (some (.agg #[.int .i64 0, .int .i64 0]), 2, 16) := by kernel_rfl
theorem infoB : (Tryz.prog.info? 86).map (fun i => (i.zero, i.size, i.bytes)) = some (some (.agg #[.int .i64 0, .int .u64 0]), 2, 16) := by kernel_rfl
/-- all bounds of a layout's runs -/
def Sb (s : List (Int × Int)) : Prop := ∀ p ∈ s, I64 p.1 ∧ I64 p.2

theorem offset_any (i o : Int) (w : World) : Calls Tryz.prog 121 #[.int .i64 i, .int .i64 o] w fun e w' => e = .returned (.bool (offB i o)) ∧ w = w' := by
  by_cases h : i = 0
  · subst h
    have HE := Lib.hid (show (o == 0) = offB 0 o from rfl)
    go_enter Tryz.func121, Tryz.ntmps121
    go_wp2
    go_ret
    exact ⟨ret_bool HE.out, rfl⟩
  · have h' : (i == 0) = false := by simpa using h
    by_cases h1 : 1 ≤ o
    · have HE := Lib.hid (show decide (o ≤ 524288) = offB i o by unfold offB; rw [if_neg h]; simp [h1])
      clear h
      go_enter Tryz.func121, Tryz.ntmps121
      go_wp2
      go_ret
      exact ⟨ret_bool HE.out, rfl⟩
    · have HE := Lib.hid (show false = offB i o by unfold offB; rw [if_neg h]; simp [h1])
      clear h
      go_enter Tryz.func121, Tryz.ntmps121
      go_wp2
      go_ret
      exact ⟨ret_bool HE.out, rfl⟩
end Go.Proofs.YtakomfnajeolcaaGreatDoor.Tk
