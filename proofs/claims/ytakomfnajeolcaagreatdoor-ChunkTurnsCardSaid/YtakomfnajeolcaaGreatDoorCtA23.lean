import Derived.Test.YtakomfnajeolcaaGreatDoorCtA22
import Derived.Lib.SlicesCompact
import Derived.Lib.RowBridge
import Derived.Test.YtakomfnajeolcaaGreatDoorShelfS
set_option linter.unusedVariables false
/- Layouts that are right, as indices; a layout that was laid is taken. Nothing of the program stands here. -/
namespace Go.Proofs.YtakomfnajeolcaaGreatDoor.Ch
open Go.RowKit
set_option linter.unusedVariables false

theorem runsL_rng {l : List Int} (hl : l ≠ []) (o : Int) (ho : 1 ≤ o) (n : Nat) : Tk.runsL (l ++ Tk.rng (Tk.endL l + o) (n + 1)) = Tk.runsL l ++ [(o, (n : Int) + 1)] ∧ Tk.endL (l ++ Tk.rng (Tk.endL l + o) (n + 1)) = Tk.endL l + o + n + 1 := by
  induction n with
  | zero =>
    have e : l ++ Tk.rng (Tk.endL l + o) (0 + 1) = l ++ [Tk.endL l + o] := by simp [Tk.rng]
    rw [e, Tk.runsL_snoc, Tk.endL_snoc, Tk.addIx_new _ _ _ (Tk.runsL_ne hl) (by omega)]
    refine ⟨?_, by omega⟩
    rw [show Tk.endL l + o - Tk.endL l = o by omega]
    rfl
  | succ n ih =>
    obtain ⟨i1, i2⟩ := ih
    have e : l ++ Tk.rng (Tk.endL l + o) (n + 1 + 1) = (l ++ Tk.rng (Tk.endL l + o) (n + 1)) ++ [Tk.endL l + o + ((n + 1 : Nat) : Int)] := by rw [Tk.rng_succ, List.append_assoc]
    have e2 : Tk.endL l + o + ((n + 1 : Nat) : Int) = Tk.endL l + o + n + 1 := by omega
    rw [e, Tk.runsL_snoc, Tk.endL_snoc, i1, i2, e2, Tk.addIx_more]
    exact ⟨by congr 2, by omega⟩
theorem runsL_first (f : Int) (n : Nat) : Tk.runsL (Tk.rng f (n + 1)) = [(0, (n : Int) + 1)] ∧ Tk.endL (Tk.rng f (n + 1)) = f + n + 1 := by
  induction n with
  | zero =>
    have e : Tk.rng f (0 + 1) = [] ++ [f] := by simp [Tk.rng]
    rw [e, Tk.runsL_snoc, Tk.endL_snoc, Tk.runsL_nil, Tk.addIx_nil]
    exact ⟨rfl, by omega⟩
  | succ n ih =>
    obtain ⟨i1, i2⟩ := ih
    have e2 : f + ((n + 1 : Nat) : Int) = f + n + 1 := by omega
    rw [Tk.rng_succ, Tk.runsL_snoc, Tk.endL_snoc, i1, i2, e2, show ([(0, (n : Int) + 1)] : List (Int × Int)) = [] ++ [(0, (n : Int) + 1)] from rfl, Tk.addIx_more]
    exact ⟨by rw [List.nil_append]; congr 2, by omega⟩
theorem fstL_app {l m : List Int} (h : l ≠ []) : Tk.fstL (l ++ m) = Tk.fstL l := by
  cases l with
  | nil => exact absurd rfl h
  | cons a r => rfl
theorem rng_bd {a : Int} {n : Nat} {x : Int} (h : x ∈ Tk.rng a n) : a ≤ x ∧ x < a + n := by
  unfold Tk.rng at h
  obtain ⟨i, hi, rfl⟩ := List.mem_map.1 h
  have := List.mem_range.1 hi
  omega
theorem rng_asc (a : Int) (n : Nat) : Tk.Asc (Tk.rng a n) := by
  induction n with
  | zero => exact List.Pairwise.nil
  | succ n ih =>
    rw [Tk.rng_succ]
    unfold Tk.Asc at *
    refine List.pairwise_append.2 ⟨ih, by simp, fun x hx y hy => ?_⟩
    have := rng_bd hx
    simp at hy
    omega
/-- of runs that are right: each may be so -/
theorem rightR_each : ∀ {L : List (Int × Int)} {i : Nat} {m : Int}, Tk.rightR L i m = true → (∀ p ∈ L, 1 ≤ p.2 ∧ p.2 ≤ m ∧ 0 ≤ p.1 ∧ p.1 ≤ 524288) ∧ (0 < i → ∀ p ∈ L, 1 ≤ p.1) ∧ (i = 0 → ∀ p R, L = p :: R → p.1 = 0 ∧ ∀ q ∈ R, 1 ≤ q.1)
  | [], i, m, h => ⟨by simp, by simp, by simp⟩
  | p :: r, i, m, h => by
    simp only [Tk.rightR, Bool.and_eq_true] at h
    obtain ⟨h1, h2⟩ := h
    obtain ⟨a1, a2, _⟩ := rightR_each h2
    unfold Tk.okAt Tk.offB at h1
    rw [Bool.and_eq_true, Bool.and_eq_true, decide_eq_true_eq, decide_eq_true_eq] at h1
    obtain ⟨h3, h4, h5⟩ := h1
    have ho : (i = 0 → p.1 = 0) ∧ (0 < i → 1 ≤ p.1) ∧ 0 ≤ p.1 ∧ p.1 ≤ 524288 := by
      by_cases hi : (i : Int) = 0
      · rw [if_pos hi] at h3
        have : p.1 = 0 := by simpa using h3
        omega
      · rw [if_neg hi, Bool.and_eq_true, decide_eq_true_eq, decide_eq_true_eq] at h3
        omega
    refine ⟨fun q hq => ?_, fun hi q hq => ?_, fun hi q R e => ?_⟩
    · rcases List.mem_cons.1 hq with rfl | hq
      · exact ⟨h4, h5, ho.2.2⟩
      · have := a1 q hq; omega
    · rcases List.mem_cons.1 hq with rfl | hq
      · exact ho.2.1 hi
      · exact a2 (by omega) q hq
    · obtain ⟨rfl, rfl⟩ := List.cons.inj e
      exact ⟨ho.1 hi, fun q hq => a2 (by omega) q hq⟩
theorem lens_ge {L : List (Int × Int)} (h : ∀ p ∈ L, 1 ≤ p.2) : (L.length : Int) ≤ Tk.lens L := by
  induction L with
  | nil => simp [Tk.lens]
  | cons a r ih =>
    have h1 := h a (by simp)
    have h2 := ih (fun p hp => h p (by simp [hp]))
    simp only [Tk.lens, List.length_cons]
    omega
theorem rightR_lens : ∀ {L : List (Int × Int)} {i : Nat} {m : Int}, Tk.rightR L i m = true → L ≠ [] → Tk.lens L ≤ m
  | [], i, m, h, hn => absurd rfl hn
  | [p], i, m, h, _ => by
    have := (rightR_each h).1 p (by simp)
    simp only [Tk.lens]
    omega
  | p :: q :: r, i, m, h, _ => by
    simp only [Tk.rightR, Bool.and_eq_true] at h
    have h2 : Tk.rightR (q :: r) (i + 1) (m - p.2) = true := by simp only [Tk.rightR, Bool.and_eq_true]; exact h.2
    have := rightR_lens h2 (by simp)
    show p.2 + Tk.lens (q :: r) ≤ m
    omega
theorem rightR_less : ∀ {L : List (Int × Int)} {i : Nat} {m m' : Int}, Tk.rightR L i m = true → Tk.lens L ≤ m' → Tk.rightR L i m' = true
  | [], i, m, m', _, _ => rfl
  | p :: r, i, m, m', h, hl => by
    have he := (rightR_each h).1
    simp only [Tk.rightR, Bool.and_eq_true] at h ⊢
    have hl' : p.2 + Tk.lens r ≤ m' := hl
    have h0 : 0 ≤ Tk.lens r := by have := lens_ge (L := r) (fun q hq => (he q (by simp [hq])).1); omega
    refine ⟨?_, rightR_less h.2 (by omega)⟩
    obtain ⟨h1, _⟩ := h
    unfold Tk.okAt at h1 ⊢
    rw [Bool.and_eq_true, Bool.and_eq_true, decide_eq_true_eq, decide_eq_true_eq] at h1 ⊢
    exact ⟨h1.1, h1.2.1, by omega⟩
/-- the indices of runs that are right have these runs -/
theorem right_runs (f : Int) (m : Int) (L : List (Int × Int)) : L ≠ [] → Tk.rightR L 0 m = true → Tk.runsL (Tk.indF f L) = L ∧ Tk.endL (Tk.indF f L) = f + Tk.tot L ∧ Tk.indF f L ≠ [] ∧ Tk.fstL (Tk.indF f L) = f ∧ Tk.Asc (Tk.indF f L) ∧ (∀ x ∈ Tk.indF f L, f ≤ x ∧ x < f + Tk.tot L) ∧ Tk.tot L ≤ (L.length : Int) * 524288 + Tk.lens L := by
  refine Tk.snoc_ind (P := fun L => L ≠ [] → Tk.rightR L 0 m = true → Tk.runsL (Tk.indF f L) = L ∧ Tk.endL (Tk.indF f L) = f + Tk.tot L ∧ Tk.indF f L ≠ [] ∧ Tk.fstL (Tk.indF f L) = f ∧ Tk.Asc (Tk.indF f L) ∧ (∀ x ∈ Tk.indF f L, f ≤ x ∧ x < f + Tk.tot L) ∧ Tk.tot L ≤ (L.length : Int) * 524288 + Tk.lens L) (fun h => absurd rfl h) (fun s p ih _ h => ?_) L
  have hE := rightR_each h
  obtain ⟨n, hn⟩ : ∃ n : Nat, p.2 = (n : Int) + 1 := ⟨(p.2 - 1).toNat, by have := (hE.1 p (by simp)).1; omega⟩
  have hp := hE.1 p (by simp)
  have hnn : p.2.toNat = n + 1 := by omega
  by_cases hs : s = []
  · subst hs
    have h0 : p.1 = 0 := (hE.2.2 rfl p [] rfl).1
    obtain ⟨r1, r2⟩ := runsL_first f n
    have e : Tk.indF f ([] ++ [p]) = Tk.rng f (n + 1) := by rw [List.nil_append, Tk.indF_one, h0, hnn, Int.add_zero]
    have et : Tk.tot ([] ++ [p]) = p.2 := by simp only [List.nil_append, Tk.tot]; omega
    have hne : Tk.rng f (n + 1) ≠ [] := fun e => by have := congrArg List.length e; simp [Tk.rng_length] at this
    rw [e, r1, r2, et]
    refine ⟨?_, by omega, hne, ?_, rng_asc f _, fun x hx => ?_, ?_⟩
    · rw [List.nil_append]; congr 1; exact Prod.ext h0.symm hn.symm
    · unfold Tk.fstL Tk.rng; simp [List.range_succ_eq_map]
    · have := rng_bd hx; omega
    · simp only [List.nil_append, Tk.lens, List.length_cons, List.length_nil]; omega
  · rw [Tk.rightR_append, Bool.and_eq_true] at h
    obtain ⟨i1, i2, i3, i4, i5, i6, i7⟩ := ih hs h.1
    have hp1 : 1 ≤ p.1 := (rightR_each h.2).2.1 (by have := List.length_pos_iff.2 hs; omega) p (by simp)
    have ea : f + Tk.tot s + p.1 = Tk.endL (Tk.indF f s) + p.1 := by omega
    have e : Tk.indF f (s ++ [p]) = Tk.indF f s ++ Tk.rng (Tk.endL (Tk.indF f s) + p.1) (n + 1) := by rw [Tk.indF_snoc, ea, hnn]
    obtain ⟨r1, r2⟩ := runsL_rng i3 p.1 hp1 n
    rw [e, r1, r2, i1, i2, Tk.tot_snoc, Tk.lens_snoc]
    refine ⟨?_, by omega, by simp [i3], ?_, ?_, fun x hx => ?_, ?_⟩
    · congr 2; exact Prod.ext rfl hn.symm
    · exact (fstL_app i3).trans i4
    · unfold Tk.Asc at *
      refine List.pairwise_append.2 ⟨i5, rng_asc _ _, fun x hx y hy => ?_⟩
      have := i6 x hx
      have := rng_bd hy
      omega
    · rcases List.mem_append.1 hx with hx | hx
      · have := i6 x hx; omega
      · have := rng_bd hx
        have := i6 _ (List.head_mem i3)
        omega
    · simp only [List.length_append, List.length_cons, List.length_nil]
      have : ((s.length + (0 + 1) : Nat) : Int) * 524288 = (s.length : Int) * 524288 + 524288 := by omega
      rw [this]
      omega
/-- a layout that is right, as indices -/
theorem right_ix {f : Int} {L : List (Int × Int)} {m : Int} (h : Tk.rightF f L m = true) (hm : m ≤ 1000) (m0 : 0 ≤ m) : Tk.runsL (Tk.indF f L) = L ∧ Tk.fstL (Tk.indF f L) = f ∧ Tk.Asc (Tk.indF f L) ∧ Tk.Inw (Tk.indF f L) ∧ ((Tk.indF f L).length : Int) ≤ m := by
  by_cases hL : L = []
  · subst hL
    have h0 : f = 0 := by unfold Tk.rightF at h; simpa using h
    subst h0
    exact ⟨rfl, rfl, List.Pairwise.nil, ⟨fun x hx => (by cases hx), fun m _ => rfl⟩, by simpa [Tk.indF] using m0⟩
  · have h' := h
    unfold Tk.rightF at h'
    rw [if_neg hL, Bool.and_eq_true, Bool.and_eq_true, decide_eq_true_eq, decide_eq_true_eq] at h'
    obtain ⟨⟨f0, f1⟩, hr⟩ := h'
    obtain ⟨r1, r2, r3, r4, r5, r6, r7⟩ := right_runs f m L hL hr
    have h1 : ∀ p ∈ L, 1 ≤ p.2 := fun p hp => ((rightR_each hr).1 p hp).1
    have hlen := Tk.indF_length f h1
    have hl := rightR_lens hr hL
    have hg := lens_ge h1
    have hb : (L.length : Int) * 524288 ≤ 1000 * 524288 := by omega
    refine ⟨r1, r4, r5, ⟨fun x hx => ?_, fun m' hm' => ?_⟩, by omega⟩
    · have := r6 x hx
      omega
    · rw [r1, r4]
      unfold Tk.rightF
      rw [if_neg hL, rightR_less hr (by omega)]
      simp only [Bool.and_true, Bool.and_eq_true, decide_eq_true_eq]
      exact ⟨f0, f1⟩
/-- a layout that was laid is taken -/
theorem takeS_ix {bs : List Nat} (hb : ∀ b ∈ bs, b < 256) {t : Nat} {xs : List Int} (ha : Tk.Asc xs) (hi : Tk.Inb xs) (hl : xs.length ≤ 512) (h : At bs t (Tk.layL (Tk.fstL xs) (Tk.runsL xs))) :
    takeS (fun f L => Tk.rightF f L 512) bs 511 (t, 0) = ((Tk.fstL xs, Tk.runsL xs), (t + (Tk.layL (Tk.fstL xs) (Tk.runsL xs)).length, 0)) := by
  have hr := Tk.runs_right ha hi (m := 512) (by omega)
  have hl2 := Tk.runsL_le xs
  by_cases hx : xs = []
  · subst hx
    exact takeS_back hb (by omega) (f := 0) (L := []) rfl (by simp) (fun _ => rfl) (by omega) (fun p R e => by cases e) h
  · have hh : Tk.fstL xs ∈ xs := by
      cases xs with
      | nil => exact absurd rfl hx
      | cons a r => simp [Tk.fstL]
    have hf := hi _ hh
    have hR := hr
    unfold Tk.rightF at hR
    rw [if_neg (Tk.runsL_ne hx), Bool.and_eq_true] at hR
    obtain ⟨e1, _, e3⟩ := rightR_each hR.2
    refine takeS_back hb (by omega) hr (by omega) (fun e => absurd e (Tk.runsL_ne hx)) hf (fun p R e => ?_) h
    obtain ⟨p0, pr⟩ := e3 rfl p R e
    have hp := e1 p (by rw [e]; simp)
    exact ⟨p0, hp.1, by omega, fun q hq => by
      have h1 := e1 q (by rw [e]; simp [hq])
      have h2 := pr q hq
      exact ⟨h2, h1.2.2.2, h1.1, by omega⟩⟩
end Go.Proofs.YtakomfnajeolcaaGreatDoor.Ch


/- Sorted rows with twins left out: rising, and of the same members. Nothing of the program stands here. -/
namespace Go.Proofs.YtakomfnajeolcaaGreatDoor.Tk
open Go.RowKit Go.Lib

theorem up_to (d : Array Int) (hs : ∀ i j, i < j → j < d.size → d[i]! ≤ d[j]!) : ∀ m, m ≤ d.size → Asc (compactUpTo d m) ∧ (∀ z, z ∈ compactUpTo d m ↔ ∃ j, j < m ∧ d[j]! = z) := by
  intro m
  induction m with
  | zero => intro _; exact ⟨List.Pairwise.nil, fun z => ⟨fun h => by simp [compactUpTo] at h, fun ⟨j, h, _⟩ => absurd h (Nat.not_lt_zero _)⟩⟩
  | succ k ih =>
    intro hk
    obtain ⟨h1, h2⟩ := ih (by omega)
    rw [compactUpTo_succ]
    cases hkp : keeps d k with
    | true =>
      rw [if_pos rfl]
      refine ⟨?_, fun z => ?_⟩
      · unfold Asc at h1 ⊢
        rw [List.pairwise_append]
        refine ⟨h1, by simp, fun a ha b hb => ?_⟩
        simp at hb
        subst hb
        obtain ⟨j, hj, rfl⟩ := (h2 a).1 ha
        have hlt : d[j]! ≤ d[k - 1]! := by
          by_cases e : j = k - 1
          · rw [e]; exact Int.le_refl _
          · exact hs j (k - 1) (by omega) (by omega)
        have hle := hs (k - 1) k (by omega) (by omega)
        have hne : d[k]! ≠ d[k - 1]! := by
          intro e
          rw [keeps_neg (by omega) e] at hkp
          cases hkp
        omega
      · rw [List.mem_append, h2]
        constructor
        · rintro (⟨j, hj, e⟩ | h)
          · exact ⟨j, by omega, e⟩
          · simp at h; exact ⟨k, by omega, h.symm⟩
        · rintro ⟨j, hj, e⟩
          by_cases ej : j = k
          · subst ej; exact .inr (by simp [e])
          · exact .inl ⟨j, by omega, e⟩
    | false =>
      rw [if_neg (by decide), List.append_nil]
      have h0 : 0 < k := by
        rcases Nat.eq_zero_or_pos k with e | e
        · subst e; rw [keeps_lt_one d 0 (by decide)] at hkp; cases hkp
        · exact e
      have he : d[k]! = d[k - 1]! := by
        by_cases e : d[k]! = d[k - 1]!
        · exact e
        · rw [keeps_pos e] at hkp; cases hkp
      refine ⟨h1, fun z => (h2 z).trans ⟨fun ⟨j, hj, e⟩ => ⟨j, by omega, e⟩, fun ⟨j, hj, e⟩ => ?_⟩⟩
      by_cases ej : j = k
      · subst ej; exact ⟨j - 1, by omega, by rw [← he]; exact e⟩
      · exact ⟨j, by omega, e⟩
/-- what sorting and leaving twins out makes of two rows -/
theorem uni_sorted (xs ys : List Int) : Uni xs ys (compact ((xs ++ ys).mergeSort fun x y => decide (x ≤ y))) := by
  have hp := List.mergeSort_perm (xs ++ ys) (fun x y => decide (x ≤ y))
  have hs := List.pairwise_mergeSort (le := fun x y : Int => decide (x ≤ y)) (fun a b c h1 h2 => by simp at *; omega) (fun a b => by simp; omega) (xs ++ ys)
  have hc := compact_length_le ((xs ++ ys).mergeSort fun x y => decide (x ≤ y))
  generalize (xs ++ ys).mergeSort (fun x y => decide (x ≤ y)) = Z at hp hs hc ⊢
  have hsz : Z.toArray.size = Z.length := by simp
  have hget : ∀ j, j < Z.length → Z.toArray[j]! = Z[j]! := fun j hj => by simp
  obtain ⟨a, b⟩ := up_to Z.toArray (fun i j hij hj => by
    rw [hsz] at hj
    have := (List.pairwise_iff_getElem.1 hs) i j (by omega) hj hij
    rw [getElem!_pos Z.toArray i (by simp; omega), getElem!_pos Z.toArray j (by simpa using hj)]
    simpa using this) Z.length (by simp)
  refine ⟨a, fun z => ?_, by rw [hp.length_eq] at hc; simpa using hc⟩
  show z ∈ compactUpTo Z.toArray Z.length ↔ _
  rw [b, ← List.mem_append, ← hp.mem_iff]
  constructor
  · rintro ⟨j, hj, e⟩
    rw [getElem!_pos Z.toArray j (by simpa using hj)] at e
    rw [← e]
    simp
  · intro h
    obtain ⟨j, hj, e⟩ := List.getElem_of_mem h
    exact ⟨j, hj, by rw [getElem!_pos Z.toArray j (by simpa using hj)]; simpa using e⟩
/-- the row of the indices of both -/
def uni (xs ys : List Int) : List Int := compact ((xs ++ ys).mergeSort fun x y => decide (x ≤ y))
theorem uni_uni (xs ys : List Int) : Uni xs ys (uni xs ys) := uni_sorted xs ys
end Go.Proofs.YtakomfnajeolcaaGreatDoor.Tk


/- The contracts of the library's Sort and Compact at rows of the call's own, of Join, of Has. -/
namespace Go.Proofs.YtakomfnajeolcaaGreatDoor.Tk
open Go.RowKit Go.Sort
set_option linter.unusedVariables false

theorem own_holds {w : World} {base g c n : Nat} {X : List Int} (h : w.ownsRow base 3 1 (.slice (some ⟨g, 0, none⟩) n c) n (intsC .i64 X)) : Holds (Value.int .i64) w g 0 X.toArray := by
  have hn := h.1
  rw [intsC_length] at hn
  intro j hj
  have hj' : j < X.length := by simpa using hj
  refine ⟨?_, by rw [Nat.zero_add]; exact h.frozenAt j⟩
  rw [Nat.zero_add, h.cellAt j (by omega), intsC_at (List.getElem?_eq_getElem hj'), getElem!_pos X.toArray j hj]
  simp
theorem put_heap {w : World} {g n : Nat} {os : Array Obj} {cur : Array Value} {e : TypeId} {fr : Nat × Nat} (F : Array Int) (hb : w.heap[g]? = some (.cells cur e fr)) :
    (grow (putRow (Value.int .i64) (Sort.ahead w n) g 0 F) os).heap[g]? = some (.cells (putCells (Value.int .i64) 0 F cur) e fr) := by
  have hg : g < w.heap.size := (Array.getElem?_eq_some_iff.1 hb).1
  rw [heap_grow_old _ _ (by simpa using hg)]
  simp [putRow, mapBlock, Sort.ahead, Array.getElem?_modify, hb, onCells]
theorem put_grown {w : World} {g n : Nat} {os : Array Obj} (F : Array Int) : w.grownBy (grow (putRow (Value.int .i64) (Sort.ahead w n) g 0 F) os) (some g) := by
  refine ⟨rfl, rfl, rfl, by simp, fun k hk hne => ?_⟩
  rw [heap_grow_old _ _ (by simpa using hk)]
  have : g ≠ k := fun e => hne (by rw [e])
  simp [putRow, mapBlock, Sort.ahead, Array.getElem?_modify, this]
theorem put_take (cur : Array Value) (F : Array Int) (h : F.size ≤ cur.size) : (putCells (Value.int .i64) 0 F cur).toList.take F.size = intsC .i64 F.toList := by
  apply List.ext_getElem?
  intro j
  by_cases hj : j < F.size
  · rw [List.getElem?_take_of_lt hj, Array.getElem?_toList, intsC_at (x := F[j]!) (by rw [Array.getElem?_toList, getElem!_pos F j hj]; simp [hj])]
    simp [putCells, hj, show j < cur.size by omega]
  · rw [List.getElem?_take_eq_none (by omega), List.getElem?_eq_none (by rw [intsC_length]; simp; omega)]
/-- a row that is written over, by as many numbers or more than are left -/
theorem put_own {w : World} {base g c n q m : Nat} {os : Array Obj} {X : List Int} (h : w.ownsRow base 3 1 (.slice (some ⟨g, 0, none⟩) n c) n (intsC .i64 X)) (F : List Int) (hF : F.length = n) :
    (grow (putRow (Value.int .i64) (Sort.ahead w q) g 0 F.toArray) os).ownsRow base 3 1 (.slice (some ⟨g, 0, none⟩) n c) n (intsC .i64 F) := by
  rcases h.2 with ⟨h', _⟩ | ⟨g', cap', cur, hv, hb, hg, hnc, hcm, hcs, htake⟩
  · simp at h'
  · simp only [Value.slice.injEq, Option.some.injEq, Addr.mk.injEq, and_true, true_and] at hv
    obtain ⟨rfl, rfl⟩ := hv
    refine ⟨by rw [intsC_length]; omega, .inr ⟨g, c, _, rfl, hb, put_heap _ hg, hnc, hcm, by simp [putCells, hcs], ?_⟩⟩
    have := put_take cur F.toArray (by simp; omega)
    simpa [hF] using this
/-- what the sort leaves -/
def SortPost (w : World) (base : Nat) (v : Value) (X : List Int) (e : Ending) (w' : World) : Prop :=
  e = .returned (.tuple #[]) ∧ w'.ownsRow base 3 1 v X.length (intsC .i64 (X.mergeSort fun x y => decide (x ≤ y))) ∧ w.grownBy w' v.ownBlock
theorem sort_any (base n c : Nat) (A : Option Addr) (X : List Int) (w : World) (h : w.ownsRow base 3 1 (.slice A n c) n (intsC .i64 X)) (hn : n = X.length) (hX : X.length ≤ 1000000) :
    Calls Tryz.prog 118 #[.slice A n c] w (SortPost w base (.slice A n c) X) := by
  subst hn
  by_cases h0 : X.length = 0
  · have hX0 : X = [] := List.eq_nil_of_length_eq_zero h0
    subst hX0
    refine (Tryz.slices_Sort_int_none A c w).mono ?_
    rintro e w' ⟨rfl, rfl⟩
    exact ⟨rfl, by simpa using h, World.grownBy.refl _ _⟩
  · obtain ⟨g, c', hv, _, _⟩ := h.form (by omega)
    injection hv with e1 e2 e3
    subst e1
    have hlt := (h.lt g rfl).2
    refine (Tryz.slices_Sort_int g 0 c X w (own_holds h) hlt (by omega)).mono ?_
    rintro e w' ⟨rfl, q, os, rfl⟩
    exact ⟨rfl, put_own (m := 0) h _ (List.length_mergeSort _), put_grown _⟩
theorem grow_none (w : World) : grow w #[] = w := by simp [grow]
def CompactPost (w : World) (B : Nat) (Z : List Int) (e : Ending) (w' : World) : Prop := ∃ A c, e = .returned (.slice A (Lib.compact Z).length c) ∧ Cl w' A (intsC .i64 (Lib.compact Z)) ∧ ∀ W, Below B W w → B ≤ w.heap.size → Below B W w'
theorem compact_any (base n c : Nat) (A : Option Addr) (Z : List Int) (w : World) (h : w.ownsRow base 3 1 (.slice A n c) n (intsC .i64 Z)) (hn : n = Z.length) (hX : Z.length ≤ 1000000) :
    Calls Tryz.prog 120 #[.slice A n c] w (CompactPost w base Z) := by
  subst hn
  by_cases h0 : Z.length = 0
  · have hX0 : Z = [] := List.eq_nil_of_length_eq_zero h0
    subst hX0
    refine (Tryz.slices_Compact_int_empty A c w).mono ?_
    rintro e w' ⟨rfl, rfl⟩
    exact ⟨A, c, rfl, Cl.nil _ _, fun W hW _ => hW⟩
  · obtain ⟨g, c', hv, hb, _⟩ := h.form (by omega)
    injection hv with e1 e2 e3
    subst e1
    have hcap : Z.length ≤ c := by
      rcases h.2 with ⟨h', _⟩ | ⟨g', cap', cur, hv, hb, hg, hnc, hcm, hcs, htake⟩
      · simp at h'
      · simp only [Value.slice.injEq, Option.some.injEq, Addr.mk.injEq, and_true, true_and] at hv
        omega
    have hle := Lib.compact_length_le Z
    refine (Tryz.slices_Compact_int g 0 c Z w (own_holds h) (by omega) hcap).mono ?_
    rintro e w' ⟨rfl, q, rfl⟩
    have ho := put_own (m := 0) (q := q) (os := #[]) h (Lib.compact Z ++ List.replicate (Z.length - (Lib.compact Z).length) 0) (by simp; omega)
    rw [grow_none] at ho
    have hg := put_grown (w := w) (g := g) (n := q) (os := #[]) (Lib.compact Z ++ List.replicate (Z.length - (Lib.compact Z).length) 0).toArray
    rw [grow_none] at hg
    refine ⟨some ⟨g, 0, none⟩, c, rfl, ?_, fun W hW hB => hW.grown hg hB (fun k hk => by cases hk; exact (h.lt g rfl).1)⟩
    have hc := own_cl ho
    rw [intsC_append] at hc
    rcases hc with hc | ⟨b, off, e, hcl⟩
    · exact .inl (List.append_eq_nil_iff.1 hc).1
    · exact .inr ⟨b, off, e, fun j v hj => hcl j v (by rw [List.getElem?_append_left (List.getElem?_eq_some_iff.1 hj).1]; exact hj)⟩
/-- append of one row of the call's own to another one, at a step of a region -/
theorem step_app_ints {ops : Array Oper} {o : Oper} {a : Act} {w : World} {K : Act → World → Prop} {Q : Exit → Act → World → Prop} {E : Prop} (hgd : o.guard = none) (s x : Operand)
    (ho : o.op = .call { callee := .builtin .append, args := #[s, x], argTypes := #[72, 72] })
    (base : Nat) (A : Option Addr) (n c : Nat) (X : List Int) (hs : a.eval s = .slice A n c) (hown : w.ownsRow base 3 1 (.slice A n c) n (intsC .i64 X))
    (base2 : Nat) (B : Option Addr) (m d : Nat) (Y : List Int) (hx : a.eval x = .slice B m d) (hown2 : w.ownsRow base2 3 1 (.slice B m d) m (intsC .i64 Y)) (hl : n + m ≤ 1000000) (hbase : base ≤ w.heap.size)
    (h : ∀ A' c' w', w'.ownsRow base 3 1 (.slice A' (n + m) c') (n + m) (intsC .i64 (X ++ Y)) → w.grownBy w' (Value.slice A n c).ownBlock → K (a.put o.dst (.slice A' (n + m) c')) w') :
    if Region.wanted o (yielded ops a.tmps) = true then Oper.wp Tryz.prog o a w K Q else E := by
  have hw : Region.wanted o (yielded ops a.tmps) = true := by simp [Region.wanted, hgd]
  rw [if_pos hw]
  obtain ⟨i0, hi, hz0, hz1, hz2⟩ := info_parts infoI
  cases B with
  | none =>
    rcases hown2.2 with ⟨hv, hm⟩ | ⟨g, cap, cur, hv, _⟩
    · injection hv with e1 e2 e3
      subst hm e3
      have hY : Y = [] := by
        have := hown2.1
        rw [intsC_length] at this
        exact List.eq_nil_of_length_eq_zero (by omega)
      subst hY
      have hrun := run_append_owned_none (P := Tryz.prog) (w := w) base 72 o.type 3 i0 1 Tryz.underlying72 hi (.slice A n c) n (intsC .i64 X) hown
      unfold Oper.wp
      simp [execOp, ho, resolve, invoke, builtin, hs, hx, hrun, Result.andThen]
      exact h A c w (by simpa using hown) (World.grownBy.refl _ _)
    · simp at hv
  | some ad =>
    refine wp_append_own w s x 72 ho base 3 i0 (.int .i64 0) 1 8 Tryz.underlying72 hi hz0 hz1 hz2 rfl (by decide) _ n (intsC .i64 X) hs hown ad m d (intsC .i64 Y) hx (by have := hown2.1; omega) (own_cl hown2).src (intsC_one _ _) (by unfold maxLen; omega) (by omega) hbase ?_
    intro v' w' h1 h2 _
    obtain ⟨A', c', rfl⟩ := own_shape h1
    rw [← intsC_append] at h1
    exact h A' c' w' h1 h2
end Go.Proofs.YtakomfnajeolcaaGreatDoor.Tk
