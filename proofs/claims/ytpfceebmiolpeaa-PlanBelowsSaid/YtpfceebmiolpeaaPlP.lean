/- Blocks by their numbers, plainly: steps of grids, which lie in which, the next step, what it leaves. -/
import Derived.Test.YtpfceebmiolpeaaPlA
namespace Go.Proofs.Ytpfceebmiolpeaa.Pl
set_option linter.unusedVariables false

/-- how wide a level's steps are -/
def wd (k : Int) : Int := if k ≤ 0 then 64 else if k = 1 then 256 else if k = 2 then 1024 else if k = 3 then 4096 else 16384
theorem wd_cases (k : Int) : (k ≤ 0 ∧ wd k = 64) ∨ (k = 1 ∧ wd k = 256) ∨ (k = 2 ∧ wd k = 1024) ∨ (k = 3 ∧ wd k = 4096) ∨ (4 ≤ k ∧ wd k = 16384) := by
  unfold wd
  by_cases h0 : k ≤ 0
  · exact .inl ⟨h0, if_pos h0⟩
  · by_cases h1 : k = 1
    · subst h1; exact .inr (.inl ⟨rfl, rfl⟩)
    · by_cases h2 : k = 2
      · subst h2; exact .inr (.inr (.inl ⟨rfl, rfl⟩))
      · by_cases h3 : k = 3
        · subst h3; exact .inr (.inr (.inr (.inl ⟨rfl, rfl⟩)))
        · exact .inr (.inr (.inr (.inr ⟨by omega, by rw [if_neg h0, if_neg h1, if_neg h2, if_neg h3]⟩)))
theorem wd_pos (k : Int) : 0 < wd k ∧ wd k ≤ 16384 := by rcases wd_cases k with ⟨_, e⟩ | ⟨_, e⟩ | ⟨_, e⟩ | ⟨_, e⟩ | ⟨_, e⟩ <;> rw [e] <;> omega
/-- where the step begins that has a time -/
def lowF (k t : Int) : Int := t / wd k * wd k
theorem lowF_mod (k t : Int) : lowF k t % wd k = 0 := by unfold lowF; exact Int.mul_emod_left _ _
theorem lowF_le (k t : Int) : lowF k t ≤ t := by
  unfold lowF
  rcases wd_cases k with ⟨_, e⟩ | ⟨_, e⟩ | ⟨_, e⟩ | ⟨_, e⟩ | ⟨_, e⟩ <;> rw [e] <;> omega
theorem lowF_lt (k t : Int) : t < lowF k t + wd k := by
  unfold lowF
  rcases wd_cases k with ⟨_, e⟩ | ⟨_, e⟩ | ⟨_, e⟩ | ⟨_, e⟩ | ⟨_, e⟩ <;> rw [e] <;> omega
theorem lowF_nonneg {k t : Int} (h : 0 ≤ t) : 0 ≤ lowF k t := by
  unfold lowF
  rcases wd_cases k with ⟨_, e⟩ | ⟨_, e⟩ | ⟨_, e⟩ | ⟨_, e⟩ | ⟨_, e⟩ <;> rw [e] <;> omega
theorem lowF_mono (k : Int) {s t : Int} (h : s ≤ t) : lowF k s ≤ lowF k t := by
  unfold lowF
  rcases wd_cases k with ⟨_, e⟩ | ⟨_, e⟩ | ⟨_, e⟩ | ⟨_, e⟩ | ⟨_, e⟩ <;> rw [e] <;> omega
/-- which may be -/
structure RightI (x : It) : Prop where
  l0 : 0 ≤ x.lv
  l4 : x.lv ≤ 4
  o0 : 0 ≤ x.lo
  o1 : x.lo ≤ 1099511627776
  md : x.lo % wd x.lv = 0
  hi : x.hi = x.lo + wd x.lv
def RightL (l : List It) : Prop := (∀ x ∈ l, RightI x) ∧ (l.map It.q).Nodup
theorem RightI.lt {x : It} (h : RightI x) : x.lo < x.hi := by have := h.hi; have := wd_pos x.lv; omega
/-- lies in a step -/
def inB (k low : Int) (x : It) : Bool := decide (low ≤ x.lo ∧ x.hi ≤ low + wd k)
theorem inB_iff {k v : Int} {x : It} (h : RightI x) (hk : 0 ≤ k ∧ k ≤ 4) (hv : v % wd k = 0) : inB k v x = true ↔ x.lv ≤ k ∧ lowF k x.lo = v := by
  unfold inB lowF
  rw [decide_eq_true_eq]
  have h1 := h.hi; have h2 := h.md; have h3 := h.l0; have h4 := h.l4; have h5 := h.o0
  rcases wd_cases x.lv with ⟨c, e⟩ | ⟨c, e⟩ | ⟨c, e⟩ | ⟨c, e⟩ | ⟨c, e⟩ <;> rw [e] at h1 h2 <;> rcases wd_cases k with ⟨d, f⟩ | ⟨d, f⟩ | ⟨d, f⟩ | ⟨d, f⟩ | ⟨d, f⟩ <;> rw [f] at hv ⊢ <;> omega
/-- numbers by size -/
def insF : Int → List Int → List Int
  | a, [] => [a]
  | a, b :: r => if b < a then b :: insF a r else a :: b :: r
def srt (L : List Int) : List Int := L.foldl (fun s a => insF a s) []
theorem insF_perm (a : Int) : ∀ s : List Int, (insF a s).Perm (a :: s)
  | [] => List.Perm.refl _
  | b :: r => by
    unfold insF
    split
    · exact ((insF_perm a r).cons b).trans (List.Perm.swap a b r)
    · exact List.Perm.refl _
theorem insF_sorted (a : Int) : ∀ s : List Int, s.Pairwise (· ≤ ·) → (insF a s).Pairwise (· ≤ ·)
  | [], _ => List.pairwise_singleton _ _
  | b :: r, h => by
    obtain ⟨h1, h2⟩ := List.pairwise_cons.1 h
    unfold insF
    split
    · refine List.pairwise_cons.2 ⟨fun c hc => ?_, insF_sorted a r h2⟩
      rcases List.mem_cons.1 ((insF_perm a r).mem_iff.1 hc) with rfl | hc
      · omega
      · exact h1 c hc
    · refine List.pairwise_cons.2 ⟨fun c hc => ?_, h⟩
      rcases List.mem_cons.1 hc with rfl | hc
      · omega
      · have := h1 c hc; omega
theorem srt_go : ∀ (L s : List Int), s.Pairwise (· ≤ ·) → (L.foldl (fun s a => insF a s) s).Perm (L ++ s) ∧ (L.foldl (fun s a => insF a s) s).Pairwise (· ≤ ·)
  | [], s, h => ⟨List.Perm.refl _, h⟩
  | a :: r, s, h => by
    obtain ⟨h1, h2⟩ := srt_go r (insF a s) (insF_sorted a s h)
    refine ⟨h1.trans ?_, h2⟩
    exact ((insF_perm a s).append_left r).trans List.perm_middle
theorem srt_perm (L : List Int) : (srt L).Perm L := by have := (srt_go L [] List.Pairwise.nil).1; rwa [List.append_nil] at this
theorem srt_sorted (L : List Int) : (srt L).Pairwise (· ≤ ·) := (srt_go L [] List.Pairwise.nil).2
theorem srt_length (L : List Int) : (srt L).length = L.length := (srt_perm L).length_eq
theorem srt_snoc (L : List Int) (a : Int) : srt (L ++ [a]) = insF a (srt L) := by unfold srt; rw [List.foldl_append]; rfl
theorem sorted_unique : ∀ {a b : List Int}, a.Perm b → a.Pairwise (· ≤ ·) → b.Pairwise (· ≤ ·) → a = b
  | [], b, h, _, _ => (List.nil_perm.1 h).symm
  | x :: r, [], h, _, _ => by have := h.length_eq; simp at this
  | x :: r, y :: s, h, ha, hb => by
    obtain ⟨a1, a2⟩ := List.pairwise_cons.1 ha
    obtain ⟨b1, b2⟩ := List.pairwise_cons.1 hb
    have hxy : x = y := by
      have hx : x ∈ y :: s := h.mem_iff.1 (List.mem_cons_self ..)
      have hy : y ∈ x :: r := h.mem_iff.2 (List.mem_cons_self ..)
      have h1 : y ≤ x := by
        rcases List.mem_cons.1 hx with e | hx
        · omega
        · exact b1 x hx
      have h2 : x ≤ y := by
        rcases List.mem_cons.1 hy with e | hy
        · omega
        · exact a1 y hy
      omega
    subst hxy
    rw [sorted_unique (List.Perm.cons_inv h) a2 b2]
theorem srt_of {Y L : List Int} (h : Y.Perm L) (hs : Y.Pairwise (· ≤ ·)) : Y = srt L := sorted_unique (h.trans (srt_perm L).symm) hs (srt_sorted L)
theorem srt_congr {L M : List Int} (h : L.Perm M) : srt L = srt M := sorted_unique (((srt_perm L).trans h).trans (srt_perm M).symm) (srt_sorted L) (srt_sorted M)
/-- the numbers of the blocks that lie in a step -/
def withinF (l : List It) (k low : Int) : List Int := srt ((l.filter (inB k low)).map It.q)
theorem withinF_perm {l m : List It} (h : l.Perm m) (k low : Int) : withinF l k low = withinF m k low := srt_congr ((h.filter _).map _)
theorem withinF_length (l : List It) (k low : Int) : (withinF l k low).length ≤ l.length := by
  unfold withinF
  rw [srt_length, List.length_map]
  exact List.length_filter_le _ _
/-- how many blocks of no greater level lie in the step that begins at v -/
def grp (k v : Int) (x : It) : Bool := decide (x.lv ≤ k ∧ lowF k x.lo = v)
def cnt (k : Int) (l : List It) (v : Int) : Nat := (l.filter (grp k v)).length
theorem cnt_perm {l m : List It} (h : l.Perm m) (k v : Int) : cnt k l v = cnt k m v := (h.filter _).length_eq
theorem cnt_cons (k : Int) (x : It) (r : List It) (v : Int) : cnt k (x :: r) v = cnt k r v + if x.lv ≤ k ∧ lowF k x.lo = v then 1 else 0 := by
  unfold cnt
  rw [List.filter_cons]
  by_cases h : x.lv ≤ k ∧ lowF k x.lo = v
  · rw [if_pos h, if_pos (by unfold grp; simp [h]), List.length_cons]
  · rw [if_neg h, if_neg (by unfold grp; rw [decide_eq_true_eq]; exact h)]; rfl
theorem cnt_pos {k : Int} {l : List It} {v : Int} (h : 1 ≤ cnt k l v) : ∃ x ∈ l, x.lv ≤ k ∧ lowF k x.lo = v := by
  unfold cnt at h
  obtain ⟨x, hx⟩ := List.exists_mem_of_length_pos h
  obtain ⟨h1, h2⟩ := List.mem_filter.1 hx
  exact ⟨x, h1, by simpa [grp] using h2⟩
theorem cnt_zero {k : Int} {l : List It} {v : Int} (h : ∀ x ∈ l, x.lv ≤ k → lowF k x.lo ≠ v) : cnt k l v = 0 := by
  rcases Nat.eq_zero_or_pos (cnt k l v) with e | e
  · exact e
  · obtain ⟨x, hx, h1, h2⟩ := cnt_pos e
    exact absurd h2 (h x hx h1)
theorem within_cnt {l : List It} (h : ∀ x ∈ l, RightI x) {k v : Int} (hk : 0 ≤ k ∧ k ≤ 4) (hv : v % wd k = 0) : (withinF l k v).length = cnt k l v := by
  unfold withinF cnt
  rw [srt_length, List.length_map]
  congr 1
  refine List.filter_congr fun x hx => ?_
  rw [Bool.eq_iff_iff, inB_iff (h x hx) hk hv]
  unfold grp
  rw [decide_eq_true_eq]
def NoDup (k : Int) (l : List It) : Prop := ∀ v, cnt k l v < 2
def IsFst (k : Int) (l : List It) (v : Int) : Prop := 2 ≤ cnt k l v ∧ ∀ u, 2 ≤ cnt k l u → v ≤ u
theorem IsFst.unique {k : Int} {l : List It} {v u : Int} (h : IsFst k l v) (g : IsFst k l u) : v = u := by
  have := h.2 u g.1
  have := g.2 v h.1
  omega
theorem IsFst.not {k : Int} {l : List It} {v : Int} (h : IsFst k l v) (g : NoDup k l) : False := by
  have := h.1
  have := g v
  omega
theorem IsFst.mod {k : Int} {l : List It} {v : Int} (h : IsFst k l v) : v % wd k = 0 := by
  obtain ⟨x, _, _, e⟩ := cnt_pos (Nat.le_trans (by omega) h.1)
  rw [← e]
  exact lowF_mod k _
theorem IsFst.range {k : Int} {l : List It} {v : Int} (hr : ∀ x ∈ l, RightI x) (h : IsFst k l v) : 0 ≤ v ∧ v ≤ 1099511627776 := by
  obtain ⟨x, hx, _, e⟩ := cnt_pos (Nat.le_trans (by omega) h.1)
  have h1 := (hr x hx).o0
  have h2 := (hr x hx).o1
  have h3 := lowF_le k x.lo
  have h4 := lowF_nonneg (k := k) h1
  omega
/-- the next step -/
def NextR (l : List It) : Option (Int × List Int) → Prop
  | none => ∀ k, 0 ≤ k → k ≤ 4 → NoDup k l
  | some (k, S) => 0 ≤ k ∧ k ≤ 4 ∧ (∀ j, 0 ≤ j → j < k → NoDup j l) ∧ ∃ v, IsFst k l v ∧ S = withinF l k v
theorem NextR.unique {l : List It} : ∀ {a b : Option (Int × List Int)}, NextR l a → NextR l b → a = b
  | none, none, _, _ => rfl
  | none, some (k, S), h, ⟨g1, g2, _, v, g4, _⟩ => (g4.not (h k g1 g2)).elim
  | some (k, S), none, ⟨g1, g2, _, v, g4, _⟩, h => (g4.not (h k g1 g2)).elim
  | some (k, S), some (j, T), ⟨a1, a2, a3, v, a4, a5⟩, ⟨b1, b2, b3, u, b4, b5⟩ => by
    have hkj : k = j := by
      rcases Int.lt_trichotomy k j with h | h | h
      · exact (a4.not (b3 k a1 h)).elim
      · exact h
      · exact (b4.not (a3 j b1 h)).elim
    subst hkj
    rw [a5, b5, a4.unique b4]
theorem NextR.perm {l m : List It} (h : l.Perm m) : ∀ {a : Option (Int × List Int)}, NextR l a → NextR m a
  | none, g => fun k h0 h4 v => by rw [← cnt_perm h]; exact g k h0 h4 v
  | some (k, S), ⟨a1, a2, a3, v, a4, a5⟩ => ⟨a1, a2, fun j h0 h4 v => by rw [← cnt_perm h]; exact a3 j h0 h4 v, v, ⟨by rw [← cnt_perm h]; exact a4.1, fun u hu => a4.2 u (by rw [cnt_perm h]; exact hu)⟩, by rw [a5, withinF_perm h]⟩
/-- by where they begin -/
def SortedLo (Y : List It) : Prop := Y.Pairwise fun x y => x.lo ≤ y.lo
def sevF (k : Int) : Int → List It → Option Int
  | _, [] => none
  | a, x :: r => if k < x.lv then sevF k a r else if lowF k x.lo = a then some a else sevF k (lowF k x.lo) r
/-- one more at a -/
def oneAt (a u : Int) : Nat := if u = a then 1 else 0
theorem sev_spec (k : Int) : ∀ (Y : List It) (a : Int), SortedLo Y → (∀ x ∈ Y, x.lv ≤ k → a ≤ lowF k x.lo) →
    (∀ v, sevF k a Y = some v → 2 ≤ cnt k Y v + oneAt a v ∧ ∀ u, 2 ≤ cnt k Y u + oneAt a u → v ≤ u) ∧ (sevF k a Y = none → ∀ u, cnt k Y u + oneAt a u < 2)
  | [], a, _, _ => ⟨fun v h => by simp [sevF] at h, fun _ u => by unfold cnt oneAt; simp; split <;> omega⟩
  | x :: r, a, hs, ha => by
    obtain ⟨s1, s2⟩ := List.pairwise_cons.1 hs
    unfold sevF
    by_cases h1 : k < x.lv
    · rw [if_pos h1]
      have ih := sev_spec k r a s2 (fun y hy => ha y (List.mem_cons_of_mem _ hy))
      have e : ∀ u, cnt k (x :: r) u = cnt k r u := fun u => by rw [cnt_cons, if_neg (by omega)]; rfl
      simp only [e]
      exact ih
    · rw [if_neg h1]
      have hxa := ha x (List.mem_cons_self ..) (by omega)
      by_cases h2 : lowF k x.lo = a
      · rw [if_pos h2]
        refine ⟨fun v hv => ?_, fun h => by cases h⟩
        injection hv with hv
        subst hv
        refine ⟨?_, fun u hu => ?_⟩
        · rw [cnt_cons, if_pos ⟨by omega, h2⟩]
          unfold oneAt
          rw [if_pos rfl]
          omega
        · by_cases hua : u = a
          · omega
          · unfold oneAt at hu
            rw [if_neg hua] at hu
            obtain ⟨y, hy, y1, y2⟩ := cnt_pos (k := k) (l := x :: r) (v := u) (by omega)
            rw [← y2]
            exact ha y hy y1
      · rw [if_neg h2]
        obtain ⟨b, hb⟩ : ∃ b, lowF k x.lo = b := ⟨_, rfl⟩
        rw [hb] at h2 hxa ⊢
        have hr : ∀ y ∈ r, y.lv ≤ k → b ≤ lowF k y.lo := fun y hy _ => by rw [← hb]; exact lowF_mono k (s1 y hy)
        have ih := sev_spec k r b s2 hr
        have hca : cnt k r a = 0 := cnt_zero fun y hy hl => by have := hr y hy hl; omega
        have e : ∀ u, u ≠ a → cnt k (x :: r) u + oneAt a u = cnt k r u + oneAt b u := fun u hu => by
          rw [cnt_cons]
          unfold oneAt
          rw [if_neg hu, hb]
          by_cases hub : u = b
          · rw [if_pos ⟨by omega, hub.symm⟩, if_pos hub]
          · rw [if_neg (fun h => hub h.2.symm), if_neg hub]
        have ea : cnt k (x :: r) a + oneAt a a = 1 := by
          rw [cnt_cons, hca, if_neg (by rw [hb]; omega)]
          simp [oneAt]
        have eb : cnt k r a + oneAt b a = 0 := by
          rw [hca]
          unfold oneAt
          rw [if_neg (by omega)]
        refine ⟨fun v hv => ?_, fun hn u => ?_⟩
        · obtain ⟨i1, i2⟩ := ih.1 v hv
          have hva : v ≠ a := fun e' => by rw [e', eb] at i1; omega
          refine ⟨by rw [e v hva]; exact i1, fun u hu => ?_⟩
          by_cases hua : u = a
          · rw [hua, ea] at hu; omega
          · exact i2 u (by rw [← e u hua]; exact hu)
        · by_cases hua : u = a
          · rw [hua, ea]; omega
          · rw [e u hua]; exact ih.2 hn u
theorem sev_fst {k : Int} {Y : List It} (hr : ∀ x ∈ Y, RightI x) (hs : SortedLo Y) {v : Int} (h : sevF k (-1) Y = some v) : IsFst k Y v := by
  have hz : cnt k Y (-1) = 0 := cnt_zero fun x hx _ => by have := lowF_nonneg (k := k) (hr x hx).o0; omega
  obtain ⟨h1, h2⟩ := (sev_spec k Y (-1) hs (fun x hx _ => by have := lowF_nonneg (k := k) (hr x hx).o0; omega)).1 v h
  have hv : v ≠ -1 := fun e => by rw [e, hz] at h1; simp [oneAt] at h1
  unfold oneAt at h1
  rw [if_neg hv] at h1
  exact ⟨h1, fun u hu => h2 u (Nat.le_trans hu (Nat.le_add_right _ _))⟩
theorem sev_none {k : Int} {Y : List It} (hr : ∀ x ∈ Y, RightI x) (hs : SortedLo Y) (h : sevF k (-1) Y = none) : NoDup k Y := fun v => by
  have := (sev_spec k Y (-1) hs (fun x hx _ => by have := lowF_nonneg (k := k) (hr x hx).o0; omega)).2 h v
  omega
/-- no time in common -/
def Disj (x y : It) : Prop := ¬ (x.lo < y.hi ∧ y.lo < x.hi)
def Apt (l : List It) : Prop := l.Pairwise Disj
theorem Disj.symm {x y : It} (h : Disj x y) : Disj y x := fun ⟨a, b⟩ => h ⟨b, a⟩
theorem Apt.perm {l m : List It} (h : l.Perm m) : Apt l ↔ Apt m := h.pairwise_iff fun {x y} => Disj.symm
theorem apt_adj {Y : List It} (hr : ∀ x ∈ Y, RightI x) (hs : SortedLo Y) (h : ∀ (j : Nat) (x y : It), Y[j]? = some x → Y[j + 1]? = some y → x.hi ≤ y.lo) : Apt Y := by
  refine List.pairwise_iff_getElem.2 fun i j hi hj hij => ?_
  have h1 := h i Y[i] Y[i + 1] (List.getElem?_eq_getElem hi) (List.getElem?_eq_getElem (by omega))
  have h2 : Y[i + 1].lo ≤ Y[j].lo := by
    by_cases e : i + 1 = j
    · subst e; exact Int.le_refl _
    · exact List.pairwise_iff_getElem.1 hs (i + 1) j (by omega) hj (by omega)
  exact fun ⟨_, b⟩ => by omega
theorem apt_not {Y : List It} (hr : ∀ x ∈ Y, RightI x) (hs : SortedLo Y) {j : Nat} {x y : It} (hx : Y[j]? = some x) (hy : Y[j + 1]? = some y) (h : y.lo < x.hi) : ¬ Apt Y := fun ha => by
  obtain ⟨h1, rfl⟩ := List.getElem?_eq_some_iff.1 hx
  obtain ⟨h2, rfl⟩ := List.getElem?_eq_some_iff.1 hy
  have h3 := List.pairwise_iff_getElem.1 hs j (j + 1) h1 h2 (by omega)
  have h4 := (hr _ (List.getElem_mem h2)).lt
  exact List.pairwise_iff_getElem.1 ha j (j + 1) h1 h2 (by omega) ⟨by omega, h⟩
theorem cnt_mono (k : Int) (x : It) (r : List It) (v : Int) : cnt k r v ≤ cnt k (x :: r) v := by rw [cnt_cons]; omega
theorem RightI.top {x : It} (h : RightI x) : x.hi ≤ lowF 4 x.lo + 16384 := by
  have h1 := h.hi; have h2 := h.md; have h5 := h.o0
  unfold lowF
  have e4 : wd 4 = 16384 := rfl
  rw [e4]
  rcases wd_cases x.lv with ⟨c, e⟩ | ⟨c, e⟩ | ⟨c, e⟩ | ⟨c, e⟩ | ⟨c, e⟩ <;> rw [e] at h1 h2 <;> omega
theorem apt_of_nodup : ∀ {l : List It}, (∀ x ∈ l, RightI x) → NoDup 4 l → Apt l
  | [], _, _ => List.Pairwise.nil
  | x :: r, hr, h => by
    refine List.pairwise_cons.2 ⟨fun y hy => ?_, apt_of_nodup (fun y hy => hr y (List.mem_cons_of_mem _ hy)) fun v => Nat.lt_of_le_of_lt (cnt_mono 4 x r v) (h v)⟩
    rintro ⟨h1, h2⟩
    have hx := hr x (List.mem_cons_self ..)
    have hy' := hr y (List.mem_cons_of_mem _ hy)
    have e : lowF 4 y.lo = lowF 4 x.lo := by
      have a1 := hx.top; have a2 := hy'.top
      have e4 : wd 4 = 16384 := rfl
      simp only [lowF, e4] at a1 a2 ⊢
      omega
    have hc := h (lowF 4 x.lo)
    rw [cnt_cons, if_pos ⟨hx.l4, rfl⟩] at hc
    have : 1 ≤ cnt 4 r (lowF 4 x.lo) := by
      unfold cnt
      exact List.length_pos_of_mem (List.mem_filter.2 ⟨hy, by unfold grp; simp [hy'.l4, e]⟩)
    omega
/-- which blocks a step names -/
def isIn (S : List Int) (x : It) : Bool := decide (x.q ∈ S)
def IsMin (g : List It) (m : Int) : Prop := (∃ x ∈ g, x.lo = m) ∧ ∀ x ∈ g, m ≤ x.lo
def DoR (l : List It) (S : List Int) (k seq : Int) (r : List It) : Prop :=
  (l.filter (isIn S) = [] ∧ r = l.filter fun x => !isIn S x) ∨ ∃ m, IsMin (l.filter (isIn S)) m ∧ r = (l.filter fun x => !isIn S x) ++ [⟨seq, lowF k m, lowF k m + wd k, k⟩]
theorem nodup_inj : ∀ {l : List It}, (l.map It.q).Nodup → ∀ {x y : It}, x ∈ l → y ∈ l → x.q = y.q → x = y
  | [], _, x, y, hx, _, _ => by cases hx
  | a :: r, h, x, y, hx, hy, e => by
    rw [List.map_cons, List.nodup_cons] at h
    rcases List.mem_cons.1 hx with ex | hx1 <;> rcases List.mem_cons.1 hy with ey | hy1
    · rw [ex, ey]
    · exact absurd (List.mem_map.2 ⟨y, hy1, by rw [← e, ex]⟩) h.1
    · exact absurd (List.mem_map.2 ⟨x, hx1, by rw [e, ey]⟩) h.1
    · exact nodup_inj h.2 hx1 hy1 e
theorem within_isIn {l : List It} (h : (l.map It.q).Nodup) (k v : Int) {x : It} (hx : x ∈ l) : isIn (withinF l k v) x = inB k v x := by
  rw [Bool.eq_iff_iff]
  unfold isIn withinF
  rw [decide_eq_true_eq, (srt_perm _).mem_iff, List.mem_map]
  constructor
  · rintro ⟨y, hy, e⟩
    obtain ⟨y1, y2⟩ := List.mem_filter.1 hy
    rwa [nodup_inj h y1 hx e] at y2
  · exact fun hi => ⟨x, List.mem_filter.2 ⟨hx, hi⟩, rfl⟩
theorem filter_split (f : It → Bool) : ∀ l : List It, (l.filter f).length + (l.filter fun x => !f x).length = l.length
  | [] => rfl
  | a :: r => by
    have := filter_split f r
    rw [List.filter_cons, List.filter_cons]
    cases f a <;> simp <;> omega
/-- what a step leaves -/
theorem step_all {l r : List It} {k seq : Int} {S : List Int} (hl : RightL l) (hn : NextR l (some (k, S))) (hs : ∀ x ∈ l, x.q < seq) (hd : DoR l S k seq r) :
    RightL r ∧ r.length + S.length = l.length + 1 ∧ 2 ≤ S.length ∧ (∀ x ∈ l, ∃ y ∈ r, y.lo ≤ x.lo ∧ x.hi ≤ y.hi) ∧ ∀ x ∈ r, x.q ≤ seq := by
  obtain ⟨a1, a2, a3, v, a4, rfl⟩ := hn
  have hlen := within_cnt hl.1 ⟨a1, a2⟩ a4.mod
  have h2 : 2 ≤ (withinF l k v).length := by rw [hlen]; exact a4.1
  have hg : l.filter (isIn (withinF l k v)) = l.filter (inB k v) := List.filter_congr fun x hx => within_isIn hl.2 k v hx
  have hgl : (l.filter (isIn (withinF l k v))).length = (withinF l k v).length := by
    rw [hg]
    unfold withinF
    rw [srt_length, List.length_map]
  have hsp := filter_split (isIn (withinF l k v)) l
  rcases hd with ⟨h0, _⟩ | ⟨m, ⟨⟨z, hz, hzm⟩, _⟩, rfl⟩
  · rw [h0] at hgl; simp at hgl; omega
  · have hin : ∀ x ∈ l.filter (isIn (withinF l k v)), x ∈ l ∧ inB k v x = true := fun x hx => by
      rw [hg] at hx
      exact List.mem_filter.1 hx
    obtain ⟨z1, z2⟩ := hin z hz
    have hzr := hl.1 z z1
    obtain ⟨z3, z4⟩ := (inB_iff hzr ⟨a1, a2⟩ a4.mod).1 z2
    have hlow : lowF k m = v := by rw [← hzm]; exact z4
    rw [hlow]
    obtain ⟨v0, v1⟩ := a4.range hl.1
    refine ⟨⟨fun x hx => ?_, ?_⟩, ?_, h2, fun x hx => ?_, fun x hx => ?_⟩
    · rcases List.mem_append.1 hx with hx | hx
      · exact hl.1 x (List.mem_filter.1 hx).1
      · obtain rfl := List.mem_singleton.1 hx
        exact ⟨a1, a2, v0, v1, a4.mod, rfl⟩
    · rw [List.map_append]
      refine List.nodup_append.2 ⟨hl.2.sublist (List.filter_sublist.map _), by simp, fun a ha b hb => ?_⟩
      obtain ⟨x, hx, rfl⟩ := List.mem_map.1 ha
      have := hs x (List.mem_filter.1 hx).1
      simp at hb
      omega
    · rw [List.length_append, List.length_singleton]
      omega
    · by_cases hi : isIn (withinF l k v) x = true
      · refine ⟨_, List.mem_append.2 (.inr (List.mem_singleton.2 rfl)), ?_⟩
        have := (hin x (List.mem_filter.2 ⟨hx, hi⟩)).2
        unfold inB at this
        rw [decide_eq_true_eq] at this
        exact this
      · exact ⟨x, List.mem_append.2 (.inl (List.mem_filter.2 ⟨hx, by simp [hi]⟩)), Int.le_refl _, Int.le_refl _⟩
    · rcases List.mem_append.1 hx with hx | hx
      · exact Int.le_of_lt (hs x (List.mem_filter.1 hx).1)
      · obtain rfl := List.mem_singleton.1 hx
        exact Int.le_refl _
end Go.Proofs.Ytpfceebmiolpeaa.Pl
