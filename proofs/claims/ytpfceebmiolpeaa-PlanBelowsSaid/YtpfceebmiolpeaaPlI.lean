/- Do. -/
import Derived.Test.YtpfceebmiolpeaaPlH
import Derived.Test.YtpfceebmiolpeaaRgI
namespace Go.Proofs.Ytpfceebmiolpeaa.Pl
open Go.RowKit Go.Sort
set_option linter.unusedVariables false

theorem contains_any (B : Option Addr) (n c : Nat) (S : List Int) (x : Int) (w : World) (hn : n = S.length) (h : Cl w B (intsC .i64 S)) (hS : S.length ≤ 1000) :
    Calls Try.prog 37 #[.slice B n c, .int .i64 x] w fun e w' => e = .returned (.bool (decide (x ∈ S))) ∧ w' = w := by
  subst hn
  by_cases h0 : S.length = 0
  · have e : S = [] := List.eq_nil_of_length_eq_zero h0
    subst e
    refine (Try.slices_Contains_int_empty B c x w).mono ?_
    rintro e w' ⟨rfl, rfl⟩
    exact ⟨by simp, rfl⟩
  · obtain ⟨b, off, rfl, hc⟩ := h.ints (by omega)
    refine (Try.slices_Contains_int b off S.length c S x w (Nat.le_refl _) (by omega) (fun j hj => ?_)).mono ?_
    · rw [List.getD_eq_getElem?_getD, List.getElem?_eq_getElem hj]
      exact hc j _ (List.getElem?_eq_getElem hj)
    · rintro e w' ⟨rfl, rfl⟩
      exact ⟨by rw [List.take_length]; simp, rfl⟩
/-- two rows lie apart -/
def Two2 (v u : Value) : Prop := ∀ g, v.ownBlock = some g → u.ownBlock ≠ some g
/-- append(s, p) behind p's block, where another row lies -/
theorem put_two {ops : Array Oper} {rest : List Oper} {o : Oper} {a : Act} {W w : World} {Q : Exit → Act → World → Prop} (hgd : o.guard = none) (s x : Operand)
    (ho : o.op = .call { callee := .builtin .append, args := #[s, x], argTypes := #[32, 32] })
    (base : Nat) (A : Option Addr) (n c : Nat) (l : List It) (hs : a.eval s = .slice A n c) (hown : w.ownsRow base 78 4 (.slice A n c) n (fC itA l))
    (u : Value) (k : Nat) (ys : List Value) (hu : w.ownsRow base 78 4 u k ys) (h2 : Two2 (.slice A n c) u) (hb : Below base W w) (hbase : base ≤ w.heap.size) (hl : n + 1 ≤ 1000000)
    (b : Nat) (hbz : w.heap.size = b) (hx : a.eval x = .slice (some ⟨b, 0, none⟩) 1 1) (p : It)
    (h : ∀ A' c' w', w'.ownsRow base 78 4 (.slice A' (n + 1) c') (n + 1) (fC itA (l ++ [p])) → w'.ownsRow base 78 4 u k ys → Two2 (.slice A' (n + 1) c') u → Below base W w' → base ≤ w'.heap.size → w.heap.size ≤ w'.heap.size → (∀ g, g < w.heap.size → (Value.slice A n c).ownBlock ≠ some g → w'.heap[g]? = w.heap[g]?) → wpList Try.prog ops Q rest (a.put o.dst (.slice A' (n + 1) c')) w') :
    wpList Try.prog ops Q (o :: rest) a (w.alloc (.cells (itA p) 78)) := by
  subst hbz
  obtain ⟨i0, hi, hz0, hz1, hz2⟩ := info_parts infoT
  have hu1 := own_below hu ((Below.refl w.heap.size w).alloc (Nat.le_refl _) (.cells (itA p) 78))
  refine wpList_append_own_at _ hgd s x 32 ho base 78 i0 (.agg #[.int .i64 0, .int .i64 0, .int .i64 0, .int .i64 0]) 4 32 Try.underlying32 hi hz0 hz1 hz2 rfl (by decide) _ n (fC itA l) hs (own_below hown ((Below.refl _ _).alloc (Nat.le_refl _) _)) ⟨w.heap.size, 0, none⟩ 1 1 (itA p).toList hx rfl (new_cells w p 78) (fourI.one p) (by unfold maxLen; omega) (by omega) (by simp; omega) ?_
  intro v' w' h1 hg _ hat
  obtain ⟨A', c', rfl⟩ := own_shape h1
  have e0 : fC itA l ++ (itA p).toList = fC itA (l ++ [p]) := by rw [fC_append]; simp [fC]
  rw [e0] at h1
  have hz := hg.size
  simp at hz
  refine h A' c' w' h1 (hu1.kept hg ?_) ?_ ((hb.alloc hbase _).grown hg (by simp; omega) (fun k hk => (hown.lt k hk).1)) (by omega) (by omega) ?_
  · rcases ho' : u.ownBlock with _ | q
    · exact .inl rfl
    · refine .inr fun e => ?_
      exact h2 q e.symm ho'
  · intro q hq hq'
    rcases hat with e | e
    · exact h2 q (e ▸ hq) hq'
    · have h3 := (hu.lt q hq').2
      rw [e] at hq
      simp at hq
      omega
  · intro q hq hne
    exact (hg.block q (by simp; omega) (fun e => hne e.symm)).trans (Below.heap_alloc _ _ q hq)
theorem isMin_exists : ∀ {g : List It}, g ≠ [] → ∃ m, IsMin g m
  | [], h => absurd rfl h
  | [x], _ => ⟨x.lo, ⟨x, by simp, rfl⟩, fun y hy => by simp at hy; rw [hy]; exact Int.le_refl _⟩
  | x :: y :: r, _ => by
    obtain ⟨m, ⟨z, hz, hzm⟩, hm⟩ := isMin_exists (g := y :: r) (by simp)
    by_cases h : x.lo ≤ m
    · refine ⟨x.lo, ⟨x, by simp, rfl⟩, fun u hu => ?_⟩
      rcases List.mem_cons.1 hu with rfl | hu
      · exact Int.le_refl _
      · have := hm u hu; omega
    · refine ⟨m, ⟨z, List.mem_cons_of_mem _ hz, hzm⟩, fun u hu => ?_⟩
      rcases List.mem_cons.1 hu with rfl | hu
      · omega
      · exact hm u hu
theorem isMin_sorted {g Y : List It} (hp : Y.Perm g) (hs : SortedLo Y) {x : It} (hx : Y[0]? = some x) {m : Int} (hm : IsMin g m) : x.lo = m := by
  obtain ⟨⟨z, hz, hzm⟩, h2⟩ := hm
  have h3 := h2 x (hp.mem_iff.1 (List.mem_of_getElem? hx))
  obtain ⟨j, hj, hjz⟩ := List.mem_iff_getElem.1 (hp.mem_iff.2 hz)
  obtain ⟨h0, rfl⟩ := List.getElem?_eq_some_iff.1 hx
  have h4 : Y[0].lo ≤ Y[j].lo := by
    by_cases e : j = 0
    · subst e; exact Int.le_refl _
    · exact List.pairwise_iff_getElem.1 hs 0 j h0 hj (by omega)
  rw [hjz, hzm] at h4
  omega
/-- what byLow made of some items -/
def ByR (g : List It) (v : Value) (w : World) : Prop := ∃ B d Y, v = .slice B Y.length d ∧ Y.Perm g ∧ SortedLo Y ∧ Cl w B (fC itA Y)
theorem ByR.below {g : List It} {v : Value} {w w' : World} (h : ByR g v w) (hb : Below w.heap.size w w') : ByR g v w' := by
  obtain ⟨B, d, Y, h1, h2, h3, h4⟩ := h
  exact ⟨B, d, Y, h1, h2, h3, h4.below hb⟩
/-- the place of an item that begins at m, o cells on -/
def MinAt (m : Int) (o : Nat) (v : Value) (w : World) : Prop := ∃ b off, v = .pointer (some ⟨b, off + o, none⟩) ∧ w.cell? ⟨b, off + 1, none⟩ = some (.int .i64 m)
theorem MinAt.below {m : Int} {o : Nat} {v : Value} {w w' : World} (h : MinAt m o v w) (hb : Below w.heap.size w w') : MinAt m o v w' := by
  obtain ⟨b, off, h1, h2⟩ := h
  exact ⟨b, off, h1, cell_below h2 hb⟩
/-- a new block of three noughts -/
def Fr3 (B : Nat) (v : Value) (w : World) : Prop := ∃ g, v = .pointer (some ⟨g, 0, none⟩) ∧ B ≤ g ∧ w.heap[g]? = some (.cells #[.int .i64 0, .int .i64 0, .int .i64 0] 28 (0, 0))
theorem Fr3.below {B : Nat} {v : Value} {w w' : World} (h : Fr3 B v w) (hb : Below w.heap.size w w') : Fr3 B v w' := by
  obtain ⟨g, h1, h2, h3⟩ := h
  exact ⟨g, h1, h2, (hb.block g (Array.getElem?_eq_some_iff.1 h3).1).trans h3⟩
theorem set3 {W : World} {g : Nat} {t : TypeId} {v0 v1 v2 : Value} (h : W.heap[g]? = some (.cells #[v0, v1, v2] t (0, 0))) (u0 u1 u2 : Value) : (((W.setCell ⟨g, 0, none⟩ u0).setCell ⟨g, 1, none⟩ u1).setCell ⟨g, 2, none⟩ u2).heap[g]? = some (.cells #[u0, u1, u2] t (0, 0)) := by
  rw [heap_set_at (heap_set_at (heap_set_at h u0) u1) u2]; rfl
theorem box3f {W : World} {g : Nat} {t : TypeId} {v0 v1 v2 : Value} (h : W.heap[g]? = some (.cells #[v0, v1, v2] t (0, 0))) : W.cell? ⟨g, 0, none⟩ = some v0 ∧ W.cell? ⟨g, 1, none⟩ = some v1 ∧ W.cell? ⟨g, 2, none⟩ = some v2 ∧ W.frozen? ⟨g, 0, none⟩ = false ∧ W.frozen? ⟨g, 1, none⟩ = false ∧ W.frozen? ⟨g, 2, none⟩ = false :=
  ⟨by rw [cell_of_row _ _ _ _ _ _ h]; rfl, by rw [cell_of_row _ _ _ _ _ _ h]; rfl, by rw [cell_of_row _ _ _ _ _ _ h]; rfl, by simp [World.frozen?, h], by simp [World.frozen?, h], by simp [World.frozen?, h]⟩
theorem grownBy_set (W : World) (b i : Nat) (v : Value) : W.grownBy (W.setCell ⟨b, i, none⟩ v) (some b) :=
  ⟨rfl, rfl, rfl, by simp, fun k _ hne => Below.heap_setCell _ _ _ _ (fun e => hne (by rw [e]))⟩
theorem own_set3 {w : World} {g : Nat} {t e : TypeId} {v0 v1 v2 : Value} {base size n : Nat} {v : Value} {xs : List Value} (hz : w.heap[g]? = some (.cells #[v0, v1, v2] t (0, 0))) (hte : t ≠ e) (h : w.ownsRow base e size v n xs) (u0 u1 u2 : Value) :
    (((w.setCell ⟨g, 0, none⟩ u0).setCell ⟨g, 1, none⟩ u1).setCell ⟨g, 2, none⟩ u2).ownsRow base e size v n xs := by
  have hne := Rb.not_row hz hte h
  exact ((h.kept (grownBy_setCell' w g _) (.inr hne.symm)).kept (grownBy_set _ _ _ _) (.inr hne.symm)).kept (grownBy_set _ _ _ _) (.inr hne.symm)
/-- the two rows while Do parts the blocks -/
structure DoI (W1 : World) (S : List Int) (l : List It) (j : Nat) (v u : Value) (wr : World) : Prop where
  left : ∃ A n c, v = .slice A n c ∧ wr.ownsRow W1.heap.size 78 4 v n (fC itA ((l.take j).filter fun x => !isIn S x))
  gone : ∃ A n c, u = .slice A n c ∧ wr.ownsRow W1.heap.size 78 4 u n (fC itA ((l.take j).filter (isIn S)))
  two : Two2 v u
  bel : Below W1.heap.size W1 wr
theorem Two2.symm {v u : Value} (h : Two2 v u) : Two2 u v := fun g h1 h2 => h g h2 h1
set_option maxHeartbeats 8000000 in
set_option maxRecDepth 100000 in
theorem do_any (A B : Option Addr) (n c m d : Nat) (l : List It) (S : List Int) (k seq : Int) (w : World) (hn : n = l.length) (h : Cl w A (fC itA l)) (hr : ∀ x ∈ l, RightI x) (hl : l.length ≤ 1000)
    (hm : m = S.length) (hB : Cl w B (intsC .i64 S)) (hS : S.length ≤ 1000) (hk : 0 ≤ k ∧ k ≤ 4) :
    Calls Try.prog 24 #[.slice A n c, .agg #[.slice B m d, .int .i64 k], .int .i64 seq] w fun e w' => ∃ r v, e = .returned v ∧ DoR l S k seq r ∧ RowP 78 itA w r v w' := by
  subst hn hm
  obtain ⟨W1, hW1⟩ : ∃ W1, w.alloc (.cells #[.slice B S.length d, .int .i64 k] 36) = W1 := ⟨_, rfl⟩
  obtain ⟨g, hg⟩ : ∃ g, w.heap.size = g := ⟨_, rfl⟩
  have hb1 : Below w.heap.size w W1 := hW1 ▸ (Below.refl _ _).alloc (Nat.le_refl _) _
  have hx1 : W1.heap[g]? = some (.cells #[.slice B S.length d, .int .i64 k] 36 (0, 0)) := hg ▸ hW1 ▸ heap_alloc_new w _
  obtain ⟨n, hn⟩ : ∃ n, l.length = n := ⟨_, rfl⟩
  have HG := Lib.hid hg
  have HN := Lib.hid hn
  have HB1 := Lib.hid hb1
  have HX1 := Lib.hid hx1
  have HGL := Lib.hid (Array.getElem?_eq_some_iff.1 hx1).1
  have HR := Lib.hid hr
  have HL := Lib.hid (h.below hb1)
  have HS := Lib.hid (hB.below hb1)
  rw [hn] at hl ⊢
  clear h hr hb1 hx1 hB hn
  go_enter Try.func24, Try.ntmps24
  go_wp2_with fail
  go_loopw [7, 8, 15] (fun v u i wr => ∃ j : Nat, j ≤ n ∧ i = .int .i64 j ∧ Hid (DoI W1 S l j v u wr)) (fun _ _ i _ => n - (intOf i).toNat)
  case atStart => exact ⟨0, by omega, rfl, Lib.hid ⟨⟨none, 0, 0, rfl, own_nil _ _ _ _⟩, ⟨none, 0, 0, rfl, own_nil _ _ _ _⟩, fun g h => by simp [Value.ownBlock] at h, Below.refl _ _⟩⟩
  case round =>
    obtain ⟨j, hj, rfl, HI⟩ := hrel
    obtain ⟨⟨A1, n1, c1, rfl, ho1⟩, ⟨A2, n2, c2, rfl, ho2⟩, h12, hbr⟩ := HI.out
    have hxr := (hbr.block g HGL.out).trans HX1.out
    by_cases hlt : j < n
    · have hji : (j : Int) < (n : Int) := by omega
      obtain ⟨x, hx⟩ := getElem?_lt (l := l) (k := j) (by rw [HN.out]; exact hlt)
      obtain ⟨b, off, rfl, hcell⟩ := (HL.out.below hbr).its (by rw [HN.out]; omega)
      obtain ⟨q0, q1, q2, q3⟩ := hcell j x hx
      have hn1 : n1 ≤ 1000 := by
        rw [own_len4 fourI ho1]
        refine Nat.le_trans (List.length_filter_le _ _) ?_
        rw [List.length_take]; omega
      have hn2 : n2 ≤ 1000 := by
        rw [own_len4 fourI ho2]
        refine Nat.le_trans (List.length_filter_le _ _) ?_
        rw [List.length_take]; omega
      have HT := Lib.hid (take_snoc l j x hx)
      have hal : Below wr.heap.size wr (wr.alloc (.cells (itA x) 78)) := (Below.refl _ _).alloc (Nat.le_refl _) _
      have HO := Lib.hid (And.intro (own_below ho1 hal) (And.intro (own_below ho2 hal) h12))
      have HB := Lib.hid (hbr.trans (hal.mono hbr.size))
      have HX := Lib.hid ((hal.block g (Array.getElem?_eq_some_iff.1 hxr).1).trans hxr)
      have HC := Lib.hid (contains_any B S.length d S x.q (wr.alloc (.cells (itA x) 78)) rfl (HS.out.below HB.out) hS)
      obtain ⟨z, hz⟩ : ∃ z, decide (x.q ∈ S) = z := ⟨_, rfl⟩
      have HZ := Lib.hid (show isIn S x = z from hz)
      rw [hz] at HC
      obtain ⟨e0, e1⟩ := box2 HX.out
      obtain ⟨y0, y1, y2, y3⟩ := box4 (heap_alloc_new wr (.cells (itA x) 78))
      have hzz : (wr.alloc (.cells (itA x) 78)).heap.size = wr.heap.size + 1 := by simp
      unfold itA at e0 e1 y0 y1 y2 y3 HC HB HO
      clear hcell hx ho1 ho2 h12 hbr hxr hal HI hz
      cases z with
      | true =>
        have HF1 := Lib.hid (show (l.take (j + 1)).filter (isIn S) = (l.take j).filter (isIn S) ++ [x] by rw [HT.out, List.filter_append, List.filter_cons, HZ.out]; rfl)
        have HF2 := Lib.hid (show ((l.take (j + 1)).filter fun x => !isIn S x) = (l.take j).filter fun x => !isIn S x by rw [HT.out, List.filter_append, List.filter_cons, HZ.out]; simp)
        go_wp2_with (first
          | (go_at_call 37; refine HC.out.mono ?_; rintro e w' ⟨rfl, rfl⟩)
          | (at_builtin; refine put_two (W := W1) rfl _ _ rfl W1.heap.size A2 n2 c2 ((l.take j).filter (isIn S)) rfl HO.out.2.1 (.slice A1 n1 c1) n1 _ HO.out.1 HO.out.2.2.symm HB.out HB.out.size (by omega) (wr.heap.size + 1) (by simp) rfl x ?_; intro A3 c3 w3 k1 k2 k3 k4 k5 k6 k7; rw [← HF1.out] at k1; have HI3 := Lib.hid (show DoI W1 S l (j + 1) (.slice A1 n1 c1) (.slice A3 (n2 + 1) c3) w3 from ⟨⟨_, _, _, rfl, by rw [HF2.out]; exact k2⟩, ⟨_, _, _, rfl, k1⟩, k3.symm, k4⟩); clear k1 k2 k3 k4 k5 k6 k7))
        go_roundw
        case rel => exact ⟨j + 1, by omega, by go_num, HI3⟩
        case measure => simp [intOf]; omega
      | false =>
        have HF1 := Lib.hid (show (l.take (j + 1)).filter (isIn S) = (l.take j).filter (isIn S) by rw [HT.out, List.filter_append, List.filter_cons, HZ.out]; simp)
        have HF2 := Lib.hid (show ((l.take (j + 1)).filter fun x => !isIn S x) = ((l.take j).filter fun x => !isIn S x) ++ [x] by rw [HT.out, List.filter_append, List.filter_cons, HZ.out]; rfl)
        go_wp2_with (first
          | (go_at_call 37; refine HC.out.mono ?_; rintro e w' ⟨rfl, rfl⟩)
          | (at_builtin; refine put_two (W := W1) rfl _ _ rfl W1.heap.size A1 n1 c1 ((l.take j).filter fun x => !isIn S x) rfl HO.out.1 (.slice A2 n2 c2) n2 _ HO.out.2.1 HO.out.2.2 HB.out HB.out.size (by omega) (wr.heap.size + 1) (by simp) rfl x ?_; intro A3 c3 w3 k1 k2 k3 k4 k5 k6 k7; rw [← HF2.out] at k1; have HI3 := Lib.hid (show DoI W1 S l (j + 1) (.slice A3 (n1 + 1) c3) (.slice A2 n2 c2) w3 from ⟨⟨_, _, _, rfl, k1⟩, ⟨_, _, _, rfl, by rw [HF1.out]; exact k2⟩, k3, k4⟩); clear k1 k2 k3 k4 k5 k6 k7))
        go_roundw
        case rel => exact ⟨j + 1, by omega, by go_num, HI3⟩
        case measure => simp [intOf]; omega
    · obtain rfl : j = n := by omega
      have hji : ¬ ((j : Int) < (j : Int)) := by omega
      have htk : l.take j = l := List.take_of_length_le (by rw [HN.out]; exact Nat.le_refl _)
      rw [htk] at ho1 ho2
      have hw := HB1.out
      by_cases hgn : l.filter (isIn S) = []
      · have hn2 : n2 = 0 := by rw [own_len4 fourI ho2, hgn]; rfl
        subst hn2
        have hn1 := own_len4 fourI ho1
        have HE := Lib.hid (show ∃ r v, Ending.returned (.slice A1 n1 c1) = .returned v ∧ DoR l S k seq r ∧ RowP 78 itA w r v wr from
          ⟨_, _, rfl, .inl ⟨hgn, rfl⟩, A1, c1, by rw [← hn1], by rw [← hn1]; exact own_base ho1 hw.size, hw.trans (hbr.mono hw.size)⟩)
        clear ho1 ho2 h12 hbr hxr hw HI hn1
        go_wp2_with fail
        go_ret
        exact HE.out
      · obtain ⟨mn, hmn⟩ := isMin_exists hgn
        have hn2 := own_len4 fourI ho2
        have hpos : 0 < n2 := by rw [hn2]; exact List.length_pos_iff.2 hgn
        have hpi : ¬ ((n2 : Int) = 0) := by omega
        have hpb : ((n2 : Int) == 0) = false := by simpa using hpi
        have HM := Lib.hid hmn
        have HP := Lib.hid (And.intro hn2 hpos)
        have HO := Lib.hid ho1
        have HBR := Lib.hid hbr
        have HXR := Lib.hid hxr
        have HC2 := Lib.hid (own_cl ho2)
        have hmr : 0 ≤ mn ∧ mn ≤ 1099511627776 := by
          obtain ⟨⟨z, hz, hzm⟩, _⟩ := hmn
          have := HR.out z (List.mem_filter.1 hz).1
          have := this.o0
          have := (HR.out z (List.mem_filter.1 hz).1).o1
          omega
        have HMR := Lib.hid hmr
        have hg2 : n2 ≤ 1000 := by
          rw [hn2]; exact Nat.le_trans (List.length_filter_le _ _) (by rw [HN.out]; exact hl)
        have hk64 : I64 k := ⟨by omega, by omega⟩
        have HSM := Lib.hid (show IntKind.i64.wrap (lowF k mn + wd k) = lowF k mn + wd k from IntWalk.i64_left _ ▸ IntWalk.wrap64_in (lowF k mn + wd k) ⟨by have := wd_pos k; have := lowF_nonneg (k := k) hmr.1; omega, by have := wd_pos k; have := lowF_le k mn; omega⟩)
        clear ho1 ho2 h12 hbr hxr hw HI hmn hn2 hmr hpos
        go_wp2_with fail
        have HXL := Lib.hid (Array.getElem?_eq_some_iff.1 HXR.out).1
        refine Rg.wp_region_inv (R := fun sl v w => match sl with
            | 37 => v = .pointer (some ⟨g, 1, none⟩)
            | 38 => v = .int .i64 k
            | 39 => v = .slice A2 n2 c2
            | 40 => ByR (l.filter (isIn S)) v w
            | 41 => MinAt mn 0 v w
            | 42 => MinAt mn 1 v w
            | 43 => MinAt mn 1 v w
            | 44 => v = .int .i64 mn
            | 45 => v = .int .i64 (lowF k mn)
            | 11 => v = .int .i64 (lowF k mn)
            | _ => True) [37, 38, 39, 40, 41, 42, 43, 44, 45, 11] 61 [false, false, false, false, false, false, false, false, false, false, false, true, false, false, false, false, false, false, false, false, false, false, false, false, false, false, false, false, false, false, false, false, false, false, false, false, false, true, true, true, true, true, true, true, true, true, false, false, false, false, false, false, false, false, false, false, false, false, false, false, false] (by kernel_rfl) rfl (by kernel_rfl) (by kernel_rfl) (by kernel_rfl) (by kernel_rfl) (by kernel_rfl) ?mono ?good ?done
        case mono =>
          refine List.forall_mem_cons.2 ⟨fun _ _ _ _ _ h => h, ?_⟩
          refine List.forall_mem_cons.2 ⟨fun _ _ _ _ _ h => h, ?_⟩
          refine List.forall_mem_cons.2 ⟨fun _ _ _ _ _ h => h, ?_⟩
          refine List.forall_mem_cons.2 ⟨fun _ _ _ _ hb h => ByR.below h hb, ?_⟩
          refine List.forall_mem_cons.2 ⟨fun _ _ _ _ hb h => MinAt.below h hb, ?_⟩
          refine List.forall_mem_cons.2 ⟨fun _ _ _ _ hb h => MinAt.below h hb, ?_⟩
          refine List.forall_mem_cons.2 ⟨fun _ _ _ _ hb h => MinAt.below h hb, ?_⟩
          refine List.forall_mem_cons.2 ⟨fun _ _ _ _ _ h => h, ?_⟩
          refine List.forall_mem_cons.2 ⟨fun _ _ _ _ _ h => h, ?_⟩
          refine List.forall_mem_cons.2 ⟨fun _ _ _ _ _ h => h, ?_⟩
          exact fun _ h => absurd h (by simp)
        case good =>
          refine Rg.good_cons ?_ ?_
          · intro ac w' cx hn
            have e4 := cx.at_ 4 (by kernel_rfl) rfl
            refine .inl ⟨(Rg.wanted_none rfl), fun K hK => ?_⟩
            go_simp
            exact hK _ _ (Below.refl _ _) (fun t ht => by injection ht with ht; subst ht; exact rfl)
          refine Rg.good_cons ?_ ?_
          · intro ac w' cx hn
            obtain ⟨v37, e37, r37⟩ := hn 37 (Rg.mem_of (by kernel_rfl))
            obtain rfl : v37 = .pointer (some ⟨g, 1, none⟩) := r37
            obtain ⟨hc0, hc1⟩ := box2 ((cx.bel.block g (HXL.out)).trans HXR.out)
            refine .inl ⟨(Rg.wanted_none rfl), fun K hK => ?_⟩
            go_simp
            exact hK _ _ (Below.refl _ _) (fun t ht => by injection ht with ht; subst ht; exact rfl)
          refine Rg.good_cons ?_ ?_
          · intro ac w' cx hn
            have e8 := cx.at_ 8 (by kernel_rfl) rfl
            refine .inl ⟨(Rg.wanted_none rfl), fun K hK => ?_⟩
            go_simp
            exact hK _ _ (Below.refl _ _) (fun t ht => by injection ht with ht; subst ht; exact rfl)
          refine Rg.good_cons ?_ ?_
          · intro ac w' cx hn
            obtain ⟨v39, e39, r39⟩ := hn 39 (Rg.mem_of (by kernel_rfl))
            obtain rfl : v39 = .slice A2 n2 c2 := r39
            refine .inl ⟨(Rg.wanted_none rfl), fun K hK => ?_⟩
            go_simp
            refine (byLow_any A2 n2 c2 (l.filter (isIn S)) w' HP.out.1 (HC2.out.below cx.bel) (by rw [← HP.out.1]; exact hg2)).mono ?_
            rintro e w2 ⟨v, Y, rfl, hp, hs, B2, d2, rfl, hw2, hb⟩
            exact hK _ _ hb (fun t ht => by injection ht with ht; subst ht; exact ⟨B2, d2, Y, rfl, hp, hs, own_cl hw2⟩)
          refine Rg.good_cons ?_ ?_
          · intro ac w' cx hn
            obtain ⟨v40, e40, r40⟩ := hn 40 (Rg.mem_of (by kernel_rfl))
            replace r40 : ByR (l.filter (isIn S)) v40 w' := r40
            refine .inl ⟨(Rg.wanted_none rfl), fun K hK => ?_⟩
            obtain ⟨B2, d2, Y, rfl, hp, hs, hcl⟩ := r40
            obtain ⟨x0, hx0⟩ := getElem?_lt (l := Y) (k := 0) (by rw [hp.length_eq, ← HP.out.1]; exact HP.out.2)
            obtain ⟨b2, off2, rfl, hce⟩ := hcl.its (by rw [hp.length_eq, ← HP.out.1]; exact HP.out.2)
            have hq := (hce 0 x0 hx0).2.1
            rw [isMin_sorted hp hs hx0 HM.out] at hq
            have hyl : 0 < Y.length := by have := hp.length_eq; have := HP.out; omega
            have hMA : MinAt mn 0 (.pointer (some ⟨b2, off2, none⟩)) w' := ⟨b2, off2, rfl, by rw [Nat.zero_mul, Nat.add_zero] at hq; exact hq⟩
            go_simp
            exact hK _ _ (Below.refl _ _) (fun t ht => by injection ht with ht; subst ht; exact hMA)
          refine Rg.good_cons ?_ ?_
          · intro ac w' cx hn
            obtain ⟨v41, e41, r41⟩ := hn 41 (Rg.mem_of (by kernel_rfl))
            replace r41 : MinAt mn 0 v41 w' := r41
            refine .inl ⟨(Rg.wanted_none rfl), fun K hK => ?_⟩
            obtain ⟨b2, off2, rfl, hq⟩ := r41
            have hMA : MinAt mn 1 (.pointer (some ⟨b2, off2 + 1, none⟩)) w' := ⟨b2, off2, rfl, hq⟩
            go_simp
            exact hK _ _ (Below.refl _ _) (fun t ht => by injection ht with ht; subst ht; exact hMA)
          refine Rg.good_cons ?_ ?_
          · intro ac w' cx hn
            obtain ⟨v42, e42, r42⟩ := hn 42 (Rg.mem_of (by kernel_rfl))
            replace r42 : MinAt mn 1 v42 w' := r42
            refine .inl ⟨(Rg.wanted_none rfl), fun K hK => ?_⟩
            obtain ⟨b2, off2, rfl, hq⟩ := r42
            have hMA : MinAt mn 1 (.pointer (some ⟨b2, off2 + 1, none⟩)) w' := ⟨b2, off2, rfl, hq⟩
            go_simp
            exact hK _ _ (Below.refl _ _) (fun t ht => by injection ht with ht; subst ht; exact hMA)
          refine Rg.good_cons ?_ ?_
          · intro ac w' cx hn
            obtain ⟨v43, e43, r43⟩ := hn 43 (Rg.mem_of (by kernel_rfl))
            replace r43 : MinAt mn 1 v43 w' := r43
            refine .inl ⟨(Rg.wanted_none rfl), fun K hK => ?_⟩
            obtain ⟨b2, off2, rfl, hq⟩ := r43
            go_simp
            exact hK _ _ (Below.refl _ _) (fun t ht => by injection ht with ht; subst ht; exact rfl)
          refine Rg.good_cons ?_ ?_
          · intro ac w' cx hn
            obtain ⟨v38, e38, r38⟩ := hn 38 (Rg.mem_of (by kernel_rfl))
            obtain rfl : v38 = .int .i64 k := r38
            obtain ⟨v44, e44, r44⟩ := hn 44 (Rg.mem_of (by kernel_rfl))
            obtain rfl : v44 = .int .i64 mn := r44
            refine .inl ⟨(Rg.wanted_none rfl), fun K hK => ?_⟩
            go_simp
            refine (low_any k mn hk64 HMR.out.1 (by have := HMR.out.2; omega) w').mono ?_
            rintro e w2 ⟨rfl, rfl⟩
            exact hK _ _ (Below.refl _ _) (fun t ht => by injection ht with ht; subst ht; exact rfl)
          refine Rg.good_cons ?_ ?_
          · intro ac w' cx hn
            obtain ⟨v45, e45, r45⟩ := hn 45 (Rg.mem_of (by kernel_rfl))
            obtain rfl : v45 = .int .i64 (lowF k mn) := r45
            refine .inl ⟨(Rg.wanted_none rfl), fun K hK => ?_⟩
            go_simp
            exact hK _ _ (Below.refl _ _) (fun t ht => by injection ht with ht; subst ht; exact rfl)
          exact Rg.good_nil
        case done =>
          intro u w6 hb6 hr
          have q11 : u 11 = .int .i64 (lowF k mn) := hr 11 (by simp)
          simp only [Rg.fillL_cons, Rg.fillL_nil, if_true, if_false, Bool.false_eq_true, q11]
          have HX6 := Lib.hid ((hb6.block g HXL.out).trans HXR.out)
          have HO6 := Lib.hid (own_below HO.out hb6)
          have HB6 := Lib.hid (HBR.out.trans (hb6.mono HBR.out.size))
          have HXM := Lib.hid (Array.getElem?_eq_some_iff.1 HX6.out).1
          clear hr hb6
          go_wp2_with fail
          refine Rg.wp_region_invG (R := fun sl v w => match sl with
              | 46 => v = .int .i64 (lowF k mn)
              | 47 => v = .int .i64 (lowF k mn)
              | 48 => v = .pointer (some ⟨g, 1, none⟩)
              | 49 => v = .int .i64 k
              | 50 => v = .int .i64 (wd k)
              | 51 => v = .int .i64 (lowF k mn + wd k)
              | 52 => v = .pointer (some ⟨g, 1, none⟩)
              | 53 => v = .int .i64 k
              | 54 => v = .agg #[.int .i64 (lowF k mn), .int .i64 (lowF k mn + wd k), .int .i64 k]
              | 12 => Fr3 W1.heap.size v w
              | _ => True) (fun a w => True) 10 [46, 47, 48, 49, 50, 51, 52, 53, 54, 12] 61 [false, false, false, false, false, false, false, false, false, false, false, false, true, false, false, false, false, false, false, false, false, false, false, false, false, false, false, false, false, false, false, false, false, false, false, false, false, false, false, false, false, false, false, false, false, false, true, true, true, true, true, true, true, true, true, false, false, false, false, false, false] (by kernel_rfl) rfl (by kernel_rfl) (by kernel_rfl) (by kernel_rfl) (by kernel_rfl) (Nat.le_of_ble_eq_true (by kernel_rfl)) (by kernel_rfl) (by kernel_rfl) ?mono ?g0 ?good ?done
          case mono =>
            refine List.forall_mem_cons.2 ⟨fun _ _ _ _ _ h => h, ?_⟩
            refine List.forall_mem_cons.2 ⟨fun _ _ _ _ _ h => h, ?_⟩
            refine List.forall_mem_cons.2 ⟨fun _ _ _ _ _ h => h, ?_⟩
            refine List.forall_mem_cons.2 ⟨fun _ _ _ _ _ h => h, ?_⟩
            refine List.forall_mem_cons.2 ⟨fun _ _ _ _ _ h => h, ?_⟩
            refine List.forall_mem_cons.2 ⟨fun _ _ _ _ _ h => h, ?_⟩
            refine List.forall_mem_cons.2 ⟨fun _ _ _ _ _ h => h, ?_⟩
            refine List.forall_mem_cons.2 ⟨fun _ _ _ _ _ h => h, ?_⟩
            refine List.forall_mem_cons.2 ⟨fun _ _ _ _ _ h => h, ?_⟩
            refine List.forall_mem_cons.2 ⟨fun _ _ _ _ hb h => Fr3.below h hb, ?_⟩
            exact fun _ h => absurd h (by simp)
          case g0 => exact trivial
          case good =>
            refine Rg.goodG_cons ?_ ?_
            · intro ac w' cx hg hn
              have e11 := cx.at_ 11 (by kernel_rfl) rfl
              refine .inl ⟨(Rg.wanted_none rfl), fun K hK => ?_⟩
              go_simp
              exact hK _ _ (Below.refl _ _) (fun t ht => by injection ht with ht; subst ht; exact rfl) trivial
            refine Rg.goodG_cons ?_ ?_
            · intro ac w' cx hg hn
              have e11 := cx.at_ 11 (by kernel_rfl) rfl
              refine .inl ⟨(Rg.wanted_none rfl), fun K hK => ?_⟩
              go_simp
              exact hK _ _ (Below.refl _ _) (fun t ht => by injection ht with ht; subst ht; exact rfl) trivial
            refine Rg.goodG_cons ?_ ?_
            · intro ac w' cx hg hn
              have e4 := cx.at_ 4 (by kernel_rfl) rfl
              refine .inl ⟨(Rg.wanted_none rfl), fun K hK => ?_⟩
              go_simp
              exact hK _ _ (Below.refl _ _) (fun t ht => by injection ht with ht; subst ht; exact rfl) trivial
            refine Rg.goodG_cons ?_ ?_
            · intro ac w' cx hg hn
              obtain ⟨v48, e48, r48⟩ := hn 48 (Rg.mem_of (by kernel_rfl))
              obtain rfl : v48 = .pointer (some ⟨g, 1, none⟩) := r48
              obtain ⟨hc0, hc1⟩ := box2 ((cx.bel.block g (HXM.out)).trans HX6.out)
              refine .inl ⟨(Rg.wanted_none rfl), fun K hK => ?_⟩
              go_simp
              exact hK _ _ (Below.refl _ _) (fun t ht => by injection ht with ht; subst ht; exact rfl) trivial
            refine Rg.goodG_cons ?_ ?_
            · intro ac w' cx hg hn
              obtain ⟨v49, e49, r49⟩ := hn 49 (Rg.mem_of (by kernel_rfl))
              obtain rfl : v49 = .int .i64 k := r49
              refine .inl ⟨(Rg.wanted_none rfl), fun K hK => ?_⟩
              go_simp
              refine (width_any k hk64 w').mono ?_
              rintro e w2 ⟨rfl, rfl⟩
              exact hK _ _ (Below.refl _ _) (fun t ht => by injection ht with ht; subst ht; exact rfl) trivial
            refine Rg.goodG_cons ?_ ?_
            · intro ac w' cx hg hn
              obtain ⟨v47, e47, r47⟩ := hn 47 (Rg.mem_of (by kernel_rfl))
              obtain rfl : v47 = .int .i64 (lowF k mn) := r47
              obtain ⟨v50, e50, r50⟩ := hn 50 (Rg.mem_of (by kernel_rfl))
              obtain rfl : v50 = .int .i64 (wd k) := r50
              refine .inl ⟨(Rg.wanted_none rfl), fun K hK => ?_⟩
              go_simp
              rw [HSM.out]
              exact hK _ _ (Below.refl _ _) (fun t ht => by injection ht with ht; subst ht; exact rfl) trivial
            refine Rg.goodG_cons ?_ ?_
            · intro ac w' cx hg hn
              have e4 := cx.at_ 4 (by kernel_rfl) rfl
              refine .inl ⟨(Rg.wanted_none rfl), fun K hK => ?_⟩
              go_simp
              exact hK _ _ (Below.refl _ _) (fun t ht => by injection ht with ht; subst ht; exact rfl) trivial
            refine Rg.goodG_cons ?_ ?_
            · intro ac w' cx hg hn
              obtain ⟨v52, e52, r52⟩ := hn 52 (Rg.mem_of (by kernel_rfl))
              obtain rfl : v52 = .pointer (some ⟨g, 1, none⟩) := r52
              obtain ⟨hc0, hc1⟩ := box2 ((cx.bel.block g (HXM.out)).trans HX6.out)
              refine .inl ⟨(Rg.wanted_none rfl), fun K hK => ?_⟩
              go_simp
              exact hK _ _ (Below.refl _ _) (fun t ht => by injection ht with ht; subst ht; exact rfl) trivial
            refine Rg.goodG_cons ?_ ?_
            · intro ac w' cx hg hn
              obtain ⟨v46, e46, r46⟩ := hn 46 (Rg.mem_of (by kernel_rfl))
              obtain rfl : v46 = .int .i64 (lowF k mn) := r46
              obtain ⟨v51, e51, r51⟩ := hn 51 (Rg.mem_of (by kernel_rfl))
              obtain rfl : v51 = .int .i64 (lowF k mn + wd k) := r51
              obtain ⟨v53, e53, r53⟩ := hn 53 (Rg.mem_of (by kernel_rfl))
              obtain rfl : v53 = .int .i64 k := r53
              refine .inl ⟨(Rg.wanted_none rfl), fun K hK => ?_⟩
              go_simp
              exact hK _ _ (Below.refl _ _) (fun t ht => by injection ht with ht; subst ht; exact rfl) trivial
            refine Rg.goodG_cons ?_ ?_
            · intro ac w' cx hg hn
              refine .inl ⟨(Rg.wanted_none rfl), fun K hK => ?_⟩
              go_simp
              exact hK _ _ ((Below.refl _ _).alloc (Nat.le_refl _) _) (fun t ht => by injection ht with ht; subst ht; exact ⟨w'.heap.size, rfl, by have := cx.bel.size; have := HB6.out.size; omega, heap_alloc_new _ _⟩) trivial
            exact Rg.goodG_nil
          case done =>
            intro u w7 hb7 hr _
            have q12 : Fr3 W1.heap.size (u 12) w7 := hr 12 (by simp)
            have q54 : u 54 = .agg #[.int .i64 (lowF k mn), .int .i64 (lowF k mn + wd k), .int .i64 k] := hr 54 (by simp)
            obtain ⟨gz, q12', hgz, hz⟩ := q12
            simp only [Rg.fillL_cons, Rg.fillL_nil, if_true, if_false, Bool.false_eq_true, q12', q54, List.drop_succ_cons, List.drop_zero]
            obtain ⟨z0, z1, z2, f0, f1, f2⟩ := box3f hz
            have hset := set3 hz (.int .i64 (lowF k mn)) (.int .i64 (lowF k mn + wd k)) (.int .i64 k)
            obtain ⟨s0, s1, s2, _, _, _⟩ := box3f hset
            have HO9 := Lib.hid (own_set3 hz (by decide) (own_below HO6.out hb7) (.int .i64 (lowF k mn)) (.int .i64 (lowF k mn + wd k)) (.int .i64 k))
            have hb7' := HB6.out.trans (hb7.mono HB6.out.size)
            have hw9 := HB1.out.trans (hb7'.mono HB1.out.size)
            have HB9 := Lib.hid (((hw9.setCell (p := ⟨gz, 0, none⟩) (by have := HB1.out.size; simp; omega) (.int .i64 (lowF k mn))).setCell (p := ⟨gz, 1, none⟩) (by have := HB1.out.size; simp; omega) (.int .i64 (lowF k mn + wd k))).setCell (p := ⟨gz, 2, none⟩) (by have := HB1.out.size; simp; omega) (.int .i64 k))
            have hn1 := own_len4 fourI HO.out
            have hn1' : n1 ≤ 1000 := by
              rw [hn1]; exact Nat.le_trans (List.length_filter_le _ _) (by rw [HN.out]; exact hl)
            have HN1 := Lib.hid hn1
            clear hr hb7 hb7' hw9 hset hn1
            go_wp2_with (at_builtin; refine put_it (W := w) rfl _ _ rfl w.heap.size A1 n1 c1 (l.filter fun x => !isIn S x) rfl (own_base HO9.out HB1.out.size) HB9.out HB9.out.size (by omega) w7.heap.size (by simp) rfl ⟨seq, lowF k mn, lowF k mn + wd k, k⟩ ?_; intro A9 c9 w10 k1 k2 k3; have HP9 := Lib.hid (And.intro k1 k2); clear k1 k2 k3)
            go_ret
            have e9 : ((l.filter fun x => !isIn S x) ++ [(⟨seq, lowF k mn, lowF k mn + wd k, k⟩ : It)]).length = n1 + 1 := by rw [List.length_append, ← HN1.out]; rfl
            exact ⟨_, _, rfl, .inr ⟨mn, HM.out, rfl⟩, A9, c9, by rw [e9]; rfl, by rw [e9]; exact HP9.out.1, HP9.out.2⟩
end Go.Proofs.Ytpfceebmiolpeaa.Pl
