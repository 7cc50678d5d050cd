import Derived.Test.YtakomfnajeolcaaGreatDoorCtA3
set_option linter.unusedVariables false
/- What a count that was taken says of the bytes' text: plain lists. -/
namespace Go.Proofs.YtakomfnajeolcaaGreatDoor.Tk
set_option linter.unusedVariables false

theorem bitsL_more (k : Nat) : ∀ n c, bitsL k (n + c * 2 ^ k) = bitsL k n := by
  induction k with
  | zero => intro n c; rfl
  | succ k ih =>
    intro n c
    have e : n + c * 2 ^ (k + 1) = n + (c * 2) * 2 ^ k := by rw [Nat.pow_succ, Nat.mul_assoc, Nat.mul_comm 2]
    have h1 : (n + (c * 2) * 2 ^ k) / 2 ^ k % 2 = n / 2 ^ k % 2 := by
      rw [Nat.add_mul_div_right _ _ (Nat.two_pow_pos k)]; omega
    simp only [bitsL]
    rw [e, h1, ih]
theorem bitsL_mod (k n : Nat) : bitsL k (n % 2 ^ k) = bitsL k n := by
  have h := bitsL_more k (n % 2 ^ k) (n / 2 ^ k)
  rw [Nat.mul_comm, Nat.mod_add_div] at h
  exact h.symm
theorem bitsL_split (m k n : Nat) : bitsL (m + k) n = bitsL m (n / 2 ^ k) ++ bitsL k n := by
  induction m with
  | zero => simp [bitsL]
  | succ m ih =>
    rw [show m + 1 + k = (m + k) + 1 by omega]
    simp only [bitsL]
    rw [ih, Nat.div_div_eq_div_mul, ← Nat.pow_add, Nat.add_comm k m]
    rfl
theorem text_val (bs : List Nat) (h : ∀ b ∈ bs, b < 256) : textL bs = bitsL (8 * bs.length) (val bs) := by
  revert h
  refine snoc_ind (P := fun bs => (∀ b ∈ bs, b < 256) → textL bs = bitsL (8 * bs.length) (val bs)) ?_ ?_ bs
  · intro _; rfl
  · intro l x ih h
    have hx : x < 256 := h x (by simp)
    rw [textL_snoc, ih (fun b hb => h b (by simp [hb])), val_snoc, List.length_append, List.length_singleton, Nat.mul_add, bitsL_split]
    have e1 : (val l * 256 + x) / 2 ^ 8 = val l := by omega
    have e2 : bitsL (8 * 1) (val l * 256 + x) = bitsL 8 x := by
      have := bitsL_more 8 x (val l)
      rw [Nat.add_comm] at this
      exact this
    rw [show 8 * 1 = 8 from rfl] at e2 ⊢
    rw [e1, e2]
/-- the bits from t to u -/
def sub (bs : List Nat) (t u : Nat) : List Bool := ((textL bs).drop t).take (u - t)
theorem sub_part {bs : List Nat} (h : ∀ b ∈ bs, b < 256) (t k : Nat) (ht : t + k ≤ 8 * bs.length) : sub bs t (t + k) = bitsL k (part bs t k) := by
  unfold sub part
  rw [text_val bs h, bitsL_mod]
  obtain ⟨r, hr⟩ : ∃ r, 8 * bs.length = t + (k + r) := ⟨8 * bs.length - t - k, by omega⟩
  rw [hr, bitsL_split t (k + r), bitsL_split k r, List.drop_append_of_le_length (by rw [bitsL_length]; omega), List.drop_of_length_le (by rw [bitsL_length]; omega), List.nil_append,
    show t + k - t = k by omega, List.take_append_of_le_length (by rw [bitsL_length]; omega), List.take_of_length_le (by rw [bitsL_length]; omega), show t + (k + r) - t - k = r by omega]
theorem sub_append (bs : List Nat) {t u v : Nat} (h1 : t ≤ u) (h2 : u ≤ v) : sub bs t v = sub bs t u ++ sub bs u v := by
  unfold sub
  rw [show v - t = (u - t) + (v - u) by omega, List.take_add, List.drop_drop, show t + (u - t) = u by omega]
theorem sub_self (bs : List Nat) (t : Nat) : sub bs t t = [] := by unfold sub; simp

end Go.Proofs.YtakomfnajeolcaaGreatDoor.Tk


/- The contract of Right. -/
namespace Go.Proofs.YtakomfnajeolcaaGreatDoor.Tk
open Go.RowKit Go.Sort
set_option linter.unusedVariables false

theorem rightR_step {s : List (Int × Int)} {k : Nat} {p : Int × Int} {x : Int} (h : s[k]? = some p) : rightR (s.drop k) k x = (okAt k p x && rightR (s.drop (k + 1)) (k + 1) (x - p.2)) := by
  obtain ⟨hk, rfl⟩ := List.getElem?_eq_some_iff.1 h
  rw [List.drop_eq_getElem_cons hk]
  rfl
theorem rightF_no {f : Int} {s : List (Int × Int)} {m : Int} (h0 : s ≠ []) (h : rightR s 0 m = false) : rightF f s m = false := by
  unfold rightF
  rw [if_neg h0, h, Bool.and_false]
theorem rightF_yes {f : Int} {s : List (Int × Int)} {m : Int} (h0 : s ≠ []) (h1 : -262144 ≤ f) (h2 : f ≤ 262144) : rightF f s m = rightR s 0 m := by
  unfold rightF
  rw [if_neg h0]
  simp [h1, h2]
def RtRel (s : List (Int × Int)) (m : Int) (W0 : World) (l i : Value) (wr : World) : Prop :=
  ∃ (k : Nat) (x : Int), k ≤ s.length ∧ i = .int .i64 k ∧ l = .int .i64 x ∧ I64 x ∧ rightR s 0 m = rightR (s.drop k) k x ∧ Below W0.heap.size W0 wr

set_option maxHeartbeats 1000000 in
set_option maxRecDepth 100000 in
theorem right_any (f m : Int) (A : Option Addr) (c : Nat) (s : List (Int × Int)) (w : World) (hS : Cl w A (twoC .i64 s)) (hb : Sb s) (hm : I64 m) (hl : s.length ≤ 9223372036854775807) :
    Calls Tryz.prog 105 #[.agg #[.int .i64 f, .slice A s.length c], .int .i64 m] w fun e w' => e = .returned (.bool (rightF f s m)) ∧ Below w.heap.size w w' := by
  have hb0 : Below w.heap.size w (w.alloc (.cells #[.int .i64 f, .slice A s.length c] 52)) := (Below.refl _ _).alloc (Nat.le_refl _) _
  have HS := Lib.hid (hS.below hb0)
  have HB0 := Lib.hid hb0
  have HB := Lib.hid hb
  have HM := Lib.hid hm
  clear hS hb0 hb hm
  by_cases h0 : s = []
  · subst h0
    have HE := Lib.hid (show (f == 0) = rightF f [] m from rfl)
    go_enter Tryz.func105, Tryz.ntmps105
    go_wp2_with fail
    go_ret
    exact ⟨ret_bool HE.out, HB0.out⟩
  · have H0 := Lib.hid h0
    have hlen : 0 < s.length := List.length_pos_iff.2 h0
    have hz : ((s.length : Int) == 0) = false := by simp; exact h0
    clear h0
    by_cases h1 : -262144 ≤ f
    case neg =>
      have HE := Lib.hid (show false = rightF f s m by unfold rightF; rw [if_neg H0.out]; simp [h1])
      go_enter Tryz.func105, Tryz.ntmps105
      go_wp2_with fail
      go_ret
      exact ⟨ret_bool HE.out, HB0.out⟩
    by_cases h2 : f ≤ 262144
    case neg =>
      have HE := Lib.hid (show false = rightF f s m by unfold rightF; rw [if_neg H0.out]; simp [h2])
      go_enter Tryz.func105, Tryz.ntmps105
      go_wp2_with fail
      go_ret
      exact ⟨ret_bool HE.out, HB0.out⟩
    have HY := Lib.hid (rightF_yes (m := m) H0.out h1 h2)
    have hlt1 : decide (f < -262144) = false := by simp; omega
    have hlt2 : decide (262144 < f) = false := by simp; omega
    obtain ⟨W0, hW0⟩ : ∃ W, w.alloc (.cells #[.int .i64 f, .slice A s.length c] 52) = W := ⟨_, rfl⟩
    have x0 : W0.cell? ⟨w.heap.size, 0, none⟩ = some (.int .i64 f) := by rw [← hW0]; simp [go_sem]
    have x1 : W0.cell? ⟨w.heap.size, 1, none⟩ = some (.slice A s.length c) := by rw [← hW0]; simp [go_sem]
    rw [hW0] at HS HB0
    have hWW := Lib.hid hW0
    clear hW0
    go_enter Tryz.func105, Tryz.ntmps105
    go_wp2_with fail
    rw [hWW.out]
    clear hlt1 hlt2 x0 x1 hz
    go_loopw [5, 27] (fun l i wr => RtRel s m W0 l i wr) (fun _ i _ => s.length - (intOf i).toNat)
    case atStart => exact ⟨0, m, by omega, rfl, rfl, HM.out, by simp, Below.refl _ _⟩
    case round =>
      obtain ⟨k, x, hk, rfl, rfl, hx, hr, hb⟩ := hrel
      have HX := Lib.hid hx
      have HR := Lib.hid hr
      have HBR := Lib.hid hb
      obtain ⟨hx1, hx2⟩ := hx
      clear hr hb
      by_cases hlt : k < s.length
      · obtain ⟨b, off, rfl, hc⟩ := (HS.out.below HBR.out).twos (by omega)
        obtain ⟨p, hp⟩ := getElem?_lt hlt
        obtain ⟨q1, q2⟩ := hc k p hp
        have HP := Lib.hid (rightR_step (x := x) hp)
        have hpb := HB.out p (mem_of_at hp)
        obtain ⟨o, n⟩ := p
        simp only at q1 q2 HP hpb
        obtain ⟨⟨o1, o2⟩, n1, n2⟩ := hpb
        have hki : (k : Int) < (s.length : Int) := by omega
        clear hc hp
        by_cases hof : offB k o = true
        case neg =>
          have hof' : offB k o = false := by simpa using hof
          have HE := Lib.hid (show false = rightF f s m by rw [HY.out, HR.out, HP.out]; unfold okAt; simp [hof'])
          clear hof
          go_wp2_with fail
          refine (offset_any _ _ _).mono ?_
          rintro e w' ⟨rfl, rfl⟩
          go_wp2_with fail
          go_ret
          exact ⟨ret_bool HE.out, HB0.out.trans ((HBR.out.alloc HBR.out.size _).mono HB0.out.size)⟩
        by_cases hn1 : 1 ≤ n
        case neg =>
          have HE := Lib.hid (show false = rightF f s m by rw [HY.out, HR.out, HP.out]; unfold okAt; simp [hn1])
          have hn1' : decide (n < 1) = true := by simp; omega
          go_wp2_with fail
          refine (offset_any _ _ _).mono ?_
          rintro e w' ⟨rfl, rfl⟩
          go_wp2_with fail
          go_ret
          exact ⟨ret_bool HE.out, HB0.out.trans ((HBR.out.alloc HBR.out.size _).mono HB0.out.size)⟩
        have hn1' : decide (n < 1) = false := by simp; omega
        by_cases hn2 : n ≤ x
        case neg =>
          have HE := Lib.hid (show false = rightF f s m by rw [HY.out, HR.out, HP.out]; unfold okAt; simp [hn2])
          have hn2' : decide (x < n) = true := by simp; omega
          go_wp2_with fail
          refine (offset_any _ _ _).mono ?_
          rintro e w' ⟨rfl, rfl⟩
          go_wp2_with fail
          go_ret
          exact ⟨ret_bool HE.out, HB0.out.trans ((HBR.out.alloc HBR.out.size _).mono HB0.out.size)⟩
        have hn2' : decide (x < n) = false := by simp; omega
        have HE := Lib.hid (show rightR s 0 m = rightR (s.drop (k + 1)) (k + 1) (x - n) by rw [HR.out, HP.out]; unfold okAt; simp [hof, hn1, hn2])
        go_wp2_with fail
        refine (offset_any _ _ _).mono ?_
        rintro e w' ⟨rfl, rfl⟩
        go_wp2_with fail
        go_roundw
        case rel => exact ⟨k + 1, x - n, by omega, by go_num, rfl, ⟨by omega, by omega⟩, HE.out, HBR.out.alloc HBR.out.size _⟩
        case measure => simp [intOf]; omega
      · obtain rfl : k = s.length := by omega
        have HE := Lib.hid (show true = rightF f s m by rw [HY.out, HR.out]; simp [rightR])
        have hki : ¬ ((s.length : Int) < (s.length : Int)) := by omega
        go_wp2_with fail
        go_ret
        exact ⟨ret_bool HE.out, HB0.out.trans (HBR.out.mono HB0.out.size)⟩
end Go.Proofs.YtakomfnajeolcaaGreatDoor.Tk


/- Laws of append: one number, one pair more at the end of a row of the call's own. -/
namespace Go.Proofs.YtakomfnajeolcaaGreatDoor.Tk
open Go.RowKit Go.Sort
set_option linter.unusedVariables false

/-- append(x, y) at []int -/
theorem app_int {ops : Array Oper} {rest : List Oper} {o : Oper} {a : Act} {w : World} {Q : Exit → Act → World → Prop} (hgd : o.guard = none) (s x : Operand)
    (ho : o.op = .call { callee := .builtin .append, args := #[s, x], argTypes := #[72, 72] })
    (base : Nat) (A : Option Addr) (n c : Nat) (l : List Int) (hs : a.eval s = .slice A n c) (hown : w.ownsRow base 3 1 (.slice A n c) n (intsC .i64 l))
    (g : Nat) (hx : a.eval x = .slice (some ⟨g, 0, none⟩) 1 1) (y : Int) (hy : w.cell? ⟨g, 0, none⟩ = some (.int .i64 y)) (hl : n + 1 ≤ 1000000) (hbase : base ≤ w.heap.size)
    (h : ∀ A' c' w', w'.ownsRow base 3 1 (.slice A' (n + 1) c') (n + 1) (intsC .i64 (l ++ [y])) → w.grownBy w' (Value.slice A n c).ownBlock → wpList Tryz.prog ops Q rest (a.put o.dst (.slice A' (n + 1) c')) w') : wpList Tryz.prog ops Q (o :: rest) a w := by
  obtain ⟨i0, hi, hz0, hz1, hz2⟩ := info_parts infoI
  refine wpList_append_own w hgd s x 72 ho base 3 i0 (.int .i64 0) 1 8 Tryz.underlying72 hi hz0 hz1 hz2 rfl (by decide) _ n (intsC .i64 l) hs hown ⟨g, 0, none⟩ 1 1 [.int .i64 y] hx rfl ?_ (by simp [Value.oneCell']) (by unfold maxLen; omega) (by omega) hbase ?_
  · intro j u hu
    have hj : j < 1 := (List.getElem?_eq_some_iff.1 hu).1
    obtain rfl : j = 0 := by omega
    rw [addr_at]
    simp at hu
    subst hu
    exact hy
  · intro v' w' h1 h2 _
    obtain ⟨A', c', rfl⟩ := own_shape h1
    have e : intsC .i64 l ++ [.int .i64 y] = intsC .i64 (l ++ [y]) := by simp [intsC]
    rw [e] at h1
    exact h A' c' w' h1 h2
/-- append(x, y) at []api.Span -/
theorem app_span {ops : Array Oper} {rest : List Oper} {o : Oper} {a : Act} {w : World} {Q : Exit → Act → World → Prop} (hgd : o.guard = none) (s x : Operand)
    (ho : o.op = .call { callee := .builtin .append, args := #[s, x], argTypes := #[50, 50] })
    (base : Nat) (A : Option Addr) (n c : Nat) (l : List (Int × Int)) (hs : a.eval s = .slice A n c) (hown : w.ownsRow base 130 2 (.slice A n c) n (twoC .i64 l))
    (g : Nat) (hx : a.eval x = .slice (some ⟨g, 0, none⟩) 1 1) (y : (Int × Int)) (hy0 : w.cell? ⟨g, 0, none⟩ = some (.int .i64 y.1)) (hy1 : w.cell? ⟨g, 1, none⟩ = some (.int .i64 y.2)) (hl : n + 1 ≤ 1000000) (hbase : base ≤ w.heap.size)
    (h : ∀ A' c' w', w'.ownsRow base 130 2 (.slice A' (n + 1) c') (n + 1) (twoC .i64 (l ++ [y])) → w.grownBy w' (Value.slice A n c).ownBlock → wpList Tryz.prog ops Q rest (a.put o.dst (.slice A' (n + 1) c')) w') : wpList Tryz.prog ops Q (o :: rest) a w := by
  obtain ⟨i0, hi, hz0, hz1, hz2⟩ := info_parts infoS
  refine wpList_append_own w hgd s x 50 ho base 130 i0 (.agg #[.int .i64 0, .int .i64 0]) 2 16 Tryz.underlying50 hi hz0 hz1 hz2 rfl (by decide) _ n (twoC .i64 l) hs hown ⟨g, 0, none⟩ 1 1 [.int .i64 y.1, .int .i64 y.2] hx rfl ?_ (by simp [Value.oneCell']) (by unfold maxLen; omega) (by omega) hbase ?_
  · intro j u hu
    have hj : j < 2 := (List.getElem?_eq_some_iff.1 hu).1
    rw [addr_at]
    rcases (show j = 0 ∨ j = 1 by omega) with rfl | rfl
    · simp at hu; subst hu; exact hy0
    · simp at hu; subst hu; exact hy1
  · intro v' w' h1 h2 _
    obtain ⟨A', c', rfl⟩ := own_shape h1
    have e : twoC .i64 l ++ [.int .i64 y.1, .int .i64 y.2] = twoC .i64 (l ++ [y]) := by simp [twoC, twoE]
    rw [e] at h1
    exact h A' c' w' h1 h2
/-- append(x, y) at []api.Bucket -/
theorem app_bkt {ops : Array Oper} {rest : List Oper} {o : Oper} {a : Act} {w : World} {Q : Exit → Act → World → Prop} (hgd : o.guard = none) (s x : Operand)
    (ho : o.op = .call { callee := .builtin .append, args := #[s, x], argTypes := #[37, 37] })
    (base : Nat) (A : Option Addr) (n c : Nat) (l : List (Int × Int)) (hs : a.eval s = .slice A n c) (hown : w.ownsRow base 86 2 (.slice A n c) n (twoC .u64 l))
    (g : Nat) (hx : a.eval x = .slice (some ⟨g, 0, none⟩) 1 1) (y : (Int × Int)) (hy0 : w.cell? ⟨g, 0, none⟩ = some (.int .i64 y.1)) (hy1 : w.cell? ⟨g, 1, none⟩ = some (.int .u64 y.2)) (hl : n + 1 ≤ 1000000) (hbase : base ≤ w.heap.size)
    (h : ∀ A' c' w', w'.ownsRow base 86 2 (.slice A' (n + 1) c') (n + 1) (twoC .u64 (l ++ [y])) → w.grownBy w' (Value.slice A n c).ownBlock → wpList Tryz.prog ops Q rest (a.put o.dst (.slice A' (n + 1) c')) w') : wpList Tryz.prog ops Q (o :: rest) a w := by
  obtain ⟨i0, hi, hz0, hz1, hz2⟩ := info_parts infoB
  refine wpList_append_own w hgd s x 37 ho base 86 i0 (.agg #[.int .i64 0, .int .u64 0]) 2 16 Tryz.underlying37 hi hz0 hz1 hz2 rfl (by decide) _ n (twoC .u64 l) hs hown ⟨g, 0, none⟩ 1 1 [.int .i64 y.1, .int .u64 y.2] hx rfl ?_ (by simp [Value.oneCell']) (by unfold maxLen; omega) (by omega) hbase ?_
  · intro j u hu
    have hj : j < 2 := (List.getElem?_eq_some_iff.1 hu).1
    rw [addr_at]
    rcases (show j = 0 ∨ j = 1 by omega) with rfl | rfl
    · simp at hu; subst hu; exact hy0
    · simp at hu; subst hu; exact hy1
  · intro v' w' h1 h2 _
    obtain ⟨A', c', rfl⟩ := own_shape h1
    have e : twoC .u64 l ++ [.int .i64 y.1, .int .u64 y.2] = twoC .u64 (l ++ [y]) := by simp [twoC, twoE]
    rw [e] at h1
    exact h A' c' w' h1 h2
/-- a new row of cells that append reads -/
theorem new_one (w : World) (v : Value) (t : TypeId) : (w.alloc (.cells #[v] t)).cell? ⟨w.heap.size, 0, none⟩ = some v := by simp [go_sem]
theorem new_two (w : World) (u v : Value) (t : TypeId) : (w.alloc (.cells #[u, v] t)).cell? ⟨w.heap.size, 0, none⟩ = some u ∧ (w.alloc (.cells #[u, v] t)).cell? ⟨w.heap.size, 1, none⟩ = some v := by simp [go_sem]
theorem new_two2 (w : World) (o : Obj) (u v : Value) (t : TypeId) : ((w.alloc o).alloc (.cells #[u, v] t)).cell? ⟨w.heap.size + 1, 0, none⟩ = some u ∧ ((w.alloc o).alloc (.cells #[u, v] t)).cell? ⟨w.heap.size + 1, 1, none⟩ = some v := by
  have h := heap_alloc_new (w.alloc o) (.cells #[u, v] t)
  have e : (w.alloc o).heap.size = w.heap.size + 1 := by simp
  rw [e] at h
  exact ⟨by rw [cell_of_row _ _ _ _ _ _ h]; rfl, by rw [cell_of_row _ _ _ _ _ _ h]; rfl⟩
/-- what lies below B stays: a row from B on is grown behind a new block -/
theorem below_app {W w w' : World} {B B' : Nat} {o : Obj} {e : TypeId} {size n c : Nat} {A : Option Addr} {xs : List Value} (h : Below B W w) (hB : B ≤ w.heap.size) (hown : w.ownsRow B' e size (.slice A n c) n xs) (hBB : B ≤ B') (hg : (w.alloc o).grownBy w' (Value.slice A n c).ownBlock) : Below B W w' :=
  (h.alloc hB o).grown hg (by simp; omega) (fun k hk => Nat.le_trans hBB (hown.lt k hk).1)
/-- a row of elements of another type lies elsewhere -/
theorem own_ne {w : World} {B g n c size : Nat} {e t : TypeId} {A : Option Addr} {xs : List Value} {cs : Array Value} {fr : Nat × Nat} (h : w.ownsRow B e size (.slice A n c) n xs) (hb : w.heap[g]? = some (.cells cs t fr)) (hne : e ≠ t) : (Value.slice A n c).ownBlock ≠ some g := fun ho => by
  rcases h.2 with ⟨h1, _⟩ | ⟨g', cap, cur, hv, _, hg, _⟩
  · rw [h1] at ho; simp [Value.ownBlock] at ho
  · rw [hv] at ho
    simp [Value.ownBlock] at ho
    subst ho
    rw [hg] at hb
    injection hb with hb
    injection hb with h1 h2
    exact hne h2
/-- a block of another type stays while a row is grown behind a new block -/
theorem keep_app {w w' : World} {B g n c size : Nat} {o : Obj} {e t : TypeId} {A : Option Addr} {xs : List Value} {cs : Array Value} {fr : Nat × Nat} (h : w.ownsRow B e size (.slice A n c) n xs) (hb : w.heap[g]? = some (.cells cs t fr)) (hne : e ≠ t) (hg : (w.alloc o).grownBy w' (Value.slice A n c).ownBlock) : w'.heap[g]? = some (.cells cs t fr) := by
  have hlt : g < w.heap.size := (Array.getElem?_eq_some_iff.1 hb).1
  rw [hg.block g (by simp; omega) (own_ne h hb hne).symm, Below.heap_alloc _ _ _ hlt]
  exact hb
end Go.Proofs.YtakomfnajeolcaaGreatDoor.Tk


/- The contract of Indices. -/
namespace Go.Proofs.YtakomfnajeolcaaGreatDoor.Tk
open Go.RowKit Go.Sort
set_option linter.unusedVariables false

theorem tot_at {s : List (Int × Int)} {k : Nat} {p : Int × Int} (h : s[k]? = some p) : tot (s.take (k + 1)) = tot (s.take k) + p.1 + p.2 := by
  rw [take_snoc s k p h, tot_snoc]
theorem indF_at {s : List (Int × Int)} {k : Nat} {p : Int × Int} {a : Int} (h : s[k]? = some p) : indF a (s.take (k + 1)) = indF a (s.take k) ++ rng (a + tot (s.take k) + p.1) p.2.toNat := by
  rw [take_snoc s k p h, indF_snoc]
theorem sum_pos {s : List (Int × Int)} (h : ∀ p ∈ s, 1 ≤ p.2) : 0 ≤ lens s := by
  induction s with
  | nil => simp [lens]
  | cons a r ih =>
    have h1 := h a (by simp)
    have h2 := ih (fun p hp => h p (by simp [hp]))
    simp only [lens]
    omega
theorem indF_length {s : List (Int × Int)} (a : Int) (h : ∀ p ∈ s, 1 ≤ p.2) : ((indF a s).length : Int) = lens s := by
  induction s generalizing a with
  | nil => rfl
  | cons p r ih =>
    have h1 := h p (by simp)
    have h2 := ih (a + p.1 + p.2) (fun q hq => h q (by simp [hq]))
    simp only [indF, lens, List.length_append, rng_length]
    omega
theorem lens_take {s : List (Int × Int)} (h : ∀ p ∈ s, 1 ≤ p.2) (k : Nat) : 0 ≤ lens (s.take k) ∧ lens (s.take k) ≤ lens s := by
  have e : lens s = lens (s.take k) + lens (s.drop k) := by rw [← lens_append, List.take_append_drop]
  have h1 := sum_pos (s := s.take k) (fun p hp => h p (List.mem_of_mem_take hp))
  have h2 := sum_pos (s := s.drop k) (fun p hp => h p (List.mem_of_mem_drop hp))
  omega
/-- indices of a layout that is right, wherever they are -/
structure Inw (l : List Int) : Prop where
  bd : ∀ x ∈ l, -1099511627776 ≤ x ∧ x ≤ 1099511627776
  right : ∀ m : Int, (l.length : Int) ≤ m → rightF (fstL l) (runsL l) m = true
theorem Inb.w {l : List Int} (ha : Asc l) (hi : Inb l) : Inw l := ⟨fun x hx => by have := hi x hx; omega, fun m hm => runs_right ha hi hm⟩
/-- bounds of what is reached: of indices within bounds -/
theorem reach_bd {l : List Int} (hi : Inw l) {k : Nat} {p : Int × Int} (h : (runsL l)[k]? = some p) : -1099511627776 ≤ fstL l + tot ((runsL l).take k) + p.1 ∧ fstL l + tot ((runsL l).take k) + p.1 + p.2 ≤ 1099511627777 ∧ 1 ≤ p.2 := by
  obtain ⟨t1, t2, t3, t4⟩ := runs_tell l
  have hp := t4 p (mem_of_at h)
  have hk : (runsL l).take (k + 1) ++ (runsL l).drop (k + 1) = runsL l := List.take_append_drop _ _
  have e : indF (fstL l) (runsL l) = indF (fstL l) ((runsL l).take k) ++ rng (fstL l + tot ((runsL l).take k) + p.1) p.2.toNat ++ indF (fstL l + tot ((runsL l).take (k + 1))) ((runsL l).drop (k + 1)) := by
    rw [← indF_at h, ← indF_append, hk]
  have hm : ∀ j : Nat, (j : Int) < p.2 → fstL l + tot ((runsL l).take k) + p.1 + (j : Int) ∈ l := fun j hj => by
    have hm : fstL l + tot ((runsL l).take k) + p.1 + (j : Int) ∈ indF (fstL l) (runsL l) := by
      rw [e]
      refine List.mem_append_left _ (List.mem_append_right _ ?_)
      simp only [rng, List.mem_map, List.mem_range]
      exact ⟨j, by omega, rfl⟩
    rw [t1] at hm
    exact hm
  have a := hi.bd _ (hm 0 (by omega))
  have b := hi.bd _ (hm (p.2.toNat - 1) (by omega))
  omega
/-- what Indices leaves -/
def IdxPost (w : World) (l : List Int) (e : Ending) (w' : World) : Prop := ∃ A c, e = .returned (.slice A l.length c) ∧ w'.ownsRow w.heap.size 3 1 (.slice A l.length c) l.length (intsC .i64 l) ∧ Below w.heap.size w w'
/-- a layout reads as the runs of l -/
def Ly (w : World) (A : Option Addr) (l : List Int) : Prop := Cl w A (twoC .i64 (runsL l))
theorem Ly.below {w w' : World} {A : Option Addr} {l : List Int} (h : Ly w A l) (k : Below w.heap.size w w') : Ly w' A l := Cl.below h k
theorem Ly.kept {w w' : World} {A : Option Addr} {l : List Int} (h : Ly w A l) (k : Kept w w') : Ly w' A l := Cl.kept h k
theorem runsL_le (l : List Int) : (runsL l).length ≤ l.length := by
  obtain ⟨_, _, t3, t4⟩ := runs_tell l
  have : ∀ s : List (Int × Int), (∀ p ∈ s, 1 ≤ p.2) → (s.length : Int) ≤ lens s := by
    intro s
    induction s with
    | nil => intro _; simp [lens]
    | cons a r ih =>
      intro h
      have h1 := h a (by simp)
      have h2 := ih (fun p hp => h p (by simp [hp]))
      simp only [lens, List.length_cons]
      omega
  have := this _ t4
  omega
theorem runs_sbw {l : List Int} (ha : Asc l) (hi : Inw l) (hl : l.length ≤ 100000) : Sb (runsL l) ∧ (runsL l).length ≤ l.length := by
  obtain ⟨t1, t2, t3, t4⟩ := runs_tell l
  have hr := hi.right 100000 (by omega)
  constructor
  · intro p hp
    obtain ⟨k, hk, rfl⟩ := List.getElem_of_mem hp
    have hk' := List.getElem?_eq_getElem hk
    have hb := reach_bd hi hk'
    have hlen : lens (runsL l) = l.length := t3
    have h1 : (runsL l)[k].2 ≤ lens (runsL l) := by
      have e : runsL l = (runsL l).take k ++ ((runsL l)[k] :: (runsL l).drop (k + 1)) := by rw [← List.drop_eq_getElem_cons hk, List.take_append_drop]
      have e2 : lens (runsL l) = lens ((runsL l).take k) + ((runsL l)[k].2 + lens ((runsL l).drop (k + 1))) := by
        conv => lhs; rw [e]
        rw [lens_append]; rfl
      have g1 := sum_pos (s := (runsL l).take k) (fun p hp => t4 p (List.mem_of_mem_take hp))
      have g2 := sum_pos (s := (runsL l).drop (k + 1)) (fun p hp => t4 p (List.mem_of_mem_drop hp))
      omega
    have h2 : okAt k (runsL l)[k] (100000 - lens ((runsL l).take k)) = true := by
      unfold rightF at hr
      by_cases h0 : runsL l = []
      · rw [h0] at hk; simp at hk
      · rw [if_neg h0, Bool.and_eq_true] at hr
        have e : runsL l = (runsL l).take k ++ ((runsL l)[k] :: (runsL l).drop (k + 1)) := by rw [← List.drop_eq_getElem_cons hk, List.take_append_drop]
        have hr2 := hr.2
        rw [e, rightR_append, Bool.and_eq_true] at hr2
        have hr3 := hr2.2
        simp only [rightR, Bool.and_eq_true, Nat.zero_add] at hr3
        have hkk : ((runsL l).take k).length = k := by rw [List.length_take]; omega
        rw [hkk] at hr3
        exact hr3.1
    unfold okAt offB at h2
    rw [Bool.and_eq_true] at h2
    have h3 := h2.1
    have hbo : 0 ≤ (runsL l)[k].1 ∧ (runsL l)[k].1 ≤ 524288 := by
      by_cases hk0 : (k : Int) = 0
      · rw [if_pos hk0] at h3
        have : (runsL l)[k].1 = 0 := by simpa using h3
        omega
      · rw [if_neg hk0, Bool.and_eq_true, decide_eq_true_eq, decide_eq_true_eq] at h3
        omega
    refine ⟨⟨by omega, by omega⟩, by omega, by omega⟩
  · exact runsL_le l
theorem runs_sb {l : List Int} (ha : Asc l) (hi : Inb l) (hl : l.length ≤ 100000) : Sb (runsL l) ∧ (runsL l).length ≤ l.length := runs_sbw ha (hi.w ha) hl
def IxRel (f : Int) (s : List (Int × Int)) (W0 : World) (v a i : Value) (wr : World) : Prop :=
  ∃ (k : Nat) (A : Option Addr) (c : Nat), k ≤ s.length ∧ i = .int .i64 k ∧ a = .int .i64 (f + tot (s.take k)) ∧ v = .slice A (indF f (s.take k)).length c ∧ wr.ownsRow W0.heap.size 3 1 (.slice A (indF f (s.take k)).length c) (indF f (s.take k)).length (intsC .i64 (indF f (s.take k))) ∧ Below W0.heap.size W0 wr
def InRel (a : Int) (l0 : List Int) (m : Nat) (W0 : World) (g : Nat) (o : Int) (v i : Value) (wr : World) : Prop :=
  ∃ (j : Nat) (A : Option Addr) (c : Nat), j ≤ m ∧ i = .int .i64 j ∧ v = .slice A (l0 ++ rng a j).length c ∧ wr.ownsRow W0.heap.size 3 1 (.slice A (l0 ++ rng a j).length c) (l0 ++ rng a j).length (intsC .i64 (l0 ++ rng a j)) ∧ wr.heap[g]? = some (.cells #[.int .i64 o, .int .i64 (m : Int)] 130 (0, 0)) ∧ Below W0.heap.size W0 wr

set_option maxHeartbeats 1000000 in
set_option maxRecDepth 100000 in
theorem indices_any (A : Option Addr) (c : Nat) (l : List Int) (w : World) (hS : Ly w A l) (ha : Asc l) (hi : Inw l) (hl : l.length ≤ 10000) :
    Calls Tryz.prog 91 #[.agg #[.int .i64 (fstL l), .slice A (runsL l).length c]] w (IdxPost w l) := by
  obtain ⟨hsb, hsl⟩ := runs_sbw ha hi (by omega)
  obtain ⟨t1, t2, t3, t4⟩ := runs_tell l
  have HRt := Lib.hid (hi.right 131072 (by omega))
  have HT1 := Lib.hid t1
  have HRB := Lib.hid (fun k p (h : (runsL l)[k]? = some p) => reach_bd hi h)
  have HSB := Lib.hid hsb
  have HLT := Lib.hid (fun k => lens_take t4 k)
  have HIL := Lib.hid (fun k a => indF_length (s := (runsL l).take k) a (fun p hp => t4 p (List.mem_of_mem_take hp)))
  have HLN := Lib.hid t3
  obtain ⟨f, hf⟩ : ∃ f, fstL l = f := ⟨_, rfl⟩
  obtain ⟨s, hs⟩ : ∃ s, runsL l = s := ⟨_, rfl⟩
  unfold Ly at hS
  rw [hs] at HRt HT1 HRB HSB HLT HIL HLN hS hsl
  rw [hf] at HRt HT1 HRB
  rw [hf, hs]
  clear hf t1 t2 t3 t4 hs ha hi hsb
  have hb0 : Below w.heap.size w (w.alloc (.cells #[.int .i64 f, .slice A s.length c] 52)) := (Below.refl _ _).alloc (Nat.le_refl _) _
  obtain ⟨W0, hW0⟩ : ∃ W, w.alloc (.cells #[.int .i64 f, .slice A s.length c] 52) = W := ⟨_, rfl⟩
  have hbx : W0.heap[w.heap.size]? = some (.cells #[.int .i64 f, .slice A s.length c] 52 (0, 0)) := by rw [← hW0]; exact heap_alloc_new w _
  have HS := Lib.hid hS
  have HS0 := Lib.hid (hS.below hb0)
  have HB0 := Lib.hid hb0
  have HBX := Lib.hid (box2b hbx)
  rw [hW0] at HS0 HB0
  have hWW := Lib.hid hW0
  clear hW0 hS hb0 hbx
  go_enter Tryz.func91, Tryz.ntmps91
  go_wp2_with fail
  rw [hWW.out]
  refine (right_any _ _ _ _ _ _ HS0.out HSB.out ⟨by decide, by decide⟩ (by omega)).mono ?_
  rw [HRt.out]
  rintro e w1 ⟨rfl, hb1⟩
  obtain ⟨x0, x1⟩ := HBX.out w1 hb1
  have HB1 := Lib.hid (HB0.out.trans (hb1.mono HB0.out.size))
  clear hb1
  go_wp2_with fail
  clear x0 x1
  go_loopw [3, 4, 16] (fun v a i wr => IxRel f s w v a i wr) (fun _ _ i _ => s.length - (intOf i).toNat)
  case atStart => exact ⟨0, none, 0, by omega, rfl, by simp [tot], by simp [indF], by simp only [List.take_zero, indF]; exact World.ownsRow_nil _ _ _ _, HB1.out⟩
  case round =>
    obtain ⟨k, A1, c1, hk, rfl, rfl, rfl, hown, hb⟩ := hrel
    have HO := Lib.hid hown
    have HBR := Lib.hid hb
    clear hown hb
    by_cases hlt : k < s.length
    · obtain ⟨b, off, rfl, hc⟩ := (HS.out.below HBR.out).twos (by omega)
      obtain ⟨p, hp⟩ := getElem?_lt hlt
      obtain ⟨q1, q2⟩ := hc k p hp
      obtain ⟨r1, r2, r3⟩ := HRB.out k p hp
      obtain ⟨⟨o1, o2⟩, n1, n2⟩ := HSB.out p (mem_of_at hp)
      have HTA := Lib.hid (tot_at hp)
      have HIA := Lib.hid (indF_at (a := f) hp)
      have hlen := HIL.out (k + 1) f
      have hle := HLT.out (k + 1)
      rw [HIA.out, List.length_append, rng_length] at hlen
      obtain ⟨L0, hL0⟩ : ∃ L, indF f (s.take k) = L := ⟨_, rfl⟩
      obtain ⟨T, hT⟩ : ∃ T, f + tot (s.take k) = T := ⟨_, rfl⟩
      rw [hL0] at HO HIA hlen ⊢
      rw [hT] at r1 r2 HIA ⊢
      have HTT := Lib.hid hT
      obtain ⟨o, n⟩ := p
      obtain ⟨m, rfl⟩ : ∃ m : Nat, n = (m : Int) := ⟨n.toNat, by simp only at r3; omega⟩
      simp only at q1 q2 r1 r2 r3 o1 o2 n1 n2 HTA HIA hlen
      have hlm : L0.length + m ≤ 10000 := by
        have := HLN.out
        omega
      have hki : (k : Int) < (s.length : Int) := by omega
      clear hc hp hL0 hT hlen hle
      go_wp2_with fail
      obtain ⟨wo, hwo⟩ : ∃ W, W = wr := ⟨_, rfl⟩
      subst hwo
      have hLz : L0 ++ rng (T + o) 0 = L0 := by simp [rng_zero]
      have HST := Lib.hid (show InRel (T + o) L0 m w wo.heap.size o (.slice A1 L0.length c1) (.int .i64 0) (wo.alloc (.cells #[.int .i64 o, .int .i64 (m : Int)] 130)) from
        ⟨0, A1, c1, by omega, rfl, by rw [hLz], by rw [hLz]; exact HO.out.alloc _, heap_alloc_new wo _, HBR.out.alloc HBR.out.size _⟩)
      clear hLz
      go_loopw [3, 26] (fun v i wr => InRel (T + o) L0 m w wo.heap.size o v i wr) (fun _ i _ => m - (intOf i).toNat)
      case atStart => exact HST.out
      case round =>
        obtain ⟨j, A2, c2, hj, rfl, rfl, hown, hbl, hb⟩ := hrel
        have HO3 := Lib.hid hown
        have HB3 := Lib.hid hb
        have HBL := Lib.hid hbl
        have hsz3 := hb.size
        clear hown hb hbl
        by_cases hlj : j < m
        · have HRS := Lib.hid (rng_succ (T + o) j)
          have hLj : (L0 ++ rng (T + o) j).length = L0.length + j := by simp [rng_length]
          obtain ⟨L1, hL1⟩ : ∃ L, L0 ++ rng (T + o) j = L := ⟨_, rfl⟩
          have HL1 := Lib.hid hL1
          rw [hL1] at HO3 hLj ⊢
          have hL1l : L1.length + 1 ≤ 10000 := by omega
          clear hL1 hLj
          have hji : (j : Int) < (m : Int) := by omega
          go_wp2_with (at_builtin; refine app_int rfl _ _ rfl w.heap.size _ _ _ L1 rfl (HO3.out.alloc _) _ rfl (T + o + (j : Int)) (new_one _ _ _) (by omega) ?d1 ?_)
          case d1 => simp; omega
          intro A3 c3 w3 ho3 hg3
          have HO4 := Lib.hid ho3
          have HB4 := Lib.hid (below_app HB3.out hsz3 HO3.out (Nat.le_refl _) hg3)
          have HBL4 := Lib.hid (keep_app HO3.out HBL.out (by decide) hg3)
          clear ho3 hg3
          go_wp2_with fail
          go_roundw
          case rel => exact ⟨j + 1, A3, c3, by omega, by go_num, by rw [HRS.out, ← List.append_assoc, HL1.out, List.length_append]; rfl, by rw [HRS.out, ← List.append_assoc, HL1.out, List.length_append]; exact HO4.out, HBL4.out, HB4.out⟩
          case measure => simp [intOf]; omega
        · obtain rfl : j = m := by omega
          have hji : ¬ ((j : Int) < (j : Int)) := by omega
          obtain ⟨y0, y1, _⟩ := box2 HBL.out
          have HE := Lib.hid (show T + o + (j : Int) = f + tot (s.take (k + 1)) by have h1 := HTA.out; have h2 := HTT.out; (try simp only at h1); omega)
          have HL := Lib.hid (show L0 ++ rng (T + o) j = indF f (s.take (k + 1)) by rw [HIA.out]; rfl)
          go_wp2_with fail
          go_roundw
          case rel => exact ⟨k + 1, A2, c2, by omega, by go_num, by rw [HE.out], by rw [← HL.out], by rw [← HL.out]; exact HO3.out, HB3.out⟩
          case measure => simp [intOf]; omega
    · obtain rfl : k = s.length := by omega
      have hki : ¬ ((s.length : Int) < (s.length : Int)) := by omega
      rw [List.take_length] at HO
      have HL := HT1
      go_wp2_with fail
      go_ret
      exact ⟨A1, c1, by rw [← HL.out]; rfl, by have := HO.out; rw [HL.out] at this; exact this, HBR.out⟩
end Go.Proofs.YtakomfnajeolcaaGreatDoor.Tk
