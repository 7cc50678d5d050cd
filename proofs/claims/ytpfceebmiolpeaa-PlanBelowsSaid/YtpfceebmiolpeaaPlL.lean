/- The document's Within. -/
import Derived.Test.YtpfceebmiolpeaaPlI
import Derived.Test.YtpfceebmiolpeaaPlJ
namespace Go.Proofs.Ytpfceebmiolpeaa.Pl
open Go.RowKit Go.Sort
set_option linter.unusedVariables false

theorem insF_split (q : Int) : ∀ (X : List Int) (a : Nat), a ≤ X.length → (∀ (j : Nat) (y : Int), j < a → X[j]? = some y → y < q) → (∀ y, X[a]? = some y → ¬ y < q) → insF q X = X.take a ++ [q] ++ X.drop a
  | [], a, h, _, _ => by
    have : a = 0 := by simpa using h
    subst this
    rfl
  | x :: r, 0, _, _, h2 => by
    unfold insF
    rw [if_neg (h2 x rfl)]
    rfl
  | x :: r, a + 1, h, h1, h2 => by
    unfold insF
    rw [if_pos (h1 0 x (by omega) rfl), insF_split q r a (by simpa using h) (fun j y hj hy => h1 (j + 1) y (by omega) (by simpa using hy)) (fun y hy => h2 y (by simpa using hy))]
    rfl
theorem cl_take {w : World} {A : Option Addr} {X : List Int} (h : Cl w A (intsC .i64 X)) (a : Nat) : Cl w A (intsC .i64 (X.take a)) := by
  rcases h with h | ⟨b, off, e, hc⟩
  · have : X = [] := by cases X with
      | nil => rfl
      | cons x r => simp [intsC] at h
    subst this
    exact .inl (by simp [intsC])
  · refine .inr ⟨b, off, e, fun j v hj => hc j v ?_⟩
    rw [show intsC .i64 (X.take a) = (intsC .i64 X).take a by simp [intsC, List.map_take]] at hj
    rw [List.getElem?_take] at hj
    split at hj
    · exact hj
    · cases hj
theorem cl_drop {w : World} {b off : Nat} {X : List Int} (h : Cl w (some ⟨b, off, none⟩) (intsC .i64 X)) (a : Nat) : Cl w (some ⟨b, off + a, none⟩) (intsC .i64 (X.drop a)) := by
  rcases h with h | ⟨b', off', e, hc⟩
  · have : X = [] := by cases X with
      | nil => rfl
      | cons x r => simp [intsC] at h
    subst this
    exact .inl (by simp [intsC])
  · injection e with e
    injection e with e1 e2
    subst e1 e2
    refine .inr ⟨b, off + a, rfl, fun j v hj => ?_⟩
    rw [show intsC .i64 (X.drop a) = (intsC .i64 X).drop a by simp [intsC, List.map_drop], List.getElem?_drop] at hj
    rw [show off + a + j = off + (a + j) by omega]
    exact hc _ v hj
/-- append(s, x...) at ints, where another row lies -/
theorem app_two {ops : Array Oper} {rest : List Oper} {o : Oper} {a : Act} {W w : World} {Q : Exit → Act → World → Prop} (hgd : o.guard = none) (s x : Operand)
    (ho : o.op = .call { callee := .builtin .append, args := #[s, x], argTypes := #[34, 34] })
    (base : Nat) (v : Value) (n : Nat) (l : List Int) (hs : a.eval s = v) (hown : w.ownsRow base 3 1 v n (intsC .i64 l))
    (u : Value) (k : Nat) (ys : List Value) (hu : w.ownsRow base 3 1 u k ys) (h2 : Two2 v u) (hb : Below base W w)
    (B : Option Addr) (m d : Nat) (L : List Int) (hx : a.eval x = .slice B m d) (hd : B = none → d = 0) (hL : L.length = m) (hc : Cl w B (intsC .i64 L)) (N : Nat) (hN : n + m = N) (hl : N ≤ 1000000) (hbase : base ≤ w.heap.size)
    (h : ∀ A' c' w', w'.ownsRow base 3 1 (.slice A' N c') N (intsC .i64 (l ++ L)) → w'.ownsRow base 3 1 u k ys → Two2 (.slice A' N c') u → Below base W w' → base ≤ w'.heap.size → wpList Try.prog ops Q rest (a.put o.dst (.slice A' N c')) w') : wpList Try.prog ops Q (o :: rest) a w := by
  subst hL hN
  obtain ⟨i0, hi, hz0, hz1, hz2⟩ := info_parts infoI
  cases B with
  | none =>
    have hy0 : L = [] := by
      rcases hc with h0 | ⟨_, _, h0, _⟩
      · cases L with
        | nil => rfl
        | cons p r => simp [intsC] at h0
      · cases h0
    subst hy0
    obtain rfl := hd rfl
    refine wpList_append_own_none hgd s x 34 ho base 3 i0 1 Try.underlying34 hi _ n (intsC .i64 l) hs hown hx ?_
    obtain ⟨A', c', rfl⟩ := own_shape hown
    have := h A' c' w (by simpa using hown) hu (by simpa using h2) hb hbase
    simpa using this
  | some ad =>
    refine wpList_append_own_at _ hgd s x 34 ho base 3 i0 (.int .i64 0) 1 8 Try.underlying34 hi hz0 hz1 hz2 rfl (by decide) _ n (intsC .i64 l) hs hown ad L.length d (intsC .i64 L) hx (by rw [intsC_length]; omega) (fun j u hu => hc.src j u hu) (intsC_one _ L) (by unfold maxLen; omega) (by omega) hbase ?_
    intro v' w' h1 hg _ hat
    rw [← intsC_append] at h1
    have hz := hg.size
    obtain ⟨A', c', rfl⟩ := own_shape h1
    refine h A' c' w' h1 (hu.kept hg ?_) ?_ (hb.grown hg hbase (fun k hk => (hown.lt k hk).1)) (by omega)
    · rcases ho' : u.ownBlock with _ | q
      · exact .inl rfl
      · exact .inr fun e => h2 q e.symm ho'
    · intro q hq hq'
      rcases hat with e | e
      · exact h2 q (e ▸ hq) hq'
      · have h3 := (hu.lt q hq').2
        rw [e] at hq
        simp at hq
        omega
theorem own_some {w : World} {base m c : Nat} {A : Option Addr} {X : List Int} (h : w.ownsRow base 3 1 (.slice A m c) m (intsC .i64 X)) (h0 : 0 < m) : ∃ g, A = some ⟨g, 0, none⟩ ∧ m ≤ c := by
  rcases h.2 with ⟨hv, e⟩ | ⟨g, cap, cur, hv, _, _, hnc, _⟩
  · omega
  · injection hv with e1 e2 e3
    subst e1 e3
    exact ⟨g, rfl, hnc⟩
theorem own_cellI {w : World} {base m c g : Nat} {X : List Int} (h : w.ownsRow base 3 1 (.slice (some ⟨g, 0, none⟩) m c) m (intsC .i64 X)) {j : Nat} {y : Int} (hy : X[j]? = some y) : w.cell? ⟨g, j, none⟩ = some (.int .i64 y) := by
  have hn := h.1
  rw [intsC_length] at hn
  have := (List.getElem?_eq_some_iff.1 hy).1
  rw [h.cellAt j (by omega), intsC_at hy]
theorem rf_cell {w : World} {b off : Nat} {l : List It} {i : Nat} {x : It} (h : Cl w (some ⟨b, off, none⟩) (fC rfA l)) (hx : l[i]? = some x) : w.cell? ⟨b, off + i * 4, none⟩ = some (.int .i64 x.q) := by
  obtain ⟨b', off', e, hc⟩ := h.rfs (by have := (List.getElem?_eq_some_iff.1 hx).1; omega)
  injection e with e
  injection e with e1 e2
  subst e1 e2
  exact (hc i x hx).1
theorem two_nil (u : Value) : Two2 (.slice none 0 0) u := fun g h => by simp [Value.ownBlock] at h
/-- the numbers so far -/
def WiI (w : World) (X : List Int) (v : Value) (wr : World) : Prop := wr.ownsRow w.heap.size 3 1 v X.length (intsC .i64 X) ∧ Below w.heap.size w wr ∧ (X = [] → v = .slice none 0 0)
theorem srt_nil_iff (L : List Int) : srt L = [] ↔ L = [] := by
  rw [← List.length_eq_zero_iff, srt_length, List.length_eq_zero_iff]
theorem wi_end {w w' : World} {X : List Int} {a m N : Nat} {q : Int} {A : Option Addr} {c : Nat} {Y : List Int} (hm : X.length = m) (ha : a ≤ m) (hN : m + 1 = N) (hsp : insF q X = X.take a ++ [q] ++ X.drop a) (hY : Y = insF q X)
    (h : w'.ownsRow w.heap.size 3 1 (.slice A N c) N (intsC .i64 ((([] ++ X.take a) ++ [q]) ++ X.drop a))) (hb : Below w.heap.size w w') : WiI w Y (.slice A N c) w' := by
  have hl : (insF q X).length = N := by rw [(insF_perm q X).length_eq, List.length_cons]; omega
  refine ⟨?_, hb, fun e => ?_⟩
  · rw [hY, hl, hsp]
    rwa [List.nil_append] at h
  · rw [hY] at e
    rw [e] at hl
    simp at hl
    omega
set_option maxHeartbeats 8000000 in
set_option maxRecDepth 100000 in
theorem rwithin_any (A : Option Addr) (n c : Nat) (l : List It) (k low : Int) (w : World) (hn : n = l.length) (h : Cl w A (fC rfA l)) (hl : l.length ≤ 1000) (hk : I64 k) (h1 : -4611686018427387904 ≤ low) (h2 : low ≤ 4611686018427387904) :
    Calls Try.prog 23 #[.slice A n c, .int .i64 k, .int .i64 low] w fun e w' => ∃ v, e = .returned v ∧ IntP w (withinF l k low) v w' := by
  subst hn
  obtain ⟨n, hn⟩ : ∃ n, l.length = n := ⟨_, rfl⟩
  have HN := Lib.hid hn
  have HL := Lib.hid h
  have HWD := Lib.hid (fun w => rwidth_any k hk w)
  have hwp := wd_pos k
  obtain ⟨d, hd⟩ : ∃ d, wd k = d := ⟨_, rfl⟩
  have HD := Lib.hid hd
  simp only [hd] at HWD hwp
  have hsm : wrap64 (low + d) = low + d := IntWalk.wrap64_in _ ⟨by omega, by omega⟩
  rw [hn] at hl ⊢
  clear h hn hd
  go_enter Try.func23, Try.ntmps23
  go_wp2_with fail
  go_loopw [7, 8] (fun v i wr => ∃ j : Nat, j ≤ n ∧ i = .int .i64 j ∧ Hid (WiI w (withinF (l.take j) k low) v wr)) (fun _ i _ => n - (intOf i).toNat)
  case atStart => exact ⟨0, by omega, rfl, Lib.hid ⟨own_nil _ _ _ _, Below.refl _ _, fun _ => rfl⟩⟩
  case round =>
    obtain ⟨i, hi, rfl, HI⟩ := hrel
    obtain ⟨ho, hbr, hnil⟩ := HI.out
    by_cases hlt : i < n
    · have hii : (i : Int) < (n : Int) := by omega
      obtain ⟨x, hx⟩ := getElem?_lt (l := l) (k := i) (by rw [HN.out]; exact hlt)
      obtain ⟨b, off, rfl, hcell⟩ := (HL.out.below hbr).rfs (by rw [HN.out]; omega)
      obtain ⟨p0, p1, p2, p3⟩ := hcell i x hx
      have HT := Lib.hid (show withinF (l.take (i + 1)) k low = if inB k low x then insF x.q (withinF (l.take i) k low) else withinF (l.take i) k low by
        unfold withinF
        rw [take_snoc l i x hx, List.filter_append, List.map_append, List.filter_cons]
        cases inB k low x
        · simp
        · simp [srt_snoc])
      obtain ⟨X, hX⟩ : ∃ X, withinF (l.take i) k low = X := ⟨_, rfl⟩
      have hXl : X.length ≤ 1000 := by
        rw [← hX]
        refine Nat.le_trans (withinF_length _ _ _) ?_
        rw [List.length_take]; omega
      rw [hX] at ho hnil HT
      have HB := Lib.hid hbr
      obtain ⟨m, hm⟩ : ∃ m, X.length = m := ⟨_, rfl⟩
      obtain ⟨Bo, cc, hvs⟩ := own_shape ho
      rw [hm] at hvs
      subst hvs
      have HM := Lib.hid hm
      by_cases g1 : x.lo < low
      · have HI2 := Lib.hid (fun nq => show WiI w (withinF (l.take (i + 1)) k low) (.slice Bo m cc) (wr.drewN nq) from by
          rw [HT.out, if_neg (by unfold inB; simp; omega)]
          exact ⟨own_drewN ho nq, below_drewN hbr nq, hnil⟩)
        clear hcell hx ho hbr hnil HI
        go_wp2_with fail
        go_quiet (fail)
        go_wp2_with fail
        go_roundw
        case rel => exact ⟨i + 1, by omega, by go_num, Lib.hid (HI2.out _)⟩
        case measure => simp [intOf]; omega
      · have d1 : decide (x.lo < low) = false := by simpa using g1
        by_cases g2 : low + d < x.hi
        · have HI2 := Lib.hid (fun nq => show WiI w (withinF (l.take (i + 1)) k low) (.slice Bo m cc) (wr.drewN nq) from by
            rw [HT.out, if_neg (by unfold inB; rw [HD.out]; simp; omega)]
            exact ⟨own_drewN ho nq, below_drewN hbr nq, hnil⟩)
          clear hcell hx ho hbr hnil HI
          go_wp2_with fail
          go_quiet (first | (go_at_call 26; refine Calls.quiet_of_same ((HWD.out _).mono fun e w' h => ⟨h.1, h.2.symm⟩)))
          go_wp2_with fail
          go_roundw
          case rel => exact ⟨i + 1, by omega, by go_num, Lib.hid (HI2.out _)⟩
          case measure => simp [intOf]; omega
        · have d2 : decide (low + d < x.hi) = false := by simpa using g2
          have HT2 := Lib.hid (show withinF (l.take (i + 1)) k low = insF x.q X by rw [HT.out, if_pos (by unfold inB; rw [HD.out]; simp; omega)])
          rw [hm] at ho hXl
          have HO := Lib.hid (fun nq => own_drewN ho nq)
          have HBB := Lib.hid (fun nq => below_drewN hbr nq)
          have HNIL := Lib.hid hnil
          have HX := Lib.hid hx
          clear hcell hx ho hbr hnil HI hm
          go_wp2_with fail
          go_quiet (first | (go_at_call 26; refine Calls.quiet_of_same ((HWD.out _).mono fun e w' h => ⟨h.1, h.2.symm⟩)))
          go_wp2_with fail
          go_loopw [9] (fun u wr => ∃ a : Nat, a ≤ m ∧ u = .int .i64 a ∧ Hid (wr.ownsRow w.heap.size 3 1 (.slice Bo m cc) m (intsC .i64 X) ∧ Below w.heap.size w wr ∧ ∀ (j : Nat) (y : Int), j < a → X[j]? = some y → y < x.q)) (fun u _ => m - (intOf u).toNat)
          case atStart => exact ⟨0, by omega, rfl, Lib.hid ⟨HO.out _, HBB.out _, fun j y hj => absurd hj (by omega)⟩⟩
          case round =>
            obtain ⟨a, ha, rfl, HS⟩ := hrel
            obtain ⟨b, off, hbe, hcell⟩ := (HL.out.below HS.out.2.1).rfs (by rw [HN.out]; omega)
            obtain ⟨p0, p1, p2, p3⟩ := hcell i x HX.out
            simp only [Option.some.injEq, Addr.mk.injEq, and_true] at hbe
            obtain ⟨e1, e2⟩ := hbe
            subst e1 e2
            by_cases ham : a < m
            · have hai : (a : Int) < (m : Int) := by omega
              obtain ⟨y, hy⟩ := getElem?_lt (l := X) (k := a) (by rw [HM.out]; exact ham)
              obtain ⟨gq, hgf, hmc⟩ := own_some HS.out.1 (by omega)
              subst hgf
              have r0 := own_cellI HS.out.1 hy
              have HY := Lib.hid hy
              clear hcell hy
              by_cases hlq : y < x.q
              · have HS2 := Lib.hid (fun nq => show (wr.drewN nq).ownsRow w.heap.size 3 1 (.slice (some ⟨gq, 0, none⟩) m cc) m (intsC .i64 X) ∧ Below w.heap.size w (wr.drewN nq) ∧ ∀ (j : Nat) (y : Int), j < a + 1 → X[j]? = some y → y < x.q from ⟨own_drewN HS.out.1 nq, below_drewN HS.out.2.1 nq, fun j z hj hz => by
                  by_cases e : j = a
                  · subst e
                    have := Option.some.inj (hz.symm.trans HY.out)
                    rw [this]; exact hlq
                  · exact HS.out.2.2 j z (by omega) hz⟩)
                clear HS
                go_wp2_with fail
                go_quiet (fail)
                go_wp2_with fail
                go_roundw
                case rel => exact ⟨a + 1, by omega, by go_num, Lib.hid (HS2.out _)⟩
                case measure => simp [intOf]; omega
              · have d3 : decide (y < x.q) = false := by simpa using hlq
                have HSP := Lib.hid (insF_split x.q X a (by rw [HM.out]; omega) HS.out.2.2 (fun z hz => by
                  have := Option.some.inj (hz.symm.trans HY.out)
                  rw [this]; exact hlq))
                have hac : a ≤ cc := by omega
                have hac' : (a : Int) ≤ (cc : Int) := by omega
                have hcc : ¬ cc = 0 := by omega
                have hca : ¬ cc = a := by omega
                go_wp2_with fail
                go_quiet (fail)
                have HS3 := Lib.hid (And.intro (own_drewN HS.out.1 nq) (below_drewN HS.out.2.1 nq))
                go_wp2_with (first
                  | (at_builtin; refine app_two (W := w) rfl _ _ rfl w.heap.size (.slice none 0 0) 0 [] rfl (own_nil _ _ _ _) (.slice (some ⟨gq, 0, none⟩) m cc) m (intsC .i64 X) HS3.out.1 (two_nil _) HS3.out.2 (some ⟨gq, 0, none⟩) a cc (X.take a) rfl (by simp) (by rw [List.length_take]; first | rfl | (rw [HM.out]; omega)) (cl_take (own_cl HS3.out.1) a) a (by omega) (by omega) HS3.out.2.size ?_; intro A1 c1 w1 k1 k2 k3 k4 k5; have H1 := Lib.hid (And.intro k1 (And.intro k2 (And.intro k3 (And.intro k4 k5)))); have s0 := rf_cell (HL.out.below k4) HX.out; clear k1 k2 k3 k4 k5)
                  | (at_builtin; refine app_two (W := w) rfl _ _ rfl w.heap.size (.slice A1 a c1) a ([] ++ X.take a) rfl (own_below H1.out.1 ((Below.refl _ _).alloc (Nat.le_refl _) _)) (.slice (some ⟨gq, 0, none⟩) m cc) m (intsC .i64 X) (own_below H1.out.2.1 ((Below.refl _ _).alloc (Nat.le_refl _) _)) H1.out.2.2.1 (H1.out.2.2.2.1.alloc H1.out.2.2.2.2 _) (some ⟨w1.heap.size, 0, none⟩) 1 1 [x.q] rfl (by simp) rfl (new_ints w1 #[.int .i64 x.q] [x.q] 3 rfl) (a + 1) rfl (by omega) (by simp; exact Nat.le_succ_of_le H1.out.2.2.2.2) ?_; intro A2 c2 w2 k1 k2 k3 k4 k5; have H2 := Lib.hid (And.intro k1 (And.intro k2 (And.intro k3 (And.intro k4 k5)))); clear k1 k2 k3 k4 k5)
                  | (at_builtin; refine app_two (W := w) rfl _ _ rfl w.heap.size (.slice A2 (a + 1) c2) (a + 1) (([] ++ X.take a) ++ [x.q]) rfl H2.out.1 (.slice (some ⟨gq, 0, none⟩) m cc) m (intsC .i64 X) H2.out.2.1 H2.out.2.2.1 H2.out.2.2.2.1 (some ⟨gq, a, none⟩) (m - a) (cc - a) (X.drop a) rfl (by simp) (by rw [List.length_drop, HM.out]) (by have := cl_drop (own_cl H2.out.2.1) a; rwa [Nat.zero_add] at this) (m + 1) (by omega) (by omega) H2.out.2.2.2.2 ?_; intro A3 c3 w3 k1 k2 k3 k4 k5; have HW3 := Lib.hid (wi_end HM.out (by omega) rfl HSP.out HT2.out k1 k4); clear k1 k2 k3 k4 k5))
                go_roundw
                case rel => exact ⟨i + 1, by omega, by go_num, Lib.hid HW3.out⟩
                case measure => simp [intOf]; omega
            · obtain rfl : a = m := by omega
              have hai : ¬ ((a : Int) < (a : Int)) := by omega
              have HSP := Lib.hid (insF_split x.q X a (by rw [HM.out]; omega) HS.out.2.2 (fun z hz => by
                have := (List.getElem?_eq_some_iff.1 hz).1
                rw [HM.out] at this
                omega))
              by_cases hm0 : a = 0
              · subst hm0
                have hX0 : X = [] := List.eq_nil_of_length_eq_zero HM.out
                have hv0 := HNIL.out hX0
                injection hv0 with ev1 ev2 ev3
                subst ev1 ev3 hX0
                go_wp2_with fail
                go_quiet (fail)
                have HS3 := Lib.hid (And.intro (own_drewN HS.out.1 nq) (below_drewN HS.out.2.1 nq))
                go_wp2_with (first
                  | (at_builtin; refine app_two (W := w) rfl _ _ rfl w.heap.size (.slice none 0 0) 0 [] rfl (own_nil _ _ _ _) (.slice none 0 0) 0 (intsC .i64 ([] : List Int)) HS3.out.1 (two_nil _) HS3.out.2 none 0 0 (([] : List Int).take 0) rfl (by simp) (by rw [List.length_take]; first | rfl | (rw [HM.out]; omega)) (cl_take (own_cl HS3.out.1) 0) 0 (by omega) (by omega) HS3.out.2.size ?_; intro A1 c1 w1 k1 k2 k3 k4 k5; have H1 := Lib.hid (And.intro k1 (And.intro k2 (And.intro k3 (And.intro k4 k5)))); have s0 := rf_cell (HL.out.below k4) HX.out; clear k1 k2 k3 k4 k5)
                  | (at_builtin; refine app_two (W := w) rfl _ _ rfl w.heap.size (.slice A1 0 c1) 0 ([] ++ ([] : List Int).take 0) rfl (own_below H1.out.1 ((Below.refl _ _).alloc (Nat.le_refl _) _)) (.slice none 0 0) 0 (intsC .i64 ([] : List Int)) (own_below H1.out.2.1 ((Below.refl _ _).alloc (Nat.le_refl _) _)) H1.out.2.2.1 (H1.out.2.2.2.1.alloc H1.out.2.2.2.2 _) (some ⟨w1.heap.size, 0, none⟩) 1 1 [x.q] rfl (by simp) rfl (new_ints w1 #[.int .i64 x.q] [x.q] 3 rfl) (0 + 1) rfl (by omega) (by simp; exact Nat.le_succ_of_le H1.out.2.2.2.2) ?_; intro A2 c2 w2 k1 k2 k3 k4 k5; have H2 := Lib.hid (And.intro k1 (And.intro k2 (And.intro k3 (And.intro k4 k5)))); clear k1 k2 k3 k4 k5)
                  | (at_builtin; refine app_two (W := w) rfl _ _ rfl w.heap.size (.slice A2 (0 + 1) c2) (0 + 1) (([] ++ ([] : List Int).take 0) ++ [x.q]) rfl H2.out.1 (.slice none 0 0) 0 (intsC .i64 ([] : List Int)) H2.out.2.1 H2.out.2.2.1 H2.out.2.2.2.1 none 0 0 (([] : List Int).drop 0) rfl (by simp) rfl (Cl.nil _ _) (0 + 1) (by omega) (by omega) H2.out.2.2.2.2 ?_; intro A3 c3 w3 k1 k2 k3 k4 k5; have HW3 := Lib.hid (wi_end HM.out (by omega) rfl HSP.out HT2.out k1 k4); clear k1 k2 k3 k4 k5))
                go_roundw
                case rel => exact ⟨i + 1, by omega, by go_num, Lib.hid HW3.out⟩
                case measure => simp [intOf]; omega
              · obtain ⟨gq, hgf, hmc⟩ := own_some HS.out.1 (by omega)
                subst hgf
                have hac : a ≤ cc := by omega
                have hac' : (a : Int) ≤ (cc : Int) := by omega
                have hcc : ¬ cc = 0 := by omega
                by_cases hca : cc = a
                · subst hca
                  go_wp2_with fail
                  go_quiet (fail)
                  have HS3 := Lib.hid (And.intro (own_drewN HS.out.1 nq) (below_drewN HS.out.2.1 nq))
                  go_wp2_with (first
                    | (at_builtin; refine app_two (W := w) rfl _ _ rfl w.heap.size (.slice none 0 0) 0 [] rfl (own_nil _ _ _ _) (.slice (some ⟨gq, 0, none⟩) cc cc) cc (intsC .i64 X) HS3.out.1 (two_nil _) HS3.out.2 (some ⟨gq, 0, none⟩) cc cc (X.take cc) rfl (by simp) (by rw [List.length_take]; first | rfl | (rw [HM.out]; omega)) (cl_take (own_cl HS3.out.1) cc) cc (by omega) (by omega) HS3.out.2.size ?_; intro A1 c1 w1 k1 k2 k3 k4 k5; have H1 := Lib.hid (And.intro k1 (And.intro k2 (And.intro k3 (And.intro k4 k5)))); have s0 := rf_cell (HL.out.below k4) HX.out; clear k1 k2 k3 k4 k5)
                    | (at_builtin; refine app_two (W := w) rfl _ _ rfl w.heap.size (.slice A1 cc c1) cc ([] ++ X.take cc) rfl (own_below H1.out.1 ((Below.refl _ _).alloc (Nat.le_refl _) _)) (.slice (some ⟨gq, 0, none⟩) cc cc) cc (intsC .i64 X) (own_below H1.out.2.1 ((Below.refl _ _).alloc (Nat.le_refl _) _)) H1.out.2.2.1 (H1.out.2.2.2.1.alloc H1.out.2.2.2.2 _) (some ⟨w1.heap.size, 0, none⟩) 1 1 [x.q] rfl (by simp) rfl (new_ints w1 #[.int .i64 x.q] [x.q] 3 rfl) (cc + 1) rfl (by omega) (by simp; exact Nat.le_succ_of_le H1.out.2.2.2.2) ?_; intro A2 c2 w2 k1 k2 k3 k4 k5; have H2 := Lib.hid (And.intro k1 (And.intro k2 (And.intro k3 (And.intro k4 k5)))); clear k1 k2 k3 k4 k5)
                    | (at_builtin; refine app_two (W := w) rfl _ _ rfl w.heap.size (.slice A2 (cc + 1) c2) (cc + 1) (([] ++ X.take cc) ++ [x.q]) rfl H2.out.1 (.slice (some ⟨gq, 0, none⟩) cc cc) cc (intsC .i64 X) H2.out.2.1 H2.out.2.2.1 H2.out.2.2.2.1 (some ⟨gq, 0, none⟩) 0 0 (X.drop cc) rfl (by simp) (by rw [List.length_drop, HM.out]; omega) (by rw [List.drop_of_length_le (by rw [HM.out]; exact Nat.le_refl _)]; exact Cl.nil _ _) (cc + 1) (by omega) (by omega) H2.out.2.2.2.2 ?_; intro A3 c3 w3 k1 k2 k3 k4 k5; have HW3 := Lib.hid (wi_end HM.out (by omega) rfl HSP.out HT2.out k1 k4); clear k1 k2 k3 k4 k5))
                  go_roundw
                  case rel => exact ⟨i + 1, by omega, by go_num, Lib.hid HW3.out⟩
                  case measure => simp [intOf]; omega
                · go_wp2_with fail
                  go_quiet (fail)
                  have HS3 := Lib.hid (And.intro (own_drewN HS.out.1 nq) (below_drewN HS.out.2.1 nq))
                  go_wp2_with (first
                    | (at_builtin; refine app_two (W := w) rfl _ _ rfl w.heap.size (.slice none 0 0) 0 [] rfl (own_nil _ _ _ _) (.slice (some ⟨gq, 0, none⟩) a cc) a (intsC .i64 X) HS3.out.1 (two_nil _) HS3.out.2 (some ⟨gq, 0, none⟩) a cc (X.take a) rfl (by simp) (by rw [List.length_take]; first | rfl | (rw [HM.out]; omega)) (cl_take (own_cl HS3.out.1) a) a (by omega) (by omega) HS3.out.2.size ?_; intro A1 c1 w1 k1 k2 k3 k4 k5; have H1 := Lib.hid (And.intro k1 (And.intro k2 (And.intro k3 (And.intro k4 k5)))); have s0 := rf_cell (HL.out.below k4) HX.out; clear k1 k2 k3 k4 k5)
                    | (at_builtin; refine app_two (W := w) rfl _ _ rfl w.heap.size (.slice A1 a c1) a ([] ++ X.take a) rfl (own_below H1.out.1 ((Below.refl _ _).alloc (Nat.le_refl _) _)) (.slice (some ⟨gq, 0, none⟩) a cc) a (intsC .i64 X) (own_below H1.out.2.1 ((Below.refl _ _).alloc (Nat.le_refl _) _)) H1.out.2.2.1 (H1.out.2.2.2.1.alloc H1.out.2.2.2.2 _) (some ⟨w1.heap.size, 0, none⟩) 1 1 [x.q] rfl (by simp) rfl (new_ints w1 #[.int .i64 x.q] [x.q] 3 rfl) (a + 1) rfl (by omega) (by simp; exact Nat.le_succ_of_le H1.out.2.2.2.2) ?_; intro A2 c2 w2 k1 k2 k3 k4 k5; have H2 := Lib.hid (And.intro k1 (And.intro k2 (And.intro k3 (And.intro k4 k5)))); clear k1 k2 k3 k4 k5)
                    | (at_builtin; refine app_two (W := w) rfl _ _ rfl w.heap.size (.slice A2 (a + 1) c2) (a + 1) (([] ++ X.take a) ++ [x.q]) rfl H2.out.1 (.slice (some ⟨gq, 0, none⟩) a cc) a (intsC .i64 X) H2.out.2.1 H2.out.2.2.1 H2.out.2.2.2.1 (some ⟨gq, a, none⟩) 0 (cc - a) (X.drop a) rfl (by simp) (by rw [List.length_drop, HM.out]; omega) (by have := cl_drop (own_cl H2.out.2.1) a; rwa [Nat.zero_add] at this) (a + 1) (by omega) (by omega) H2.out.2.2.2.2 ?_; intro A3 c3 w3 k1 k2 k3 k4 k5; have HW3 := Lib.hid (wi_end HM.out (by omega) rfl HSP.out HT2.out k1 k4); clear k1 k2 k3 k4 k5))
                  go_roundw
                  case rel => exact ⟨i + 1, by omega, by go_num, Lib.hid HW3.out⟩
                  case measure => simp [intOf]; omega
    · obtain rfl : i = n := by omega
      have hii : ¬ ((i : Int) < (i : Int)) := by omega
      have htk : l.take i = l := List.take_of_length_le (by rw [HN.out]; exact Nat.le_refl _)
      rw [htk] at ho
      obtain ⟨Bo, cc, hvs⟩ := own_shape ho
      subst hvs
      have HE := Lib.hid (show IntP w (withinF l k low) (.slice Bo (withinF l k low).length cc) wr from ⟨Bo, cc, rfl, ho, hbr⟩)
      clear ho hbr hnil HI
      go_wp2_with fail
      go_ret
      exact ⟨_, rfl, HE.out⟩
end Go.Proofs.Ytpfceebmiolpeaa.Pl
