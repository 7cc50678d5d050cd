import Derived.Test.YtakomfnajeolcaaGreatDoorCtA21
set_option linter.unusedVariables false
/- Moving buckets to a coarser schema: coarser. -/
/-! slices.Concat of rows of buckets. -/
namespace Go.Proofs.YtakomfnajeolcaaGreatDoor
open Go.RowKit Go.Sort
set_option linter.unusedVariables false

/-- a slice of slices of buckets -/
def Ls (w : World) (P : Option Addr) (ls : List (List (Int × Int))) : Prop :=
  ls.length ≤ 9223372036854775807 ∧ (ls.length = 0 ∨ ∃ b off, P = some ⟨b, off, none⟩ ∧ ∀ (j : Nat) (l : List (Int × Int)), ls[j]? = some l → ∃ A c, w.cell? ⟨b, off + j, none⟩ = some (.slice A l.length c) ∧ Bk w A l)
theorem Ls.some_ {w : World} {P : Option Addr} {ls : List (List (Int × Int))} (h : Ls w P ls) (h0 : 0 < ls.length) : ∃ b off, P = some ⟨b, off, none⟩ ∧ ∀ (j : Nat) (l : List (Int × Int)), ls[j]? = some l → ∃ A c, w.cell? ⟨b, off + j, none⟩ = some (.slice A l.length c) ∧ Bk w A l := by
  rcases h.2 with h | h
  · omega
  · exact h
theorem Ls.kept {w w' : World} {P : Option Addr} {ls : List (List (Int × Int))} (h : Ls w P ls) (k : Kept w w') : Ls w' P ls := by
  refine ⟨h.1, ?_⟩
  rcases h.2 with h0 | ⟨b, off, e, hc⟩
  · exact .inl h0
  · refine .inr ⟨b, off, e, fun j l hj => ?_⟩
    obtain ⟨A, c, h1, h2⟩ := hc j l hj
    exact ⟨A, c, k _ _ h1, h2.kept k⟩
/-- the buckets of the first k parts -/
def flK (ls : List (List (Int × Int))) (k : Nat) : List (Int × Int) := (ls.take k).flatten
theorem flK_all (ls : List (List (Int × Int))) : flK ls ls.length = ls.flatten := by unfold flK; rw [List.take_length]
theorem flK_snoc {ls : List (List (Int × Int))} {k : Nat} {l : List (Int × Int)} (h : ls[k]? = some l) : flK ls (k + 1) = flK ls k ++ l := by
  unfold flK
  rw [take_snoc ls k l h, List.flatten_append]
  simp
theorem flK_le (ls : List (List (Int × Int))) (k : Nat) : (flK ls k).length ≤ (flK ls ls.length).length := by
  have : flK ls ls.length = flK ls k ++ (ls.drop k).flatten := by
    rw [flK_all]
    unfold flK
    rw [← List.flatten_append, List.take_append_drop]
  rw [this, List.length_append]
  exact Nat.le_add_right _ _
theorem Ls.wb {w : World} {P : Option Addr} {ls : List (List (Int × Int))} (h : Ls w P ls) : ∀ p ∈ ls.flatten, Wb p := by
  intro p hp
  obtain ⟨l, hl, hpl⟩ := List.mem_flatten.1 hp
  obtain ⟨k, hk, rfl⟩ := List.getElem_of_mem hl
  obtain ⟨b, off, e, hc⟩ := h.some_ (by omega)
  obtain ⟨A, c, _, hB⟩ := hc k ls[k] (List.getElem?_eq_getElem hk)
  exact hB.2.1 p hpl
def ConP (w : World) (Z : List (Int × Int)) (e : Ending) (w' : World) : Prop := ∃ A c', e = .returned (.slice A Z.length c') ∧ Bk w' A Z ∧ Below w.heap.size w w'
set_option maxHeartbeats 2000000 in
set_option maxRecDepth 100000 in
theorem concat_any (P : Option Addr) (c : Nat) (ls : List (List (Int × Int))) (w : World) (hS : Ls w P ls) (hn : (flK ls ls.length).length ≤ 100000) :
    Calls Tryz.prog 182 #[.slice P ls.length c] w (ConP w (flK ls ls.length)) := by
  have H0 := Lib.hid hS
  have hlen := hS.1
  have hwb := hS.wb
  have HLE := Lib.hid (flK_le ls)
  obtain ⟨N, hN⟩ : ∃ N, (flK ls ls.length).length = N := ⟨_, rfl⟩
  rw [hN] at hn HLE
  rw [← flK_all] at hwb
  have H8 := Lib.hid hwb
  have HN := Lib.hid hN
  have hNi : (N : Int) ≤ 100000 := by omega
  clear hS hwb hN
  go_enter Tryz.func182, Tryz.ntmps182
  go_wp2_with fail
  go_loopw [3, 11] (fun v i wr => ∃ k : Nat, k ≤ ls.length ∧ v = .int .i64 (((flK ls k).length : Nat) : Int) ∧ i = .int .i64 k ∧ w = wr) (fun _ i _ => ls.length - (intOf i).toNat)
  case atStart => exact ⟨0, by omega, rfl, rfl, rfl⟩
  case round =>
    obtain ⟨k, hk, rfl, rfl, rfl⟩ := hrel
    by_cases hlt : k < ls.length
    · have hki : (k : Int) < (ls.length : Int) := by omega
      obtain ⟨b, off, rfl, hc⟩ := H0.out.some_ (by omega)
      obtain ⟨l, hl⟩ := getElem?_lt hlt
      obtain ⟨A, cA, q1, q2⟩ := hc k l hl
      have hs : (flK ls (k + 1)).length = (flK ls k).length + l.length := by rw [flK_snoc hl, List.length_append]
      have hsl := HLE.out (k + 1)
      have hsm : (((flK ls k).length : Nat) : Int) + (l.length : Int) ≤ 100000 := by omega
      have HS := Lib.hid hs
      clear hc hl q2 hs hsl
      go_wp2_with fail
      go_roundw
      case rel => exact ⟨k + 1, by omega, ret_val (by rw [HS.out]; omega), ret_val (by omega), by simp⟩
      case measure => simp [intOf] <;> omega
    · obtain rfl : k = ls.length := by omega
      have hki : ¬ ((ls.length : Int) < (ls.length : Int)) := by omega
      rw [HN.out]
      go_wp2_with fail
      refine (grow_any N _ (by omega)).mono ?_
      rintro e w1 ⟨AG, cG, rfl, hown, hg1⟩
      obtain ⟨g0, hg0⟩ : ∃ v, Value.slice AG 0 cG = v := ⟨_, rfl⟩
      rw [hg0] at hown ⊢
      have HO := Lib.hid hown
      have HG := Lib.hid hg1
      clear hown hg1 hg0
      go_wp2_with fail
      go_loopw [6, 27] (fun v i wr => ∃ k : Nat, k ≤ ls.length ∧ i = .int .i64 k ∧ wr.ownsRow w.heap.size 86 2 v (flK ls k).length (cellsL (flK ls k)) ∧ Below w.heap.size w wr) (fun _ i _ => ls.length - (intOf i).toNat)
      case atStart => exact ⟨0, by omega, rfl, HO.out, HG.out⟩
      case round =>
        obtain ⟨k, hk, rfl, hown, hg⟩ := hrel
        have HO := Lib.hid hown
        clear hown
        by_cases hlt : k < ls.length
        · have hki : (k : Int) < (ls.length : Int) := by omega
          obtain ⟨b, off, rfl, hc⟩ := (H0.out.kept (Kept.of_below hg)).some_ (by omega)
          obtain ⟨l, hl⟩ := getElem?_lt hlt
          obtain ⟨A, cA, q1, q2⟩ := hc k l hl
          have HS := Lib.hid (flK_snoc hl)
          have Q2 := Lib.hid q2
          have HL1 := Lib.hid (HLE.out (k + 1))
          clear hc hl q2
          go_wp2_with (at_builtin; refine app_bks rfl _ _ rfl w.heap.size u6 (flK ls k).length (flK ls k) rfl ?c0 A l.length cA l rfl rfl ?c1 ?c2 ?c3 ?_)
          case c0 => exact HO.out
          case c1 => exact Q2.out
          case c2 =>
            have := HL1.out
            rw [HS.out, List.length_append] at this
            omega
          case c3 => exact hg.size
          intro A1 c1 w1 hown hgrow
          have hg1 : Below w.heap.size w w1 := below_own hg hg.size HO.out hgrow
          rw [← HS.out] at hown
          have hN : (flK ls k).length + l.length = (flK ls (k + 1)).length := by rw [HS.out, List.length_append]
          rw [hN] at hown
          rw [hN]
          have HO1 := Lib.hid hown
          clear hown hgrow hN
          go_wp2_with fail
          go_roundw
          case rel => exact ⟨k + 1, by omega, ret_val (by omega), HO1.out, hg1⟩
          case measure => simp [intOf] <;> omega
        · obtain rfl : k = ls.length := by omega
          have hki : ¬ ((ls.length : Int) < (ls.length : Int)) := by omega
          have hown := HO.out
          rw [HN.out] at hown
          obtain ⟨A, c', rfl⟩ := ownB_shape hown
          have HSS := Lib.hid (own_bk hown H8.out (by rw [HN.out]; omega))
          clear hown HO
          go_wp2_with fail
          go_ret
          exact ⟨A, c', by rw [HN.out]; rfl, HSS.out, hg⟩
theorem flK_two (X Y : List (Int × Int)) : flK [X, Y] 2 = X ++ Y := by simp [flK]
theorem ls_two {w : World} {g : Nat} {A B : Option Addr} {n m c d : Nat} {X Y : List (Int × Int)} (hn : n = X.length) (hm : m = Y.length) (hX : Bk w A X) (hY : Bk w B Y) (h0 : w.cell? ⟨g, 0, none⟩ = some (.slice A n c)) (h1 : w.cell? ⟨g, 1, none⟩ = some (.slice B m d)) : Ls w (some ⟨g, 0, none⟩) [X, Y] := by
  subst hn hm
  refine ⟨by simp, .inr ⟨g, 0, rfl, fun j l hj => ?_⟩⟩
  match j, hj with
  | 0, hj => simp at hj; subst hj; exact ⟨A, c, h0, hX⟩
  | 1, hj => simp at hj; subst hj; exact ⟨B, d, h1, hY⟩
theorem concat_two (g cap : Nat) (A B : Option Addr) (c d : Nat) (X Y Z : List (Int × Int)) (w : World) (hX : Bk w A X) (hY : Bk w B Y) (h0 : w.cell? ⟨g, 0, none⟩ = some (.slice A X.length c)) (h1 : w.cell? ⟨g, 1, none⟩ = some (.slice B Y.length d)) (hZ : X ++ Y = Z) (hl : Z.length ≤ 100000) :
    Calls Tryz.prog 182 #[.slice (some ⟨g, 0, none⟩) 2 cap] w (ConP w Z) := by
  have := concat_any (some ⟨g, 0, none⟩) cap [X, Y] w (ls_two rfl rfl hX hY h0 h1) (by show (flK [X, Y] 2).length ≤ _; rw [flK_two, hZ]; exact hl)
  have e : flK [X, Y] [X, Y].length = Z := by show flK [X, Y] 2 = Z; rw [flK_two, hZ]
  rw [e] at this
  exact this
end Go.Proofs.YtakomfnajeolcaaGreatDoor

/-! Moving buckets to a coarser schema: coarser. -/
namespace Go.Proofs.YtakomfnajeolcaaGreatDoor
open Go.RowKit Go.Sort
set_option linter.unusedVariables false

theorem cellsL_seti : ∀ (X : List (Int × Int)) (j : Nat) (p : Int × Int) (v : Int), X[j]? = some p → (cellsL X).set (j * 2) (.int .i64 v) = cellsL (X.set j (v, p.2))
  | [], j, p, v, h => by simp at h
  | a :: r, 0, p, v, h => by simp at h; subst h; rfl
  | a :: r, j + 1, p, v, h => by
    have ih := cellsL_seti r j p v (by simpa using h)
    have e : (j + 1) * 2 = j * 2 + 1 + 1 := by omega
    rw [e]
    show (encB a ++ cellsL r).set _ _ = encB a ++ cellsL (r.set j (v, p.2))
    rw [← ih]
    rfl
theorem cellsL_setc : ∀ (X : List (Int × Int)) (j : Nat) (p : Int × Int) (v : Int), X[j]? = some p → (cellsL X).set (j * 2 + 1) (.int .u64 v) = cellsL (X.set j (p.1, v))
  | [], j, p, v, h => by simp at h
  | a :: r, 0, p, v, h => by simp at h; subst h; rfl
  | a :: r, j + 1, p, v, h => by
    have ih := cellsL_setc r j p v (by simpa using h)
    have e : (j + 1) * 2 + 1 = j * 2 + 1 + 1 + 1 := by omega
    rw [e]
    show (encB a ++ cellsL r).set _ _ = encB a ++ cellsL (r.set j (p.1, v))
    rw [← ih]
    rfl
/-- the first k buckets moved -/
def mvK (f t : Int) (l : List (Int × Int)) (k : Nat) : List (Int × Int) := mv f t (l.take k) ++ l.drop k
theorem mvK_length (f t : Int) (l : List (Int × Int)) (k : Nat) : (mvK f t l k).length = l.length := by
  unfold mvK mv
  simp
  omega
theorem mvK_all (f t : Int) (l : List (Int × Int)) : mvK f t l l.length = mv f t l := by unfold mvK; simp
theorem mvK_at {f t : Int} {l : List (Int × Int)} {k : Nat} {p : Int × Int} (h : l[k]? = some p) : (mvK f t l k)[k]? = some p := by
  have hk := (List.getElem?_eq_some_iff.1 h).1
  unfold mvK
  have e : (mv f t (l.take k)).length = k := by rw [mv_length, List.length_take]; omega
  rw [List.getElem?_append_right (by omega), e, List.getElem?_drop]
  simpa using h
theorem mvK_set {f t : Int} {l : List (Int × Int)} {k : Nat} {p : Int × Int} (h : l[k]? = some p) : (mvK f t l k).set k (toV f t p.1, p.2) = mvK f t l (k + 1) := by
  have hk := (List.getElem?_eq_some_iff.1 h).1
  unfold mvK
  have e : (mv f t (l.take k)).length = k := by rw [mv_length, List.length_take]; omega
  rw [List.set_append_right _ _ (by omega), e, Nat.sub_self, take_snoc l k p h]
  have e2 : l.drop k = p :: l.drop (k + 1) := by
    rw [List.drop_eq_getElem_cons hk]
    obtain ⟨_, h2⟩ := List.getElem?_eq_some_iff.1 h
    rw [h2]
  rw [e2, List.set_cons_zero]
  unfold mv
  simp
/-- a row of a block of its own, read as buckets -/
def RowB (w0 w : World) (g c : Nat) (X : List (Int × Int)) : Prop := w.ownsRow w0.heap.size 86 2 (.slice (some ⟨g, 0, none⟩) X.length c) X.length (cellsL X) ∧ Below w0.heap.size w0 w
theorem RowB.at {w0 w : World} {g c : Nat} {X : List (Int × Int)} (h : RowB w0 w g c X) {k : Nat} {p : Int × Int} (hp : X[k]? = some p) :
    w.cell? ⟨g, k * 2, none⟩ = some (.int .i64 p.1) ∧ w.cell? ⟨g, k * 2 + 1, none⟩ = some (.int .u64 p.2) ∧ w.frozen? ⟨g, k * 2, none⟩ = false ∧ w.frozen? ⟨g, k * 2 + 1, none⟩ = false ∧ g < w.heap.size := by
  have hk := (List.getElem?_eq_some_iff.1 hp).1
  obtain ⟨a, b⟩ := cellsL_at X k p hp
  have c0 := h.1.cellAt (k * 2) (by omega)
  have c1 := h.1.cellAt (k * 2 + 1) (by omega)
  rw [a] at c0
  rw [b] at c1
  exact ⟨c0, c1, h.1.frozenAt _, h.1.frozenAt _, (h.1.lt g rfl).2⟩
theorem RowB.set {w0 w : World} {g c : Nat} {X : List (Int × Int)} (h : RowB w0 w g c X) (hs : w0.heap.size ≤ w.heap.size) (j : Nat) (u : Value) (Y : List (Int × Int)) (hY : (cellsL X).set j u = cellsL Y) (hl : Y.length = X.length) : RowB w0 (w.setCell ⟨g, j, none⟩ u) g c Y := by
  obtain ⟨a, b⟩ := h.1.stored j u
  have hg := (h.1.lt g rfl).1
  rw [hY, ← hl] at a
  exact ⟨a, h.2.grown b hs (fun k hk => by injection hk with hk; omega)⟩
theorem RowB.bk {w0 w : World} {g c : Nat} {X : List (Int × Int)} (h : RowB w0 w g c X) (hw : ∀ p ∈ X, Wb p) (hl : X.length ≤ 1000000) : Bk w (some ⟨g, 0, none⟩) X := own_bk h.1 hw hl
/-- a row of a block of its own, or none -/
def OwnC (w0 w : World) (A : Option Addr) (c : Nat) (X : List (Int × Int)) : Prop := w.ownsRow w0.heap.size 86 2 (.slice A X.length c) X.length (cellsL X) ∧ Below w0.heap.size w0 w
theorem OwnC.some_ {w0 w : World} {A : Option Addr} {c : Nat} {X : List (Int × Int)} (h : OwnC w0 w A c X) (h0 : 0 < X.length) : ∃ g, A = some ⟨g, 0, none⟩ := by
  obtain ⟨g, cap', hv, _, _⟩ := h.1.form (by omega)
  injection hv with e1 e2 e3
  exact ⟨g, e1⟩
theorem OwnC.set {w0 w : World} {g c : Nat} {X : List (Int × Int)} (h : OwnC w0 w (some ⟨g, 0, none⟩) c X) (j : Nat) (u : Value) (Y : List (Int × Int)) (hY : (cellsL X).set j u = cellsL Y) (hl : Y.length = X.length) : OwnC w0 (w.setCell ⟨g, j, none⟩ u) (some ⟨g, 0, none⟩) c Y := RowB.set (g := g) h h.2.size j u Y hY hl
theorem OwnC.alloc {w0 w : World} {A : Option Addr} {c : Nat} {X : List (Int × Int)} (h : OwnC w0 w A c X) (o : Obj) : OwnC w0 (w.alloc o) A c X := ⟨h.1.alloc o, h.2.alloc h.2.size o⟩
theorem OwnC.new {w0 w : World} {A : Option Addr} {c : Nat} {X : List (Int × Int)} (h : OwnC w0 w A c X) : NewA w0 A := fun a ha => (h.1.lt a.block (by rw [ha]; rfl)).1
theorem OwnC.bk {w0 w : World} {A : Option Addr} {c : Nat} {X : List (Int × Int)} (h : OwnC w0 w A c X) (hw : ∀ p ∈ X, Wb p) (hl : X.length ≤ 1000000) : Bk w A X := own_bk h.1 hw hl
def CoarseP (w : World) (X : List (Int × Int)) (e : Ending) (w' : World) : Prop := ∃ A c, e = .returned (.slice A X.length c) ∧ Bk w' A X ∧ Below w.heap.size w w' ∧ NewA w A
theorem mv_wb {f t : Int} {l : List (Int × Int)} (hl : ∀ p ∈ l, Wb p) (hi : ∀ p ∈ l, inB f p.1 = true) : ∀ p ∈ mv f t l, Wb p := fun p hp => by
  obtain ⟨q, hq, rfl⟩ := mem_mv hp
  have := to_bd (t := t) (hi q hq)
  obtain ⟨_, _, a, b⟩ := hl q hq
  exact ⟨by simp only; omega, by simp only; omega, a, b⟩
set_option maxHeartbeats 2000000 in
set_option maxRecDepth 100000 in
theorem coarser_any (f t : Int) (A : Option Addr) (c : Nat) (l : List (Int × Int)) (w : World) (hP : Bk w A l) (hl : l.length ≤ 1000) (hft : okTo f t = true) (hi : ∀ p ∈ l, inB f p.1 = true) :
    Calls Tryz.prog 166 #[.slice A l.length c, .int .i64 f, .int .i64 t] w (CoarseP w (mv f t l)) := by
  have HP := Lib.hid hP
  have HI := Lib.hid hi
  have HF := Lib.hid hft
  have hlen : (l.length : Int) ≤ 1000 := by omega
  clear hP hi hft
  go_enter Tryz.func166, Tryz.ntmps166
  go_wp2_with fail
  refine (cloneB_any _ _ _ _ HP.out (by omega)).mono ?_
  rintro e w1 ⟨A1, c1, rfl, ⟨ho, hb⟩, hb1⟩
  have HO := Lib.hid ho
  have HB1 := Lib.hid hb1
  clear ho hb hb1
  go_wp2_with fail
  go_loopw [14] (fun i wr => ∃ k : Nat, k ≤ l.length ∧ i = .int .i64 k ∧ OwnC w wr A1 c1 (mvK f t l k)) (fun i _ => l.length - (intOf i).toNat)
  case atStart => exact ⟨0, by omega, rfl, HO.out, HB1.out⟩
  case round =>
    obtain ⟨k, hk, rfl, hR⟩ := hrel
    have HR := Lib.hid hR
    clear hR
    by_cases hlt : k < l.length
    · have hki : (k : Int) < (l.length : Int) := by omega
      obtain ⟨b, off, rfl, hc⟩ := (HP.out.below HR.out.2).some_ (by omega)
      obtain ⟨p, hp⟩ := getElem?_lt hlt
      obtain ⟨q1, q2⟩ := hc k p hp
      obtain ⟨g, rfl⟩ := HR.out.some_ (by rw [mvK_length]; omega)
      obtain ⟨m0, m1, m2, m3, m4⟩ := RowB.at ⟨HR.out.1, HR.out.2⟩ (mvK_at (f := f) (t := t) hp)
      have HI1 := Lib.hid (HI.out p (mem_of_at hp))
      have HS := Lib.hid ((HR.out.set (k * 2) (.int .i64 (toV f t p.1)) (mvK f t l (k + 1)) (by rw [← mvK_set hp]; exact cellsL_seti _ k p _ (mvK_at hp)) (by rw [mvK_length, mvK_length])).alloc (.cells #[.int .i64 p.1, .int .u64 p.2] 86))
      obtain ⟨pi, pc⟩ := p
      simp only at q1 q2 m0 m1 HI1 HS
      have hlb := block_lt_of_cell q1
      simp only at hlb
      clear hc hp
      go_wp2_with fail
      refine (to_yes f t pi _ HF.out HI1.out).mono ?_
      rintro e w2 ⟨rfl, rfl⟩
      go_wp2_with fail
      go_roundw
      case rel => exact ⟨k + 1, by omega, by go_num, HS.out⟩
      case measure => simp [intOf]; omega
    · obtain rfl : k = l.length := by omega
      have hki : ¬ ((l.length : Int) < (l.length : Int)) := by omega
      have h1 := HR.out
      rw [mvK_all] at h1
      have H1 := Lib.hid (h1.bk (mv_wb HP.out.2.1 HI.out) (by rw [mv_length]; omega))
      have H2 := Lib.hid (And.intro h1.2 h1.new)
      clear h1 HR
      go_wp2_with fail
      go_ret
      exact ⟨A1, c1, by rw [mv_length]; rfl, H1.out, H2.out⟩
end Go.Proofs.YtakomfnajeolcaaGreatDoor


/- slices.Concat of rows of numbers. -/
namespace Go.Proofs.YtakomfnajeolcaaGreatDoor.Ch
open Go.RowKit Go.Sort
set_option linter.unusedVariables false

theorem ownU_shape {w : World} {base n : Nat} {v : Value} {X : List Value} (h : w.ownsRow base 36 1 v n X) : ∃ A c, v = .slice A n c := by
  rcases h.2 with ⟨rfl, h0⟩ | ⟨g, cap, _, rfl, _⟩
  · exact ⟨none, 0, by rw [h0]⟩
  · exact ⟨_, cap, rfl⟩
theorem u_none {w : World} {l : List Int} (h : Tk.Cl w none (Tk.intsC .u64 l)) : l = [] := by
  rcases h with h | ⟨b, o, e, _⟩
  · simpa [Tk.intsC] using h
  · cases e
theorem intsC_app (k : IntKind) (a b : List Int) : Tk.intsC k (a ++ b) = Tk.intsC k a ++ Tk.intsC k b := by simp [Tk.intsC]
theorem intsC_len (k : IntKind) (a : List Int) : (Tk.intsC k a).length = a.length := by simp [Tk.intsC]
theorem intsC_one (k : IntKind) (a : List Int) : ∀ v ∈ Tk.intsC k a, v.oneCell' = true := fun v hv => by
  unfold Tk.intsC at hv
  obtain ⟨x, _, rfl⟩ := List.mem_map.1 hv
  rfl
/-- append(x, s...) at []uint64 -/
theorem app_us {ops : Array Oper} {rest : List Oper} {o : Oper} {a : Act} {w : World} {Q : Exit → Act → World → Prop} (hgd : o.guard = none) (s x : Operand)
    (ho : o.op = .call { callee := .builtin .append, args := #[s, x], argTypes := #[64, 64] })
    (base : Nat) (v : Value) (n : Nat) (X : List Int) (hs : a.eval s = v) (hown : w.ownsRow base 36 1 v n (Tk.intsC .u64 X))
    (A : Option Addr) (m c : Nat) (l : List Int) (hx : a.eval x = .slice A m c) (hm : m = l.length) (hS : Tk.Cl w A (Tk.intsC .u64 l)) (hl : n + m ≤ 1000000) (hbase : base ≤ w.heap.size)
    (h : ∀ A' c' w', w'.ownsRow base 36 1 (.slice A' (n + m) c') (n + m) (Tk.intsC .u64 (X ++ l)) → w.grownBy w' v.ownBlock → wpList Tryz.prog ops Q rest (a.put o.dst (.slice A' (n + m) c')) w') : wpList Tryz.prog ops Q (o :: rest) a w := by
  obtain ⟨i0, hi, hz0, hz1, hz2⟩ := info_parts Tk.infoU
  subst hm
  cases A with
  | none =>
    obtain rfl := u_none hS
    obtain ⟨A', c', rfl⟩ := ownU_shape hown
    refine wpList_plain hgd fun K hK => ?_
    have hrun : (Builtin.append_ #[64, 64] o.type #[.slice A' n c', .slice none 0 c]).run Tryz.prog w = .ok (.slice A' n c') w := by
      rcases hown.2 with ⟨he, hn⟩ | ⟨g, cap, cur, he, _, _, hnc, _⟩
      · rw [he]; simp [Builtin.append_, run_underlying Tryz.underlying64, sizeOf, typeInfo, hi, Builtin.lenOf, Builtin.firstCells]
      · rw [he]; simp [Builtin.append_, run_underlying Tryz.underlying64, sizeOf, typeInfo, hi, Builtin.lenOf, Builtin.firstCells, hnc, storeCells]
    have hh := h A' c' w (by simpa using hown) (World.grownBy.refl w _)
    simp only [List.length_nil, Nat.add_zero] at hh hx
    unfold Oper.wp
    simp [execOp, ho, resolve, invoke, builtin, hs, hx, hrun, Result.andThen]
    exact hK _ _ hh
  | some ad =>
    refine wpList_append_own w hgd s x 64 ho base 36 i0 (.int .u64 0) 1 8 Tryz.underlying64 hi hz0 hz1 hz2 rfl (by decide) v n (Tk.intsC .u64 X) hs hown ad l.length c (Tk.intsC .u64 l) hx (by rw [intsC_len, Nat.mul_one]) (fun j u hu => Tk.Cl.src hS j u hu) (intsC_one .u64 l) (by unfold maxLen; omega) (by omega) hbase ?_
    intro v' w' h1 h2 _
    rw [← intsC_app] at h1
    obtain ⟨A', c', rfl⟩ := ownU_shape h1
    exact h A' c' w' h1 h2
def GrowU (w : World) (e : Ending) (w' : World) : Prop := ∃ A c, e = .returned (.slice A 0 c) ∧ w'.ownsRow w.heap.size 36 1 (.slice A 0 c) 0 (Tk.intsC .u64 []) ∧ Below w.heap.size w w'
set_option maxRecDepth 100000 in
theorem growU_zero (w : World) :
    Calls Tryz.prog 90 #[.slice none 0 0, .int .i64 0] w (GrowU w) := by
  go_enter Tryz.func90, Tryz.ntmps90
  go_wp2_with fail
  go_ret
  exact ⟨none, 0, rfl, World.ownsRow_nil _ _ _ _, Below.refl _ _⟩
set_option maxRecDepth 100000 in
theorem growU_some (n : Nat) (w : World) (h0 : 0 < n) (hn : n ≤ 1000000) :
    Calls Tryz.prog 90 #[.slice none 0 0, .int .i64 (n : Int)] w (GrowU w) := by
  obtain ⟨i0, hi, hz0, hz1, hz2⟩ := info_parts Tk.infoU
  have hr := Lib.run_append_nil_zeros (P := Tryz.prog) w 64 3 64 36 i0 (.int .u64 0) .i64 .i64 Tryz.underlying64 Tryz.underlying3 hi hz0 n h0 (by omega) (by omega) (by rw [hz2]; omega)
  have HR := Lib.hid hr
  have hni : 0 < (n : Int) := by omega
  have hnm : (n : Int) ≤ 1000000 := by omega
  clear hr
  go_enter Tryz.func90, Tryz.ntmps90
  go_wp2_with (at_builtin; refine Lib.wpList_append_run _ rfl _ _ _ _ rfl _ _ rfl rfl _ _ HR.out ?_)
  go_ret
  have hge := grownCap_ge w n 0 36
  have hle := grownCap_le_maxLen w n 0 36 (by unfold maxLen; omega)
  refine ⟨_, _, rfl, ⟨by simp [Tk.intsC], .inr ⟨w.heap.size, _, _, rfl, Nat.le_refl _, heap_alloc_new w _, by omega, hle, ?_, by simp [Tk.intsC]⟩⟩, Below.drew ((Below.refl _ _).alloc (Nat.le_refl _) _)⟩
  simp [size_zeroCells]
  try omega
theorem growU_any (n : Nat) (w : World) (hn : n ≤ 1000000) :
    Calls Tryz.prog 90 #[.slice none 0 0, .int .i64 (n : Int)] w (GrowU w) := by
  by_cases h0 : n = 0
  · subst h0; exact growU_zero w
  · exact growU_some n w (by omega) hn
def flU (ls : List (List Int)) (k : Nat) : List Int := (ls.take k).flatten
theorem flU_all (ls : List (List Int)) : flU ls ls.length = ls.flatten := by unfold flU; rw [List.take_length]
theorem flU_snoc {ls : List (List Int)} {k : Nat} {l : List Int} (h : ls[k]? = some l) : flU ls (k + 1) = flU ls k ++ l := by
  unfold flU; rw [take_snoc ls k l h, List.flatten_append]; simp
theorem flU_le (ls : List (List Int)) (k : Nat) : (flU ls k).length ≤ (flU ls ls.length).length := by
  rw [flU_all]
  unfold flU
  have h := congrArg (fun x => (List.flatten x).length) (List.take_append_drop k ls)
  simp only [List.flatten_append, List.length_append] at h
  omega
def ConU (w : World) (Z : List Int) (e : Ending) (w' : World) : Prop := ∃ A c', e = .returned (.slice A Z.length c') ∧ w'.ownsRow w.heap.size 36 1 (.slice A Z.length c') Z.length (Tk.intsC .u64 Z) ∧ Below w.heap.size w w'
set_option maxHeartbeats 2000000 in
set_option maxRecDepth 100000 in
theorem concatU_any (P : Option Addr) (n c : Nat) (ls : List (List Int)) (w : World) (hS : Rw w P ls) (hnl : n = ls.length) (hn : (flU ls ls.length).length ≤ 100000) (hn9 : n ≤ 1000000) :
    Calls Tryz.prog 59 #[.slice P n c] w (ConU w (flU ls ls.length)) := by
  subst hnl
  have H0 := Lib.hid hS
  have HLE := Lib.hid (flU_le ls)
  obtain ⟨N, hN⟩ : ∃ N, (flU ls ls.length).length = N := ⟨_, rfl⟩
  rw [hN] at hn HLE
  have HN := Lib.hid hN
  have hNi : (N : Int) ≤ 100000 := by omega
  clear hS hN
  go_enter Tryz.func59, Tryz.ntmps59
  go_wp2_with fail
  go_loopw [3, 11] (fun v i wr => ∃ k : Nat, k ≤ ls.length ∧ v = .int .i64 (((flU ls k).length : Nat) : Int) ∧ i = .int .i64 k ∧ w = wr) (fun _ i _ => ls.length - (intOf i).toNat)
  case atStart => exact ⟨0, by omega, rfl, rfl, rfl⟩
  case round =>
    obtain ⟨k, hk, rfl, rfl, rfl⟩ := hrel
    by_cases hlt : k < ls.length
    · have hki : (k : Int) < (ls.length : Int) := by omega
      obtain ⟨l, hl⟩ := getElem?_lt hlt
      obtain ⟨b, off, A, cA, rfl, q1, q2⟩ := H0.out.at_ hl
      have hs : (flU ls (k + 1)).length = (flU ls k).length + l.length := by rw [flU_snoc hl, List.length_append]
      have hsl := HLE.out (k + 1)
      have hsm : (((flU ls k).length : Nat) : Int) + (l.length : Int) ≤ 100000 := by omega
      have HS := Lib.hid hs
      clear q2 hs hsl
      go_wp2_with fail
      go_roundw
      case rel => exact ⟨k + 1, by omega, ret_val (by rw [HS.out]; omega), ret_val (by omega), by simp⟩
      case measure => simp [intOf] <;> omega
    · obtain rfl : k = ls.length := by omega
      have hki : ¬ ((ls.length : Int) < (ls.length : Int)) := by omega
      rw [HN.out]
      go_wp2_with fail
      refine (growU_any N _ (by omega)).mono ?_
      rintro e w1 ⟨AG, cG, rfl, hown, hg1⟩
      obtain ⟨g0, hg0⟩ : ∃ v, Value.slice AG 0 cG = v := ⟨_, rfl⟩
      rw [hg0] at hown ⊢
      have HO := Lib.hid hown
      have HG := Lib.hid hg1
      clear hown hg1 hg0
      go_wp2_with fail
      go_loopw [6, 27] (fun v i wr => ∃ k : Nat, k ≤ ls.length ∧ i = .int .i64 k ∧ wr.ownsRow w.heap.size 36 1 v (flU ls k).length (Tk.intsC .u64 (flU ls k)) ∧ Below w.heap.size w wr) (fun _ i _ => ls.length - (intOf i).toNat)
      case atStart => exact ⟨0, by omega, rfl, HO.out, HG.out⟩
      case round =>
        obtain ⟨k, hk, rfl, hown, hg⟩ := hrel
        have HO := Lib.hid hown
        clear hown
        by_cases hlt : k < ls.length
        · have hki : (k : Int) < (ls.length : Int) := by omega
          obtain ⟨l, hl⟩ := getElem?_lt hlt
          obtain ⟨b, off, A, cA, rfl, q1, q2⟩ := (H0.out.below hg).at_ hl
          have HS := Lib.hid (flU_snoc hl)
          have Q2 := Lib.hid q2
          have HL1 := Lib.hid (HLE.out (k + 1))
          clear hl q2
          go_wp2_with (at_builtin; refine app_us rfl _ _ rfl w.heap.size u6 (flU ls k).length (flU ls k) rfl ?c0 A l.length cA l rfl rfl ?c1 ?c2 ?c3 ?_)
          case c0 => exact HO.out
          case c1 => exact Q2.out
          case c2 =>
            have := HL1.out
            rw [HS.out, List.length_append] at this
            omega
          case c3 => exact hg.size
          intro A1 c1 w1 hown hgrow
          have hg1 : Below w.heap.size w w1 := below_own hg hg.size HO.out hgrow
          rw [← HS.out] at hown
          have hN : (flU ls k).length + l.length = (flU ls (k + 1)).length := by rw [HS.out, List.length_append]
          rw [hN] at hown
          rw [hN]
          have HO1 := Lib.hid hown
          clear hown hgrow hN
          go_wp2_with fail
          go_roundw
          case rel => exact ⟨k + 1, by omega, ret_val (by omega), HO1.out, hg1⟩
          case measure => simp [intOf] <;> omega
        · obtain rfl : k = ls.length := by omega
          have hki : ¬ ((ls.length : Int) < (ls.length : Int)) := by omega
          have hown := HO.out
          rw [HN.out] at hown
          obtain ⟨A, c', rfl⟩ := ownU_shape hown
          have HSS := Lib.hid hown
          clear hown HO
          go_wp2_with fail
          go_ret
          exact ⟨A, c', by rw [HN.out]; rfl, by rw [HN.out]; exact HSS.out, hg⟩
end Go.Proofs.YtakomfnajeolcaaGreatDoor.Ch
