/- Moving buckets to a coarser schema: coarser. -/
import Derived.Test.YtofaciagkkipbaaMdE
namespace Go.Proofs.Ytofaciagkkipbaa
open Go.RowKit Go.Sort
set_option linter.unusedVariables false

theorem cellsL_seti : ∀ (X : List (Int × Int)) (j : Nat) (p : Int × Int) (v : Int), X[j]? = some p → (cellsL X).set (j * 2) (.int .i64 v) = cellsL (X.set j (v, p.2))
  | [], j, p, v, h => by simp at h
  | a :: r, 0, p, v, h => by simp at h; subst h; rfl
  | a :: r, j + 1, p, v, h => by
    have ih := cellsL_seti r j p v (by simpa using h)
    have e : (j + 1) * 2 = j * 2 + 1 + 1 := by omega
    rw [e]
    show (encB a ++ cellsL r).set _ _ = encB a ++ cellsL (r.set j (v, p.2))
    rw [← ih]
    rfl
theorem cellsL_setc : ∀ (X : List (Int × Int)) (j : Nat) (p : Int × Int) (v : Int), X[j]? = some p → (cellsL X).set (j * 2 + 1) (.int .u64 v) = cellsL (X.set j (p.1, v))
  | [], j, p, v, h => by simp at h
  | a :: r, 0, p, v, h => by simp at h; subst h; rfl
  | a :: r, j + 1, p, v, h => by
    have ih := cellsL_setc r j p v (by simpa using h)
    have e : (j + 1) * 2 + 1 = j * 2 + 1 + 1 + 1 := by omega
    rw [e]
    show (encB a ++ cellsL r).set _ _ = encB a ++ cellsL (r.set j (p.1, v))
    rw [← ih]
    rfl
/-- the first k buckets moved -/
def mvK (f t : Int) (l : List (Int × Int)) (k : Nat) : List (Int × Int) := mv f t (l.take k) ++ l.drop k
theorem mvK_length (f t : Int) (l : List (Int × Int)) (k : Nat) : (mvK f t l k).length = l.length := by
  unfold mvK mv
  simp
  omega
theorem mvK_zero (f t : Int) (l : List (Int × Int)) : mvK f t l 0 = l := rfl
theorem mvK_all (f t : Int) (l : List (Int × Int)) : mvK f t l l.length = mv f t l := by unfold mvK; simp
theorem mvK_at {f t : Int} {l : List (Int × Int)} {k : Nat} {p : Int × Int} (h : l[k]? = some p) : (mvK f t l k)[k]? = some p := by
  have hk := (List.getElem?_eq_some_iff.1 h).1
  unfold mvK
  have e : (mv f t (l.take k)).length = k := by rw [mv_length, List.length_take]; omega
  rw [List.getElem?_append_right (by omega), e, List.getElem?_drop]
  simpa using h
theorem mvK_set {f t : Int} {l : List (Int × Int)} {k : Nat} {p : Int × Int} (h : l[k]? = some p) : (mvK f t l k).set k (toV f t p.1, p.2) = mvK f t l (k + 1) := by
  have hk := (List.getElem?_eq_some_iff.1 h).1
  unfold mvK
  have e : (mv f t (l.take k)).length = k := by rw [mv_length, List.length_take]; omega
  rw [List.set_append_right _ _ (by omega), e, Nat.sub_self, take_snoc l k p h]
  have e2 : l.drop k = p :: l.drop (k + 1) := by
    rw [List.drop_eq_getElem_cons hk]
    obtain ⟨_, h2⟩ := List.getElem?_eq_some_iff.1 h
    rw [h2]
  rw [e2, List.set_cons_zero]
  unfold mv
  simp
/-- a row of a block of its own, read as buckets -/
def RowB (w0 w : World) (g c : Nat) (X : List (Int × Int)) : Prop := w.ownsRow w0.heap.size 54 2 (.slice (some ⟨g, 0, none⟩) X.length c) X.length (cellsL X) ∧ Below w0.heap.size w0 w
theorem RowB.at {w0 w : World} {g c : Nat} {X : List (Int × Int)} (h : RowB w0 w g c X) {k : Nat} {p : Int × Int} (hp : X[k]? = some p) :
    w.cell? ⟨g, k * 2, none⟩ = some (.int .i64 p.1) ∧ w.cell? ⟨g, k * 2 + 1, none⟩ = some (.int .u64 p.2) ∧ w.frozen? ⟨g, k * 2, none⟩ = false ∧ w.frozen? ⟨g, k * 2 + 1, none⟩ = false ∧ g < w.heap.size := by
  have hk := (List.getElem?_eq_some_iff.1 hp).1
  obtain ⟨a, b⟩ := cellsL_at X k p hp
  have c0 := h.1.cellAt (k * 2) (by omega)
  have c1 := h.1.cellAt (k * 2 + 1) (by omega)
  rw [a] at c0
  rw [b] at c1
  exact ⟨c0, c1, h.1.frozenAt _, h.1.frozenAt _, (h.1.lt g rfl).2⟩
theorem RowB.set {w0 w : World} {g c : Nat} {X : List (Int × Int)} (h : RowB w0 w g c X) (hs : w0.heap.size ≤ w.heap.size) (j : Nat) (u : Value) (Y : List (Int × Int)) (hY : (cellsL X).set j u = cellsL Y) (hl : Y.length = X.length) : RowB w0 (w.setCell ⟨g, j, none⟩ u) g c Y := by
  obtain ⟨a, b⟩ := h.1.stored j u
  have hg := (h.1.lt g rfl).1
  rw [hY, ← hl] at a
  exact ⟨a, h.2.grown b hs (fun k hk => by injection hk with hk; omega)⟩
theorem RowB.bk {w0 w : World} {g c : Nat} {X : List (Int × Int)} (h : RowB w0 w g c X) (hw : ∀ p ∈ X, Wb p) (hl : X.length ≤ 1000000) : Bk w (some ⟨g, 0, none⟩) X := own_bk h.1 hw hl
/-- a row of a block of its own, or none -/
def OwnC (w0 w : World) (A : Option Addr) (c : Nat) (X : List (Int × Int)) : Prop := w.ownsRow w0.heap.size 54 2 (.slice A X.length c) X.length (cellsL X) ∧ Below w0.heap.size w0 w
theorem OwnC.some_ {w0 w : World} {A : Option Addr} {c : Nat} {X : List (Int × Int)} (h : OwnC w0 w A c X) (h0 : 0 < X.length) : ∃ g, A = some ⟨g, 0, none⟩ := by
  obtain ⟨g, cap', hv, _, _⟩ := h.1.form (by omega)
  injection hv with e1 e2 e3
  exact ⟨g, e1⟩
theorem OwnC.set {w0 w : World} {g c : Nat} {X : List (Int × Int)} (h : OwnC w0 w (some ⟨g, 0, none⟩) c X) (j : Nat) (u : Value) (Y : List (Int × Int)) (hY : (cellsL X).set j u = cellsL Y) (hl : Y.length = X.length) : OwnC w0 (w.setCell ⟨g, j, none⟩ u) (some ⟨g, 0, none⟩) c Y := RowB.set (g := g) h h.2.size j u Y hY hl
theorem OwnC.alloc {w0 w : World} {A : Option Addr} {c : Nat} {X : List (Int × Int)} (h : OwnC w0 w A c X) (o : Obj) : OwnC w0 (w.alloc o) A c X := ⟨h.1.alloc o, h.2.alloc h.2.size o⟩
theorem OwnC.new {w0 w : World} {A : Option Addr} {c : Nat} {X : List (Int × Int)} (h : OwnC w0 w A c X) : NewA w0 A := fun a ha => (h.1.lt a.block (by rw [ha]; rfl)).1
theorem OwnC.bk {w0 w : World} {A : Option Addr} {c : Nat} {X : List (Int × Int)} (h : OwnC w0 w A c X) (hw : ∀ p ∈ X, Wb p) (hl : X.length ≤ 1000000) : Bk w A X := own_bk h.1 hw hl
def CoarseP (w : World) (X : List (Int × Int)) (e : Ending) (w' : World) : Prop := ∃ A c, e = .returned (.slice A X.length c) ∧ Bk w' A X ∧ Below w.heap.size w w' ∧ NewA w A
theorem mv_wb {f t : Int} {l : List (Int × Int)} (hl : ∀ p ∈ l, Wb p) (hi : ∀ p ∈ l, inB f p.1 = true) : ∀ p ∈ mv f t l, Wb p := fun p hp => by
  obtain ⟨q, hq, rfl⟩ := mem_mv hp
  have := to_bd (t := t) (hi q hq)
  obtain ⟨_, _, a, b⟩ := hl q hq
  exact ⟨by simp only; omega, by simp only; omega, a, b⟩
set_option maxHeartbeats 2000000 in
set_option maxRecDepth 100000 in
theorem coarser_any (f t : Int) (A : Option Addr) (c : Nat) (l : List (Int × Int)) (w : World) (hP : Bk w A l) (hl : l.length ≤ 1000) (hft : okTo f t = true) (hi : ∀ p ∈ l, inB f p.1 = true) :
    Calls Try.prog 35 #[.slice A l.length c, .int .i64 f, .int .i64 t] w (CoarseP w (mv f t l)) := by
  have HP := Lib.hid hP
  have HI := Lib.hid hi
  have HF := Lib.hid hft
  have hlen : (l.length : Int) ≤ 1000 := by omega
  clear hP hi hft
  go_enter Try.func35, Try.ntmps35
  go_wp2_with fail
  refine (cloneB_any _ _ _ _ HP.out (by omega)).mono ?_
  rintro e w1 ⟨A1, c1, rfl, ⟨ho, hb⟩, hb1⟩
  have HO := Lib.hid ho
  have HB1 := Lib.hid hb1
  clear ho hb hb1
  go_wp2_with fail
  go_loopw [14] (fun i wr => ∃ k : Nat, k ≤ l.length ∧ i = .int .i64 k ∧ OwnC w wr A1 c1 (mvK f t l k)) (fun i _ => l.length - (intOf i).toNat)
  case atStart => exact ⟨0, by omega, rfl, HO.out, HB1.out⟩
  case round =>
    obtain ⟨k, hk, rfl, hR⟩ := hrel
    have HR := Lib.hid hR
    clear hR
    by_cases hlt : k < l.length
    · have hki : (k : Int) < (l.length : Int) := by omega
      obtain ⟨b, off, rfl, hc⟩ := (HP.out.below HR.out.2).some_ (by omega)
      obtain ⟨p, hp⟩ := getElem?_lt hlt
      obtain ⟨q1, q2⟩ := hc k p hp
      obtain ⟨g, rfl⟩ := HR.out.some_ (by rw [mvK_length]; omega)
      obtain ⟨m0, m1, m2, m3, m4⟩ := RowB.at ⟨HR.out.1, HR.out.2⟩ (mvK_at (f := f) (t := t) hp)
      have HI1 := Lib.hid (HI.out p (mem_of_at hp))
      have HS := Lib.hid ((HR.out.set (k * 2) (.int .i64 (toV f t p.1)) (mvK f t l (k + 1)) (by rw [← mvK_set hp]; exact cellsL_seti _ k p _ (mvK_at hp)) (by rw [mvK_length, mvK_length])).alloc (.cells #[.int .i64 p.1, .int .u64 p.2] 54))
      obtain ⟨pi, pc⟩ := p
      simp only at q1 q2 m0 m1 HI1 HS
      have hlb := block_lt_of_cell q1
      simp only at hlb
      clear hc hp
      go_wp2_with fail
      refine (to_yes f t pi _ HF.out HI1.out).mono ?_
      rintro e w2 ⟨rfl, rfl⟩
      go_wp2_with fail
      go_roundw
      case rel => exact ⟨k + 1, by omega, by go_num, HS.out⟩
      case measure => simp [intOf]; omega
    · obtain rfl : k = l.length := by omega
      have hki : ¬ ((l.length : Int) < (l.length : Int)) := by omega
      have h1 := HR.out
      rw [mvK_all] at h1
      have H1 := Lib.hid (h1.bk (mv_wb HP.out.2.1 HI.out) (by rw [mv_length]; omega))
      have H2 := Lib.hid (And.intro h1.2 h1.new)
      clear h1 HR
      go_wp2_with fail
      go_ret
      exact ⟨A1, c1, by rw [mv_length]; rfl, H1.out, H2.out⟩
end Go.Proofs.Ytofaciagkkipbaa
