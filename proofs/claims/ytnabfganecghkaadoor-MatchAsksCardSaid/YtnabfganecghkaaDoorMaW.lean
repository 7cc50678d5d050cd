/- Arguments that are slices of matchers and of labels, and the table of ways as it is laid, read as what the contracts ask. -/
import Derived.Test.YtnabfganecghkaaDoorMaT
import Derived.Test.YtnabfganecghkaaDoorRows
import Derived.ProofKit
import Derived.OpenShut
import Derived.Deep.SlicePairs
import Derived.Deep.Strs
import Derived.Deep.Fields
import Derived.WideShapes
import Derived.ChangeArms
import Derived.Laws.IdiomArrays
import Derived.LaidMore
import Derived.Lib.LaidTab
namespace Go.Proofs.YtnabfganecghkaaDoor
open Go.ChangeShapes Go.WideShapes Go.RowKit Go.Deep
set_option linter.unusedVariables false

theorem spot_none {w : World} {a : Addr} {v : Value} {k : Nat} (h : w.cell? (a.add (0 * k)) = some v) : a = ⟨a.block, a.off, none⟩ := by
  simp [Addr.add] at h
  unfold World.cell? at h
  obtain ⟨b, o, s⟩ := a
  cases s with
  | none => rfl
  | some s =>
    simp only [Option.isSome_some, if_true] at h
    split at h <;> simp at h
theorem list_of {α : Type} {R : Nat → α → Prop} : ∀ (n : Nat), (∀ i, i < n → ∃ p, R i p) → ∃ l : List α, l.length = n ∧ ∀ j p, l[j]? = some p → R j p := by
  intro n
  induction n with
  | zero => exact fun _ => ⟨[], rfl, by simp⟩
  | succ k ih =>
    intro hi
    obtain ⟨l, hl, hp⟩ := ih (fun i h => hi i (by omega))
    obtain ⟨q, hq⟩ := hi k (by omega)
    refine ⟨l ++ [q], by simp [hl], fun j p hj => ?_⟩
    by_cases hjk : j < l.length
    · rw [List.getElem?_append_left hjk] at hj
      exact hp j p hj
    · rw [List.getElem?_append_right (by omega)] at hj
      obtain ⟨h1, h2⟩ := List.getElem?_eq_some_iff.1 hj
      simp at h1 h2
      obtain rfl : j = k := by omega
      rw [← h2]
      exact hq
theorem cell_of {α : Type} {l : List α} {k : Nat} (h : k < l.length) : ∃ p, l[k]? = some p := ⟨l[k], List.getElem?_eq_getElem h⟩
theorem addr_plus (b o k : Nat) : (⟨b, o, none⟩ : Addr).add k = ⟨b, o + k, none⟩ := by simp [Addr.add]
theorem bytesL : Tryd.prog.bytesOf 43 = 32 := by kernel_rfl
theorem bytesD : Tryd.prog.bytesOf 39 = 40 := by kernel_rfl
section
variable {H : Type} {enc : TypeId × Value → H} {w : World} {spare : Nat → Bool} {held : Bool}
/-- a slice of labels, opened: the list that it reads as -/
theorem open_lab {fuel : Nat} {cs : List Value} {x : DataW H × List MemPlace} (h : DataW.trod enc Tryd.prog w 0 spare held fuel 23 cs = some x) :
    ∃ (A : Option Addr) (l : List Lb.Lab) (c : Nat), cs = [.slice A l.length c] ∧ Lb.Lw w A l ∧ (A = none → c = 0) ∧ (l.length = 0 ∨ ∃ elems sp, x.1 = .slice elems sp ∧ elems.length = l.length) := by
  rcases open_slice_pairs Tryd.underlying23 Tryd.underlying43 (by kernel_rfl) rfl rfl (by kernel_rfl) (by kernel_rfl) h with ⟨rfl, _⟩ | ⟨a, len, cap, m, n, V0, V1, D0, D1, P0, P1, rfl, _, hlc, hcm, hm, hx, hc⟩
  · exact ⟨none, [], 0, rfl, Lb.Lw.nil _ _, fun _ => rfl, .inl rfl⟩
  · have hlm : len ≤ m := by rw [hm]; split <;> omega
    have hi : ∀ i, i < len → ∃ p : Lb.Lab, V0 i = .string p.1 ∧ V1 i = .string p.2 ∧ Lb.Ws p.1 ∧ Lb.Ws p.2 := fun i hi => by
      obtain ⟨_, _, t0, t1⟩ := hc i (by omega)
      obtain ⟨x0, e0, _, w0⟩ := DataW.trod_string Tryd.underlying9 t0
      obtain ⟨x1, e1, _, w1⟩ := DataW.trod_string Tryd.underlying9 t1
      simp only [List.cons.injEq, and_true] at e0 e1
      unfold maxLen at w0 w1
      exact ⟨(x0, x1), e0, e1, by unfold Lb.Ws; exact w0, by unfold Lb.Ws; exact w1⟩
    obtain ⟨l, hl, hp⟩ := list_of len hi
    subst hl
    have hx1 : x.1 = .slice ((List.range l.length).map fun i => .agg [D0 i, D1 i]) ((List.range (m - l.length)).map fun j => .agg [D0 (l.length + j), D1 (l.length + j)]) := by rw [hx]
    refine ⟨some a, l, cap, rfl, ⟨by unfold maxLen at hcm; omega, fun p hpm => ?_, ?_⟩, (fun h => by cases h), .inr ⟨_, _, hx1, by simp⟩⟩
    · obtain ⟨k, hk, rfl⟩ := List.getElem_of_mem hpm
      have := hp k _ (List.getElem?_eq_getElem hk)
      exact ⟨this.2.2.1, this.2.2.2⟩
    · by_cases h0 : l.length = 0
      · rw [List.eq_nil_of_length_eq_zero h0]; exact .inl rfl
      · have ha : a = ⟨a.block, a.off, none⟩ := spot_none (hc 0 (by omega)).1
        rw [ha]
        refine .inr ⟨a.block, a.off, rfl, fun j v hj => ?_⟩
        have hjl : j < l.length * 2 := by rw [← Lb.labC_length]; exact (List.getElem?_eq_some_iff.1 hj).1
        obtain ⟨p, hpj⟩ := cell_of (l := l) (k := j / 2) (by omega)
        obtain ⟨v0, v1, _⟩ := hp (j / 2) p hpj
        obtain ⟨c0, c1, _⟩ := hc (j / 2) (by omega)
        rw [ha, addr_plus, v0] at c0
        rw [ha, addr_plus, v1] at c1
        obtain ⟨l0, l1⟩ := Lb.labC_at hpj
        rcases (show j = j / 2 * 2 ∨ j = j / 2 * 2 + 1 by omega) with e | e
        · rw [← e] at l0 c0
          rw [l0] at hj
          injection hj with hj
          rw [← hj]; exact c0
        · rw [← e] at l1 c1
          rw [l1] at hj
          injection hj with hj
          rw [← hj]; exact c1
set_option maxRecDepth 100000 in
/-- a slice of matchers, opened -/
theorem open_mt {fuel : Nat} {cs : List Value} {x : DataW H × List MemPlace} (h : DataW.trod enc Tryd.prog w 0 spare held fuel 22 cs = some x) :
    ∃ (A : Option Addr) (l : List Mt) (c : Nat), cs = [.slice A l.length c] ∧ Mq w A l ∧ (A = none → c = 0) ∧ (l.length = 0 ∨ ∃ elems sp, x.1 = .slice elems sp ∧ elems.length = l.length) := by
  rcases open_slice Tryd.underlying22 h with ⟨rfl, _⟩ | ⟨a, len, cap, m, n, D, Pl, rfl, _, hlc, hcm, hm, hx, hc⟩
  · exact ⟨none, [], 0, rfl, Mq.nil _ _, fun _ => rfl, .inl rfl⟩
  · have hlm : len ≤ m := by rw [hm]; split <;> omega
    have c3 : Tryd.prog.cellsOf 39 = 3 := by kernel_rfl
    have cs1 : Tryd.prog.cellsOf 9 = 1 := by kernel_rfl
    have ci1 : Tryd.prog.cellsOf 3 = 1 := by kernel_rfl
    have hi : ∀ i, i < len → ∃ p : Mt, (w.cell? (a.add (i * 3)) = some (.string p.nm) ∧ w.cell? ((a.add (i * 3)).add 1) = some (.int .i64 p.op) ∧ w.cell? ((a.add (i * 3)).add 2) = some (.string p.vl)) ∧ Wt p.nm ∧ Wt p.vl := fun i hi => by
      obtain ⟨cs', h1, h2⟩ := hc i (by omega)
      rw [c3] at h1
      obtain ⟨_, hlen, hcell⟩ := World.cells?_some h1
      obtain ⟨y0, y1, y2, k, _, hl3, g0, g1, g2⟩ := trod_struct3 Tryd.underlying39 h2
      match cs', hlen with
      | [v0, v1, v2], _ =>
        simp [cs1, ci1] at g0 g1 g2
        obtain ⟨x0, e0, _, w0⟩ := DataW.trod_string Tryd.underlying9 g0
        obtain ⟨x1, e1, _, w1⟩ := DataW.trod_int Tryd.underlying3 g1
        obtain ⟨x2, e2, _, w2⟩ := DataW.trod_string Tryd.underlying9 g2
        simp only [List.cons.injEq, and_true] at e0 e1 e2
        subst e0 e1 e2
        unfold maxLen at w0 w2
        have q0 := hcell 0 (by omega)
        have q1 := hcell 1 (by omega)
        have q2 := hcell 2 (by omega)
        simp [Addr.add] at q0 q1 q2
        exact ⟨⟨x0, x1, x2⟩, ⟨by simpa [Addr.add] using q0, by simpa [Addr.add, Nat.add_assoc] using q1, by simpa [Addr.add, Nat.add_assoc] using q2⟩, w0, w2⟩
    obtain ⟨l, hl, hp⟩ := list_of len hi
    subst hl
    have hx1 : x.1 = .slice ((List.range l.length).map D) ((List.range (m - l.length)).map fun j => D (l.length + j)) := by rw [hx]
    refine ⟨some a, l, cap, rfl, ⟨by unfold maxLen at hcm; omega, fun p hpm => ?_, ?_⟩, (fun h => by cases h), .inr ⟨_, _, hx1, by simp⟩⟩
    · obtain ⟨k, hk, rfl⟩ := List.getElem_of_mem hpm
      have := hp k _ (List.getElem?_eq_getElem hk)
      exact this.2
    · by_cases h0 : l.length = 0
      · rw [List.eq_nil_of_length_eq_zero h0]; exact .inl rfl
      · obtain ⟨p0, hp0⟩ := cell_of (l := l) (k := 0) (by omega)
        have ha : a = ⟨a.block, a.off, none⟩ := spot_none (hp 0 p0 hp0).1.1
        rw [ha]
        refine .inr ⟨a.block, a.off, rfl, fun j v hj => ?_⟩
        have hjl : j < l.length * 3 := by rw [← mtC_length]; exact (List.getElem?_eq_some_iff.1 hj).1
        obtain ⟨p, hpj⟩ := cell_of (l := l) (k := j / 3) (by omega)
        obtain ⟨⟨c0, c1, c2⟩, _⟩ := hp (j / 3) p hpj
        rw [ha, addr_plus] at c0
        rw [ha, addr_plus, addr_plus, Nat.add_assoc] at c1
        rw [ha, addr_plus, addr_plus, Nat.add_assoc] at c2
        obtain ⟨l0, l1, l2⟩ := mtC_at hpj
        rcases (show j = j / 3 * 3 ∨ j = j / 3 * 3 + 1 ∨ j = j / 3 * 3 + 2 by omega) with e | e | e
        · rw [← e] at l0 c0
          rw [l0] at hj
          injection hj with hj
          rw [← hj]; exact c0
        · rw [← e] at l1 c1
          rw [l1] at hj
          injection hj with hj
          rw [← hj]; exact c1
        · rw [← e] at l2 c2
          rw [l2] at hj
          injection hj with hj
          rw [← hj]; exact c2
set_option maxRecDepth 100000 in
/-- one matcher, opened -/
theorem open_m1 {fuel : Nat} {cs : Array Value} {x : DataW H × List MemPlace} (h : DataW.trod enc Tryd.prog w 0 spare held fuel 39 cs.toList = some x) : ∃ (s : ByteArray) (z : Int) (t : ByteArray), cs = #[.string s, .int .i64 z, .string t] ∧ Wt s ∧ Wt t := by
  have c3 : Tryd.prog.cellsOf 39 = 3 := by kernel_rfl
  have cs1 : Tryd.prog.cellsOf 9 = 1 := by kernel_rfl
  have ci1 : Tryd.prog.cellsOf 3 = 1 := by kernel_rfl
  obtain ⟨y0, y1, y2, k, _, hl3, g0, g1, g2⟩ := trod_struct3 Tryd.underlying39 h
  rw [c3] at hl3
  obtain ⟨l⟩ := cs
  match l, hl3 with
  | [v0, v1, v2], _ =>
    simp [cs1, ci1] at g0 g1 g2
    obtain ⟨x0, e0, _, w0⟩ := DataW.trod_string Tryd.underlying9 g0
    obtain ⟨x1, e1, _, w1⟩ := DataW.trod_int Tryd.underlying3 g1
    obtain ⟨x2, e2, _, w2⟩ := DataW.trod_string Tryd.underlying9 g2
    simp only [List.cons.injEq, and_true] at e0 e1 e2
    subst e0 e1 e2
    unfold maxLen at w0 w2
    exact ⟨x0, x1, x2, rfl, w0, w2⟩
end
set_option maxRecDepth 100000 in
/-- one way, as the condition reads it -/
theorem way_cells {H : Type} {enc : TypeId × Value → H} {w : World} {base fuel : Nat} {sp : Nat → Bool} {held : Bool} {cs : List Value} {s : ByteArray} {b c : Bool} {d : DataW H} {pl : List MemPlace}
    (hd : d = .agg [.lit (.string s.data.toList), .lit (.bool b), .lit (.bool c)])
    (h : DataW.trod enc Tryd.prog w base sp held fuel 67 cs = some (d, pl)) : cs = [.string s, .bool b, .bool c] := by
  have cs1 : Tryd.prog.cellsOf 9 = 1 := by kernel_rfl
  have cb1 : Tryd.prog.cellsOf 4 = 1 := by kernel_rfl
  have c3 : Tryd.prog.cellsOf 67 = 3 := by kernel_rfl
  obtain ⟨y0, y1, y2, k, hx, hl3, g0, g1, g2⟩ := trod_struct3 Tryd.underlying67 h
  rw [c3] at hl3
  match cs, hl3 with
  | [v0, v1, v2], _ =>
    simp [cs1, cb1] at g0 g1 g2
    obtain ⟨x0, e0, f0, _⟩ := DataW.trod_string Tryd.underlying9 g0
    obtain ⟨x1, e1, f1⟩ := DataW.trod_bool Tryd.underlying4 g1
    obtain ⟨x2, e2, f2⟩ := DataW.trod_bool Tryd.underlying4 g2
    subst f0 f1 f2
    have hx1 := congrArg Prod.fst hx
    simp only [hd, DataW.agg.injEq, List.cons.injEq, DataW.lit.injEq, Lit.string.injEq, Lit.bool.injEq, and_true] at hx1
    obtain ⟨q0, q1, q2⟩ := hx1
    subst q1 q2
    have : s = x0 := by
      cases s with | mk sd => cases x0 with | mk xd =>
      simp only [ByteArray.mk.injEq]
      exact Array.toList_inj.1 q0
    subst this
    simp only [List.cons.injEq, and_true] at e0 e1 e2
    rw [e0, e1, e2]
/-- an array of four, as the reader reads it, taken apart -/
theorem trod_four {H : Type} {enc : TypeId × Value → H} {P : Program} {w : World} {base : Nat} {sp : Nat → Bool} {held : Bool} {fuel : Nat} {t e : TypeId} {k : Nat} {cs : List Value} {d0 d1 d2 d3 : DataW H} {p : List MemPlace}
    (ht : P.underlying t = some (.array 4 e)) (hce : P.cellsOf e = k) (hct : P.cellsOf t = 4 * k) (h : DataW.trod enc P w base sp held fuel t cs = some (.agg [d0, d1, d2, d3], p)) :
    cs.length = 4 * k ∧ ∃ n p0 p1 p2 p3, DataW.trod enc P w base sp held n e ((cs.drop (0 * k)).take k) = some (d0, p0) ∧ DataW.trod enc P w base sp held n e ((cs.drop (1 * k)).take k) = some (d1, p1) ∧
      DataW.trod enc P w base sp held n e ((cs.drop (2 * k)).take k) = some (d2, p2) ∧ DataW.trod enc P w base sp held n e ((cs.drop (3 * k)).take k) = some (d3, p3) := by
  cases fuel with
  | zero => simp [DataW.trod] at h
  | succ n =>
    simp only [DataW.trod, ht, hce, hct] at h
    split at h
    · rename_i hl
      obtain ⟨xs, hm, hx⟩ := Option.map_eq_some_iff.1 h
      have hxs : xs.map (·.1) = [d0, d1, d2, d3] := by
        have := congrArg Prod.fst hx
        simpa using this
      obtain ⟨y0, e0, f0⟩ := Lib.mapM_at hm 0 0 (by simp)
      obtain ⟨y1, e1, f1⟩ := Lib.mapM_at hm 1 1 (by simp)
      obtain ⟨y2, e2, f2⟩ := Lib.mapM_at hm 2 2 (by simp)
      obtain ⟨y3, e3, f3⟩ := Lib.mapM_at hm 3 3 (by simp)
      have g0 := congrArg (·[0]?) hxs
      have g1 := congrArg (·[1]?) hxs
      have g2 := congrArg (·[2]?) hxs
      have g3 := congrArg (·[3]?) hxs
      simp [e0] at g0
      simp [e1] at g1
      simp [e2] at g2
      simp [e3] at g3
      subst g0 g1 g2 g3
      exact ⟨hl, n, y0.2, y1.2, y2.2, y3.2, f0, f1, f2, f3⟩
    · cases h
theorem gTab : Tryd.prog.globalNamed "pluvial/match.ways" = some 0 := by kernel_rfl
theorem tTab : (Tryd.prog.globals[0]?).map (·.type) = some 68 := by kernel_rfl
set_option maxRecDepth 100000 in
/-- the condition's datum gives the table's cells -/
theorem tab_of {W : World} {rest : List (String × DataW Unit)} (h : laidMet Tryd.prog (("pluvial/match.ways", Rows.laid_pluvial_match_ways) :: rest) W) : Tab W := by
  have c3 : Tryd.prog.cellsOf 67 = 3 := by kernel_rfl
  have c12 : Tryd.prog.cellsOf 68 = 4 * 3 := by kernel_rfl
  obtain ⟨ps, ⟨g', t', cs, fuel, p, q, hg', ht', hvar, hd, _, _⟩, _⟩ := h
  obtain rfl := Option.some.inj (gTab.symm.trans hg')
  obtain rfl := Option.some.inj (tTab.symm.trans ht')
  obtain ⟨hl, n, p0, p1, p2, p3, f0, f1, f2, f3⟩ := trod_four Tryd.underlying68 c3 c12 hd
  have z0 := way_cells (s := ⟨#[61]⟩) (b := false) (c := false) rfl f0
  have z1 := way_cells (s := ⟨#[33, 61]⟩) (b := false) (c := true) rfl f1
  have z2 := way_cells (s := ⟨#[61, 126]⟩) (b := true) (c := false) rfl f2
  have z3 := way_cells (s := ⟨#[33, 126]⟩) (b := true) (c := true) rfl f3
  have cell : ∀ i, W.cell? ⟨0, i, none⟩ = cs.toList[i]? := fun i => by
    rw [World.var?_cell gTab hvar i, Array.getElem?_toList]
  have at_ : ∀ (k i : Nat) (v : Value), i < 3 → ∀ ys, (cs.toList.drop (k * 3)).take 3 = ys → ys[i]? = some v → W.cell? ⟨0, k * 3 + i, none⟩ = some v := fun k i v hi ys hy hv => by
    rw [cell, ← hv, ← hy, List.getElem?_take, if_pos hi, List.getElem?_drop]
  exact ⟨at_ 0 0 _ (by omega) _ z0 rfl, at_ 0 1 _ (by omega) _ z0 rfl, at_ 0 2 _ (by omega) _ z0 rfl, at_ 1 0 _ (by omega) _ z1 rfl, at_ 1 1 _ (by omega) _ z1 rfl, at_ 1 2 _ (by omega) _ z1 rfl,
    at_ 2 0 _ (by omega) _ z2 rfl, at_ 2 1 _ (by omega) _ z2 rfl, at_ 2 2 _ (by omega) _ z2 rfl, at_ 3 0 _ (by omega) _ z3 rfl, at_ 3 1 _ (by omega) _ z3 rfl, at_ 3 2 _ (by omega) _ z3 rfl⟩
end Go.Proofs.YtnabfganecghkaaDoor
