/- What the law MeldMore lays into a slice, and what stays. -/
import Derived.Test.YtbibhjcmdehdbaaMuG
import Derived.Test.YtbibhjcmdehdbaaMuH
import Derived.Deep.AppendLies
namespace Go.Proofs.Ytbibhjcmdehdbaa
open Go.RowKit Go.Sort Go.Maps
set_option linter.unusedVariables false

/-- append(l, h), and where the new slice lies -/
theorem app_hist2 {ops : Array Oper} {rest : List Oper} {o : Oper} {a : Act} {w : World} {Q : Exit → Act → World → Prop} (hgd : o.guard = none) (s x : Operand)
    (ho : o.op = .call { callee := .builtin .append, args := #[s, x], argTypes := #[34, 34] })
    (base : Nat) (A : Option Addr) (n c : Nat) (L : List HE) (hs : a.eval s = .slice A n c) (hown : w.ownsRow base 25 8 (.slice A n c) n (cellsHs L))
    (g : Nat) (hx : a.eval x = .slice (some ⟨g, 0, none⟩) 1 1) (y : HE) (hy : ∀ j u, (hcells y)[j]? = some u → w.cell? ⟨g, j, none⟩ = some u) (hl : n + 1 ≤ 1000000) (hbase : base ≤ w.heap.size) (H : Nat) (hH : w.heap.size = H)
    (h : ∀ g' c' w', w'.ownsRow base 25 8 (.slice (some ⟨g', 0, none⟩) (n + 1) c') (n + 1) (cellsHs (L ++ [y])) → w.grownBy w' (Value.slice A n c).ownBlock → ((Value.slice A n c).ownBlock = some g' ∨ g' = H) → g' < w'.heap.size → wpList Try.prog ops Q rest (a.put o.dst (.slice (some ⟨g', 0, none⟩) (n + 1) c')) w') : wpList Try.prog ops Q (o :: rest) a w := by
  obtain ⟨i0, hi, hz0, hz1, hz2⟩ := info_parts infoHi
  refine wpList_append_lies w hgd s x 34 ho base 25 i0 (.agg #[.int .i64 0, .int .i64 0, .int .i64 0, .int .u64 0, .int .u64 0, .int .i64 0, .slice none 0 0, .slice none 0 0]) 8 96 Try.underlying34 hi hz0 hz1 hz2 rfl (by decide) _ n (cellsHs L) hs hown ⟨g, 0, none⟩ 1 1 (hcells y) hx rfl ?_ (by simp [hcells, Value.oneCell']) (by decide) (by unfold maxLen; omega) (by omega) hbase H hH ?_
  · intro j u hu
    rw [addr_at, Nat.zero_add]
    exact hy j u hu
  · intro g' c' w' h1 h2 h3 h4
    rw [← cellsHs_snoc] at h1
    exact h g' c' w' h1 h2 h3 h4
theorem Box.grown {w w' : World} {g0 : Nat} {row : Option Nat} {v0 v1 v2 v3 v4 v5 v6 v7 : Value} (h : Box w g0 v0 v1 v2 v3 v4 v5 v6 v7) (hg : w.grownBy w' row) (hne : some g0 ≠ row) : Box w' g0 v0 v1 v2 v3 v4 v5 v6 v7 := (hg.block g0 h.lt hne).trans h
theorem Bk.grown {w w' : World} {A : Option Addr} {l : List (Int × Int)} {g : Nat} (h : Bk w A l) (hg : w.grownBy w' (some g)) (hne : l.length = 0 ∨ ∀ a, A = some a → a.block ≠ g) : Bk w' A l := by
  obtain ⟨h1, h2, h3⟩ := h
  refine ⟨h1, h2, ?_⟩
  rcases h3 with h3 | ⟨b, off, e, hc⟩
  · exact .inl h3
  · rcases hne with h0 | hne
    · exact .inl h0
    · have hb := hne _ e
      refine .inr ⟨b, off, e, fun j p hj => ?_⟩
      obtain ⟨c0, c1⟩ := hc j p hj
      exact ⟨hg.cell c0 (by simpa using hb), hg.cell c1 (by simpa using hb)⟩
/-- one entry of the law's slice: what it is, and that it doesn't lie in the slice's own block -/
structure EnOk (w : World) (g : Nat) (e : HE) : Prop where
  P : Bk w e.A e.h.P
  Q : Bk w e.B e.h.Q
  nP : e.h.P.length = 0 ∨ ∀ a, e.A = some a → a.block ≠ g
  nQ : e.h.Q.length = 0 ∨ ∀ a, e.B = some a → a.block ≠ g
  ok : Ok e.h
  k : e.h.k = 0
theorem EnOk.below {w w' : World} {g : Nat} {e : HE} (h : EnOk w g e) (hb : Below w.heap.size w w') : EnOk w' g e := ⟨h.P.below hb, h.Q.below hb, h.nP, h.nQ, h.ok, h.k⟩
theorem EnOk.grown {w w' : World} {g g' : Nat} {e : HE} (h : EnOk w g e) (hg : w.grownBy w' (some g)) (h' : g = g' ∨ g' = w.heap.size) : EnOk w' g' e := by
  refine ⟨h.P.grown hg h.nP, h.Q.grown hg h.nQ, ?_, ?_, h.ok, h.k⟩
  · rcases h' with rfl | h'
    · exact h.nP
    · exact h.P.ne_lt' (by omega)
  · rcases h' with rfl | h'
    · exact h.nQ
    · exact h.Q.ne_lt' (by omega)
/-- the law's slice: a counter and what it got to be, step by step -/
structure MoS (w : World) (h : HV) (A B : Option Addr) (c d : Nat) (kk g cap : Nat) (L : List HE) (x : Int) (wr : World) : Prop where
  box : Box wr w.heap.size (.int .i64 h.k) (.int .i64 h.s) (.int .i64 h.z) (.int .u64 h.zc) (.int .u64 h.ct) (.int .i64 h.sm) (.slice A h.P.length c) (.slice B h.Q.length d)
  own : wr.ownsRow (w.heap.size + 1) 25 8 (.slice (some ⟨g, 0, none⟩) kk cap) kk (cellsHs L)
  len : L.length = kk
  ens : ∀ e ∈ L, EnOk wr g e
  tl : ∃ tl, L.map HE.h = h :: tl ∧ NoR h tl ∧ x = (lastH h tl).ct - h.ct ∧ 0 ≤ x ∧ (∃ e, L[kk - 1]? = some e ∧ e.h = lastH h tl)
  bel : Below w.heap.size w wr
theorem MoS.below {w : World} {h : HV} {A B : Option Addr} {c d : Nat} {kk g cap : Nat} {L : List HE} {x : Int} {wr w2 : World} (s : MoS w h A B c d kk g cap L x wr) (hb : Below wr.heap.size wr w2) : MoS w h A B c d kk g cap L x w2 :=
  ⟨s.box.below hb, s.own.kept (row := none) ⟨hb.os, hb.tape, hb.output, hb.size, fun k hk _ => hb.block k hk⟩ (.inr (by simp [Value.ownBlock])), s.len, fun e he => (s.ens e he).below hb, s.tl, s.bel.trans (hb.mono s.bel.size)⟩
theorem MoS.lt {w : World} {h : HV} {A B : Option Addr} {c d : Nat} {kk g cap : Nat} {L : List HE} {x : Int} {wr : World} (s : MoS w h A B c d kk g cap L x wr) : w.heap.size < g ∧ g < wr.heap.size := by
  have := s.own.lt g rfl
  omega
theorem MoS.caps {w : World} {h : HV} {A B : Option Addr} {c d : Nat} {kk g cap : Nat} {L : List HE} {x : Int} {wr : World} (s : MoS w h A B c d kk g cap L x wr) : kk ≤ cap ∧ cap ≤ maxLen ∧ 0 < kk := by
  obtain ⟨tl, h1, _⟩ := s.tl
  have hk : 0 < kk := by rw [← s.len, ← List.length_map (f := HE.h), h1]; simp
  rcases s.own.2 with ⟨h0, _⟩ | ⟨_, _, _, e, _, _, h2, h3, _⟩
  · cases h0
  · injection e with _ _ e3
    subst e3
    exact ⟨h2, h3, hk⟩
/-- the cells of an entry -/
theorem MoS.at_ {w : World} {h : HV} {A B : Option Addr} {c d : Nat} {kk g cap : Nat} {L : List HE} {x : Int} {wr : World} (s : MoS w h A B c d kk g cap L x wr) {j : Nat} {e : HE} (hj : L[j]? = some e) :
    wr.cell? ⟨g, j * 8, none⟩ = some (.int .i64 e.h.k) ∧ wr.cell? ⟨g, j * 8 + 1, none⟩ = some (.int .i64 e.h.s) ∧ wr.cell? ⟨g, j * 8 + 2, none⟩ = some (.int .i64 e.h.z) ∧ wr.cell? ⟨g, j * 8 + 3, none⟩ = some (.int .u64 e.h.zc) ∧ wr.cell? ⟨g, j * 8 + 4, none⟩ = some (.int .u64 e.h.ct) ∧ wr.cell? ⟨g, j * 8 + 5, none⟩ = some (.int .i64 e.h.sm) ∧ wr.cell? ⟨g, j * 8 + 6, none⟩ = some (.slice e.A e.h.P.length e.c) ∧ wr.cell? ⟨g, j * 8 + 7, none⟩ = some (.slice e.B e.h.Q.length e.d) := by
  have hlt : j < kk := by rw [← s.len]; exact (List.getElem?_eq_some_iff.1 hj).1
  have at_ : ∀ i, i < 8 → wr.cell? ⟨g, j * 8 + i, none⟩ = (hcells e)[i]? := fun i hi => by
    rw [s.own.cellAt (j * 8 + i) (by omega), cellsHs_at hj hi]
  exact ⟨at_ 0 (by omega), at_ 1 (by omega), at_ 2 (by omega), at_ 3 (by omega), at_ 4 (by omega), at_ 5 (by omega), at_ 6 (by omega), at_ 7 (by omega)⟩
theorem MoS.hl {w : World} {h : HV} {A B : Option Addr} {c d : Nat} {kk g cap : Nat} {L : List HE} {x : Int} {wr : World} (s : MoS w h A B c d kk g cap L x wr) (hk : kk ≤ 1000000) : Hl wr (some ⟨g, 0, none⟩) (L.map HE.h) :=
  own_hl s.len.symm s.own (by rw [s.len]; exact hk) fun e he => ⟨⟨(s.ens e he).P, (s.ens e he).Q⟩, (s.ens e he).ok.zc, (s.ens e he).ok.toGood.z1⟩
theorem ok_zero {y : HV} (o : Ok y) : Ok { y with k := 0 } :=
  { k := .inl rfl, s := o.s, zc := o.zc, ct := o.ct, big := o.big, sm := o.sm, nP := o.nP, nQ := o.nQ, iP := o.iP, iQ := o.iQ, z := o.z, aP := o.aP, aQ := o.aQ, pP := o.pP, pQ := o.pQ, lP := o.lP, lQ := o.lQ, zP := o.zP, zQ := o.zQ }
theorem add_reset {a b x y : HV} (h : Two a b x y) (he : mAddE x y = 0) : ∃ x' y', Two (mAddO x y) a x' y' ∧ mSubE x' y' = 0 := by
  have er : mAddO x y = mAddR x y := by unfold mAddO; rw [if_pos he]; rfl
  have hb := (h.back (h.add he).ok (by rw [er]; rfl) (by rw [er]; rfl)).2
  exact ⟨_, _, hb, add_noreset h he _ _ hb⟩
theorem add_k {a b x y : HV} (h : Two a b x y) (he : mAddE x y = 0) (ha : a.k = 0) (hb : b.k = 0) : (mAddO x y).k = 0 := by
  have er : mAddO x y = mAddR x y := by unfold mAddO; rw [if_pos he]; rfl
  have h1 : x.k = 0 := h.is.xk.trans ha
  have h2 : y.k = 0 := h.is.yk.trans hb
  rw [er]
  unfold mAddR mkR mAddV
  simp [h1, h2]
/-- the step of the law's loop -/
theorem MoS.step {w : World} {h : HV} {A B : Option Addr} {c d : Nat} {kk g cap g' cap' : Nat} {L : List HE} {x : Int} {wr w' : World} (s : MoS w h A B c d kk g cap L x wr) {e : HE} (he : L[kk - 1]? = some e) {b x' y' r : HV} {A3 B3 : Option Addr} {c3 d3 : Nat}
    (t : Two e.h b x' y') (h0 : mAddE x' y' = 0) (hr : mAddO x' y' = r) (ob : Ok b) (bk : b.k = 0) (hA : Bk wr A3 r.P) (hB : Bk wr B3 r.Q) (nA : r.P.length = 0 ∨ ∀ a, A3 = some a → a.block ≠ g) (nB : r.Q.length = 0 ∨ ∀ a, B3 = some a → a.block ≠ g)
    (own' : w'.ownsRow (w.heap.size + 1) 25 8 (.slice (some ⟨g', 0, none⟩) (kk + 1) cap') (kk + 1) (cellsHs (L ++ [⟨r, A3, B3, c3, d3⟩]))) (hg : wr.grownBy w' (some g)) (hat : g = g' ∨ g' = wr.heap.size) :
    MoS w h A B c d (kk + 1) g' cap' (L ++ [⟨r, A3, B3, c3, d3⟩]) (r.ct - h.ct) w' := by
  have hlt := s.lt
  obtain ⟨tl, h1, h2, h3, h4, e', he', hl⟩ := s.tl
  have hee : e' = e := Option.some.inj (he'.symm.trans he)
  subst hee
  have ha := t.add h0
  rw [hr] at ha
  have hbz : 0 ≤ b.ct := by have g := ob.toGood; have h1 := g.zc; have h2 := g.nP.cnt; have h3 := g.nQ.cnt; have h4 := g.ct; omega
  have hrk : r.k = 0 := by rw [← hr]; exact add_k t h0 (s.ens _ (List.mem_of_getElem? he)).k bk
  refine ⟨s.box.grown hg (by simp; omega), own', by rw [List.length_append, s.len]; rfl, ?_, ?_, ?_⟩
  · intro q hq
    rcases List.mem_append.1 hq with hq | hq
    · exact (s.ens q hq).grown hg hat
    · rw [List.mem_singleton.1 hq]
      exact EnOk.grown (g := g) ⟨hA, hB, nA, nB, ha.ok, hrk⟩ hg hat
  · refine ⟨tl ++ [r], by rw [List.map_append, h1]; rfl, ?_, ?_, ?_, ⟨r, A3, B3, c3, d3⟩, ?_, ?_⟩
    · refine NoR.append.2 ⟨h2, ?_, trivial⟩
      rw [← hl]
      intro x1 y1 t1 hE
      have := add_noreset t h0 x1 y1 (by rw [hr]; exact t1)
      omega
    · rw [lastH_append]; rfl
    · have := ha.ct
      rw [hl] at this
      omega
    · rw [Nat.add_sub_cancel, List.getElem?_append_right (by rw [s.len]; exact Nat.le_refl _), s.len, Nat.sub_self]; rfl
    · rw [lastH_append]; rfl
  · refine s.bel.grown hg s.bel.size fun k hk => ?_
    have : g = k := by simpa using hk
    omega
theorem Hl.take {w : World} {D : Option Addr} {hs : List HV} (h : Hl w D hs) (n : Nat) : Hl w D (hs.take n) := by
  refine ⟨by have := h.1; rw [List.length_take]; omega, ?_⟩
  rcases h.2 with h0 | ⟨b, off, e, hc⟩
  · left; rw [List.length_take]; omega
  · right
    refine ⟨b, off, e, fun j x hj => hc j x ?_⟩
    rw [List.getElem?_take] at hj
    split at hj
    · exact hj
    · cases hj
theorem Hl.drop {w : World} {b off : Nat} {hs : List HV} (h : Hl w (some ⟨b, off, none⟩) hs) (n : Nat) : Hl w (some ⟨b, off + n * 8, none⟩) (hs.drop n) := by
  refine ⟨by have := h.1; rw [List.length_drop]; omega, ?_⟩
  rcases h.2 with h0 | ⟨b', off', e, hc⟩
  · left; rw [List.length_drop]; omega
  · right
    injection e with e
    injection e with e1 e2 _
    subst e1 e2
    refine ⟨b, off + n * 8, rfl, fun j x hj => ?_⟩
    rw [List.getElem?_drop] at hj
    have := hc (n + j) x hj
    rw [show off + n * 8 + j * 8 = off + (n + j) * 8 by omega]
    exact this
theorem rise_ok {a p o : HV} {l : List HV} {E : Int} (h : RiseR a p l o E) (oa : Ok a) (hE : E = 0) : Ok o := by
  induction h with
  | done a p => exact oa
  | bad m n => exact absurd hE n
  | over m t n => exact absurd hE n
  | step m t e k ih => exact ih (t.add e).ok hE
/-- an entry of a list is the last one of those up to it -/
theorem lastH_take {h : HV} {tl : List HV} {K : Nat} {q : HV} (hq : (h :: tl)[K]? = some q) : lastH h (tl.take K) = q := by
  induction tl generalizing h K with
  | nil =>
    cases K with
    | zero => simpa [lastH] using hq
    | succ K => simp at hq
  | cons n r ih =>
    cases K with
    | zero => simpa [lastH] using hq
    | succ K => exact ih (h := n) (by simpa using hq)
end Go.Proofs.Ytbibhjcmdehdbaa
