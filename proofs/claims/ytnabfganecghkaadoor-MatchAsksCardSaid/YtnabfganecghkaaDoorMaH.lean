/- To, Light, the document's Check. -/
import Derived.Test.YtnabfganecghkaaDoorMaC
import Derived.Deep.RegionLaw
/-! holds: whether a value is as it is asked; rows of ready matchers. -/
namespace Go.Proofs.YtnabfganecghkaaDoor
open Go.RowKit Go.Sort
set_option linter.unusedVariables false

theorem bytes_inj {a b : ByteArray} (h : a.toList = b.toList) : a = b := by
  rw [Lib.toList_data, Lib.toList_data] at h
  cases a; cases b
  simp at h
  rw [h]
theorem text_eq (a b : ByteArray) : (a.toList == b.toList) = decide (a = b) := by
  by_cases h : a = b
  · subst h; simp
  · have h2 : a.toList ≠ b.toList := fun e => h (bytes_inj e)
    simp [h, h2]
/-- a way's box -/
structure W3 (w : World) (h : Nat) (s : ByteArray) (a b : Bool) : Prop where
  hw : h < w.heap.size
  blk : w.heap[h]? = some (.cells #[.string s, .bool a, .bool b] 67 (0, 0))
theorem W3.below {w w' : World} {h : Nat} {s : ByteArray} {a b : Bool} (x : W3 w h s a b) (k : Below w.heap.size w w') : W3 w' h s a b := ⟨Nat.lt_of_lt_of_le x.hw k.size, (k.block h x.hw).trans x.blk⟩
theorem W3.cells {w : World} {h : Nat} {s : ByteArray} {a b : Bool} (x : W3 w h s a b) : w.cell? ⟨h, 0, none⟩ = some (.string s) ∧ w.cell? ⟨h, 1, none⟩ = some (.bool a) ∧ w.cell? ⟨h, 2, none⟩ = some (.bool b) := by
  have hb := x.blk
  refine ⟨?_, ?_, ?_⟩
  · rw [cell_of_row _ _ _ _ _ _ hb]; rfl
  · rw [cell_of_row _ _ _ _ _ _ hb]; rfl
  · rw [cell_of_row _ _ _ _ _ _ hb]; rfl
theorem W3.new (w : World) (s : ByteArray) (a b : Bool) : W3 (w.alloc (.cells #[.string s, .bool a, .bool b] 67 (0, 0))) w.heap.size s a b := ⟨by simp, heap_alloc_new w _⟩
set_option maxHeartbeats 2000000 in
theorem holds_any (nm vl v : ByteArray) (k : Nat) (A : Option Addr) (n c f l : Nat) (e : Bool) (w : World) (hT : Tab w) (hk : k < 4) (hv : v.size ≤ 4611686018427387904)
    (hg : Rg w (.agg #[.slice A n c, .int .u64 ((f : Nat) : Int), .int .u64 ((l : Nat) : Int), .bool e]) (plR (rdR ⟨nm, (k : Int), vl⟩)) (pcR (rdR ⟨nm, (k : Int), vl⟩))) :
    Calls Tryd.prog 20 #[.agg #[.string nm, .int .i64 (k : Int), .string vl, .slice A n c, .int .u64 ((f : Nat) : Int), .int .u64 ((l : Nat) : Int), .bool e], .string v] w fun y w' => y = .returned (.bool (holdsM ⟨nm, (k : Int), vl⟩ v)) ∧ Below w.heap.size w w' := by
  obtain ⟨h, hh⟩ : ∃ h, w.heap.size = h := ⟨_, rfl⟩
  obtain ⟨W0, hW0⟩ : ∃ W0, w.alloc (.cells #[.string nm, .int .i64 (k : Int), .string vl, .slice A n c, .int .u64 ((f : Nat) : Int), .int .u64 ((l : Nat) : Int), .bool e] 54 (0, 0)) = W0 := ⟨_, rfl⟩
  obtain ⟨lk, hlk⟩ : ∃ lk, likeB k = lk := ⟨_, rfl⟩
  obtain ⟨nt, hnt⟩ : ∃ nt, notB k = nt := ⟨_, rfl⟩
  obtain ⟨W1, hW1⟩ : ∃ W1, W0.alloc (.cells #[.string (signB k), .bool lk, .bool nt] 67 (0, 0)) = W1 := ⟨_, rfl⟩
  have s0 : W0.heap.size = h + 1 := by rw [← hW0, ← hh]; simp
  have b0 : Below w.heap.size w W0 := hW0 ▸ (Below.refl _ _).alloc (Nat.le_refl _) _
  have b1 : Below W0.heap.size W0 W1 := hW1 ▸ (Below.refl _ _).alloc (Nat.le_refl _) _
  have G0 : B7 W0 h nm (k : Int) vl A n c f l e := hh ▸ hW0 ▸ B7.new w _ _ _ _ _ _ _ _ _
  have G1 := G0.below b1
  have X1 : W3 W1 (h + 1) (signB k) lk nt := s0 ▸ hW1 ▸ W3.new W0 _ _ _
  have B1 := Lib.hid (b0.trans (b1.mono b0.size))
  obtain ⟨⟨p0, p1, p2, p3, p4, p5, p6⟩, pf⟩ := G0.cells
  obtain ⟨⟨q0, q1, q2, q3, q4, q5, q6⟩, qf⟩ := G1.cells
  obtain ⟨v0, v1, v2⟩ := X1.cells
  obtain ⟨t0, t1, t2⟩ := (hT.below b0).at k hk
  rw [hlk] at t1
  rw [hnt] at t2
  have HLK := Lib.hid hlk
  have HNT := Lib.hid hnt
  have hki : (k : Int) < 4 := by omega
  have hk0 : (0 : Int) ≤ (k : Int) := by omega
  obtain ⟨q, hq⟩ : ∃ q, decide (v = vl) = q := ⟨_, rfl⟩
  have hqe : (v.toList == vl.toList) = q := (text_eq v vl).trans hq
  obtain ⟨z, hz⟩ : ∃ z, holdsM ⟨nm, (k : Int), vl⟩ v = z := ⟨_, rfl⟩
  rw [hz]
  have HW1 := Lib.hid hW1
  have HG := Lib.hid ((hg.below b0).below b1)
  have HV := Lib.hid hv
  have HS1 := Lib.hid (show W1.heap.size = h + 2 by rw [← hW1]; simp [s0])
  have hnk : notB (k : Int) = nt := hnt
  have hlk' : likeB (k : Int) = lk := hlk
  cases lk with
  | false =>
    have h2 : ¬ (2 : Int) ≤ (k : Int) := by
      unfold likeB at hlk'
      simpa using hlk'
    have HZ := Lib.hid (show z = (q != nt) by
      rw [← hz, ← hq, ← hnk]
      unfold holdsM notB
      rw [if_neg h2])
    clear b0 b1 G0 G1 X1 pf qf hT hlk hnt hq hz hW1 hg hv hnk hlk' h2 hk
    go_enter Tryd.func20, Tryd.ntmps20
    go_upto_region 2 with fail
    rw [HW1.out]
    clear hW0 hh s0
    cases q <;> cases nt
    all_goals
      go_wp2_with fail
      go_ret
      exact ⟨by rw [HZ.out]; rfl, B1.out⟩
  | true =>
    have h2 : (2 : Int) ≤ (k : Int) := by
      unfold likeB at hlk'
      simpa using hlk'
    obtain ⟨r, hr⟩ : ∃ r, mtR (rdR ⟨nm, (k : Int), vl⟩) v.data.toList = r := ⟨_, rfl⟩
    have HZ := Lib.hid (show z = (r != nt) by
      rw [← hz, ← hr, ← hnk]
      unfold holdsM notB
      rw [if_pos h2, rdR_yes h2])
    have HR := Lib.hid hr
    clear b0 b1 G0 G1 X1 pf qf hT hlk hnt hq hz hW1 hg hv hnk hlk' h2 hr hk
    go_enter Tryd.func20, Tryd.ntmps20
    go_upto_region 2 with fail
    rw [HW1.out]
    clear hW0 hh s0
    go_wp2_with fail
    refine (rmatch_any _ _ v _ HG.out HV.out).mono ?_
    rw [HR.out]
    rintro y w3 ⟨rfl, hb⟩
    have B3' := Lib.hid (B1.out.trans (hb.mono B1.out.size))
    have v2' := cell_below v2 hb
    clear hb
    cases r <;> cases nt
    all_goals
      go_wp2_with fail
      go_ret
      exact ⟨by rw [HZ.out]; rfl, B3'.out⟩
/-- a ready matcher -/
structure Re where
  m : Mt
  A : Option Addr
  n : Nat
  c : Nat
  f : Nat
  l : Nat
  e : Bool
def reE (r : Re) : List Value := [.string r.m.nm, .int .i64 r.m.op, .string r.m.vl, .slice r.A r.n r.c, .int .u64 ((r.f : Nat) : Int), .int .u64 ((r.l : Nat) : Int), .bool r.e]
def reC (rs : List Re) : List Value := rs.flatMap reE
theorem reC_length (l : List Re) : (reC l).length = l.length * 7 := by
  induction l with
  | nil => rfl
  | cons a r ih => simp [reC, reE] at *; omega
theorem reC_append (l m : List Re) : reC (l ++ m) = reC l ++ reC m := by simp [reC]
theorem reC_at : ∀ {l : List Re} {j i : Nat} {p : Re}, l[j]? = some p → i < 7 → (reC l)[j * 7 + i]? = (reE p)[i]?
  | [], j, i, p, h, _ => by simp at h
  | a :: r, 0, i, p, h, hi => by
    simp at h
    subst h
    have e : reC (a :: r) = reE a ++ reC r := rfl
    rw [e, Nat.zero_mul, Nat.zero_add, List.getElem?_append_left (by exact hi)]
  | a :: r, j + 1, i, p, h, hi => by
    have ih := reC_at (l := r) (j := j) (p := p) (by simpa using h) hi
    have e : reC (a :: r) = reE a ++ reC r := rfl
    rw [e, List.getElem?_append_right (by show 7 ≤ _; omega)]
    show (reC r)[(j + 1) * 7 + i - 7]? = _
    rw [show (j + 1) * 7 + i - 7 = j * 7 + i by omega]
    exact ih
def reG (w : World) (r : Re) : Prop := Rg w (.agg #[.slice r.A r.n r.c, .int .u64 ((r.f : Nat) : Int), .int .u64 ((r.l : Nat) : Int), .bool r.e]) (plR (rdR r.m)) (pcR (rdR r.m))
/-- a selector at block g -/
def Sel (w : World) (g : Nat) (ms : List Mt) : Prop :=
  ∃ (A : Option Addr) (c : Nat) (rs : List Re), w.cell? ⟨g, 0, none⟩ = some (.slice A ms.length c) ∧ rs.map Re.m = ms ∧ Cl w A (reC rs) ∧ (∀ r ∈ rs, reG w r) ∧ (∀ m ∈ ms, (0 ≤ m.op ∧ m.op < 4) ∧ prepE m = 0) ∧ ms.length ≤ 16
theorem Sel.below {w w' : World} {g : Nat} {ms : List Mt} (h : Sel w g ms) (k : Below w.heap.size w w') : Sel w' g ms := by
  obtain ⟨A, c, rs, h1, h2, h3, h4, h5⟩ := h
  exact ⟨A, c, rs, cell_below h1 k, h2, h3.below k, fun r hr => (h4 r hr).below k, h5⟩
end Go.Proofs.YtnabfganecghkaaDoor

/-! New: a selector of matchers. -/
namespace Go.Proofs.YtnabfganecghkaaDoor
open Go.RowKit Go.Sort
set_option linter.unusedVariables false

theorem infoRe : (Tryd.prog.info? 54).map (fun i => (i.zero, i.size, i.bytes)) = some (some (.agg #[.string ⟨#[]⟩, .int .i64 0, .string ⟨#[]⟩, .slice none 0 0, .int .u64 0, .int .u64 0, .bool false]), 7, 88) := by kernel_rfl
/-- append(x, y) at []ready, at a step of a region -/
theorem step_app_re {ops : Array Oper} {o : Oper} {a : Act} {w : World} {K : Act → World → Prop} {Q : Exit → Act → World → Prop} {E : Prop} (hgd : o.guard = none) (s x : Operand)
    (ho : o.op = .call { callee := .builtin .append, args := #[s, x], argTypes := #[44, 44] })
    (base : Nat) (v : Value) (n : Nat) (C : List Value) (hs : a.eval s = v) (hown : w.ownsRow base 54 7 v n C)
    (g : Nat) (hx : a.eval x = .slice (some ⟨g, 0, none⟩) 1 1) (y : Re) (hy : ∀ (i : Nat) (u : Value), (reE y)[i]? = some u → w.cell? ⟨g, i, none⟩ = some u) (hl : n + 1 ≤ 1000) (hbase : base ≤ w.heap.size)
    (h : ∀ v' w', w'.ownsRow base 54 7 v' (n + 1) (C ++ reE y) → w.grownBy w' v.ownBlock → Own v v' w → K (a.put o.dst v') w') : if Region.wanted o (yielded ops a.tmps) = true then Oper.wp Tryd.prog o a w K Q else E := by
  have hw : Region.wanted o (yielded ops a.tmps) = true := by simp [Region.wanted, hgd]
  rw [if_pos hw]
  obtain ⟨i0, hi, hz0, hz1, hz2⟩ := info_parts infoRe
  have h1c : ∀ u ∈ reE y, u.oneCell' = true := by
    intro u hu
    simp [reE] at hu
    rcases hu with rfl | rfl | rfl | rfl | rfl | rfl | rfl <;> rfl
  have hc : ∀ j u, (reE y)[j]? = some u → w.cell? ((⟨g, 0, none⟩ : Addr).add j) = some u := by
    intro j u hu
    rw [addr_at, Nat.zero_add]
    exact hy j u hu
  obtain ⟨A, c, rfl⟩ := own_shape hown
  have hL : C.length = n * 7 := hown.1
  cases A with
  | none =>
    have h0 : n = 0 ∧ c = 0 := by
      rcases hown.2 with ⟨hv, h0⟩ | ⟨b, cap, cur, hv, _⟩
      · injection hv with e1 e2 e3
        exact ⟨h0, e3⟩
      · injection hv with e1 e2 e3
        cases e1
    obtain ⟨rfl, rfl⟩ := h0
    have hP : C = [] := List.eq_nil_of_length_eq_zero (by omega)
    subst hP
    obtain ⟨v', w', hrun, r1, r2, _⟩ := run_append_own (P := Tryd.prog) w w.heap.size 44 o.type 54 i0 (.agg #[.string ⟨#[]⟩, .int .i64 0, .string ⟨#[]⟩, .slice none 0 0, .int .u64 0, .int .u64 0, .bool false]) 7 88 Tryd.underlying44 hi hz0 hz1 hz2 rfl (by decide) (.slice none 0 0) 0 [] (World.ownsRow_nil w _ _ _) ⟨g, 0, none⟩ 1 1 (reE y) rfl hc h1c (by unfold maxLen; omega) (by omega) (Nat.le_refl _)
    unfold Oper.wp
    simp [execOp, ho, resolve, invoke, builtin, hs, hx, hrun, Result.andThen]
    exact h _ w' (own_base r1 hbase) r2 (fun r hr => .inr (r1.lt r hr).1)
  | some ad =>
    obtain ⟨b, rfl⟩ : ∃ b, ad = ⟨b, 0, none⟩ := by
      rcases hown.2 with ⟨hv, _⟩ | ⟨b, cap, cur, hv, _⟩
      · injection hv with e1 e2 e3
        cases e1
      · injection hv with e1 e2 e3
        exact ⟨b, by injection e1⟩
    by_cases hfit : n + 1 ≤ c
    · obtain ⟨w', hrun, r1, r2⟩ := run_append_fits (P := Tryd.prog) w base 44 o.type 54 i0 7 Tryd.underlying44 hi hz1 b n c C hown ⟨g, 0, none⟩ 1 1 (reE y) rfl hc h1c hfit
      unfold Oper.wp
      simp [execOp, ho, resolve, invoke, builtin, hs, hx, hrun, Result.andThen]
      exact h _ w' r1 r2 (fun g hg => .inl hg)
    · obtain ⟨v', w', hrun, r1, r2⟩ := run_append_arg_grows (P := Tryd.prog) w 44 o.type 54 i0 (.agg #[.string ⟨#[]⟩, .int .i64 0, .string ⟨#[]⟩, .slice none 0 0, .int .u64 0, .int .u64 0, .bool false]) 7 88 Tryd.underlying44 hi hz0 hz1 hz2 rfl (by decide) ⟨b, 0, none⟩ n c C hL (fun j u hu => (own_cl hown).src j u hu) ⟨g, 0, none⟩ 1 1 (reE y) rfl hc (by omega) (by unfold maxLen; omega) (by omega)
      unfold Oper.wp
      simp [execOp, ho, resolve, invoke, builtin, hs, hx, hrun, Result.andThen]
      exact h _ w' (own_base r1 hbase) ⟨r2.os, r2.tape, r2.output, r2.size, fun k hk _ => r2.block k hk (by simp)⟩ (fun r hr => .inr (r1.lt r hr).1)
/-- a ready matcher's places lie apart from the selector's box and row -/
def ApR (w : World) (g : Nat) (v : Value) (r : Re) : Prop := ∀ a, r.A = some a → g < a.block ∧ a.block < w.heap.size ∧ v.ownBlock ≠ some a.block
theorem reG_keep {w w' : World} {r : Re} (h : reG w r) (k : ∀ a, r.A = some a → ∀ i u, w.cell? ⟨a.block, i, none⟩ = some u → w'.cell? ⟨a.block, i, none⟩ = some u) : reG w' r := by
  obtain ⟨A, c, h1, h2⟩ := h.ex
  refine ⟨⟨A, c, h1, ?_⟩, h.n64, h.ok, h.pok⟩
  rcases h2 with h2 | ⟨b, off, e, hc⟩
  · exact .inl h2
  · refine .inr ⟨b, off, e, fun j u hj => ?_⟩
    have hA : r.A = A := by
      unfold rgV at h1
      injection h1 with h1
      have h0 := congrArg Array.toList h1
      simp at h0
      exact h0.1.1
    exact k ⟨b, off, none⟩ (hA.trans e) (off + j) u (hc j u hj)
/-- the selector in the making -/
structure NwS (w : World) (ms : List Mt) (g i c : Nat) (A : Option Addr) (rs : List Re) (W : World) : Prop where
  hg : g = w.heap.size
  gw : g < W.heap.size
  c0 : W.cell? ⟨g, 0, none⟩ = some (.slice A i c)
  f0 : W.frozen? ⟨g, 0, none⟩ = false
  own : W.ownsRow (g + 1) 54 7 (.slice A i c) i (reC rs)
  mss : rs.map Re.m = ms.take i
  re : ∀ r ∈ rs, reG W r ∧ ApR W g (.slice A i c) r
  ok : ∀ m ∈ ms.take i, prepE m = 0
  bl : Below w.heap.size w W
theorem NwS.below {w W W' : World} {ms : List Mt} {g i c : Nat} {A : Option Addr} {rs : List Re} (z : NwS w ms g i c A rs W) (k : Below W.heap.size W W') : NwS w ms g i c A rs W' :=
  ⟨z.hg, Nat.lt_of_lt_of_le z.gw k.size, cell_below z.c0 k, (World.frozen?_of_block (k.block g z.gw)).trans z.f0, own_below z.own k, z.mss, fun r hr => ⟨(z.re r hr).1.below k, fun a ha => by
    obtain ⟨h1, h2, h3⟩ := (z.re r hr).2 a ha
    exact ⟨h1, Nat.lt_of_lt_of_le h2 k.size, h3⟩⟩, z.ok, z.bl.trans (k.mono z.bl.size)⟩
/-- one more -/
theorem NwS.push {w W W1 : World} {ms : List Mt} {g i c c' : Nat} {A A' : Option Addr} {rs : List Re} {y : Re} (z : NwS w ms g i c A rs W) (hi : ms[i]? = some y.m) (hp : prepE y.m = 0) (hy : reG W y) (ha : ∀ a, y.A = some a → g < a.block ∧ a.block < W.heap.size ∧ (Value.slice A i c).ownBlock ≠ some a.block)
    (hown : W1.ownsRow (g + 1) 54 7 (.slice A' (i + 1) c') (i + 1) (reC rs ++ reE y)) (hg : W.grownBy W1 (Value.slice A i c).ownBlock) (ho : Own (.slice A i c) (.slice A' (i + 1) c') W) :
    NwS w ms g (i + 1) c' A' (rs ++ [y]) (W1.setCell ⟨g, 0, none⟩ (.slice A' (i + 1) c')) := by
  have hgs := hg.size
  have hgb : W1.heap[g]? = W.heap[g]? := hg.block g z.gw (fun e => by have := (z.own.lt g e.symm).1; omega)
  have hall : ∀ r, r ∈ rs ++ [y] → reG W r ∧ ApR W g (.slice A i c) r := by
    intro r hr
    rcases List.mem_append.1 hr with hr | hr
    · exact z.re r hr
    · simp at hr
      subst hr
      exact ⟨hy, ha⟩
  have ht := Lb.take_snoc _ _ _ hi
  refine ⟨z.hg, by simp; have := z.gw; omega, ?_, ?_, ?_, ?_, ?_, ?_, ?_⟩
  · have hc := (World.cell?_of_block hgb).trans z.c0
    simp [go_sem, hc]
  · have hf := (World.frozen?_of_block hgb).trans z.f0
    simp [go_sem, hf]
  · have e : reC (rs ++ [y]) = reC rs ++ reE y := by simp [reC]
    rw [e]
    exact ownsRow_setCell_below hown (by show g < g + 1; omega) _
  · rw [List.map_append, z.mss, ht]
    rfl
  · intro r hr
    obtain ⟨h1, h2⟩ := hall r hr
    refine ⟨reG_keep h1 fun a ha2 j u hu => ?_, fun a ha2 => ?_⟩
    · obtain ⟨k1, k2, k3⟩ := h2 a ha2
      have e1 : (W1.setCell ⟨g, 0, none⟩ (.slice A' (i + 1) c')).heap[a.block]? = W.heap[a.block]? := by
        rw [Below.heap_setCell W1 ⟨g, 0, none⟩ _ a.block (by show a.block ≠ g; omega)]
        exact hg.block a.block k2 (fun e => k3 e.symm)
      have e2 : (W1.setCell ⟨g, 0, none⟩ (.slice A' (i + 1) c')).cell? ⟨a.block, j, none⟩ = W.cell? ⟨a.block, j, none⟩ := World.cell?_of_block e1
      exact e2.trans hu
    · obtain ⟨k1, k2, k3⟩ := h2 a ha2
      refine ⟨k1, by simp; omega, fun e => ?_⟩
      rcases ho a.block e with h | h
      · exact k3 h
      · omega
  · rw [ht]
    intro m hm
    rcases List.mem_append.1 hm with hm | hm
    · exact z.ok m hm
    · simp at hm
      subst hm
      exact hp
  · refine ⟨hg.os.trans z.bl.os, hg.tape.trans z.bl.tape, hg.output.trans z.bl.output, by have := z.bl.size; simp; omega, fun k hk => ?_⟩
    have hgw := z.hg
    rw [Below.heap_setCell W1 ⟨g, 0, none⟩ _ k (by show k ≠ g; omega), hg.block k (Nat.lt_of_lt_of_le hk z.bl.size) (fun e => by have := (z.own.lt k e.symm).1; omega)]
    exact z.bl.block k hk
theorem newL_on : ∀ {l : List Mt} {i : Nat} {m : Mt}, (∀ x ∈ l.take i, prepE x = 0) → l[i]? = some m → prepE m ≠ 0 → newL l = prepE m
  | [], i, m, _, h, _ => by simp at h
  | a :: r, 0, m, _, h, hm => by
    simp at h
    subst h
    unfold newL
    rw [if_neg hm]
  | a :: r, i + 1, m, hok, h, hm => by
    have ha : prepE a = 0 := hok a (by simp)
    unfold newL
    rw [if_pos ha]
    exact newL_on (fun x hx => hok x (by rw [List.take_succ_cons]; exact List.mem_cons_of_mem _ hx)) (by simpa using h) hm
theorem newL_ok : ∀ {l : List Mt}, (∀ x ∈ l, prepE x = 0) → newL l = 0
  | [], _ => rfl
  | a :: r, h => by
    unfold newL
    rw [if_pos (h a (by simp))]
    exact newL_ok fun x hx => h x (by simp [hx])
theorem prep_op_ok {m : Mt} (h : prepE m = 0) : 0 ≤ m.op ∧ m.op < 4 := by
  apply Classical.byContradiction
  intro hn
  have : m.op < 0 ∨ 4 ≤ m.op := by omega
  rw [prep_1 this] at h
  cases h
/-- what New pays -/
def NewP (ms : List Mt) (w : World) (y : Ending) (w' : World) : Prop :=
  ∃ p, y = .returned (.tuple #[p, .int .i64 (newE ms)]) ∧ Hid ((newE ms = 0 ∧ ∃ g, p = .pointer (some ⟨g, 0, none⟩) ∧ Sel w' g ms) ∨ (newE ms ≠ 0 ∧ p = .pointer none)) ∧ Below w.heap.size w w'
end Go.Proofs.YtnabfganecghkaaDoor

/-! New, walked. -/
namespace Go.Proofs.YtnabfganecghkaaDoor
open Go.RowKit Go.Sort
set_option linter.unusedVariables false

theorem NwS.cell {w W W1 : World} {ms : List Mt} {g i c : Nat} {A : Option Addr} {rs : List Re} (z : NwS w ms g i c A rs W) (hg : W.grownBy W1 (Value.slice A i c).ownBlock) : W1.cell? ⟨g, 0, none⟩ = some (.slice A i c) ∧ W1.frozen? ⟨g, 0, none⟩ = false := by
  have hgb : W1.heap[g]? = W.heap[g]? := hg.block g z.gw (fun e => by have := (z.own.lt g e.symm).1; omega)
  exact ⟨(World.cell?_of_block hgb).trans z.c0, (World.frozen?_of_block hgb).trans z.f0⟩
def NwRel (w : World) (ms : List Mt) (g : Nat) (v : Value) (wr : World) : Prop := ∃ (i c : Nat) (A : Option Addr) (rs : List Re), v = .int .i64 (i : Int) ∧ i ≤ ms.length ∧ NwS w ms g i c A rs wr
theorem newE_in {ms : List Mt} (h : ¬ 16 < ms.length) : newE ms = newL ms := by unfold newE; rw [if_neg h]
theorem newE_long {ms : List Mt} (h : 16 < ms.length) : newE ms = 9 := by unfold newE; rw [if_pos h]
set_option maxHeartbeats 4000000 in
theorem new_any (A : Option Addr) (n c : Nat) (ms : List Mt) (w : World) (hn : n = ms.length) (hT : Tab w) (h : Mq w A ms) :
    Calls Tryd.prog 7 #[.slice A n c] w (NewP ms w) := by
  subst hn
  by_cases h16 : 16 < ms.length
  · have h16i : (16 : Int) < (ms.length : Int) := by omega
    have HE := Lib.hid (newE_long h16)
    clear h16 h
    go_enter Tryd.func7, Tryd.ntmps7
    go_wp2_with fail
    go_ret2
    exact ⟨.pointer none, by rw [HE.out]; rfl, Lib.hid (.inr ⟨by rw [HE.out]; decide, rfl⟩), Below.refl _ _⟩
  have h16i : ¬ (16 : Int) < (ms.length : Int) := by omega
  have HE := Lib.hid (newE_in h16)
  obtain ⟨g, hg⟩ : ∃ g, w.heap.size = g := ⟨_, rfl⟩
  obtain ⟨W, hW⟩ : ∃ W, w.alloc (.cells #[.slice none 0 0] 46 (0, 0)) = W := ⟨_, rfl⟩
  have hb : Below w.heap.size w W := hW ▸ (Below.refl _ _).alloc (Nat.le_refl _) _
  have hblk : W.heap[g]? = some (.cells #[.slice none 0 0] 46 (0, 0)) := hg ▸ hW ▸ heap_alloc_new w _
  have N0 : NwS w ms g 0 0 none [] W := ⟨hg.symm, by rw [← hW, ← hg]; simp, by rw [cell_of_row _ _ _ _ _ _ hblk]; rfl, by simp [World.frozen?, hblk], World.ownsRow_nil _ _ _ _, rfl, fun r hr => by simp at hr, fun m hm => by simp at hm, hb⟩
  have R0 := Lib.hid (show NwRel w ms g (.int .i64 ((0 : Nat) : Int)) W from ⟨0, 0, none, [], rfl, by omega, N0⟩)
  have HT := Lib.hid hT
  have HM := Lib.hid h
  have HL := Lib.hid h16
  obtain ⟨N, hN⟩ : ∃ N, ms.length = N := ⟨_, rfl⟩
  have HN := Lib.hid hN
  rw [hN] at h16i ⊢
  clear hb hblk N0 hT h h16 hN
  go_enter Tryd.func7, Tryd.ntmps7
  go_wp2_with fail
  clear hW hg
  go_loopw [16] (fun v wr => Hid (NwRel w ms g v wr)) (fun v _ => N - (intOf v).toNat)
  case atStart => exact R0
  case round =>
    clear R0
    obtain ⟨i, c1, A1, rs, rfl, hi, hz⟩ := hrel.out
    clear hrel
    have Z := Lib.hid hz
    by_cases hlt : i < N
    · have hki : (i : Int) < (N : Int) := by omega
      have hi16 : i ≤ 16 := by omega
      obtain ⟨m, hm⟩ : ∃ m, ms[i]? = some m := ⟨_, List.getElem?_eq_getElem (by rw [HN.out]; exact hlt)⟩
      obtain ⟨b, off, rfl, hc⟩ := (HM.out.below Z.out.bl).some_ (by rw [HN.out]; omega)
      obtain ⟨k0, k1, k2⟩ := hc i m hm
      have HMI := Lib.hid hm
      have HWM := Lib.hid (HM.out.2.1 m (List.mem_of_getElem? hm))
      obtain ⟨nm, op, vl⟩ := m
      obtain ⟨W5, hW5⟩ : ∃ W5, wr.alloc (.cells #[.string nm, .int .i64 op, .string vl] 40 (0, 0)) = W5 := ⟨_, rfl⟩
      obtain ⟨g5, hg5⟩ : ∃ g5, wr.heap.size = g5 := ⟨_, rfl⟩
      have b5 : Below wr.heap.size wr W5 := hW5 ▸ (Below.refl _ _).alloc (Nat.le_refl _) _
      have Z5 := Lib.hid (Z.out.below b5)
      have X5 := Lib.hid (show B3 W5 g5 nm op vl from hg5 ▸ hW5 ▸ B3.new wr _ _ _)
      have HPR := Lib.hid (prepare_any ⟨nm, op, vl⟩ W5 (HT.out.below Z5.out.bl) HWM.out)
      unfold mtV at HPR
      obtain ⟨E, hE⟩ : ∃ E, prepE ⟨nm, op, vl⟩ = E := ⟨_, rfl⟩
      have HEE := Lib.hid hE
      obtain ⟨x0, x1, x2⟩ := X5.out.cells
      have HLT := Lib.hid hlt
      clear hc hm b5 hz hE hlt hi
      go_wp2_with fail
      clear hW5 hg5
      refine HPR.out.mono ?_
      rintro y w6 ⟨nm2, op2, vl2, A2, n2, c2, f, l, e, rfl, hok, hb6⟩
      rw [HEE.out] at hok ⊢
      have HOK := Lib.hid hok
      obtain ⟨W7, hW7⟩ : ∃ W7, w6.alloc (.cells #[.string nm2, .int .i64 op2, .string vl2, .slice A2 n2 c2, .int .u64 ((f : Nat) : Int), .int .u64 ((l : Nat) : Int), .bool e] 54 (0, 0)) = W7 := ⟨_, rfl⟩
      obtain ⟨g7, hg7⟩ : ∃ g7, w6.heap.size = g7 := ⟨_, rfl⟩
      have b67 : Below w6.heap.size w6 W7 := hW7 ▸ (Below.refl _ _).alloc (Nat.le_refl _) _
      have Z6 := Lib.hid (Z5.out.below hb6)
      have Z7 := Lib.hid (Z6.out.below b67)
      have X7 := Lib.hid (show B7 W7 g7 nm2 op2 vl2 A2 n2 c2 f l e from hg7 ▸ hW7 ▸ B7.new w6 _ _ _ _ _ _ _ _ _)
      have B67 := Lib.hid b67
      have HS5 := Lib.hid (show (∀ a, A2 = some a → W5.heap.size ≤ a.block ∧ a.block < w6.heap.size) → ∀ a, A2 = some a → g < a.block ∧ a.block < W7.drew.heap.size ∧ (Value.slice A1 i c1).ownBlock ≠ some a.block from fun h a ha => by
        obtain ⟨h1, h2⟩ := h a ha
        have h3 := Z5.out.gw
        have h4 := b67.size
        exact ⟨by omega, by show a.block < W7.heap.size; omega, fun e => by have := (Z5.out.own.lt _ e).2; omega⟩)
      clear hb6 b67 hok
      by_cases hE0 : E = 0
      · subst hE0
        obtain ⟨i1, i2, i3, i4, i5⟩ := HOK.out.out rfl
        subst i1 i2 i3
        have HRG := Lib.hid (i4.below B67.out)
        have HNW := Lib.hid (HS5.out i5)
        clear i4 i5
        obtain ⟨⟨p0, p1, p2, p3, p4, p5, p6⟩, _⟩ := X7.out.cells
        have zc := Z7.out.c0
        obtain ⟨W8, hW8⟩ : ∃ W8, W7.drew.alloc (.cells #[.string nm2, .int .i64 op2, .string vl2, .slice A2 n2 c2, .int .u64 ((f : Nat) : Int), .int .u64 ((l : Nat) : Int), .bool e] 54 (0, 0)) = W8 := ⟨_, rfl⟩
        have bd : Below W7.heap.size W7 W7.drew := (Below.refl _ _).drew
        have b78 : Below W7.drew.heap.size W7.drew W8 := hW8 ▸ (Below.refl _ _).alloc (Nat.le_refl _) _
        have Z8 := Lib.hid ((Z7.out.below bd).below b78)
        have zc8 := Z8.out.c0
        have HY := Lib.hid (show ∀ (j : Nat) (u : Value), (reE ⟨⟨nm2, op2, vl2⟩, A2, n2, c2, f, l, e⟩)[j]? = some u → W8.cell? ⟨W7.heap.size, j, none⟩ = some u from fun j u hu => by
          have hb8 : W8.heap[W7.drew.heap.size]? = some (.cells #[.string nm2, .int .i64 op2, .string vl2, .slice A2 n2 c2, .int .u64 ((f : Nat) : Int), .int .u64 ((l : Nat) : Int), .bool e] 54 (0, 0)) := by rw [← hW8]; exact heap_alloc_new W7.drew _
          have hb9 : W8.heap[W7.heap.size]? = some (.cells #[.string nm2, .int .i64 op2, .string vl2, .slice A2 n2 c2, .int .u64 ((f : Nat) : Int), .int .u64 ((l : Nat) : Int), .bool e] 54 (0, 0)) := hb8
          rw [cell_of_row _ _ _ _ _ _ hb9, ← hu]
          rcases j with _ | _ | _ | _ | _ | _ | _ | j <;> first | rfl | (simp [reE] at hu))
        have HRG8 := Lib.hid (show reG W8 ⟨⟨nm2, op2, vl2⟩, A2, n2, c2, f, l, e⟩ from (HRG.out.below bd).below b78)
        have HNW8 := Lib.hid (show ∀ a, A2 = some a → g < a.block ∧ a.block < W8.heap.size ∧ (Value.slice A1 i c1).ownBlock ≠ some a.block from fun a ha => by
          obtain ⟨h1, h2, h3⟩ := HNW.out a ha
          exact ⟨h1, Nat.lt_of_lt_of_le h2 b78.size, h3⟩)
        have hi1 : i + 1 ≤ 1000 := by omega
        have HGB := Lib.hid (show g + 1 ≤ W8.heap.size from Z8.out.gw)
        clear bd b78
        go_wp2_with fail
        clear hW7 hg7
        go_region_law (refine step_app_re rfl (.tmp 32) (.tmp 34) rfl (g + 1) (.slice A1 i c1) i (reC rs) rfl Z8.out.own W7.heap.size rfl ⟨⟨nm2, op2, vl2⟩, A2, n2, c2, f, l, e⟩ HY.out hi1 HGB.out ?_; intro v9 w9 ho9 hg9 hv9; obtain ⟨A9, c9, rfl⟩ := own_shape ho9; obtain ⟨k9, f9⟩ := Z8.out.cell hg9; have Z9 := Lib.hid (Z8.out.push HMI.out HEE.out HRG8.out HNW8.out ho9 hg9 hv9); clear ho9 hg9 hv9)
        all_goals
          go_wp2_with fail
          go_roundw
          case rel => exact Lib.hid ⟨i + 1, c9, A9, _, by go_num, by have := HLT.out; have := HN.out; omega, Z9.out⟩
          case measure => simp [intOf]; have := HLT.out; omega
      · have hEb : (E != 0) = true := z_ne 0 hE0
        have HBAD := Lib.hid (show newE ms = E from by
          rw [HE.out, ← HEE.out]
          exact newL_on Z5.out.ok HMI.out (by rw [HEE.out]; exact hE0))
        have HE1 := Lib.hid hE0
        clear hE0
        go_wp2_with fail
        clear hW7 hg7
        go_ret2
        exact ⟨.pointer none, by rw [HBAD.out]; rfl, Lib.hid (.inr ⟨by rw [HBAD.out]; exact HE1.out, rfl⟩), Z7.out.bl⟩
    · obtain rfl : i = N := by have := HN.out; omega
      have hki : ¬ ((i : Nat) : Int) < (i : Int) := by omega
      have HALL := Lib.hid (show (∀ m ∈ ms, prepE m = 0) ∧ rs.map Re.m = ms from by
        have h1 := Z.out.ok
        have h2 := Z.out.mss
        rw [List.take_of_length_le (by have := HN.out; omega)] at h1 h2
        exact ⟨h1, h2⟩)
      have HE2 := Lib.hid (show newE ms = 0 from by rw [HE.out]; exact newL_ok HALL.out.1)
      clear hz
      go_wp2_with fail
      go_ret2
      refine ⟨.pointer (some ⟨g, 0, none⟩), by rw [HE2.out]; rfl, Lib.hid (.inl ⟨HE2.out, g, rfl, A1, c1, rs, ?_, HALL.out.2, own_cl Z.out.own, fun r hr => (Z.out.re r hr).1, fun m hm => ⟨prep_op_ok (HALL.out.1 m hm), HALL.out.1 m hm⟩, by have := HL.out; omega⟩), Z.out.bl⟩
      rw [HN.out]
      exact Z.out.c0
end Go.Proofs.YtnabfganecghkaaDoor

/-! A selector's Match. -/
namespace Go.Proofs.YtnabfganecghkaaDoor
open Go.RowKit Go.Sort
set_option linter.unusedVariables false

/-- labels whose values aren't too long -/
def Lv (l : List Lb.Lab) : Prop := ∀ p ∈ l, p.2.size ≤ 4611686018427387904
theorem getV_size {l : List Lb.Lab} (h : Lv l) (s : ByteArray) : (Lb.getV l s).size ≤ 4611686018427387904 := by
  unfold Lb.getV
  cases hk : Lb.getK l s with
  | none => show (0 : Nat) ≤ _; omega
  | some p => exact h p (List.mem_of_find?_eq_some hk)
theorem nil_match (A : Option Addr) (n c : Nat) (w : World) : Calls Tryd.prog 10 #[.pointer none, .slice A n c] w fun y w' => y = .returned (.bool false) ∧ w' = w := by
  go_enter Tryd.func10, Tryd.ntmps10
  go_wp2_with fail
  go_ret
  exact ⟨rfl, rfl⟩
theorem all_take {ms : List Mt} {f : Mt → Bool} {i : Nat} {m : Mt} (h : (ms.take i).all f = true) (hm : ms[i]? = some m) : (ms.take (i + 1)).all f = f m := by
  rw [Lb.take_snoc _ _ _ hm, List.all_append, h]
  simp
theorem all_bad {ms : List Mt} {f : Mt → Bool} {i : Nat} {m : Mt} (hm : ms[i]? = some m) (hf : f m = false) : ms.all f = false := by
  rw [← Bool.not_eq_true]
  intro h
  rw [List.all_eq_true.1 h m (List.mem_of_getElem? hm)] at hf
  cases hf
def SmRel (w : World) (ms : List Mt) (a : List Lb.Lab) (v : Value) (wr : World) : Prop := ∃ i : Nat, v = .int .i64 (i : Int) ∧ i ≤ ms.length ∧ (ms.take i).all (fun m => holdsM m (Lb.getV a m.nm)) = true ∧ Below w.heap.size w wr
set_option maxHeartbeats 4000000 in
theorem match_sel (g : Nat) (ms : List Mt) (A : Option Addr) (n c : Nat) (a : List Lb.Lab) (w : World) (hT : Tab w) (hs : Sel w g ms) (hn : n = a.length) (hl : Lb.Lw w A a) (hv : Lv a) :
    Calls Tryd.prog 10 #[.pointer (some ⟨g, 0, none⟩), .slice A n c] w fun y w' => y = .returned (.bool (allM ms a)) ∧ Below w.heap.size w w' := by
  subst hn
  obtain ⟨B, d, rs, h1, h2, h3, h4, h5, h6⟩ := hs
  obtain ⟨N, hN⟩ : ∃ N, ms.length = N := ⟨_, rfl⟩
  have hrs : rs.length = N := by rw [← hN, ← h2, List.length_map]
  obtain ⟨z, hz⟩ : ∃ z, allM ms a = z := ⟨_, rfl⟩
  have HZ := Lib.hid hz
  have HN := Lib.hid hN
  rw [hz]
  rw [hN] at h1
  have R0 := Lib.hid (show SmRel w ms a (.int .i64 ((0 : Nat) : Int)) w from ⟨0, rfl, by omega, by simp, Below.refl _ _⟩)
  have H2 := Lib.hid h2
  have H3 := Lib.hid h3
  have H4 := Lib.hid h4
  have H5 := Lib.hid h5
  have HRS := Lib.hid hrs
  have HT := Lib.hid hT
  have HL := Lib.hid hl
  have HV := Lib.hid hv
  have hN16 : N ≤ 16 := by omega
  clear h2 h3 h4 h5 hrs hT hl hv hN hz h6
  go_enter Tryd.func10, Tryd.ntmps10
  go_wp2_with fail
  go_loopw [14] (fun v wr => Hid (SmRel w ms a v wr)) (fun v _ => N - (intOf v).toNat)
  case atStart => exact R0
  case round =>
    clear R0
    obtain ⟨i, rfl, hi, hall, hb⟩ := hrel.out
    clear hrel
    have HB := Lib.hid hb
    have HALL := Lib.hid hall
    by_cases hlt : i < N
    · have hki : (i : Int) < (N : Int) := by omega
      have hi16 : i ≤ 16 := by omega
      obtain ⟨r, hr⟩ : ∃ r, rs[i]? = some r := ⟨_, List.getElem?_eq_getElem (by rw [HRS.out]; exact hlt)⟩
      have hm : ms[i]? = some r.m := by rw [← H2.out, List.getElem?_map, hr]; rfl
      obtain ⟨b, off, hB, hc⟩ := H3.out.some_ (by rw [reC_length, HRS.out]; omega)
      subst hB
      have hcell : ∀ j u, j < 7 → (reE r)[j]? = some u → wr.cell? ⟨b, off + (i * 7 + j), none⟩ = some u := fun j u hj hu => cell_below (hc (i * 7 + j) u (by rw [reC_at hr hj]; exact hu)) hb
      have q0 := hcell 0 _ (by omega) rfl
      have q1 := hcell 1 _ (by omega) rfl
      have q2 := hcell 2 _ (by omega) rfl
      have q3 := hcell 3 _ (by omega) rfl
      have q4 := hcell 4 _ (by omega) rfl
      have q5 := hcell 5 _ (by omega) rfl
      have q6 := hcell 6 _ (by omega) rfl
      simp only [Nat.add_zero, ← Nat.add_assoc] at q0 q1 q2 q3 q4 q5 q6
      have hg := H4.out r (List.mem_of_getElem? hr)
      have hop := (H5.out r.m (List.mem_of_getElem? hm)).1
      obtain ⟨⟨nm, op, vl⟩, A2, n2, c2, f, l, e⟩ := r
      obtain ⟨k, hk⟩ : ∃ k : Nat, op = (k : Int) := ⟨op.toNat, by have : (0 : Int) ≤ op := hop.1; omega⟩
      subst hk
      have hk4 : k < 4 := by have : (k : Int) < 4 := hop.2; omega
      obtain ⟨W5, hW5⟩ : ∃ W5, wr.alloc (.cells #[.string nm, .int .i64 (k : Int), .string vl, .slice A2 n2 c2, .int .u64 ((f : Nat) : Int), .int .u64 ((l : Nat) : Int), .bool e] 54 (0, 0)) = W5 := ⟨_, rfl⟩
      obtain ⟨g5, hg5⟩ : ∃ g5, wr.heap.size = g5 := ⟨_, rfl⟩
      have b5 : Below wr.heap.size wr W5 := hW5 ▸ (Below.refl _ _).alloc (Nat.le_refl _) _
      have X5 := Lib.hid (show B7 W5 g5 nm (k : Int) vl A2 n2 c2 f l e from hg5 ▸ hW5 ▸ B7.new wr _ _ _ _ _ _ _ _ _)
      have B5 := Lib.hid (HB.out.trans (b5.mono HB.out.size))
      have HRG := Lib.hid (show reG W5.drew ⟨⟨nm, (k : Int), vl⟩, A2, n2, c2, f, l, e⟩ from Rg.below (Rg.below hg B5.out) ((Below.refl _ _).drew))
      have HLW := Lib.hid (show Lb.Lw W5.drew A a from (HL.out.below B5.out).below ((Below.refl _ _).drew))
      have HTB := Lib.hid (show Tab W5.drew from (HT.out.below B5.out).below ((Below.refl _ _).drew))
      obtain ⟨z2, hz2⟩ : ∃ z2, holdsM ⟨nm, (k : Int), vl⟩ (Lb.getV a nm) = z2 := ⟨_, rfl⟩
      have HZ2 := Lib.hid hz2
      have HMI := Lib.hid hm
      have HLT := Lib.hid hlt
      have HVS := Lib.hid (getV_size HV.out nm)
      obtain ⟨⟨p0, p1, p2, p3, p4, p5, p6⟩, _⟩ := X5.out.cells
      clear hc hcell hg hop hb hall hi hlt b5 hm hr hz2
      have HK4 := Lib.hid hk4
      clear hk4
      simp only at q0 q1 q2 q3 q4 q5 q6
      go_wp2_with fail
      clear hW5 hg5 q0 q1 q2 q3 q4 q5 q6
      go_region_with (first
        | (go_at_call 21; refine (Lb.get_any A a.length c a nm _ rfl HLW.out).mono ?_; rintro y w6 ⟨rfl, hb6⟩; have HB6 := Lib.hid hb6; have HX6 := Lib.hid ((X5.out.below ((Below.refl _ _).drew)).below hb6); obtain ⟨⟨r0, r1, r2, r3, r4, r5, r6⟩, _⟩ := HX6.out.cells; clear hb6)
        | (go_at_call 20; refine (holds_any nm vl (Lb.getV a nm) k A2 n2 c2 f l e _ (HTB.out.below HB6.out) HK4.out HVS.out (HRG.out.below HB6.out)).mono ?_; rw [HZ2.out]; rintro y w7 ⟨rfl, hb7⟩; have HB7 := Lib.hid hb7; clear hb7))
      all_goals
        have BB := Lib.hid (show Below w.heap.size w w7 from ((B5.out.drew.trans (HB6.out.mono (by have := B5.out.size; exact this))).trans (HB7.out.mono (Nat.le_trans B5.out.size HB6.out.size))))
        cases z2 with
        | false =>
          have HF := Lib.hid (show z = false by rw [← HZ.out]; exact all_bad HMI.out HZ2.out)
          go_wp2_with fail
          go_ret
          exact ⟨by rw [HF.out]; rfl, BB.out⟩
        | true =>
          go_wp2_with fail
          go_roundw
          case rel => exact Lib.hid ⟨i + 1, by go_num, by have := HLT.out; have := HN.out; omega, by rw [all_take HALL.out HMI.out]; exact HZ2.out, BB.out⟩
          case measure => simp [intOf]; have := HLT.out; omega
    · obtain rfl : i = N := by have := HN.out; omega
      have hki : ¬ ((i : Nat) : Int) < (i : Int) := by omega
      have HF := Lib.hid (show z = true by
        have := HALL.out
        rw [List.take_of_length_le (by have := HN.out; omega)] at this
        rw [← HZ.out]
        exact this)
      clear hb hall
      go_wp2_with fail
      go_ret
      exact ⟨by rw [HF.out]; rfl, HB.out⟩
end Go.Proofs.YtnabfganecghkaaDoor

/-! To, Light, the document's Check. -/
namespace Go.Proofs.YtnabfganecghkaaDoor
open Go.RowKit Go.Sort
set_option linter.unusedVariables false

theorem infoMt : (Tryd.prog.info? 40).map (fun i => (i.zero, i.size, i.bytes)) = some (some (.agg #[.string ⟨#[]⟩, .int .i64 0, .string ⟨#[]⟩]), 3, 40) := by kernel_rfl
/-- append(x, y) at []match.Matcher -/
theorem app_mt {ops : Array Oper} {rest : List Oper} {o : Oper} {a : Act} {w : World} {Q : Exit → Act → World → Prop} (hgd : o.guard = none) (s x : Operand)
    (ho : o.op = .call { callee := .builtin .append, args := #[s, x], argTypes := #[30, 30] })
    (base : Nat) (A : Option Addr) (n c : Nat) (l : List Mt) (hs : a.eval s = .slice A n c) (hown : w.ownsRow base 40 3 (.slice A n c) n (mtC l))
    (g : Nat) (hx : a.eval x = .slice (some ⟨g, 0, none⟩) 1 1) (y : Mt) (hy : w.cell? ⟨g, 0, none⟩ = some (.string y.nm) ∧ w.cell? ⟨g, 1, none⟩ = some (.int .i64 y.op) ∧ w.cell? ⟨g, 2, none⟩ = some (.string y.vl)) (hl : (n + 1) * 40 ≤ 140737488355328) (hbase : base ≤ w.heap.size)
    (h : ∀ A' c' w', w'.ownsRow base 40 3 (.slice A' (n + 1) c') (n + 1) (mtC (l ++ [y])) → w.grownBy w' (Value.slice A n c).ownBlock → wpList Tryd.prog ops Q rest (a.put o.dst (.slice A' (n + 1) c')) w') : wpList Tryd.prog ops Q (o :: rest) a w := by
  obtain ⟨i0, hi, hz0, hz1, hz2⟩ := info_parts infoMt
  refine wpList_append_own w hgd s x 30 ho base 40 i0 (.agg #[.string ⟨#[]⟩, .int .i64 0, .string ⟨#[]⟩]) 3 40 Tryd.underlying30 hi hz0 hz1 hz2 rfl (by decide) _ n (mtC l) hs hown ⟨g, 0, none⟩ 1 1 (mtE y) hx rfl ?_ (by simp [Value.oneCell', mtE]) (by unfold maxLen; omega) (by omega) hbase ?_
  · intro j u hu
    rw [addr_at, Nat.zero_add]
    match j, hu with
    | 0, hu => simp [mtE] at hu; rw [← hu]; exact hy.1
    | 1, hu => simp [mtE] at hu; rw [← hu]; exact hy.2.1
    | 2, hu => simp [mtE] at hu; rw [← hu]; exact hy.2.2
    | j + 3, hu => simp [mtE] at hu
  · intro v' w' h1 h2 _
    obtain ⟨A', c', rfl⟩ := own_shape h1
    have e : mtC l ++ mtE y = mtC (l ++ [y]) := by simp [mtC]
    rw [e] at h1
    exact h A' c' w' h1 h2
/-- the document's matchers' boxes -/
structure D3 (w : World) (h : Nat) (nm : ByteArray) (op : Int) (vl : ByteArray) : Prop where
  hw : h < w.heap.size
  blk : w.heap[h]? = some (.cells #[.string nm, .int .i64 op, .string vl] 39 (0, 0))
theorem D3.below {w w' : World} {h : Nat} {nm vl : ByteArray} {op : Int} (b : D3 w h nm op vl) (k : Below w.heap.size w w') : D3 w' h nm op vl := ⟨Nat.lt_of_lt_of_le b.hw k.size, (k.block h b.hw).trans b.blk⟩
theorem D3.cells {w : World} {h : Nat} {nm vl : ByteArray} {op : Int} (b : D3 w h nm op vl) : (w.cell? ⟨h, 0, none⟩ = some (.string nm) ∧ w.cell? ⟨h, 1, none⟩ = some (.int .i64 op) ∧ w.cell? ⟨h, 2, none⟩ = some (.string vl)) ∧ ∀ i, w.frozen? ⟨h, i, none⟩ = false := by
  have hb := b.blk
  refine ⟨⟨?_, ?_, ?_⟩, fun i => by simp [World.frozen?, hb]⟩
  · rw [cell_of_row _ _ _ _ _ _ hb]; rfl
  · rw [cell_of_row _ _ _ _ _ _ hb]; rfl
  · rw [cell_of_row _ _ _ _ _ _ hb]; rfl
theorem D3.new (w : World) (nm : ByteArray) (op : Int) (vl : ByteArray) : D3 (w.alloc (.cells #[.string nm, .int .i64 op, .string vl] 39 (0, 0))) w.heap.size nm op vl := ⟨by simp, heap_alloc_new w _⟩
def ToRel (w : World) (ms : List Mt) (v3 v8 : Value) (wr : World) : Prop := ∃ (i c : Nat) (A : Option Addr), v3 = .slice A i c ∧ v8 = .int .i64 (i : Int) ∧ i ≤ ms.length ∧ wr.ownsRow w.heap.size 40 3 (.slice A i c) i (mtC (ms.take i)) ∧ Below w.heap.size w wr
/-- a new slice of matchers -/
def ToP (ms : List Mt) (w : World) (y : Ending) (w' : World) : Prop := ∃ A c, y = .returned (.slice A ms.length c) ∧ Mq w' A ms ∧ Below w.heap.size w w'
theorem new_m3 {w W : World} {g : Nat} {nm vl : ByteArray} {op : Int} (hg : w.heap.size = g) (hW : w.alloc (.cells #[.string nm, .int .i64 op, .string vl] 40 (0, 0)) = W) : W.cell? ⟨g, 0, none⟩ = some (.string nm) ∧ W.cell? ⟨g, 1, none⟩ = some (.int .i64 op) ∧ W.cell? ⟨g, 2, none⟩ = some (.string vl) := by
  subst hg hW
  exact (B3.new w nm op vl).cells
set_option maxHeartbeats 4000000 in
theorem to_any (A : Option Addr) (n c : Nat) (ms : List Mt) (w : World) (hn : n = ms.length) (h : Mq w A ms) (hR : n * 40 ≤ 140737488355328) :
    Calls Tryd.prog 8 #[.slice A n c] w (ToP ms w) := by
  subst hn
  obtain ⟨N, hN⟩ : ∃ N, ms.length = N := ⟨_, rfl⟩
  have HN := Lib.hid hN
  have HM := Lib.hid h
  have R0 := Lib.hid (show ToRel w ms (.slice none 0 0) (.int .i64 ((0 : Nat) : Int)) w from ⟨0, 0, none, rfl, rfl, by omega, World.ownsRow_nil _ _ _ _, Below.refl _ _⟩)
  rw [hN] at hR ⊢
  have hNb : N ≤ 3518437208883 := by omega
  have HR := Lib.hid hR
  clear h hN hR
  go_enter Tryd.func8, Tryd.ntmps8
  go_wp2_with fail
  go_loopw [3, 8] (fun v3 v8 wr => Hid (ToRel w ms v3 v8 wr)) (fun _ v8 _ => N - (intOf v8).toNat)
  case atStart => exact R0
  case round =>
    clear R0
    obtain ⟨i, c1, A1, rfl, rfl, hi, hown, hb⟩ := hrel.out
    clear hrel
    have HOWN := Lib.hid hown
    have HB := Lib.hid hb
    by_cases hlt : i < N
    · have hki : (i : Int) < (N : Int) := by omega
      have hib : i ≤ 3518437208883 := by omega
      obtain ⟨m, hm⟩ : ∃ m, ms[i]? = some m := ⟨_, List.getElem?_eq_getElem (by rw [HN.out]; exact hlt)⟩
      obtain ⟨b, off, rfl, hc⟩ := (HM.out.below HB.out).some_ (by rw [HN.out]; omega)
      obtain ⟨k0, k1, k2⟩ := hc i m hm
      have HMI := Lib.hid (Lb.take_snoc _ _ _ hm)
      obtain ⟨nm, op, vl⟩ := m
      obtain ⟨W5, hW5⟩ : ∃ W5, wr.alloc (.cells #[.string nm, .int .i64 op, .string vl] 39 (0, 0)) = W5 := ⟨_, rfl⟩
      obtain ⟨g5, hg5⟩ : ∃ g5, wr.heap.size = g5 := ⟨_, rfl⟩
      obtain ⟨W6, hW6⟩ : ∃ W6, W5.alloc (.cells #[.string nm, .int .i64 op, .string vl] 40 (0, 0)) = W6 := ⟨_, rfl⟩
      obtain ⟨g6, hg6⟩ : ∃ g6, W5.heap.size = g6 := ⟨_, rfl⟩
      have b5 : Below wr.heap.size wr W5 := hW5 ▸ (Below.refl _ _).alloc (Nat.le_refl _) _
      have b6 : Below W5.heap.size W5 W6 := hW6 ▸ (Below.refl _ _).alloc (Nat.le_refl _) _
      have X5 := Lib.hid (show D3 W5 g5 nm op vl from hg5 ▸ hW5 ▸ D3.new wr _ _ _)
      have O6 := Lib.hid (own_below (own_below HOWN.out b5) b6)
      have B6 := Lib.hid (HB.out.trans ((b5.trans (b6.mono b5.size)).mono HB.out.size))
      have HY := Lib.hid (new_m3 hg6 hW6)
      obtain ⟨⟨x0, x1, x2⟩, _⟩ := X5.out.cells
      have HLT := Lib.hid hlt
      clear hown hb hc hm b5 b6 hlt hi
      go_wp2_with (at_builtin; refine app_mt rfl _ _ rfl w.heap.size A1 i c1 (ms.take i) rfl O6.out g6 rfl ⟨nm, op, vl⟩ HY.out (by have := HR.out; have := HLT.out; omega) B6.out.size ?_; intro A7 c7 w7 ho7 hg7; have HO7 := Lib.hid ho7; have HB7 := Lib.hid (B6.out.grown hg7 B6.out.size (fun k hk => (O6.out.lt k hk).1)); clear ho7 hg7)
      clear hW5 hg5 hW6 hg6
      go_roundw
      case rel => exact Lib.hid ⟨i + 1, c7, A7, rfl, by go_num, by have := HLT.out; have := HN.out; omega, by rw [HMI.out]; exact HO7.out, HB7.out⟩
      case measure => simp [intOf]; have := HLT.out; omega
    · obtain rfl : i = N := by have := HN.out; omega
      have hki : ¬ ((i : Nat) : Int) < (i : Int) := by omega
      clear hown hb
      go_wp2_with fail
      go_ret
      refine ⟨A1, c1, by rw [HN.out]; rfl, ⟨HM.out.1, HM.out.2.1, ?_⟩, HB.out⟩
      have := own_cl HOWN.out
      rw [List.take_of_length_le (by have := HN.out; omega)] at this
      exact this
end Go.Proofs.YtnabfganecghkaaDoor
