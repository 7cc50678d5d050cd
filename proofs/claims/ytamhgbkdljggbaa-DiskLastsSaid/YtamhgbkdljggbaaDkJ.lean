/- slices.AppendSeq behind a row that is there already. -/
import Derived.Test.YtamhgbkdljggbaaDkH
import Derived.Shelf.SlIter.Nil
namespace Go.Proofs.Ytamhgbkdljggbaa.Dk
open Go.RowKit Go.Maps Go.Sort Go.Shelf Go.Proofs
set_option linter.unusedVariables false
variable {P : Program} {ρ : Ren}

/-- the loop's record, with what the row was at first -/
def seqR (ρ : Ren) (fn : FuncId) (v0 sv : Value) (Bs D : Nat) (st : LoopState) (pend : Option Code) : Loop :=
  { state := st, pending := pend, fn, tmps := #[v0, sv, .pointer (some ⟨Bs, 0, none⟩), undef, .slice none 0 0, undef, sv, undef, undef, undef, undef, undef, undef], params := #[7], assign := AnyZ.apAssign ρ, body := AnyZ.apBody ρ, defers := D }
/-- between two rounds -/
structure SeqI (ρ : Ren) (w0 : World) (b0 : Nat) (fn : FuncId) (v0 sv : Value) (Bs l D : Nat) (s0 ss : List (List UInt8)) (W : World) : Prop where
  box : ∃ v, W.heap[Bs]? = some (.cells #[v] (ρ.t 24) (0, 0)) ∧ W.ownsRow b0 (ρ.t 26) 1 v (s0.length + ss.length) ((s0 ++ ss).map encStr)
  L : W.heap[l]? = some (.loop (seqR ρ fn v0 sv Bs D .ready none))
  K : W.heap[D]? = some (.deferred (some []))
  below : Below b0 w0 W
theorem seqI_abides (ρ : Ren) (w0 : World) (b0 : Nat) (fn : FuncId) (v0 sv : Value) (Bs l D B : Nat) (s0 : List (List UInt8)) (hB : w0.heap.size ≤ B) (hb0 : b0 ≤ w0.heap.size) : AbidesFrom B (SeqI ρ w0 b0 fn v0 sv Bs l D s0) := fun ss W W' row h hg hrow => by
  have hw : ∀ r, row = some r → ∃ o : Obj, W.heap[r]? = some o ∧ o.isWalk = true := fun r e => (hrow r e).2
  obtain ⟨v, hv, hr⟩ := h.box
  exact ⟨⟨v, (grownBy_keeps hg hw hv rfl).trans hv, ownsRow_abides_a hr hg hw⟩, (grownBy_keeps hg hw h.L rfl).trans h.L, (grownBy_keeps hg hw h.K rfl).trans h.K,
    h.below.grown hg (Nat.le_trans hb0 (by have := h.L; have := (Array.getElem?_eq_some_iff.1 this).1; have := h.below.size; omega)) (fun k e => Nat.le_trans hb0 (Nat.le_trans hB (hrow k e).1))⟩
theorem row_ne {W : World} {b0 k : Nat} {e t : TypeId} {v : Value} {xs : List Value} (h : W.ownsRow b0 e 1 v k xs) {j : Nat} {o : Obj} (hj : W.heap[j]? = some o) (hno : ∀ cur, o ≠ .cells cur e (0, 0)) : some j ≠ v.ownBlock := fun e' => by
  rcases ownsRow_ne_a h hj hno with h1 | h1
  · rw [h1] at e'; cases e'
  · exact h1 e'.symm
set_option maxRecDepth 100000 in
set_option maxHeartbeats 2000000 in
theorem seqI_yield (L : SlLaysZ.n11 P ρ) (F : Fence) (m : Nat) (w0 : World) (b0 : Nat) (hb0 : b0 ≤ w0.heap.size) (fn : FuncId) (hfn : F.fn fn) (v0 sv : Value) (Bs l D : Nat) (hBl : Bs ≠ l) (hDl : D ≠ l) (hDB : D ≠ Bs) (h0B : w0.heap.size ≤ Bs) (h0l : w0.heap.size ≤ l)
    (s0 : List (List UInt8)) (N : Nat) (hN : s0.length + N ≤ maxLen) (hNb : (s0.length + N) * 16 ≤ 140737488355328) (ss : List (List UInt8)) (x : List UInt8) (W : World) (h : SeqI ρ w0 b0 fn v0 sv Bs l D s0 ss W) (hlen : ss.length < N) :
    YieldAt F m P l #[encStr x] W fun e W' => e = .returned (.bool true) ∧ SeqI ρ w0 b0 fn v0 sv Bs l D s0 (ss ++ [x]) W' ∧ KeepsWalks W W' := by
  have mixed := L.mixed; have t0 := L.t0; have a0 := L.a0; have z0 := L.z0; have z24 := L.z24; have v24 := L.v24; have t24 := L.t24; have a24 := L.a24; have t26 := L.t26; have a26 := L.a26; have z26 := L.z26; have v26 := L.v26; have t28 := L.t28; have a28 := L.a28; have z28 := L.z28; have v28 := L.v28; have v0' := L.v0
  have u0 := run_underlying L.t0; have u24 := run_underlying L.t24; have u26 := run_underlying L.t26; have u28 := run_underlying L.t28
  have hne : ρ.t 24 ≠ ρ.t 26 := fun e => by have h := L.t24; rw [e, L.t26] at h; cases h
  have nB : ∀ (v : Value) cur, Obj.cells #[v] (ρ.t 24) (0, 0) ≠ .cells cur (ρ.t 26) (0, 0) := fun v cur e => hne (Obj.cells.inj e).2.1
  obtain ⟨i0, hi, hz0, hz1, hz2⟩ := info_parts L.i26
  obtain ⟨v, hv, hrow⟩ := h.box
  have hl : l < W.heap.size := (Array.getElem?_eq_some_iff.1 h.L).1
  refine ⟨fn, #[v0, sv, .pointer (some ⟨Bs, 0, none⟩), undef, .slice none 0 0, undef, sv, encStr x, undef, undef, undef, undef, undef], AnyZ.apAssign ρ, AnyZ.apBody ρ, by simpa [seqR] using run_yield (P := P) (args := #[encStr x]) h.L rfl, roundIn_of_wpIn hfn ?_⟩
  have hbr := run_beginRound (P := P) h.L rfl
  obtain ⟨busy, hbusy⟩ : ∃ o : Obj, Obj.loop { seqR ρ fn v0 sv Bs D .ready none with state := .busy } = o := ⟨_, rfl⟩
  rw [hbusy] at hbr
  obtain ⟨W2, hW2⟩ : ∃ W2, W.putObj l busy = W2 := ⟨_, rfl⟩
  rw [hW2] at hbr
  have g2 : W.grownBy W2 (some l) := hW2 ▸ grownBy_putObj_a _ _ _
  have k2 : KeepsWalks W W2 := hW2 ▸ (KeepsWalks.putObj _ h.L rfl)
  have v2 : W2.heap[Bs]? = some (.cells #[v] (ρ.t 24) (0, 0)) := hW2 ▸ (World.putObj_heap_other hBl).trans hv
  have K2 : W2.heap[D]? = some (.deferred (some [])) := hW2 ▸ (World.putObj_heap_other hDl).trans h.K
  have L2 : W2.heap[l]? = some busy := hW2 ▸ World.putObj_heap_same hl
  have r2 := hrow.kept g2 (ownsRow_ne_a hrow h.L (fun cur e => by cases e))
  have b2 : Below b0 w0 W2 := h.below.grown g2 (Nat.le_trans hb0 h.below.size) (fun k e => by cases e; omega)
  obtain ⟨c2, f2⟩ := cell_of_box_a v2
  have lB := (Array.getElem?_eq_some_iff.1 v2).1
  have lL := (Array.getElem?_eq_some_iff.1 L2).1
  have lD := (Array.getElem?_eq_some_iff.1 K2).1
  have nL : ∀ cur, busy ≠ .cells cur (ρ.t 26) (0, 0) := fun cur e => by rw [← hbusy] at e; cases e
  have s2 := b2.size
  clear hW2
  unfold AnyZ.apAssign
  gi_wp2_with gi_round_op_a
  unfold AnyZ.apBody
  gi_wp2_with (first
    | (gi_at_builtin; refine wpListIn_append_own _ rfl _ _ (ρ.t 24) rfl b0 (ρ.t 26) i0 (.string ⟨#[]⟩) 1 16 L.t24 hi hz0 hz1 hz2 rfl (by decide) _ _ _ rfl (r2.alloc _) ⟨W2.heap.size, 0, none⟩ 1 1 [encStr x] rfl rfl (cell_one_new _ _ _) (by simp [Value.oneCell', encStr]) (by omega) (by omega) (by simp; omega) ?_; intro v' w3 own3 g3 nil3
       have v3 : w3.heap[Bs]? = some (.cells #[v] (ρ.t 24) (0, 0)) := (g3.block Bs (by simp; omega) (row_ne (t := ρ.t 24) r2 v2 (nB v))).trans ((Below.heap_alloc _ _ Bs lB).trans v2)
       obtain ⟨c3, f3⟩ := cell_of_box_a v3
       obtain ⟨g', cap', cur', rfl, hslice⟩ : ∃ g' cap' cur', v' = .slice (some ⟨g', 0, none⟩) (s0.length + ss.length + 1) cap' ∧ cur' = cap' := by
         rcases own3.2 with ⟨_, h0⟩ | ⟨g', cap', cur', e, _⟩
         · exact absurd h0 (by omega)
         · exact ⟨g', cap', cap', e, rfl⟩
       clear hslice nil3
       go_frame)
    | gi_round_op_a)
  have g3' : (W2.alloc (.cells #[encStr x] (ρ.t 26))).grownBy w3 v.ownBlock := g3
  have L3 : w3.heap[l]? = some busy := (g3'.block l (by simp; omega) (row_ne (t := ρ.t 24) r2 L2 nL)).trans ((Below.heap_alloc _ _ l lL).trans L2)
  have K3 : w3.heap[D]? = some (.deferred (some [])) := (g3'.block D (by simp; omega) (row_ne (t := ρ.t 24) r2 K2 (fun cur e => by cases e))).trans ((Below.heap_alloc _ _ D lD).trans K2)
  obtain ⟨w4, hw4⟩ : ∃ w4, w3.setCell ⟨Bs, 0, none⟩ (.slice (some ⟨g', 0, none⟩) (s0.length + ss.length + 1) cap') = w4 := ⟨_, rfl⟩
  rw [hw4]
  have g4 : w3.grownBy w4 (some Bs) := hw4 ▸ grownBy_setCell0_a _ _ _
  have v4 : w4.heap[Bs]? = some (.cells #[.slice (some ⟨g', 0, none⟩) (s0.length + ss.length + 1) cap'] (ρ.t 24) (0, 0)) := hw4 ▸ heap_setCell_box_a _ v3
  have L4 : w4.heap[l]? = some busy := (g4.block l (Array.getElem?_eq_some_iff.1 L3).1 (fun e => hBl (by cases e; rfl))).trans L3
  have K4 : w4.heap[D]? = some (.deferred (some [])) := (g4.block D (Array.getElem?_eq_some_iff.1 K3).1 (fun e => hDB (by cases e; rfl))).trans K3
  have r4 := own3.kept g4 (ownsRow_ne_a own3 v3 (nB v))
  have b3 : Below b0 w0 w3 := (b2.alloc (by omega) _).grown g3' (by simp; omega) (fun k e => (r2.lt k e).1)
  have b4 : Below b0 w0 w4 := b3.grown g4 (Nat.le_trans hb0 b3.size) (fun k e => by cases e; omega)
  have k4 : KeepsWalks W w4 := ((k2.trans (KeepsWalks.alloc _ _)).trans (KeepsWalks.of_grownBy g3' (ownsRow_not_walk_a (r2.alloc _)))).trans (hw4 ▸ KeepsWalks.setCell _ _ _)
  clear hw4
  subst hbusy
  refine ⟨_, _, run_endRound none L4, rfl, ⟨⟨_, (World.putObj_heap_other hBl).trans v4, ?_⟩, World.putObj_heap_same (Array.getElem?_eq_some_iff.1 L4).1, (World.putObj_heap_other hDl).trans K4, b4.grown (grownBy_putObj_a _ _ _) (Nat.le_trans hb0 b4.size) (fun k e => by cases e; omega)⟩, k4.trans (KeepsWalks.putObj _ L4 rfl)⟩
  have r5 := r4.kept (grownBy_putObj_a w4 l (.loop { { seqR ρ fn v0 sv Bs D .ready none with state := .busy } with state := if (none : Option Code).isNone then .ready else .done, pending := none })) (ownsRow_ne_a r4 L4 nL)
  simpa [Nat.add_assoc] using r5
set_option maxRecDepth 100000 in
set_option maxHeartbeats 2000000 in
/-- AppendSeq behind a row that the caller owns: what the iterator gives comes behind it. -/
theorem seq_any (L : SlLaysZ.n11 P ρ) (F : Fence) (n : Nat) (h11 : F.fn (ρ.f 11)) (hro : F.round = none) (hn : 2 ≤ n) (g : Nat) (lb : Array Value) (hFg : F.fn g) (eg : ∀ args w, (callFunc g args).run P w = .ok (.enter g args) w)
    (S : List (List UInt8) → Prop) (b0 : Nat) (s0 : List (List UInt8)) (v0 : Value) (N : Nat) (hN : s0.length + N ≤ maxLen) (hNb : (s0.length + N) * 16 ≤ 140737488355328) (w : World) (hb0 : b0 ≤ w.heap.size) (hv0 : w.ownsRow b0 (ρ.t 26) 1 v0 s0.length (s0.map encStr)) (hseq : SeqGives F (n - 1) P g lb encStr S N w) :
    CallsIn F n P (ρ.f 11) #[v0, .func (.func g) #[] lb] w fun e w' => ∃ (v : Value) (ss : List (List UInt8)), e = .returned v ∧ S ss ∧ w'.ownsRow b0 (ρ.t 26) 1 v (s0.length + ss.length) ((s0 ++ ss).map encStr) ∧ Below b0 w w' := by
  have h1 : 1 ≤ n := by omega
  have mixed := L.mixed; have t0 := L.t0; have a0 := L.a0; have z0 := L.z0; have v0' := L.v0; have t24 := L.t24; have a24 := L.a24; have z24 := L.z24; have v24 := L.v24; have t26 := L.t26; have a26 := L.a26; have z26 := L.z26; have v26 := L.v26; have t28 := L.t28; have a28 := L.a28; have z28 := L.z28; have v28 := L.v28
  have u0 := run_underlying L.t0; have u24 := run_underlying L.t24; have u26 := run_underlying L.t26; have u28 := run_underlying L.t28
  have hne : ρ.t 24 ≠ ρ.t 26 := fun e => by have h := L.t24; rw [e, L.t26] at h; cases h
  have nB : ∀ (v : Value) cur, Obj.cells #[v] (ρ.t 24) (0, 0) ≠ .cells cur (ρ.t 26) (0, 0) := fun v cur e => hne (Obj.cells.inj e).2.1
  obtain ⟨A, k, c, hvs⟩ : ∃ A k c, v0 = .slice A k c := by
    rcases hv0.2 with ⟨rfl, _⟩ | ⟨g', cap, cur, rfl, _⟩ <;> exact ⟨_, _, _, rfl⟩
  subst hvs
  obtain ⟨_, _, FG⟩ := L.f11
  refine callsIn_of_wp_marks FG rfl h11 ?_ hro
  simp only [SlBodyZ.n11_ntmps ρ, List.size_toArray, List.length_cons, List.length_nil, Nat.reduceAdd, Nat.reduceSub, Array.replicate_succ, Array.replicate_zero, List.push_toArray, List.append_toArray, List.nil_append, List.cons_append]
  have HV := Lib.hid hv0
  clear hv0
  gi_wp2
  refine wpIn_rangeFunc ?_
  intro fn hfn
  rw [hro]
  obtain ⟨W0, hW0⟩ : ∃ W0, w.alloc (.cells #[.slice A k c] (ρ.t 24)) = W0 := ⟨_, rfl⟩
  have z1 : W0.heap.size = w.heap.size + 1 := by rw [← hW0]; simp
  have x0 : W0.heap[w.heap.size]? = some (.cells #[.slice A k c] (ρ.t 24) (0, 0)) := hW0 ▸ World.alloc_heap_new w _
  have q0 : Below w.heap.size w W0 := hW0 ▸ (Below.refl _ w).alloc (Nat.le_refl _) _
  rw [hW0]
  obtain ⟨W1, hW1⟩ : ∃ W1, (W0.alloc (.deferred (some []))).alloc (.loop (seqR ρ fn (.slice A k c) (.func (.func g) #[] lb) w.heap.size W0.heap.size .ready none)) = W1 := ⟨_, rfl⟩
  have old : ∀ j, j < W0.heap.size → W1.heap[j]? = W0.heap[j]? := fun j hj => by
    rw [← hW1]; exact (Below.heap_alloc _ _ j (by simp; omega)).trans (Below.heap_alloc _ _ j hj)
  have q1 : Below w.heap.size w W1 := hW1 ▸ (q0.alloc (by omega) _).alloc (by simp; omega) _
  have hI : SeqI ρ w b0 fn (.slice A k c) (.func (.func g) #[] lb) w.heap.size (W0.heap.size + 1) W0.heap.size s0 [] W1 :=
    ⟨⟨_, (old w.heap.size (by omega)).trans x0, by
        have := own_abide (w' := W1) HV.out (fun j hj => q1.block j (HV.out.lt j hj).2)
        simpa using this⟩,
     by rw [← hW1]; have := World.alloc_heap_new (W0.alloc (.deferred (some []))) (.loop (seqR ρ fn (.slice A k c) (.func (.func g) #[] lb) w.heap.size W0.heap.size .ready none)); rwa [World.size_alloc] at this,
     by rw [← hW1]; exact (Below.heap_alloc _ _ _ (by simp)).trans (World.alloc_heap_new W0 _), q1.mono hb0⟩
  refine ⟨W0.heap.size + 1, [{ target := .collected W0.heap.size, args := #[] }], W1, { target := .fn (.func g) lb, args := #[.func (.yield (W0.heap.size + 1)) #[] #[]] }, W1, g,
    #[.func (.yield (W0.heap.size + 1)) #[] #[]] ++ lb, W1, ?_, ?_, ?_, ?_, fun _ => h1, ?_⟩
  · rw [← hW1]; exact run_enterLoop_outer _ _ _ _ _
  · simp [resolve, go_sem]
  · intro f' hf'; simp [Target.leads] at hf'; subst hf'; exact hFg
  · simp [invoke, go_sem, eg]
  · refine (hseq (W0.heap.size + 1) (SeqI ρ w b0 fn (.slice A k c) (.func (.func g) #[] lb) w.heap.size (W0.heap.size + 1) W0.heap.size s0) W1 q1 (seqI_abides ρ w b0 _ _ _ _ _ _ _ s0 q1.size hb0)
      (fun pre x W hJ hl => seqI_yield { L with } F (n - 1 - 1) w b0 hb0 fn hfn _ _ w.heap.size (W0.heap.size + 1) W0.heap.size (by omega) (by omega) (by omega) (Nat.le_refl _) (by omega) s0 N hN hNb pre x W hJ hl) hI).mono ?_
    rintro e W2 ⟨⟨r0, rfl⟩, ss, hS, h2⟩
    obtain ⟨v, hv, hrow⟩ := h2.box
    have hend := run_endLoop (P := P) h2.L (by simp [seqR])
    obtain ⟨W3, hW3⟩ : ∃ W3, W2.putObj (W0.heap.size + 1) (.loop { seqR ρ fn (.slice A k c) (.func (.func g) #[] lb) w.heap.size W0.heap.size .ready none with state := .exhausted }) = W3 := ⟨_, rfl⟩
    rw [hW3] at hend
    have g3 : W2.grownBy W3 (some (W0.heap.size + 1)) := hW3 ▸ grownBy_putObj_a _ _ _
    have v3 : W3.heap[w.heap.size]? = some (.cells #[v] (ρ.t 24) (0, 0)) := hW3 ▸ (World.putObj_heap_other (by omega)).trans hv
    have K3 : W3.heap[W0.heap.size]? = some (.deferred (some [])) := hW3 ▸ (World.putObj_heap_other (by omega)).trans h2.K
    have r3 := hrow.kept g3 (ownsRow_ne_a hrow h2.L (fun cur e => by cases e))
    have b3 : Below b0 w W3 := h2.below.grown g3 (Nat.le_trans hb0 h2.below.size) (fun k e => by cases e; omega)
    obtain ⟨hc3, hf3⟩ := cell_of_box_a v3
    clear hW3
    refine ⟨none, W3, hend, ?_⟩
    gi_wp2
    rw [← z1]
    refine ⟨by simp, .inl ⟨_, _, rfl, run_takeDeferred K3, ?_⟩⟩
    exact ⟨_, results_tmp rfl _ _ _, v, ss, rfl, hS, r3.kept (grownBy_putObj_a _ _ _) (ownsRow_ne_a r3 K3 (fun cur e => by cases e)), b3.grown (grownBy_putObj_a _ _ _) (Nat.le_trans hb0 b3.size) (fun k e => by cases e; omega)⟩
end Go.Proofs.Ytamhgbkdljggbaa.Dk
