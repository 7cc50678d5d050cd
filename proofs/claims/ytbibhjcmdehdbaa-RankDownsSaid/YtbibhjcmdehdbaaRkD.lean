/- slices.Backward at buckets; the program's Order. -/
import Derived.RangeFuncNested
import Derived.RangeFuncBound
import Derived.RangeFuncCalls
import Derived.RangeFuncLeaves
import Derived.RangeFuncBox
import Derived.Shelf.Abstract
import Derived.Shelf.RegionOpen
import Derived.WalkKit
import Derived.OwnWalkIn
import Derived.TacticsInMore
import Derived.LoopNIn
import Derived.LoopIn
import Derived.Maps.AppendAt
import Derived.Laws.MakeOwn
import Derived.Test.YtbibhjcmdehdbaaRkC
namespace Go.Proofs.Ytbibhjcmdehdbaa
open Go.RowKit Go.Sort Go.Shelf
set_option linter.unusedVariables false
attribute [local go_sem] Oper.semAt_some

def upto {α : Type} (f : Nat → α) (k : Nat) : List α := (List.range k).map f
theorem upto_succ {α : Type} (f : Nat → α) (k : Nat) : upto f (k + 1) = upto f k ++ [f k] := by simp [upto, List.range_succ]
theorem upto_length {α : Type} (f : Nat → α) (k : Nat) : (upto f k).length = k := by simp [upto]
/-- what comes when a slice is gone through backward: where, and what -/
def backF (L : List (Int × Int)) (k : Nat) : Int × Int × Int := ((L.length : Int) - 1 - k, (L[L.length - 1 - k]?.getD (0, 0)).1, (L[L.length - 1 - k]?.getD (0, 0)).2)
def encK (x : Int × Int × Int) : Array Value := #[.int .i64 x.1, .agg #[.int .i64 x.2.1, .int .u64 x.2.2]]
/-- what a round keeps: all that lay below n₀, and block Bs -/
def KpB (n₀ Bs : Nat) (W W' : World) : Prop := Below n₀ W W' ∧ W'.heap[Bs]? = W.heap[Bs]?
theorem back_list (L : List (Int × Int)) : (upto (backF L) L.length).map (fun x => x.2) = L.reverse := by
  apply List.ext_getElem
  · simp [upto]
  · intro i h1 h2
    have hi : i < L.length := by simp [upto] at h1; exact h1
    have hj : L.length - 1 - i < L.length := by omega
    simp [upto, backF, hj, List.getElem_reverse]
set_option maxRecDepth 100000 in
set_option maxHeartbeats 2000000 in
theorem back1_in (F : Fence) (n : Nat) (hf : F.fn 96) (hro : F.round = none) (hn : 1 ≤ n) (l Bs n₀ b off cap : Nat) (L : List (Int × Int)) (hL : L.length ≤ 100000) (hb : b < n₀) (J Jx : List (Int × Int × Int) → World → Prop)
    (hY : ∀ pre x W, J pre W → pre.length < L.length → YieldAt F (n - 1) Try.prog l (encK x) W fun e W' =>
      (e = .returned (.bool true) ∧ J (pre ++ [x]) W' ∧ KpB n₀ Bs W W') ∨ (e = .returned (.bool false) ∧ Jx (pre ++ [x]) W'))
    (W : World) (hBs : W.cell? ⟨Bs, 0, none⟩ = some (.slice (some ⟨b, off, none⟩) L.length cap)) (hc : ∀ (j : Nat) (p : Int × Int), L[j]? = some p → W.cell? ⟨b, off + j * 2, none⟩ = some (.int .i64 p.1) ∧ W.cell? ⟨b, off + j * 2 + 1, none⟩ = some (.int .u64 p.2)) (h0 : J [] W) :
    CallsIn F n Try.prog 96 #[.func (.yield l) #[] #[], .pointer (some ⟨Bs, 0, none⟩)] W fun e W' => (∃ v, e = .returned v) ∧
      ((∃ ys, ys = upto (backF L) L.length ∧ J ys W') ∨ (∃ pre, (∃ k, k ≤ L.length ∧ pre = upto (backF L) k) ∧ Jx pre W')) := by
  have hl2 : (L.length : Int) ≤ 100000 := by omega
  refine callsIn_of_wp Try.func96 rfl hf ?_ hro
  simp only [Try.ntmps96, List.size_toArray, List.length_cons, List.length_nil, Nat.reduceAdd, Nat.reduceSub, Array.replicate_succ, Array.replicate_zero, List.push_toArray, List.append_toArray, List.nil_append, List.cons_append]
  gi_wp2
  gi_loopw [3] (fun i wr => ∃ r k : Nat, r + k = L.length ∧ i = .int .i64 ((r : Int) - 1) ∧ J (upto (backF L) k) wr ∧ KpB n₀ Bs W wr)
    (fun i _ => (intOf i + 1).toNat)
  case atStart => exact ⟨L.length, 0, by omega, rfl, h0, Below.refl _ _, rfl⟩
  case round =>
    obtain ⟨r, k, hrk, hi, hJs, hnx, hnB⟩ := hrel
    cases r with
    | zero =>
      subst hi
      obtain rfl : k = L.length := by omega
      gi_wp2
      go_end0
      exact ⟨⟨_, rfl⟩, .inl ⟨_, rfl, hJs⟩⟩
    | succ j =>
      have e1 : (((j + 1 : Nat) : Int) - 1) = (j : Int) := by omega
      rw [e1] at hi
      subst hi
      have hj : j < L.length := by omega
      have hjI : (j : Int) < (L.length : Int) := by omega
      obtain ⟨p, hp⟩ := getElem?_lt hj
      obtain ⟨q1, q2⟩ := hc j p hp
      have c1 : wr.cell? ⟨b, off + j * 2, none⟩ = some (.int .i64 p.1) := (hnx.cell (p := ⟨b, off + j * 2, none⟩) hb).trans q1
      have c2 : wr.cell? ⟨b, off + j * 2 + 1, none⟩ = some (.int .u64 p.2) := (hnx.cell (p := ⟨b, off + j * 2 + 1, none⟩) hb).trans q2
      have c3 : wr.cell? ⟨Bs, 0, none⟩ = some (.slice (some ⟨b, off, none⟩) L.length cap) := (World.cell?_of_block (a := ⟨Bs, 0, none⟩) hnB).trans hBs
      have hx : backF L k = ((j : Int), p.1, p.2) := by
        unfold backF
        rw [show L.length - 1 - k = j by omega, hp]
        have : (L.length : Int) - 1 - k = j := by omega
        rw [this]; rfl
      have hk1 : J (upto (backF L) k) wr := hJs
      obtain ⟨fn, tmps, assign, body, hy, hR⟩ := hY _ ((j : Int), p.1, p.2) wr hJs (by rw [upto_length]; omega)
      unfold encK at hy
      dsimp only at hy
      have hlb := block_lt_of_cell c1
      simp only at hlb
      clear q1 q2
      gi_wp2
      refine hR.mono ?_
      rintro e W3 (⟨rfl, hJ3, hk3⟩ | ⟨rfl, hJx3⟩)
      · gi_wp2
        go_roundw
        case rel => exact ⟨j, k + 1, by omega, by go_num, by rw [upto_succ, hx]; exact hJ3, hnx.trans hk3.1, hk3.2.trans hnB⟩
        case measure => simp [intOf]
      · gi_wp2
        refine bodyPost_ret (results_none rfl _ _ _) rfl ?_
        exact ⟨⟨_, rfl⟩, .inr ⟨_, ⟨k + 1, by omega, by rw [upto_succ, hx]⟩, hJx3⟩⟩
set_option maxRecDepth 100000 in
set_option maxHeartbeats 1000000 in
theorem back_nil_in (F : Fence) (n : Nat) (hf : F.fn 96) (hro : F.round = none) (l Bs : Nat) (B : Option Addr) (cap : Nat) (J : List (Int × Int × Int) → World → Prop) (W : World) (hBs : W.cell? ⟨Bs, 0, none⟩ = some (.slice B 0 cap)) (h0 : J [] W) :
    CallsIn F n Try.prog 96 #[.func (.yield l) #[] #[], .pointer (some ⟨Bs, 0, none⟩)] W fun e W' => (∃ v, e = .returned v) ∧ J [] W' := by
  refine callsIn_of_wp Try.func96 rfl hf ?_ hro
  simp only [Try.ntmps96, List.size_toArray, List.length_cons, List.length_nil, Nat.reduceAdd, Nat.reduceSub, Array.replicate_succ, Array.replicate_zero, List.push_toArray, List.append_toArray, List.nil_append, List.cons_append]
  gi_wp2
  gi_loopw [3] (fun i wr => i = .int .i64 (-1) ∧ J [] wr) (fun _ _ => 0)
  case atStart => exact ⟨rfl, h0⟩
  case round =>
    obtain ⟨rfl, hJs⟩ := hrel
    gi_wp2
    go_end0
    exact ⟨⟨_, rfl⟩, hJs⟩
theorem back_in (F : Fence) (n : Nat) (hf : F.fn 58) (hro : F.round = none) (a : Option Addr) (len cap : Nat) (w : World) :
    CallsIn F n Try.prog 58 #[.slice a len cap] w fun e w' => e = .returned (.func (.func 96) #[] #[.pointer (some ⟨w.heap.size, 0, none⟩)]) ∧ w' = w.alloc (.cells #[.slice a len cap] 23) := by
  refine callsIn_of_wp Try.func58 rfl hf ?_ hro
  simp only [Try.ntmps58, List.size_toArray, List.length_cons, List.length_nil, Nat.reduceAdd, Nat.reduceSub, Array.replicate_succ, Array.replicate_zero, List.push_toArray, List.append_toArray, List.nil_append, List.cons_append]
  gi_wp2
  go_ret
  exact ⟨rfl, rfl⟩
theorem back_stops (F : Fence) (n : Nat) (hf : F.fn 96) (hro : F.round = none) (hn : 1 ≤ n) (Bs n₀ : Nat) (B : Option Addr) (cap : Nat) (L : List (Int × Int)) (hL : L.length ≤ 100000) (w : World) (hBs : Bs < w.heap.size) (hn₀ : n₀ ≤ w.heap.size)
    (hc : w.cell? ⟨Bs, 0, none⟩ = some (.slice B L.length cap)) (hI : Bk w B L) (hlo : ∀ a, B = some a → L.length = 0 ∨ a.block < n₀) :
    SeqStopsK F n Try.prog 96 #[.pointer (some ⟨Bs, 0, none⟩)] encK (KpB n₀ Bs) (fun ys => ys = upto (backF L) L.length) (fun pre => ∃ k, k ≤ L.length ∧ pre = upto (backF L) k) L.length w := fun l J Jx W hW _ _ hY h0 => by
  have hc' := (hW.cell (p := ⟨Bs, 0, none⟩) hBs).trans hc
  by_cases h0l : L.length = 0
  · rw [h0l] at hc'
    have e : L = [] := List.eq_nil_of_length_eq_zero h0l
    subst e
    exact (back_nil_in F n hf hro l Bs B cap J W hc' h0).mono fun e W' ⟨he, hj⟩ => ⟨he, .inl ⟨_, rfl, hj⟩⟩
  · obtain ⟨b, off, rfl, hcs⟩ := (hI.below hW).some_ (by omega)
    have hb : b < n₀ := by rcases hlo _ rfl with h | h; exact absurd h h0l; exact h
    exact back1_in F n hf hro hn l Bs n₀ b off cap L hL hb J Jx hY W hc' hcs h0
theorem kpB_t {n₀ Bs : Nat} {A B C : World} (h : KpB n₀ Bs A B) (k : KpB n₀ Bs B C) : KpB n₀ Bs A C := ⟨h.1.trans k.1, k.2.trans h.2⟩
theorem Rb.kept_nc {W W' : World} {g : Nat} {t : TypeId} {vs : Array Value} {row : Option Nat} (h : Rb W g t vs) (hg : W.grownBy W' row) (hr : ∀ r, row = some r → ∃ o : Obj, W.heap[r]? = some o ∧ o.isCells = false) : Rb W' g t vs :=
  (hg.block g h.lt (fun e' => by obtain ⟨o, ho, hc⟩ := hr g e'.symm; rw [show W.heap[g]? = _ from h] at ho; cases ho; cases hc)).trans h
theorem OwP.kept_nc {w0 W W' : World} {A : Option Addr} {c : Nat} {M : List Cel} {row : Option Nat} (h : OwP w0 W A c M) (hg : W.grownBy W' row) (hr : ∀ r, row = some r → w0.heap.size ≤ r ∧ ∃ o : Obj, W.heap[r]? = some o ∧ o.isCells = false) : OwP w0 W' A c M := by
  refine ⟨h.1.kept hg ?_, h.2.grown hg h.2.size (fun k e => (hr k e).1)⟩
  rcases h.1.2 with ⟨e, _⟩ | ⟨g, cap, cur, e, _, hgb, _⟩
  · exact .inl (by rw [e]; rfl)
  · refine .inr fun e' => ?_
    rw [e] at e'
    obtain ⟨o, ho, hc⟩ := (hr g e'.symm).2
    rw [hgb] at ho; cases ho; cases hc
/-- between two rounds of the first loop -/
def OrdI (wa : World) (gl gb : Nat) (B : Option Addr) (q d : Nat) (s : Int) (pre : List (Int × Int × Int)) (W : World) : Prop :=
  ∃ (A1 : Option Addr) (c1 : Nat) (X : List Cel), X = pre.map (fun x => celF (-1) s x.2) ∧ Rb W gl 40 #[.slice A1 X.length c1] ∧ OwP wa W A1 c1 X ∧ Rb W gb 23 #[.slice B q d]
theorem ordI_own (wa : World) (gl gb : Nat) (B : Option Addr) (q d : Nat) (s : Int) (B0 : Nat) (hB : wa.heap.size ≤ B0) : OwnFrom B0 (OrdI wa gl gb B q d s) := by
  rintro pre W W' row ⟨A1, c1, X, hX, h1, h2, h3⟩ hg hr
  exact ⟨A1, c1, X, hX, h1.kept_nc hg (fun r e => (hr r e).2), h2.kept_nc hg (fun r e => ⟨Nat.le_trans hB (hr r e).1, (hr r e).2⟩), h3.kept_nc hg (fun r e => (hr r e).2)⟩
theorem kpB_b {n₀ Bs : Nat} {w : World} (hn : n₀ ≤ w.heap.size) (hb : Bs < w.heap.size) (W : World) (l : Nat) (o o' : Obj) (hl : w.heap.size ≤ l) (h : W.heap[l]? = some o) (hc : o.isCells = false) (hw : o.isWalk = false) : KpB n₀ Bs W (W.putObj l o') :=
  ⟨belowK_b hn W l o o' hl h hc hw, (grownBy_putObj' W l o').block Bs (by have := (Array.getElem?_eq_some_iff.1 h).1; omega) (fun e => by cases e; omega)⟩
theorem keeps_below {W W' : World} (h : Below W.heap.size W W') : KeepsOthers W W' := ⟨h.size, fun k o hk _ => (h.block k (Array.getElem?_eq_some_iff.1 hk).1).trans hk⟩
theorem bk_lo {w : World} {B : Option Addr} {L : List (Int × Int)} (h : Bk w B L) : ∀ a, B = some a → L.length = 0 ∨ a.block < w.heap.size := fun a ha => by
  by_cases h0 : L.length = 0
  · exact .inl h0
  · obtain ⟨b, off, e, hc⟩ := h.some_ (by omega)
    obtain ⟨p, hp⟩ := getElem?_lt (l := L) (k := 0) (by omega)
    have := block_lt_of_cell (hc 0 p hp).1
    rw [e] at ha
    injection ha with ha
    rw [← ha]
    exact .inr this
theorem Rb.grown {W W' : World} {g : Nat} {t : TypeId} {vs : Array Value} {row : Option Nat} (h : Rb W g t vs) (hg : W.grownBy W' row) (hne : some g ≠ row) : Rb W' g t vs := (hg.block g h.lt hne).trans h
theorem Rb.not_row {W : World} {n₀ g : Nat} {t e : TypeId} {vs : Array Value} {size k : Nat} {v : Value} {xs : List Value} (h : Rb W g t vs) (hte : t ≠ e) (hrow : W.ownsRow n₀ e size v k xs) : some g ≠ v.ownBlock := fun e' => by
  rcases hrow.2 with ⟨rfl, _⟩ | ⟨g', cap, cur, rfl, _, hgb, _⟩
  · simp [Value.ownBlock] at e'
  · have e2 : g = g' := by simpa [Value.ownBlock] using e'
    subst e2
    rw [show W.heap[g]? = _ from h] at hgb
    injection hgb with hgb
    injection hgb with _ h2 _
    exact hte h2
set_option maxRecDepth 100000 in
/-- a round of the first loop, but for its loads -/
theorem ord_step {wa W w5 : World} {gl gb : Nat} {B A1 : Option Addr} {c1 q d : Nat} {X : List Cel} (h1 : Rb W gl 40 #[.slice A1 X.length c1]) (h2 : OwP wa W A1 c1 X) (h3 : Rb W gb 23 #[.slice B q d]) (hgl : wa.heap.size ≤ gl) (hne : gb ≠ gl) (hb : Below W.heap.size W w5) (hl : X.length ≤ 2000) (y : Cel) :
    ∃ A' c' w7, (Builtin.append_ #[40, 40] 40 #[.slice A1 X.length c1, .slice (some ⟨w5.heap.size, 0, none⟩) 1 1]).run Try.prog (w5.alloc (.cells #[.int .i64 y.d, .int .i64 y.s, .int .i64 y.i, .int .u64 y.n] 50)) = .ok (.slice A' (X.length + 1) c') w7 ∧
      Rb w7 gl 40 #[.slice A1 X.length c1] ∧
      (Rb (w7.setCell ⟨gl, 0, none⟩ (.slice A' (X.length + 1) c')) gl 40 #[.slice A' (X ++ [y]).length c'] ∧ OwP wa (w7.setCell ⟨gl, 0, none⟩ (.slice A' (X.length + 1) c')) A' c' (X ++ [y]) ∧ Rb (w7.setCell ⟨gl, 0, none⟩ (.slice A' (X.length + 1) c')) gb 23 #[.slice B q d]) ∧
      KeepsOthers W (w7.setCell ⟨gl, 0, none⟩ (.slice A' (X.length + 1) c')) ∧ KpB wa.heap.size gb W (w7.setCell ⟨gl, 0, none⟩ (.slice A' (X.length + 1) c')) := by
  obtain ⟨i0, hi, hz0, hz1, hz2⟩ := info_parts infoP
  have o6 := (h2.below hb).alloc (.cells #[.int .i64 y.d, .int .i64 y.s, .int .i64 y.i, .int .u64 y.n] 50)
  have hn := Rb.new w5 w5.heap.size rfl 50 #[.int .i64 y.d, .int .i64 y.s, .int .i64 y.i, .int .u64 y.n]
  obtain ⟨y0, y1, y2, y3⟩ := hn.four
  obtain ⟨v', w7, hrun, r1, r2, _⟩ := run_append_own (P := Try.prog) (w5.alloc (.cells #[.int .i64 y.d, .int .i64 y.s, .int .i64 y.i, .int .u64 y.n] 50)) wa.heap.size 40 40 50 i0 (.agg #[.int .i64 0, .int .i64 0, .int .i64 0, .int .u64 0]) 4 32 Try.underlying40 hi hz0 hz1 hz2 rfl (by decide) _ X.length (cellsC X) o6.1 ⟨w5.heap.size, 0, none⟩ 1 1 [.int .i64 y.d, .int .i64 y.s, .int .i64 y.i, .int .u64 y.n] rfl
    (fun j u hu => by
      have hj : j < 4 := (List.getElem?_eq_some_iff.1 hu).1
      rw [addr_at]
      rcases (show j = 0 ∨ j = 1 ∨ j = 2 ∨ j = 3 by omega) with rfl | rfl | rfl | rfl
      · simp at hu; subst hu; exact y0
      · simp at hu; subst hu; exact y1
      · simp at hu; subst hu; exact y2
      · simp at hu; subst hu; exact y3) (by simp [Value.oneCell']) (by unfold maxLen; omega) (by omega) o6.2.size
  have e : cellsC X ++ [.int .i64 y.d, .int .i64 y.s, .int .i64 y.i, .int .u64 y.n] = cellsC (X ++ [y]) := by rw [cellsC_append]; rfl
  rw [e] at r1
  obtain ⟨A', c', rfl⟩ := ownP_shape r1
  have l5 : Rb (w5.alloc (.cells #[.int .i64 y.d, .int .i64 y.s, .int .i64 y.i, .int .u64 y.n] 50)) gl 40 #[.slice A1 X.length c1] := (h1.below hb).alloc _
  have b5 : Rb (w5.alloc (.cells #[.int .i64 y.d, .int .i64 y.s, .int .i64 y.i, .int .u64 y.n] 50)) gb 23 #[.slice B q d] := (h3.below hb).alloc _
  have l7 := l5.grown r2 (l5.not_row (by decide) o6.1)
  have b7 := b5.grown r2 (b5.not_row (by decide) o6.1)
  have hlen : X.length + 1 = (X ++ [y]).length := by rw [List.length_append]; rfl
  have bel7 : Below wa.heap.size W w7 := ((hb.mono h2.2.size).alloc (Nat.le_trans h2.2.size hb.size) (.cells #[.int .i64 y.d, .int .i64 y.s, .int .i64 y.i, .int .u64 y.n] 50)).grown r2 (by have := o6.2.size; exact this) (fun k hk => (o6.1.lt k hk).1)
  have own7 : OwP wa w7 A' c' (X ++ [y]) := ⟨by rw [← hlen]; exact r1, h2.2.trans bel7⟩
  refine ⟨A', c', w7, hrun, l7, ⟨by rw [← hlen]; exact heap_set_at l7 _, ⟨own7.1.kept (grownBy_setCell' w7 gl _) (.inr (l7.not_row (by decide) own7.1).symm), own7.2.setCell (p := ⟨gl, 0, none⟩) hgl _⟩, b7.off hne 0 _⟩, ?_, bel7.setCell (p := ⟨gl, 0, none⟩) hgl _, ?_⟩
  · refine (((keeps_below hb).trans (KeepsOthers.alloc w5 _)).trans (KeepsOthers.of_grownBy r2 fun j o ej hj => ?_)).trans (KeepsOthers.setCell _ _ _)
    rcases o6.1.2 with ⟨e1, _⟩ | ⟨g, cap, cur, e1, _, hgb, _⟩
    · rw [e1] at ej; cases ej
    · rw [e1] at ej
      have e2 : g = j := by simpa [Value.ownBlock] using ej
      subst e2
      rw [hgb] at hj
      injection hj with hj
      rw [← hj]
      rfl
  · have := b7.off hne 0 (.slice A' (X.length + 1) c')
    exact (show (w7.setCell ⟨gl, 0, none⟩ (.slice A' (X.length + 1) c')).heap[gb]? = _ from this).trans (show W.heap[gb]? = _ from h3).symm
/-- append, as a step of a region in a round, told by what it comes to -/
theorem stepIn_run {F : Fence} {n : Nat} {ops : Array Oper} {o : Oper} {a : Act} {w w' : World} {K : Act → World → Prop} {Q : Exit → Act → World → Prop} {E : Prop} {v' : Value} (hgd : o.guard = none) (s x : Operand) (t : TypeId)
    (ho : o.op = .call { callee := .builtin .append, args := #[s, x], argTypes := #[t, t] }) (vs vx : Value) (hs : a.eval s = vs) (hx : a.eval x = vx)
    (hrun : (Builtin.append_ #[t, t] o.type #[vs, vx]).run Try.prog w = .ok v' w') (h : K (a.put o.dst v') w') :
    if Region.wanted o (yielded ops a.tmps) = true then Oper.wpIn F n Try.prog o a w K Q else E := by
  have hw : Region.wanted o (yielded ops a.tmps) = true := by simp [Region.wanted, hgd]
  rw [if_pos hw]
  unfold Oper.wpIn
  refine ⟨?_, ?_⟩
  · simp [Oper.about, ho, resolve, Target.leads, Sem.run_pure]
  · rw [Oper.semAt_plain F _ _ (by rw [ho]; intro c hc'; cases hc')]
    simp [execOp, ho, resolve, invoke, builtin, hs, hx, hrun, Result.andThen]
    exact h
/-- what the rest of Order has in hand -/
def OrdJ (wa : World) (gl D : Nat) (X : List Cel) (W : World) : Prop := ∃ (A1 : Option Addr) (c1 : Nat), Rb W gl 40 #[.slice A1 X.length c1] ∧ OwP wa W A1 c1 X ∧ W.heap[D]? = some (.deferred (some []))
/-- a cell is appended, and the slice stored -/
theorem ord_app {wa w6 w7 : World} {gl D : Nat} {A1 A' : Option Addr} {c1 c' : Nat} {X : List Cel} {y : Cel} (h1 : Rb w6 gl 40 #[.slice A1 X.length c1]) (h2 : OwP wa w6 A1 c1 X) (h3 : w6.heap[D]? = some (.deferred (some []))) (hgl : wa.heap.size ≤ gl)
    (r1 : w7.ownsRow wa.heap.size 50 4 (.slice A' (X.length + 1) c') (X.length + 1) (cellsC (X ++ [y]))) (r2 : w6.grownBy w7 (Value.slice A1 X.length c1).ownBlock) :
    Rb w7 gl 40 #[.slice A1 X.length c1] ∧ OrdJ wa gl D (X ++ [y]) (w7.setCell ⟨gl, 0, none⟩ (.slice A' (X.length + 1) c')) := by
  have hlen : X.length + 1 = (X ++ [y]).length := by rw [List.length_append]; rfl
  have l7 := h1.grown r2 (h1.not_row (by decide) h2.1)
  have own7 : OwP wa w7 A' c' (X ++ [y]) := ⟨by rw [← hlen]; exact r1, below_own h2.2 h2.2.size h2.1 r2⟩
  have d7 : w7.heap[D]? = some (.deferred (some [])) := (r2.block D (Array.getElem?_eq_some_iff.1 h3).1 (fun e => by
    rcases h2.1.2 with ⟨e1, _⟩ | ⟨g, cap, cur, e1, _, hgb, _⟩
    · rw [e1] at e; cases e
    · rw [e1] at e
      have e2 : D = g := by simpa [Value.ownBlock] using e
      subst e2
      rw [h3] at hgb
      cases hgb)).trans h3
  refine ⟨l7, A', c', by rw [← hlen]; exact heap_set_at l7 _, ⟨own7.1.kept (grownBy_setCell' w7 gl _) (.inr (l7.not_row (by decide) own7.1).symm), own7.2.setCell (p := ⟨gl, 0, none⟩) hgl _⟩, ?_⟩
  have hne : D ≠ gl := fun e => by
    subst e
    rw [show w7.heap[D]? = _ from l7] at d7
    cases d7
  exact (heap_setCell_other w7 ⟨gl, 0, none⟩ D _ hne).trans d7
theorem neg_ne {h : HV} (o : Ok h) : ∀ p ∈ negL h, p.n ≠ 0 := fun p hp => by
  obtain ⟨q, hq, rfl⟩ := List.mem_map.1 hp
  have := o.pQ q (List.mem_reverse.1 hq)
  show q.2 ≠ 0
  omega
theorem pos_ne {h : HV} (o : Ok h) : ∀ p ∈ posL h, p.n ≠ 0 := fun p hp => by
  obtain ⟨q, hq, rfl⟩ := List.mem_map.1 hp
  have := o.pP q hq
  show q.2 ≠ 0
  omega
theorem Cs.putObj {W : World} {A : Option Addr} {l : List Cel} {D : Nat} {ob : Obj} (h : Cs W A l) (hD : W.heap[D]? = some ob) (hc : ob.isCells = false) (o' : Obj) : Cs (W.putObj D o') A l := by
  have hk : ∀ {a : Addr} {v : Value}, W.cell? a = some v → (W.putObj D o').cell? a = some v := fun hv => cell_kept hv (grownBy_putObj' W D o') (fun r e => by cases e; exact ⟨_, hD, hc⟩)
  refine ⟨h.1, ?_⟩
  rcases h.2 with h2 | ⟨b, off, e, hc⟩
  · exact .inl h2
  · refine .inr ⟨b, off, e, fun j p hj => ?_⟩
    obtain ⟨c0, c1, c2, c3⟩ := hc j p hj
    exact ⟨hk c0, hk c1, hk c2, hk c3⟩
/-- the end of Order, behind the deferred calls -/
theorem ord_end {w wa W : World} {A : Option Addr} {c D n : Nat} {l : List Cel} (hcs : Cs W A l) (hn : n = l.length) (hb0 : Below w.heap.size w wa) (hb : Below wa.heap.size wa W) (hD : W.heap[D]? = some (.deferred (some []))) (hlo : w.heap.size ≤ D) (hA : NewA w A) :
    OrdP w l (.returned (.slice A n c)) (W.putObj D (.deferred none)) := by
  subst hn
  exact ⟨A, c, rfl, hcs.putObj hD rfl _, (hb0.trans (hb.mono hb0.size)).trans (belowK_b (w := w) (Nat.le_refl _) W D _ _ hlo hD rfl rfl), hA⟩
set_option maxHeartbeats 4000000 in
set_option maxRecDepth 100000 in
theorem order_any (h : HV) (A B : Option Addr) (c d : Nat) (w : World) (hP : Bk w A h.P) (hQ : Bk w B h.Q) (o : Ok h) :
    Calls Try.prog 26 #[.agg #[.int .i64 h.k, .int .i64 h.s, .int .i64 h.z, .int .u64 h.zc, .int .u64 h.ct, .int .i64 h.sm, .slice A h.P.length c, .slice B h.Q.length d]] w (OrdP w (ordF h)) := by
  have hb0 : Below w.heap.size w (w.alloc (.cells #[.int .i64 h.k, .int .i64 h.s, .int .i64 h.z, .int .u64 h.zc, .int .u64 h.ct, .int .i64 h.sm, .slice A h.P.length c, .slice B h.Q.length d] 25)) := (Below.refl _ _).alloc (Nat.le_refl _) _
  have HX := Lib.hid (Rb.new w w.heap.size rfl 25 #[.int .i64 h.k, .int .i64 h.s, .int .i64 h.z, .int .u64 h.zc, .int .u64 h.ct, .int .i64 h.sm, .slice A h.P.length c, .slice B h.Q.length d])
  have HK := Lib.hid (And.intro (hP.below hb0) (hQ.below hb0))
  have HB0 := Lib.hid hb0
  have HO := Lib.hid o
  have lP := o.lP
  have lQ := o.lQ
  have hz := o.zc
  have lP2 : (h.P.length : Int) ≤ 512 := by omega
  have lQ2 : (h.Q.length : Int) ≤ 512 := by omega
  clear hP hQ o hb0
  obtain ⟨i0, hi, hz0, hz1, hz2⟩ := info_parts infoP
  obtain ⟨cc, hcc⟩ : ∃ cc : Nat, (h.Q.length : Int) + 1 + h.P.length = (cc : Int) := ⟨h.Q.length + 1 + h.P.length, by omega⟩
  obtain ⟨w2, hmk, hown, hgr⟩ := run_make_own (P := Try.prog) (w := w.alloc (.cells #[.int .i64 h.k, .int .i64 h.s, .int .i64 h.z, .int .u64 h.zc, .int .u64 h.ct, .int .i64 h.sm, .slice A h.P.length c, .slice B h.Q.length d] 25)) _ 40 50 i0 _ 4 Try.underlying40 hi hz0 hz1 .i64 .i64 cc (by rw [hz2]; omega) (by unfold maxLen; omega) (Nat.le_refl _)
  refine (callsIn_wide (n := 8)).1 ?_
  refine callsIn_of_wp_marks Try.func26 rfl trivial ?_ rfl
  rw [wpIn_wide]
  simp only [Try.ntmps26, List.size_toArray, List.length_cons, List.length_nil, Nat.reduceAdd, Nat.reduceSub, Array.replicate_succ, Array.replicate_zero, List.push_toArray, List.append_toArray, List.nil_append, List.cons_append]
  go_upto_region 2 with fail
  have hsa : (w.alloc (.cells #[.int .i64 h.k, .int .i64 h.s, .int .i64 h.z, .int .u64 h.zc, .int .u64 h.ct, .int .i64 h.sm, .slice A h.P.length c, .slice B h.Q.length d] 25)).heap.size = w.heap.size + 1 := by simp
  rw [hsa] at hown
  generalize w.alloc (.cells #[.int .i64 h.k, .int .i64 h.s, .int .i64 h.z, .int .u64 h.zc, .int .u64 h.ct, .int .i64 h.sm, .slice A h.P.length c, .slice B h.Q.length d] 25) = wa at *
  clear hmk hi hz0 hz1 hz2 i0 hcc
  have hba : Below wa.heap.size wa w2 := (Below.refl _ _).grown hgr (Nat.le_refl _) (by simp)
  have how : OwP wa w2 (some ⟨w.heap.size + 1, 0, none⟩) cc [] := ⟨by rw [hsa]; exact hown, hba⟩
  obtain ⟨gl, hgl⟩ : ∃ g, w2.heap.size = g := ⟨_, rfl⟩
  have HL3 := Lib.hid (Rb.new w2 gl hgl 40 #[.slice (some ⟨w.heap.size + 1, 0, none⟩) 0 cc])
  have HO3 := Lib.hid (how.alloc (.cells #[.slice (some ⟨w.heap.size + 1, 0, none⟩) 0 cc] 40))
  have HG := Lib.hid (show w.heap.size + 1 < gl from by rw [← hgl]; exact (hown.lt _ rfl).2)
  rw [hgl]
  clear hown hgr hba how hgl
  generalize w2.alloc (.cells #[.slice (some ⟨w.heap.size + 1, 0, none⟩) 0 cc] 40) = w3 at *
  obtain ⟨x0, x1, x2, x3, x4, x5, x6, x7⟩ := (HX.out.below HO3.out.2).eight
  have hl0 := (HX.out.below HO3.out.2).lt
  go_wp2_with (go_at_call 58; refine (callsIn_wide.1 (back_in Fence.wide 8 trivial rfl B h.Q.length d w3)).mono ?_; rintro e w4 ⟨rfl, rfl⟩)
  obtain ⟨gb, hgb⟩ : ∃ g, w3.heap.size = g := ⟨_, rfl⟩
  have HS4 := Lib.hid (Rb.new w3 gb hgb 23 #[.slice B h.Q.length d])
  have HL4 := Lib.hid (HL3.out.alloc (.cells #[.slice B h.Q.length d] 23))
  have HO4 := Lib.hid (HO3.out.alloc (.cells #[.slice B h.Q.length d] 23))
  have HGB := Lib.hid (show gl < gb from by rw [← hgb]; exact HL3.out.lt)
  rw [hgb]
  clear x0 x1 x2 x3 x4 x5 x6 x7 hl0 hgb HL3 HO3
  generalize w3.alloc (.cells #[.slice B h.Q.length d] 23) = w4 at *
  refine (wpIn_wide (n := 8)).1 ?_
  refine wpIn_rangeFunc_ownH rfl (by omega) (gf := 96) (lb := #[.pointer (some ⟨gb, 0, none⟩)]) rfl trivial (enters_of Try.func96 (by kernel_rfl) rfl)
    (back_stops Fence.wide (8 - 1) trivial rfl (by omega) gb wa.heap.size B d h.Q (by omega) w4 HS4.out.lt HO4.out.2.size (HS4.out.cell 0) (HK.out.2.below HO4.out.2) (bk_lo HK.out.2)) kpB_t (kpB_b HO4.out.2.size HS4.out.lt) (Below.refl _ _) (fun _ => rfl)
    (OrdI wa gl gb B h.Q.length d h.s) (fun _ _ _ => False) (ordI_own wa gl gb B h.Q.length d h.s _ HO4.out.2.size) (fun _ _ _ _ _ hs _ _ => hs)
    ⟨_, _, [], rfl, HL4.out, HO4.out, HS4.out⟩
    (fun x a' W => ∃ Bx, gb < Bx ∧ Rb W Bx 80 #[.int .i64 x.2.1, .int .u64 x.2.2] ∧ a' = { tmps := #[.agg #[.int .i64 h.k, .int .i64 h.s, .int .i64 h.z, .int .u64 h.zc, .int .u64 h.ct, .int .i64 h.sm, .slice A h.P.length c, .slice B h.Q.length d], .pointer (some ⟨w.heap.size, 0, none⟩), .slice none 0 0, .pointer (some ⟨gl, 0, none⟩), undef, .pointer (some ⟨Bx, 0, none⟩), undef, undef, .pointer (some ⟨w.heap.size, 7, none⟩), .slice B h.Q.length d, .int .i64 (h.Q.length : Int), .int .i64 ((h.Q.length : Int) + 1), .pointer (some ⟨w.heap.size, 6, none⟩), .slice A h.P.length c, .int .i64 (h.P.length : Int), .int .i64 (cc : Int), .slice (some ⟨w.heap.size + 1, 0, none⟩) 0 cc, .pointer (some ⟨w.heap.size, 7, none⟩), .slice B h.Q.length d, .func (.func 96) #[] #[.pointer (some ⟨gb, 0, none⟩)], .int .i64 x.1, .agg #[.int .i64 x.2.1, .int .u64 x.2.2], undef, undef, undef, undef, undef, undef, undef, undef, undef, undef, undef, undef, undef, undef, undef, undef, undef, undef, undef, undef, undef, undef, undef, undef, undef, undef, undef, undef, undef, undef], defers := [] })
    (fun x a' _ X Y row hs hg hr => by obtain ⟨Bx, h1, h2, h3⟩ := hs; exact ⟨Bx, h1, h2.kept_nc hg (fun r e => (hr r e).2), h3⟩)
    ?assign ?body ?done ?stop
  case assign =>
    rintro l pre x W K ⟨A1, c1, X, hX, i1, i2, i3⟩ hK
    unfold encK
    gi_wp2
    exact hK _ _ ((KeepsOthers.alloc _ _).from _) ⟨(Below.refl _ W).alloc i2.2.size _, Below.heap_alloc _ _ _ i3.lt⟩ ⟨A1, c1, X, hX, i1.alloc _, i2.alloc _, i3.alloc _⟩ ⟨W.heap.size, i3.lt, Rb.new W _ rfl _ _, rfl⟩
  case body =>
    rintro l pre x a' W hl ⟨r, hr⟩ ⟨A1, c1, X, hX, i1, i2, i3⟩ ⟨Bx, hBx, bX, rfl⟩ hlt
    have HXX := Lib.hid hX
    have HI := Lib.hid (And.intro i1 (And.intro i2 i3))
    have HBX := Lib.hid (And.intro hBx bX)
    have hx : X.length ≤ 512 := by rw [hX, List.length_map]; omega
    obtain ⟨xi, pi, pc⟩ := x
    simp only at bX
    obtain ⟨y0, y1, _, _⟩ := bX.two
    have l1 : W.cell? ⟨gl, 0, none⟩ = some (.slice A1 X.length c1) := i1.cell 0
    have l2 := i1.frozen 0
    obtain ⟨x0, x1, x2, x3, x4, x5, x6, x7⟩ := (HX.out.below i2.2).eight
    have HCALL := Lib.hid (fun (W' : World) => CallsIn.inRound l ((callsIn_wide (n := 8 - 1 - 1 - 1)).2 (rkcell_any (-1) h.s pi pc W')))
    clear hX i1 i2 i3 bX hBx x0 x2 x3 x4 x5 x6 x7
    gi_wp2
    have hmx : Try.prog.follows .mixedOrders = true := by kernel_rfl
    refine wpIn_region_any hmx ?_
    change wpAnyIn _ _ _ _ _ _ _ _ _ (World.drew _)
    refine wpAnyIn_ready (rs := [0, 1, 3]) (by kernel_rfl) (by simp) ?_
    refine AllReadyIn.cons rfl (fun K hK => ?_) ?_
    · go_simp
      refine hK _ _ ?_
      clear hK K
      refine wpAnyIn_ready (rs := [1, 3]) (by kernel_rfl) (by simp) ?_
      refine AllReadyIn.cons rfl (fun K hK => ?_) ?_
      · go_simp
        refine hK _ _ ?_
        clear hK K
        refine wpAnyIn_ready (rs := [2, 3]) (by kernel_rfl) (by simp) ?_
        refine AllReadyIn.cons rfl (fun K hK => ?_) ?_
        · go_simp
          refine hK _ _ ?_
          clear hK K
          refine wpAnyIn_ready (rs := [3]) (by kernel_rfl) (by simp) ?_
          refine AllReadyIn.cons rfl (fun K hK => ?_) ?_
          · go_simp
            refine hK _ _ ?_
            clear hK K
            refine wpAnyIn_ready (rs := [4]) (by kernel_rfl) (by simp) ?_
            refine AllReadyIn.cons rfl (fun K hK => ?_) ?_
            · go_simp
              gi_wp2_with (refine ⟨trivial, ?_⟩; gi_at_call 59; refine (HCALL.out _).mono ?_; rintro e w5 ⟨rfl, hb5⟩; have hb6 : Below W.heap.size W w5 := ⟨hb5.os, hb5.tape, hb5.output, hb5.size, hb5.block⟩; obtain ⟨A', c', w7, hrun, l7, hpost⟩ := ord_step HI.out.1 HI.out.2.1 HI.out.2.2 (by have := HG.out; rw [hsa]; omega) (by have := HGB.out; omega) hb6 (by omega) ⟨-1, h.s, pi, pc⟩; have HP := Lib.hid hpost; have m1 := (HI.out.1.below hb6).cell 0; have m2 := l7.cell 0; have m3 := l7.frozen 0; have m4 := ((HI.out.1.below hb6).alloc (.cells #[.int .i64 (-1), .int .i64 h.s, .int .i64 pi, .int .u64 pc] 50)).cell 0; clear hb5 hb6 l7 hpost)
              refine wpAnyIn_ready (rs := [5]) (by kernel_rfl) (by simp) ?_
              refine AllReadyIn.cons rfl (fun K hK => ?_) ?_
              · go_simp
                refine hK _ _ ?_
                clear hK K
                refine wpAnyIn_ready (rs := [6]) (by kernel_rfl) (by simp) ?_
                refine AllReadyIn.cons rfl (fun K hK => ?_) ?_
                · refine stepIn_run rfl (.tmp 22) (.tmp 27) 40 rfl _ _ rfl rfl hrun ?_
                  refine hK _ _ ?_
                  clear hK K hrun
                  refine wpAnyIn_ready (rs := [7]) (by kernel_rfl) (by simp) ?_
                  refine AllReadyIn.cons rfl (fun K hK => ?_) ?_
                  · go_simp
                    refine hK _ _ ?_
                    clear hK K
                    refine wpAnyIn_done (by kernel_rfl) ?_ _
                    exact ⟨HP.out.2.1.from _, HP.out.2.2, A', c', _, by rw [HXX.out, List.map_append]; rfl, HP.out.1.1, HP.out.1.2.1, HP.out.1.2.2⟩
                  exact AllReadyIn.nil
                exact AllReadyIn.nil
              exact AllReadyIn.nil
            exact AllReadyIn.nil
          exact AllReadyIn.nil
        refine AllReadyIn.cons rfl (fun K hK => ?_) ?_
        · go_simp
          refine hK _ _ ?_
          clear hK K
          refine wpAnyIn_ready (rs := [2]) (by kernel_rfl) (by simp) ?_
          refine AllReadyIn.cons rfl (fun K hK => ?_) ?_
          · go_simp
            refine hK _ _ ?_
            clear hK K
            refine wpAnyIn_ready (rs := [4]) (by kernel_rfl) (by simp) ?_
            refine AllReadyIn.cons rfl (fun K hK => ?_) ?_
            · go_simp
              gi_wp2_with (refine ⟨trivial, ?_⟩; gi_at_call 59; refine (HCALL.out _).mono ?_; rintro e w5 ⟨rfl, hb5⟩; have hb6 : Below W.heap.size W w5 := ⟨hb5.os, hb5.tape, hb5.output, hb5.size, hb5.block⟩; obtain ⟨A', c', w7, hrun, l7, hpost⟩ := ord_step HI.out.1 HI.out.2.1 HI.out.2.2 (by have := HG.out; rw [hsa]; omega) (by have := HGB.out; omega) hb6 (by omega) ⟨-1, h.s, pi, pc⟩; have HP := Lib.hid hpost; have m1 := (HI.out.1.below hb6).cell 0; have m2 := l7.cell 0; have m3 := l7.frozen 0; have m4 := ((HI.out.1.below hb6).alloc (.cells #[.int .i64 (-1), .int .i64 h.s, .int .i64 pi, .int .u64 pc] 50)).cell 0; clear hb5 hb6 l7 hpost)
              refine wpAnyIn_ready (rs := [5]) (by kernel_rfl) (by simp) ?_
              refine AllReadyIn.cons rfl (fun K hK => ?_) ?_
              · go_simp
                refine hK _ _ ?_
                clear hK K
                refine wpAnyIn_ready (rs := [6]) (by kernel_rfl) (by simp) ?_
                refine AllReadyIn.cons rfl (fun K hK => ?_) ?_
                · refine stepIn_run rfl (.tmp 22) (.tmp 27) 40 rfl _ _ rfl rfl hrun ?_
                  refine hK _ _ ?_
                  clear hK K hrun
                  refine wpAnyIn_ready (rs := [7]) (by kernel_rfl) (by simp) ?_
                  refine AllReadyIn.cons rfl (fun K hK => ?_) ?_
                  · go_simp
                    refine hK _ _ ?_
                    clear hK K
                    refine wpAnyIn_done (by kernel_rfl) ?_ _
                    exact ⟨HP.out.2.1.from _, HP.out.2.2, A', c', _, by rw [HXX.out, List.map_append]; rfl, HP.out.1.1, HP.out.1.2.1, HP.out.1.2.2⟩
                  exact AllReadyIn.nil
                exact AllReadyIn.nil
              exact AllReadyIn.nil
            exact AllReadyIn.nil
          exact AllReadyIn.nil
        exact AllReadyIn.nil
      refine AllReadyIn.cons rfl (fun K hK => ?_) ?_
      · go_simp
        refine hK _ _ ?_
        clear hK K
        refine wpAnyIn_ready (rs := [1]) (by kernel_rfl) (by simp) ?_
        refine AllReadyIn.cons rfl (fun K hK => ?_) ?_
        · go_simp
          refine hK _ _ ?_
          clear hK K
          refine wpAnyIn_ready (rs := [2]) (by kernel_rfl) (by simp) ?_
          refine AllReadyIn.cons rfl (fun K hK => ?_) ?_
          · go_simp
            refine hK _ _ ?_
            clear hK K
            refine wpAnyIn_ready (rs := [4]) (by kernel_rfl) (by simp) ?_
            refine AllReadyIn.cons rfl (fun K hK => ?_) ?_
            · go_simp
              gi_wp2_with (refine ⟨trivial, ?_⟩; gi_at_call 59; refine (HCALL.out _).mono ?_; rintro e w5 ⟨rfl, hb5⟩; have hb6 : Below W.heap.size W w5 := ⟨hb5.os, hb5.tape, hb5.output, hb5.size, hb5.block⟩; obtain ⟨A', c', w7, hrun, l7, hpost⟩ := ord_step HI.out.1 HI.out.2.1 HI.out.2.2 (by have := HG.out; rw [hsa]; omega) (by have := HGB.out; omega) hb6 (by omega) ⟨-1, h.s, pi, pc⟩; have HP := Lib.hid hpost; have m1 := (HI.out.1.below hb6).cell 0; have m2 := l7.cell 0; have m3 := l7.frozen 0; have m4 := ((HI.out.1.below hb6).alloc (.cells #[.int .i64 (-1), .int .i64 h.s, .int .i64 pi, .int .u64 pc] 50)).cell 0; clear hb5 hb6 l7 hpost)
              refine wpAnyIn_ready (rs := [5]) (by kernel_rfl) (by simp) ?_
              refine AllReadyIn.cons rfl (fun K hK => ?_) ?_
              · go_simp
                refine hK _ _ ?_
                clear hK K
                refine wpAnyIn_ready (rs := [6]) (by kernel_rfl) (by simp) ?_
                refine AllReadyIn.cons rfl (fun K hK => ?_) ?_
                · refine stepIn_run rfl (.tmp 22) (.tmp 27) 40 rfl _ _ rfl rfl hrun ?_
                  refine hK _ _ ?_
                  clear hK K hrun
                  refine wpAnyIn_ready (rs := [7]) (by kernel_rfl) (by simp) ?_
                  refine AllReadyIn.cons rfl (fun K hK => ?_) ?_
                  · go_simp
                    refine hK _ _ ?_
                    clear hK K
                    refine wpAnyIn_done (by kernel_rfl) ?_ _
                    exact ⟨HP.out.2.1.from _, HP.out.2.2, A', c', _, by rw [HXX.out, List.map_append]; rfl, HP.out.1.1, HP.out.1.2.1, HP.out.1.2.2⟩
                  exact AllReadyIn.nil
                exact AllReadyIn.nil
              exact AllReadyIn.nil
            exact AllReadyIn.nil
          exact AllReadyIn.nil
        exact AllReadyIn.nil
      exact AllReadyIn.nil
    refine AllReadyIn.cons rfl (fun K hK => ?_) ?_
    · go_simp
      refine hK _ _ ?_
      clear hK K
      refine wpAnyIn_ready (rs := [0, 2, 3]) (by kernel_rfl) (by simp) ?_
      refine AllReadyIn.cons rfl (fun K hK => ?_) ?_
      · go_simp
        refine hK _ _ ?_
        clear hK K
        refine wpAnyIn_ready (rs := [2, 3]) (by kernel_rfl) (by simp) ?_
        refine AllReadyIn.cons rfl (fun K hK => ?_) ?_
        · go_simp
          refine hK _ _ ?_
          clear hK K
          refine wpAnyIn_ready (rs := [3]) (by kernel_rfl) (by simp) ?_
          refine AllReadyIn.cons rfl (fun K hK => ?_) ?_
          · go_simp
            refine hK _ _ ?_
            clear hK K
            refine wpAnyIn_ready (rs := [4]) (by kernel_rfl) (by simp) ?_
            refine AllReadyIn.cons rfl (fun K hK => ?_) ?_
            · go_simp
              gi_wp2_with (refine ⟨trivial, ?_⟩; gi_at_call 59; refine (HCALL.out _).mono ?_; rintro e w5 ⟨rfl, hb5⟩; have hb6 : Below W.heap.size W w5 := ⟨hb5.os, hb5.tape, hb5.output, hb5.size, hb5.block⟩; obtain ⟨A', c', w7, hrun, l7, hpost⟩ := ord_step HI.out.1 HI.out.2.1 HI.out.2.2 (by have := HG.out; rw [hsa]; omega) (by have := HGB.out; omega) hb6 (by omega) ⟨-1, h.s, pi, pc⟩; have HP := Lib.hid hpost; have m1 := (HI.out.1.below hb6).cell 0; have m2 := l7.cell 0; have m3 := l7.frozen 0; have m4 := ((HI.out.1.below hb6).alloc (.cells #[.int .i64 (-1), .int .i64 h.s, .int .i64 pi, .int .u64 pc] 50)).cell 0; clear hb5 hb6 l7 hpost)
              refine wpAnyIn_ready (rs := [5]) (by kernel_rfl) (by simp) ?_
              refine AllReadyIn.cons rfl (fun K hK => ?_) ?_
              · go_simp
                refine hK _ _ ?_
                clear hK K
                refine wpAnyIn_ready (rs := [6]) (by kernel_rfl) (by simp) ?_
                refine AllReadyIn.cons rfl (fun K hK => ?_) ?_
                · refine stepIn_run rfl (.tmp 22) (.tmp 27) 40 rfl _ _ rfl rfl hrun ?_
                  refine hK _ _ ?_
                  clear hK K hrun
                  refine wpAnyIn_ready (rs := [7]) (by kernel_rfl) (by simp) ?_
                  refine AllReadyIn.cons rfl (fun K hK => ?_) ?_
                  · go_simp
                    refine hK _ _ ?_
                    clear hK K
                    refine wpAnyIn_done (by kernel_rfl) ?_ _
                    exact ⟨HP.out.2.1.from _, HP.out.2.2, A', c', _, by rw [HXX.out, List.map_append]; rfl, HP.out.1.1, HP.out.1.2.1, HP.out.1.2.2⟩
                  exact AllReadyIn.nil
                exact AllReadyIn.nil
              exact AllReadyIn.nil
            exact AllReadyIn.nil
          exact AllReadyIn.nil
        refine AllReadyIn.cons rfl (fun K hK => ?_) ?_
        · go_simp
          refine hK _ _ ?_
          clear hK K
          refine wpAnyIn_ready (rs := [2]) (by kernel_rfl) (by simp) ?_
          refine AllReadyIn.cons rfl (fun K hK => ?_) ?_
          · go_simp
            refine hK _ _ ?_
            clear hK K
            refine wpAnyIn_ready (rs := [4]) (by kernel_rfl) (by simp) ?_
            refine AllReadyIn.cons rfl (fun K hK => ?_) ?_
            · go_simp
              gi_wp2_with (refine ⟨trivial, ?_⟩; gi_at_call 59; refine (HCALL.out _).mono ?_; rintro e w5 ⟨rfl, hb5⟩; have hb6 : Below W.heap.size W w5 := ⟨hb5.os, hb5.tape, hb5.output, hb5.size, hb5.block⟩; obtain ⟨A', c', w7, hrun, l7, hpost⟩ := ord_step HI.out.1 HI.out.2.1 HI.out.2.2 (by have := HG.out; rw [hsa]; omega) (by have := HGB.out; omega) hb6 (by omega) ⟨-1, h.s, pi, pc⟩; have HP := Lib.hid hpost; have m1 := (HI.out.1.below hb6).cell 0; have m2 := l7.cell 0; have m3 := l7.frozen 0; have m4 := ((HI.out.1.below hb6).alloc (.cells #[.int .i64 (-1), .int .i64 h.s, .int .i64 pi, .int .u64 pc] 50)).cell 0; clear hb5 hb6 l7 hpost)
              refine wpAnyIn_ready (rs := [5]) (by kernel_rfl) (by simp) ?_
              refine AllReadyIn.cons rfl (fun K hK => ?_) ?_
              · go_simp
                refine hK _ _ ?_
                clear hK K
                refine wpAnyIn_ready (rs := [6]) (by kernel_rfl) (by simp) ?_
                refine AllReadyIn.cons rfl (fun K hK => ?_) ?_
                · refine stepIn_run rfl (.tmp 22) (.tmp 27) 40 rfl _ _ rfl rfl hrun ?_
                  refine hK _ _ ?_
                  clear hK K hrun
                  refine wpAnyIn_ready (rs := [7]) (by kernel_rfl) (by simp) ?_
                  refine AllReadyIn.cons rfl (fun K hK => ?_) ?_
                  · go_simp
                    refine hK _ _ ?_
                    clear hK K
                    refine wpAnyIn_done (by kernel_rfl) ?_ _
                    exact ⟨HP.out.2.1.from _, HP.out.2.2, A', c', _, by rw [HXX.out, List.map_append]; rfl, HP.out.1.1, HP.out.1.2.1, HP.out.1.2.2⟩
                  exact AllReadyIn.nil
                exact AllReadyIn.nil
              exact AllReadyIn.nil
            exact AllReadyIn.nil
          exact AllReadyIn.nil
        exact AllReadyIn.nil
      refine AllReadyIn.cons rfl (fun K hK => ?_) ?_
      · go_simp
        refine hK _ _ ?_
        clear hK K
        refine wpAnyIn_ready (rs := [0, 3]) (by kernel_rfl) (by simp) ?_
        refine AllReadyIn.cons rfl (fun K hK => ?_) ?_
        · go_simp
          refine hK _ _ ?_
          clear hK K
          refine wpAnyIn_ready (rs := [3]) (by kernel_rfl) (by simp) ?_
          refine AllReadyIn.cons rfl (fun K hK => ?_) ?_
          · go_simp
            refine hK _ _ ?_
            clear hK K
            refine wpAnyIn_ready (rs := [4]) (by kernel_rfl) (by simp) ?_
            refine AllReadyIn.cons rfl (fun K hK => ?_) ?_
            · go_simp
              gi_wp2_with (refine ⟨trivial, ?_⟩; gi_at_call 59; refine (HCALL.out _).mono ?_; rintro e w5 ⟨rfl, hb5⟩; have hb6 : Below W.heap.size W w5 := ⟨hb5.os, hb5.tape, hb5.output, hb5.size, hb5.block⟩; obtain ⟨A', c', w7, hrun, l7, hpost⟩ := ord_step HI.out.1 HI.out.2.1 HI.out.2.2 (by have := HG.out; rw [hsa]; omega) (by have := HGB.out; omega) hb6 (by omega) ⟨-1, h.s, pi, pc⟩; have HP := Lib.hid hpost; have m1 := (HI.out.1.below hb6).cell 0; have m2 := l7.cell 0; have m3 := l7.frozen 0; have m4 := ((HI.out.1.below hb6).alloc (.cells #[.int .i64 (-1), .int .i64 h.s, .int .i64 pi, .int .u64 pc] 50)).cell 0; clear hb5 hb6 l7 hpost)
              refine wpAnyIn_ready (rs := [5]) (by kernel_rfl) (by simp) ?_
              refine AllReadyIn.cons rfl (fun K hK => ?_) ?_
              · go_simp
                refine hK _ _ ?_
                clear hK K
                refine wpAnyIn_ready (rs := [6]) (by kernel_rfl) (by simp) ?_
                refine AllReadyIn.cons rfl (fun K hK => ?_) ?_
                · refine stepIn_run rfl (.tmp 22) (.tmp 27) 40 rfl _ _ rfl rfl hrun ?_
                  refine hK _ _ ?_
                  clear hK K hrun
                  refine wpAnyIn_ready (rs := [7]) (by kernel_rfl) (by simp) ?_
                  refine AllReadyIn.cons rfl (fun K hK => ?_) ?_
                  · go_simp
                    refine hK _ _ ?_
                    clear hK K
                    refine wpAnyIn_done (by kernel_rfl) ?_ _
                    exact ⟨HP.out.2.1.from _, HP.out.2.2, A', c', _, by rw [HXX.out, List.map_append]; rfl, HP.out.1.1, HP.out.1.2.1, HP.out.1.2.2⟩
                  exact AllReadyIn.nil
                exact AllReadyIn.nil
              exact AllReadyIn.nil
            exact AllReadyIn.nil
          exact AllReadyIn.nil
        refine AllReadyIn.cons rfl (fun K hK => ?_) ?_
        · go_simp
          refine hK _ _ ?_
          clear hK K
          refine wpAnyIn_ready (rs := [0, 4]) (by kernel_rfl) (by simp) ?_
          refine AllReadyIn.cons rfl (fun K hK => ?_) ?_
          · go_simp
            refine hK _ _ ?_
            clear hK K
            refine wpAnyIn_ready (rs := [4]) (by kernel_rfl) (by simp) ?_
            refine AllReadyIn.cons rfl (fun K hK => ?_) ?_
            · go_simp
              gi_wp2_with (refine ⟨trivial, ?_⟩; gi_at_call 59; refine (HCALL.out _).mono ?_; rintro e w5 ⟨rfl, hb5⟩; have hb6 : Below W.heap.size W w5 := ⟨hb5.os, hb5.tape, hb5.output, hb5.size, hb5.block⟩; obtain ⟨A', c', w7, hrun, l7, hpost⟩ := ord_step HI.out.1 HI.out.2.1 HI.out.2.2 (by have := HG.out; rw [hsa]; omega) (by have := HGB.out; omega) hb6 (by omega) ⟨-1, h.s, pi, pc⟩; have HP := Lib.hid hpost; have m1 := (HI.out.1.below hb6).cell 0; have m2 := l7.cell 0; have m3 := l7.frozen 0; have m4 := ((HI.out.1.below hb6).alloc (.cells #[.int .i64 (-1), .int .i64 h.s, .int .i64 pi, .int .u64 pc] 50)).cell 0; clear hb5 hb6 l7 hpost)
              refine wpAnyIn_ready (rs := [5]) (by kernel_rfl) (by simp) ?_
              refine AllReadyIn.cons rfl (fun K hK => ?_) ?_
              · go_simp
                refine hK _ _ ?_
                clear hK K
                refine wpAnyIn_ready (rs := [6]) (by kernel_rfl) (by simp) ?_
                refine AllReadyIn.cons rfl (fun K hK => ?_) ?_
                · refine stepIn_run rfl (.tmp 22) (.tmp 27) 40 rfl _ _ rfl rfl hrun ?_
                  refine hK _ _ ?_
                  clear hK K hrun
                  refine wpAnyIn_ready (rs := [7]) (by kernel_rfl) (by simp) ?_
                  refine AllReadyIn.cons rfl (fun K hK => ?_) ?_
                  · go_simp
                    refine hK _ _ ?_
                    clear hK K
                    refine wpAnyIn_done (by kernel_rfl) ?_ _
                    exact ⟨HP.out.2.1.from _, HP.out.2.2, A', c', _, by rw [HXX.out, List.map_append]; rfl, HP.out.1.1, HP.out.1.2.1, HP.out.1.2.2⟩
                  exact AllReadyIn.nil
                exact AllReadyIn.nil
              exact AllReadyIn.nil
            exact AllReadyIn.nil
          refine AllReadyIn.cons rfl (fun K hK => ?_) ?_
          · go_simp
            gi_wp2_with (refine ⟨trivial, ?_⟩; gi_at_call 59; refine (HCALL.out _).mono ?_; rintro e w5 ⟨rfl, hb5⟩; have hb6 : Below W.heap.size W w5 := ⟨hb5.os, hb5.tape, hb5.output, hb5.size, hb5.block⟩; obtain ⟨A', c', w7, hrun, l7, hpost⟩ := ord_step HI.out.1 HI.out.2.1 HI.out.2.2 (by have := HG.out; rw [hsa]; omega) (by have := HGB.out; omega) hb6 (by omega) ⟨-1, h.s, pi, pc⟩; have HP := Lib.hid hpost; have m1 := (HI.out.1.below hb6).cell 0; have m2 := l7.cell 0; have m3 := l7.frozen 0; have m4 := ((HI.out.1.below hb6).alloc (.cells #[.int .i64 (-1), .int .i64 h.s, .int .i64 pi, .int .u64 pc] 50)).cell 0; clear hb5 hb6 l7 hpost)
            refine wpAnyIn_ready (rs := [0, 5]) (by kernel_rfl) (by simp) ?_
            refine AllReadyIn.cons rfl (fun K hK => ?_) ?_
            · go_simp
              refine hK _ _ ?_
              clear hK K
              refine wpAnyIn_ready (rs := [5]) (by kernel_rfl) (by simp) ?_
              refine AllReadyIn.cons rfl (fun K hK => ?_) ?_
              · go_simp
                refine hK _ _ ?_
                clear hK K
                refine wpAnyIn_ready (rs := [6]) (by kernel_rfl) (by simp) ?_
                refine AllReadyIn.cons rfl (fun K hK => ?_) ?_
                · refine stepIn_run rfl (.tmp 22) (.tmp 27) 40 rfl _ _ rfl rfl hrun ?_
                  refine hK _ _ ?_
                  clear hK K hrun
                  refine wpAnyIn_ready (rs := [7]) (by kernel_rfl) (by simp) ?_
                  refine AllReadyIn.cons rfl (fun K hK => ?_) ?_
                  · go_simp
                    refine hK _ _ ?_
                    clear hK K
                    refine wpAnyIn_done (by kernel_rfl) ?_ _
                    exact ⟨HP.out.2.1.from _, HP.out.2.2, A', c', _, by rw [HXX.out, List.map_append]; rfl, HP.out.1.1, HP.out.1.2.1, HP.out.1.2.2⟩
                  exact AllReadyIn.nil
                exact AllReadyIn.nil
              exact AllReadyIn.nil
            refine AllReadyIn.cons rfl (fun K hK => ?_) ?_
            · go_simp
              refine hK _ _ ?_
              clear hK K
              refine wpAnyIn_ready (rs := [0]) (by kernel_rfl) (by simp) ?_
              refine AllReadyIn.cons rfl (fun K hK => ?_) ?_
              · go_simp
                refine hK _ _ ?_
                clear hK K
                refine wpAnyIn_ready (rs := [6]) (by kernel_rfl) (by simp) ?_
                refine AllReadyIn.cons rfl (fun K hK => ?_) ?_
                · refine stepIn_run rfl (.tmp 22) (.tmp 27) 40 rfl _ _ rfl rfl hrun ?_
                  refine hK _ _ ?_
                  clear hK K hrun
                  refine wpAnyIn_ready (rs := [7]) (by kernel_rfl) (by simp) ?_
                  refine AllReadyIn.cons rfl (fun K hK => ?_) ?_
                  · go_simp
                    refine hK _ _ ?_
                    clear hK K
                    refine wpAnyIn_done (by kernel_rfl) ?_ _
                    exact ⟨HP.out.2.1.from _, HP.out.2.2, A', c', _, by rw [HXX.out, List.map_append]; rfl, HP.out.1.1, HP.out.1.2.1, HP.out.1.2.2⟩
                  exact AllReadyIn.nil
                exact AllReadyIn.nil
              exact AllReadyIn.nil
            exact AllReadyIn.nil
          exact AllReadyIn.nil
        exact AllReadyIn.nil
      refine AllReadyIn.cons rfl (fun K hK => ?_) ?_
      · go_simp
        refine hK _ _ ?_
        clear hK K
        refine wpAnyIn_ready (rs := [0, 2]) (by kernel_rfl) (by simp) ?_
        refine AllReadyIn.cons rfl (fun K hK => ?_) ?_
        · go_simp
          refine hK _ _ ?_
          clear hK K
          refine wpAnyIn_ready (rs := [2]) (by kernel_rfl) (by simp) ?_
          refine AllReadyIn.cons rfl (fun K hK => ?_) ?_
          · go_simp
            refine hK _ _ ?_
            clear hK K
            refine wpAnyIn_ready (rs := [4]) (by kernel_rfl) (by simp) ?_
            refine AllReadyIn.cons rfl (fun K hK => ?_) ?_
            · go_simp
              gi_wp2_with (refine ⟨trivial, ?_⟩; gi_at_call 59; refine (HCALL.out _).mono ?_; rintro e w5 ⟨rfl, hb5⟩; have hb6 : Below W.heap.size W w5 := ⟨hb5.os, hb5.tape, hb5.output, hb5.size, hb5.block⟩; obtain ⟨A', c', w7, hrun, l7, hpost⟩ := ord_step HI.out.1 HI.out.2.1 HI.out.2.2 (by have := HG.out; rw [hsa]; omega) (by have := HGB.out; omega) hb6 (by omega) ⟨-1, h.s, pi, pc⟩; have HP := Lib.hid hpost; have m1 := (HI.out.1.below hb6).cell 0; have m2 := l7.cell 0; have m3 := l7.frozen 0; have m4 := ((HI.out.1.below hb6).alloc (.cells #[.int .i64 (-1), .int .i64 h.s, .int .i64 pi, .int .u64 pc] 50)).cell 0; clear hb5 hb6 l7 hpost)
              refine wpAnyIn_ready (rs := [5]) (by kernel_rfl) (by simp) ?_
              refine AllReadyIn.cons rfl (fun K hK => ?_) ?_
              · go_simp
                refine hK _ _ ?_
                clear hK K
                refine wpAnyIn_ready (rs := [6]) (by kernel_rfl) (by simp) ?_
                refine AllReadyIn.cons rfl (fun K hK => ?_) ?_
                · refine stepIn_run rfl (.tmp 22) (.tmp 27) 40 rfl _ _ rfl rfl hrun ?_
                  refine hK _ _ ?_
                  clear hK K hrun
                  refine wpAnyIn_ready (rs := [7]) (by kernel_rfl) (by simp) ?_
                  refine AllReadyIn.cons rfl (fun K hK => ?_) ?_
                  · go_simp
                    refine hK _ _ ?_
                    clear hK K
                    refine wpAnyIn_done (by kernel_rfl) ?_ _
                    exact ⟨HP.out.2.1.from _, HP.out.2.2, A', c', _, by rw [HXX.out, List.map_append]; rfl, HP.out.1.1, HP.out.1.2.1, HP.out.1.2.2⟩
                  exact AllReadyIn.nil
                exact AllReadyIn.nil
              exact AllReadyIn.nil
            exact AllReadyIn.nil
          exact AllReadyIn.nil
        refine AllReadyIn.cons rfl (fun K hK => ?_) ?_
        · go_simp
          refine hK _ _ ?_
          clear hK K
          refine wpAnyIn_ready (rs := [0, 4]) (by kernel_rfl) (by simp) ?_
          refine AllReadyIn.cons rfl (fun K hK => ?_) ?_
          · go_simp
            refine hK _ _ ?_
            clear hK K
            refine wpAnyIn_ready (rs := [4]) (by kernel_rfl) (by simp) ?_
            refine AllReadyIn.cons rfl (fun K hK => ?_) ?_
            · go_simp
              gi_wp2_with (refine ⟨trivial, ?_⟩; gi_at_call 59; refine (HCALL.out _).mono ?_; rintro e w5 ⟨rfl, hb5⟩; have hb6 : Below W.heap.size W w5 := ⟨hb5.os, hb5.tape, hb5.output, hb5.size, hb5.block⟩; obtain ⟨A', c', w7, hrun, l7, hpost⟩ := ord_step HI.out.1 HI.out.2.1 HI.out.2.2 (by have := HG.out; rw [hsa]; omega) (by have := HGB.out; omega) hb6 (by omega) ⟨-1, h.s, pi, pc⟩; have HP := Lib.hid hpost; have m1 := (HI.out.1.below hb6).cell 0; have m2 := l7.cell 0; have m3 := l7.frozen 0; have m4 := ((HI.out.1.below hb6).alloc (.cells #[.int .i64 (-1), .int .i64 h.s, .int .i64 pi, .int .u64 pc] 50)).cell 0; clear hb5 hb6 l7 hpost)
              refine wpAnyIn_ready (rs := [5]) (by kernel_rfl) (by simp) ?_
              refine AllReadyIn.cons rfl (fun K hK => ?_) ?_
              · go_simp
                refine hK _ _ ?_
                clear hK K
                refine wpAnyIn_ready (rs := [6]) (by kernel_rfl) (by simp) ?_
                refine AllReadyIn.cons rfl (fun K hK => ?_) ?_
                · refine stepIn_run rfl (.tmp 22) (.tmp 27) 40 rfl _ _ rfl rfl hrun ?_
                  refine hK _ _ ?_
                  clear hK K hrun
                  refine wpAnyIn_ready (rs := [7]) (by kernel_rfl) (by simp) ?_
                  refine AllReadyIn.cons rfl (fun K hK => ?_) ?_
                  · go_simp
                    refine hK _ _ ?_
                    clear hK K
                    refine wpAnyIn_done (by kernel_rfl) ?_ _
                    exact ⟨HP.out.2.1.from _, HP.out.2.2, A', c', _, by rw [HXX.out, List.map_append]; rfl, HP.out.1.1, HP.out.1.2.1, HP.out.1.2.2⟩
                  exact AllReadyIn.nil
                exact AllReadyIn.nil
              exact AllReadyIn.nil
            exact AllReadyIn.nil
          refine AllReadyIn.cons rfl (fun K hK => ?_) ?_
          · go_simp
            gi_wp2_with (refine ⟨trivial, ?_⟩; gi_at_call 59; refine (HCALL.out _).mono ?_; rintro e w5 ⟨rfl, hb5⟩; have hb6 : Below W.heap.size W w5 := ⟨hb5.os, hb5.tape, hb5.output, hb5.size, hb5.block⟩; obtain ⟨A', c', w7, hrun, l7, hpost⟩ := ord_step HI.out.1 HI.out.2.1 HI.out.2.2 (by have := HG.out; rw [hsa]; omega) (by have := HGB.out; omega) hb6 (by omega) ⟨-1, h.s, pi, pc⟩; have HP := Lib.hid hpost; have m1 := (HI.out.1.below hb6).cell 0; have m2 := l7.cell 0; have m3 := l7.frozen 0; have m4 := ((HI.out.1.below hb6).alloc (.cells #[.int .i64 (-1), .int .i64 h.s, .int .i64 pi, .int .u64 pc] 50)).cell 0; clear hb5 hb6 l7 hpost)
            refine wpAnyIn_ready (rs := [0, 5]) (by kernel_rfl) (by simp) ?_
            refine AllReadyIn.cons rfl (fun K hK => ?_) ?_
            · go_simp
              refine hK _ _ ?_
              clear hK K
              refine wpAnyIn_ready (rs := [5]) (by kernel_rfl) (by simp) ?_
              refine AllReadyIn.cons rfl (fun K hK => ?_) ?_
              · go_simp
                refine hK _ _ ?_
                clear hK K
                refine wpAnyIn_ready (rs := [6]) (by kernel_rfl) (by simp) ?_
                refine AllReadyIn.cons rfl (fun K hK => ?_) ?_
                · refine stepIn_run rfl (.tmp 22) (.tmp 27) 40 rfl _ _ rfl rfl hrun ?_
                  refine hK _ _ ?_
                  clear hK K hrun
                  refine wpAnyIn_ready (rs := [7]) (by kernel_rfl) (by simp) ?_
                  refine AllReadyIn.cons rfl (fun K hK => ?_) ?_
                  · go_simp
                    refine hK _ _ ?_
                    clear hK K
                    refine wpAnyIn_done (by kernel_rfl) ?_ _
                    exact ⟨HP.out.2.1.from _, HP.out.2.2, A', c', _, by rw [HXX.out, List.map_append]; rfl, HP.out.1.1, HP.out.1.2.1, HP.out.1.2.2⟩
                  exact AllReadyIn.nil
                exact AllReadyIn.nil
              exact AllReadyIn.nil
            refine AllReadyIn.cons rfl (fun K hK => ?_) ?_
            · go_simp
              refine hK _ _ ?_
              clear hK K
              refine wpAnyIn_ready (rs := [0]) (by kernel_rfl) (by simp) ?_
              refine AllReadyIn.cons rfl (fun K hK => ?_) ?_
              · go_simp
                refine hK _ _ ?_
                clear hK K
                refine wpAnyIn_ready (rs := [6]) (by kernel_rfl) (by simp) ?_
                refine AllReadyIn.cons rfl (fun K hK => ?_) ?_
                · refine stepIn_run rfl (.tmp 22) (.tmp 27) 40 rfl _ _ rfl rfl hrun ?_
                  refine hK _ _ ?_
                  clear hK K hrun
                  refine wpAnyIn_ready (rs := [7]) (by kernel_rfl) (by simp) ?_
                  refine AllReadyIn.cons rfl (fun K hK => ?_) ?_
                  · go_simp
                    refine hK _ _ ?_
                    clear hK K
                    refine wpAnyIn_done (by kernel_rfl) ?_ _
                    exact ⟨HP.out.2.1.from _, HP.out.2.2, A', c', _, by rw [HXX.out, List.map_append]; rfl, HP.out.1.1, HP.out.1.2.1, HP.out.1.2.2⟩
                  exact AllReadyIn.nil
                exact AllReadyIn.nil
              exact AllReadyIn.nil
            exact AllReadyIn.nil
          exact AllReadyIn.nil
        exact AllReadyIn.nil
      exact AllReadyIn.nil
    refine AllReadyIn.cons rfl (fun K hK => ?_) ?_
    · go_simp
      refine hK _ _ ?_
      clear hK K
      refine wpAnyIn_ready (rs := [0, 1]) (by kernel_rfl) (by simp) ?_
      refine AllReadyIn.cons rfl (fun K hK => ?_) ?_
      · go_simp
        refine hK _ _ ?_
        clear hK K
        refine wpAnyIn_ready (rs := [1]) (by kernel_rfl) (by simp) ?_
        refine AllReadyIn.cons rfl (fun K hK => ?_) ?_
        · go_simp
          refine hK _ _ ?_
          clear hK K
          refine wpAnyIn_ready (rs := [2]) (by kernel_rfl) (by simp) ?_
          refine AllReadyIn.cons rfl (fun K hK => ?_) ?_
          · go_simp
            refine hK _ _ ?_
            clear hK K
            refine wpAnyIn_ready (rs := [4]) (by kernel_rfl) (by simp) ?_
            refine AllReadyIn.cons rfl (fun K hK => ?_) ?_
            · go_simp
              gi_wp2_with (refine ⟨trivial, ?_⟩; gi_at_call 59; refine (HCALL.out _).mono ?_; rintro e w5 ⟨rfl, hb5⟩; have hb6 : Below W.heap.size W w5 := ⟨hb5.os, hb5.tape, hb5.output, hb5.size, hb5.block⟩; obtain ⟨A', c', w7, hrun, l7, hpost⟩ := ord_step HI.out.1 HI.out.2.1 HI.out.2.2 (by have := HG.out; rw [hsa]; omega) (by have := HGB.out; omega) hb6 (by omega) ⟨-1, h.s, pi, pc⟩; have HP := Lib.hid hpost; have m1 := (HI.out.1.below hb6).cell 0; have m2 := l7.cell 0; have m3 := l7.frozen 0; have m4 := ((HI.out.1.below hb6).alloc (.cells #[.int .i64 (-1), .int .i64 h.s, .int .i64 pi, .int .u64 pc] 50)).cell 0; clear hb5 hb6 l7 hpost)
              refine wpAnyIn_ready (rs := [5]) (by kernel_rfl) (by simp) ?_
              refine AllReadyIn.cons rfl (fun K hK => ?_) ?_
              · go_simp
                refine hK _ _ ?_
                clear hK K
                refine wpAnyIn_ready (rs := [6]) (by kernel_rfl) (by simp) ?_
                refine AllReadyIn.cons rfl (fun K hK => ?_) ?_
                · refine stepIn_run rfl (.tmp 22) (.tmp 27) 40 rfl _ _ rfl rfl hrun ?_
                  refine hK _ _ ?_
                  clear hK K hrun
                  refine wpAnyIn_ready (rs := [7]) (by kernel_rfl) (by simp) ?_
                  refine AllReadyIn.cons rfl (fun K hK => ?_) ?_
                  · go_simp
                    refine hK _ _ ?_
                    clear hK K
                    refine wpAnyIn_done (by kernel_rfl) ?_ _
                    exact ⟨HP.out.2.1.from _, HP.out.2.2, A', c', _, by rw [HXX.out, List.map_append]; rfl, HP.out.1.1, HP.out.1.2.1, HP.out.1.2.2⟩
                  exact AllReadyIn.nil
                exact AllReadyIn.nil
              exact AllReadyIn.nil
            exact AllReadyIn.nil
          exact AllReadyIn.nil
        exact AllReadyIn.nil
      refine AllReadyIn.cons rfl (fun K hK => ?_) ?_
      · go_simp
        refine hK _ _ ?_
        clear hK K
        refine wpAnyIn_ready (rs := [0, 2]) (by kernel_rfl) (by simp) ?_
        refine AllReadyIn.cons rfl (fun K hK => ?_) ?_
        · go_simp
          refine hK _ _ ?_
          clear hK K
          refine wpAnyIn_ready (rs := [2]) (by kernel_rfl) (by simp) ?_
          refine AllReadyIn.cons rfl (fun K hK => ?_) ?_
          · go_simp
            refine hK _ _ ?_
            clear hK K
            refine wpAnyIn_ready (rs := [4]) (by kernel_rfl) (by simp) ?_
            refine AllReadyIn.cons rfl (fun K hK => ?_) ?_
            · go_simp
              gi_wp2_with (refine ⟨trivial, ?_⟩; gi_at_call 59; refine (HCALL.out _).mono ?_; rintro e w5 ⟨rfl, hb5⟩; have hb6 : Below W.heap.size W w5 := ⟨hb5.os, hb5.tape, hb5.output, hb5.size, hb5.block⟩; obtain ⟨A', c', w7, hrun, l7, hpost⟩ := ord_step HI.out.1 HI.out.2.1 HI.out.2.2 (by have := HG.out; rw [hsa]; omega) (by have := HGB.out; omega) hb6 (by omega) ⟨-1, h.s, pi, pc⟩; have HP := Lib.hid hpost; have m1 := (HI.out.1.below hb6).cell 0; have m2 := l7.cell 0; have m3 := l7.frozen 0; have m4 := ((HI.out.1.below hb6).alloc (.cells #[.int .i64 (-1), .int .i64 h.s, .int .i64 pi, .int .u64 pc] 50)).cell 0; clear hb5 hb6 l7 hpost)
              refine wpAnyIn_ready (rs := [5]) (by kernel_rfl) (by simp) ?_
              refine AllReadyIn.cons rfl (fun K hK => ?_) ?_
              · go_simp
                refine hK _ _ ?_
                clear hK K
                refine wpAnyIn_ready (rs := [6]) (by kernel_rfl) (by simp) ?_
                refine AllReadyIn.cons rfl (fun K hK => ?_) ?_
                · refine stepIn_run rfl (.tmp 22) (.tmp 27) 40 rfl _ _ rfl rfl hrun ?_
                  refine hK _ _ ?_
                  clear hK K hrun
                  refine wpAnyIn_ready (rs := [7]) (by kernel_rfl) (by simp) ?_
                  refine AllReadyIn.cons rfl (fun K hK => ?_) ?_
                  · go_simp
                    refine hK _ _ ?_
                    clear hK K
                    refine wpAnyIn_done (by kernel_rfl) ?_ _
                    exact ⟨HP.out.2.1.from _, HP.out.2.2, A', c', _, by rw [HXX.out, List.map_append]; rfl, HP.out.1.1, HP.out.1.2.1, HP.out.1.2.2⟩
                  exact AllReadyIn.nil
                exact AllReadyIn.nil
              exact AllReadyIn.nil
            exact AllReadyIn.nil
          exact AllReadyIn.nil
        refine AllReadyIn.cons rfl (fun K hK => ?_) ?_
        · go_simp
          refine hK _ _ ?_
          clear hK K
          refine wpAnyIn_ready (rs := [0, 4]) (by kernel_rfl) (by simp) ?_
          refine AllReadyIn.cons rfl (fun K hK => ?_) ?_
          · go_simp
            refine hK _ _ ?_
            clear hK K
            refine wpAnyIn_ready (rs := [4]) (by kernel_rfl) (by simp) ?_
            refine AllReadyIn.cons rfl (fun K hK => ?_) ?_
            · go_simp
              gi_wp2_with (refine ⟨trivial, ?_⟩; gi_at_call 59; refine (HCALL.out _).mono ?_; rintro e w5 ⟨rfl, hb5⟩; have hb6 : Below W.heap.size W w5 := ⟨hb5.os, hb5.tape, hb5.output, hb5.size, hb5.block⟩; obtain ⟨A', c', w7, hrun, l7, hpost⟩ := ord_step HI.out.1 HI.out.2.1 HI.out.2.2 (by have := HG.out; rw [hsa]; omega) (by have := HGB.out; omega) hb6 (by omega) ⟨-1, h.s, pi, pc⟩; have HP := Lib.hid hpost; have m1 := (HI.out.1.below hb6).cell 0; have m2 := l7.cell 0; have m3 := l7.frozen 0; have m4 := ((HI.out.1.below hb6).alloc (.cells #[.int .i64 (-1), .int .i64 h.s, .int .i64 pi, .int .u64 pc] 50)).cell 0; clear hb5 hb6 l7 hpost)
              refine wpAnyIn_ready (rs := [5]) (by kernel_rfl) (by simp) ?_
              refine AllReadyIn.cons rfl (fun K hK => ?_) ?_
              · go_simp
                refine hK _ _ ?_
                clear hK K
                refine wpAnyIn_ready (rs := [6]) (by kernel_rfl) (by simp) ?_
                refine AllReadyIn.cons rfl (fun K hK => ?_) ?_
                · refine stepIn_run rfl (.tmp 22) (.tmp 27) 40 rfl _ _ rfl rfl hrun ?_
                  refine hK _ _ ?_
                  clear hK K hrun
                  refine wpAnyIn_ready (rs := [7]) (by kernel_rfl) (by simp) ?_
                  refine AllReadyIn.cons rfl (fun K hK => ?_) ?_
                  · go_simp
                    refine hK _ _ ?_
                    clear hK K
                    refine wpAnyIn_done (by kernel_rfl) ?_ _
                    exact ⟨HP.out.2.1.from _, HP.out.2.2, A', c', _, by rw [HXX.out, List.map_append]; rfl, HP.out.1.1, HP.out.1.2.1, HP.out.1.2.2⟩
                  exact AllReadyIn.nil
                exact AllReadyIn.nil
              exact AllReadyIn.nil
            exact AllReadyIn.nil
          refine AllReadyIn.cons rfl (fun K hK => ?_) ?_
          · go_simp
            gi_wp2_with (refine ⟨trivial, ?_⟩; gi_at_call 59; refine (HCALL.out _).mono ?_; rintro e w5 ⟨rfl, hb5⟩; have hb6 : Below W.heap.size W w5 := ⟨hb5.os, hb5.tape, hb5.output, hb5.size, hb5.block⟩; obtain ⟨A', c', w7, hrun, l7, hpost⟩ := ord_step HI.out.1 HI.out.2.1 HI.out.2.2 (by have := HG.out; rw [hsa]; omega) (by have := HGB.out; omega) hb6 (by omega) ⟨-1, h.s, pi, pc⟩; have HP := Lib.hid hpost; have m1 := (HI.out.1.below hb6).cell 0; have m2 := l7.cell 0; have m3 := l7.frozen 0; have m4 := ((HI.out.1.below hb6).alloc (.cells #[.int .i64 (-1), .int .i64 h.s, .int .i64 pi, .int .u64 pc] 50)).cell 0; clear hb5 hb6 l7 hpost)
            refine wpAnyIn_ready (rs := [0, 5]) (by kernel_rfl) (by simp) ?_
            refine AllReadyIn.cons rfl (fun K hK => ?_) ?_
            · go_simp
              refine hK _ _ ?_
              clear hK K
              refine wpAnyIn_ready (rs := [5]) (by kernel_rfl) (by simp) ?_
              refine AllReadyIn.cons rfl (fun K hK => ?_) ?_
              · go_simp
                refine hK _ _ ?_
                clear hK K
                refine wpAnyIn_ready (rs := [6]) (by kernel_rfl) (by simp) ?_
                refine AllReadyIn.cons rfl (fun K hK => ?_) ?_
                · refine stepIn_run rfl (.tmp 22) (.tmp 27) 40 rfl _ _ rfl rfl hrun ?_
                  refine hK _ _ ?_
                  clear hK K hrun
                  refine wpAnyIn_ready (rs := [7]) (by kernel_rfl) (by simp) ?_
                  refine AllReadyIn.cons rfl (fun K hK => ?_) ?_
                  · go_simp
                    refine hK _ _ ?_
                    clear hK K
                    refine wpAnyIn_done (by kernel_rfl) ?_ _
                    exact ⟨HP.out.2.1.from _, HP.out.2.2, A', c', _, by rw [HXX.out, List.map_append]; rfl, HP.out.1.1, HP.out.1.2.1, HP.out.1.2.2⟩
                  exact AllReadyIn.nil
                exact AllReadyIn.nil
              exact AllReadyIn.nil
            refine AllReadyIn.cons rfl (fun K hK => ?_) ?_
            · go_simp
              refine hK _ _ ?_
              clear hK K
              refine wpAnyIn_ready (rs := [0]) (by kernel_rfl) (by simp) ?_
              refine AllReadyIn.cons rfl (fun K hK => ?_) ?_
              · go_simp
                refine hK _ _ ?_
                clear hK K
                refine wpAnyIn_ready (rs := [6]) (by kernel_rfl) (by simp) ?_
                refine AllReadyIn.cons rfl (fun K hK => ?_) ?_
                · refine stepIn_run rfl (.tmp 22) (.tmp 27) 40 rfl _ _ rfl rfl hrun ?_
                  refine hK _ _ ?_
                  clear hK K hrun
                  refine wpAnyIn_ready (rs := [7]) (by kernel_rfl) (by simp) ?_
                  refine AllReadyIn.cons rfl (fun K hK => ?_) ?_
                  · go_simp
                    refine hK _ _ ?_
                    clear hK K
                    refine wpAnyIn_done (by kernel_rfl) ?_ _
                    exact ⟨HP.out.2.1.from _, HP.out.2.2, A', c', _, by rw [HXX.out, List.map_append]; rfl, HP.out.1.1, HP.out.1.2.1, HP.out.1.2.2⟩
                  exact AllReadyIn.nil
                exact AllReadyIn.nil
              exact AllReadyIn.nil
            exact AllReadyIn.nil
          exact AllReadyIn.nil
        exact AllReadyIn.nil
      exact AllReadyIn.nil
    exact AllReadyIn.nil
  case done =>
    rintro D xs W hD hxs ⟨A1, c1, X, hX, i1, i2, i3⟩ hDef
    have HS4z := Lib.hid (show wa.heap.size ≤ D from Nat.le_trans HO4.out.2.size hD)
    have HJ := Lib.hid (show OrdJ wa gl D (negL h) W from ⟨A1, c1, by
      have e : X = negL h := by
        rw [hX, hxs, show (fun x : Int × Int × Int => celF (-1) h.s x.2) = (celF (-1) h.s) ∘ (fun x : Int × Int × Int => x.2) from rfl, ← List.map_map, back_list]
        rfl
      rw [e] at i1 i2
      exact ⟨i1, i2, hDef⟩⟩)
    clear hX i1 i2 i3 hDef hxs HS4 HL4 HO4 HGB xs A1 c1 X
    have hgE := HG.out
    have HGL := Lib.hid (show wa.heap.size ≤ gl from by rw [hsa]; omega)
    clear hsa
    obtain ⟨A1, c1, i1, i2, i3⟩ := HJ.out
    have HI := Lib.hid (And.intro i1 (And.intro i2 i3))
    have hnl : (negL h).length ≤ 512 := by simp [negL]; omega
    have l1 : W.cell? ⟨gl, 0, none⟩ = some (.slice A1 (negL h).length c1) := i1.cell 0
    have l2 := i1.frozen 0
    have l3 := i1.lt
    obtain ⟨x0, x1, x2, x3, x4, x5, x6, x7⟩ := (HX.out.below i2.2).eight
    have l0 := (HX.out.below i2.2).lt
    clear i1 i2 i3 HJ
    go_wp2_with (at_builtin; refine appP rfl _ _ rfl wa.heap.size A1 (negL h).length c1 (negL h) rfl ?c0 (W.heap.size) rfl ⟨0, 0, 0, h.zc⟩ ?c1 ?c2 ?c3 ?_)
    case c0 => exact (HI.out.2.1.alloc _).1
    case c1 => exact Rb.new _ _ rfl _ _
    case c2 => omega
    case c3 => have := HI.out.2.1.2.size; simp; omega
    intro A2 c2 w5 hown hgrow
    obtain ⟨l7, hJ⟩ := ord_app (HI.out.1.alloc _) (HI.out.2.1.alloc _) ((Below.heap_alloc _ _ _ (Array.getElem?_eq_some_iff.1 HI.out.2.2).1).trans HI.out.2.2) HGL.out hown hgrow
    have HJ := Lib.hid hJ
    have m1 := l7.cell 0
    have m2 := l7.frozen 0
    have m3 := l7.lt
    clear hown hgrow hJ l7 l1 l2 l3 x0 x1 x2 x3 x4 x5 x6 x7 l0 HI
    go_upto_region 6 with fail
    clear m1 m2 m3
    generalize w5.setCell ⟨gl, 0, none⟩ (.slice A2 ((negL h).length + 1) c2) = wS at *
    obtain ⟨Y, hY⟩ : ∃ Y, negL h ++ [(⟨0, 0, 0, h.zc⟩ : Cel)] = Y := ⟨_, rfl⟩
    have HY := Lib.hid hY
    have hYl : Y.length ≤ 513 := by rw [← hY, List.length_append]; simp; omega
    rw [hY] at HJ
    obtain ⟨A3, c3, i1, i2, i3⟩ := HJ.out
    obtain ⟨x0, x1, x2, x3, x4, x5, x6, x7⟩ := (HX.out.below i2.2).eight
    have l0 := (HX.out.below i2.2).lt
    clear hY i1 i2 i3
    go_wp2_with fail
    clear x0 x1 x2 x3 x4 x5 x6 x7 l0
    go_loopw [38] (fun i wr => ∃ (k : Nat) (X : List Cel), k ≤ h.P.length ∧ i = .int .i64 k ∧ Hid (X = Y ++ (posL h).take k) ∧ Hid (OrdJ wa gl D X wr)) (fun i _ => h.P.length - (intOf i).toNat)
    case atStart => exact ⟨0, Y, by omega, rfl, Lib.hid (by simp), HJ⟩
    case round =>
      obtain ⟨k, X, hk, rfl, HXX, HR⟩ := hrel
      obtain ⟨A1, c1, i1, i2, i3⟩ := HR.out
      have HI := Lib.hid (And.intro i1 (And.intro i2 i3))
      clear i1 i2 i3 A3 c3
      by_cases hlt : k < h.P.length
      · have hki : (k : Int) < (h.P.length : Int) := by omega
        obtain ⟨b, off, rfl, hcell⟩ := (HK.out.1.below HI.out.2.1.2).some_ (by omega)
        obtain ⟨p, hp⟩ := getElem?_lt hlt
        obtain ⟨q1, q2⟩ := hcell k p hp
        have HT := Lib.hid (app_at (X := Y) (l := posL h) (k := k) (x := celF 1 h.s p) (map_at hp))
        have hx : X.length ≤ 1100 := by rw [HXX.out, List.length_append, List.length_take]; omega
        obtain ⟨pi, pc⟩ := p
        simp only [celF] at q1 q2 HT
        have hlb := block_lt_of_cell q1
        simp only at hlb
        clear hcell hp
        go_upto_region 9 with fail
        have hbv : Below wr.heap.size wr (wr.alloc (.cells #[.int .i64 pi, .int .u64 pc] 80)) := (Below.refl _ _).alloc (Nat.le_refl _) _
        obtain ⟨gv, hgv⟩ : ∃ g, wr.heap.size = g := ⟨_, rfl⟩
        have HV := Lib.hid (Rb.new wr gv hgv 80 #[.int .i64 pi, .int .u64 pc])
        have HI2 := Lib.hid (And.intro (HI.out.1.below hbv) (And.intro (HI.out.2.1.below hbv) ((hbv.block D (Array.getElem?_eq_some_iff.1 HI.out.2.2).1).trans HI.out.2.2)))
        rw [hgv]
        clear hbv hgv q1 q2 hlb HI HR
        generalize wr.alloc (.cells #[.int .i64 pi, .int .u64 pc] 80) = wv at *
        obtain ⟨y0, y1, _, _⟩ := HV.out.two
        have lv := HV.out.lt
        have l1 : wv.cell? ⟨gl, 0, none⟩ = some (.slice A1 X.length c1) := HI2.out.1.cell 0
        have l3 := HI2.out.1.lt
        have x1 : wv.cell? ⟨w.heap.size, 1, none⟩ = some (.int .i64 h.s) := (HX.out.below HI2.out.2.1.2).cell 1
        have l0 := (HX.out.below HI2.out.2.1.2).lt
        refine wp_region_any (by kernel_rfl) ?_
        change wpAny _ _ _ _ _ _ _ (World.drew _)
        refine wpAny_ready (rs := [0, 1, 3]) (by kernel_rfl) (by simp) ?_
        refine AllReady.cons rfl (fun K hK => ?_) ?_
        · go_simp
          refine hK _ _ ?_
          clear hK K
          refine wpAny_ready (rs := [1, 3]) (by kernel_rfl) (by simp) ?_
          refine AllReady.cons rfl (fun K hK => ?_) ?_
          · go_simp
            refine hK _ _ ?_
            clear hK K
            refine wpAny_ready (rs := [2, 3]) (by kernel_rfl) (by simp) ?_
            refine AllReady.cons rfl (fun K hK => ?_) ?_
            · go_simp
              refine hK _ _ ?_
              clear hK K
              refine wpAny_ready (rs := [3]) (by kernel_rfl) (by simp) ?_
              refine AllReady.cons rfl (fun K hK => ?_) ?_
              · go_simp
                refine hK _ _ ?_
                clear hK K
                refine wpAny_ready (rs := [4]) (by kernel_rfl) (by simp) ?_
                refine AllReady.cons rfl (fun K hK => ?_) ?_
                · go_simp
                  go_wp2_with (go_at_call 59; refine (rkcell_any 1 h.s pi pc _).mono ?_; rintro e w5_ ⟨rfl, hb5⟩; have hb6 : Below wv.heap.size wv w5_ := ⟨hb5.os, hb5.tape, hb5.output, hb5.size, hb5.block⟩; have HB5 := Lib.hid hb6; have HO6 := Lib.hid (OwP.alloc (HI2.out.2.1.below hb6) (.cells #[.int .i64 1, .int .i64 h.s, .int .i64 pi, .int .u64 pc] 50)).1; have HN6 := Lib.hid (Rb.new w5_ w5_.heap.size rfl 50 #[.int .i64 1, .int .i64 h.s, .int .i64 pi, .int .u64 pc]); have HL6 := Lib.hid ((HI2.out.1.below hb6).alloc (.cells #[.int .i64 1, .int .i64 h.s, .int .i64 pi, .int .u64 pc] 50)); have HD6 := Lib.hid ((Below.heap_alloc w5_ (.cells #[.int .i64 1, .int .i64 h.s, .int .i64 pi, .int .u64 pc] 50) D (Nat.lt_of_lt_of_le (Array.getElem?_eq_some_iff.1 HI2.out.2.2).1 hb6.size)).trans ((hb6.block D (Array.getElem?_eq_some_iff.1 HI2.out.2.2).1).trans HI2.out.2.2)); have HS6 := Lib.hid (show wa.heap.size ≤ (w5_.alloc (.cells #[.int .i64 1, .int .i64 h.s, .int .i64 pi, .int .u64 pc] 50)).heap.size from by have h1 := HI2.out.2.1.2.size; have h2 := hb6.size; simp; omega); have p1 := (HI2.out.1.below hb6).cell 0; have p2 := (HI2.out.1.below hb6).lt; have p3 := HL6.out.cell 0; clear hb5 hb6)
                  refine wpAny_ready (rs := [5]) (by kernel_rfl) (by simp) ?_
                  refine AllReady.cons rfl (fun K hK => ?_) ?_
                  · go_simp
                    refine hK _ _ ?_
                    clear hK K
                    refine wpAny_ready (rs := [6]) (by kernel_rfl) (by simp) ?_
                    refine AllReady.cons rfl (fun K hK => ?_) ?_
                    · refine stepP rfl (.tmp 42) (.tmp 47) rfl wa.heap.size _ _ _ X rfl HO6.out _ rfl ⟨1, h.s, pi, pc⟩ HN6.out (by omega) (by exact HS6.out) ?_
                      intro A6 c6 w6 ho6 hg6
                      obtain ⟨l7, hJ7⟩ := ord_app HL6.out (OwP.alloc (HI2.out.2.1.below HB5.out) (.cells #[.int .i64 1, .int .i64 h.s, .int .i64 pi, .int .u64 pc] 50)) HD6.out HGL.out ho6 hg6
                      have HJ7 := Lib.hid hJ7
                      have m2 := l7.cell 0
                      have m3 := l7.frozen 0
                      have m4 := l7.lt
                      clear ho6 hg6 l7 hJ7
                      refine hK _ _ ?_
                      clear hK K
                      refine wpAny_ready (rs := [7]) (by kernel_rfl) (by simp) ?_
                      refine AllReady.cons rfl (fun K hK => ?_) ?_
                      · go_simp
                        refine hK _ _ ?_
                        clear hK K
                        refine wpAny_done (by kernel_rfl) ?_ _
                        go_wp2_with fail
                        go_roundw
                        case rel => exact ⟨k + 1, X ++ [⟨1, h.s, pi, pc⟩], by omega, by go_num, Lib.hid (by rw [HT.out, ← HXX.out]), HJ7⟩
                        case measure => simp [intOf]; omega
                      exact AllReady.nil
                    exact AllReady.nil
                  exact AllReady.nil
                exact AllReady.nil
              exact AllReady.nil
            refine AllReady.cons rfl (fun K hK => ?_) ?_
            · go_simp
              refine hK _ _ ?_
              clear hK K
              refine wpAny_ready (rs := [2]) (by kernel_rfl) (by simp) ?_
              refine AllReady.cons rfl (fun K hK => ?_) ?_
              · go_simp
                refine hK _ _ ?_
                clear hK K
                refine wpAny_ready (rs := [4]) (by kernel_rfl) (by simp) ?_
                refine AllReady.cons rfl (fun K hK => ?_) ?_
                · go_simp
                  go_wp2_with (go_at_call 59; refine (rkcell_any 1 h.s pi pc _).mono ?_; rintro e w5_ ⟨rfl, hb5⟩; have hb6 : Below wv.heap.size wv w5_ := ⟨hb5.os, hb5.tape, hb5.output, hb5.size, hb5.block⟩; have HB5 := Lib.hid hb6; have HO6 := Lib.hid (OwP.alloc (HI2.out.2.1.below hb6) (.cells #[.int .i64 1, .int .i64 h.s, .int .i64 pi, .int .u64 pc] 50)).1; have HN6 := Lib.hid (Rb.new w5_ w5_.heap.size rfl 50 #[.int .i64 1, .int .i64 h.s, .int .i64 pi, .int .u64 pc]); have HL6 := Lib.hid ((HI2.out.1.below hb6).alloc (.cells #[.int .i64 1, .int .i64 h.s, .int .i64 pi, .int .u64 pc] 50)); have HD6 := Lib.hid ((Below.heap_alloc w5_ (.cells #[.int .i64 1, .int .i64 h.s, .int .i64 pi, .int .u64 pc] 50) D (Nat.lt_of_lt_of_le (Array.getElem?_eq_some_iff.1 HI2.out.2.2).1 hb6.size)).trans ((hb6.block D (Array.getElem?_eq_some_iff.1 HI2.out.2.2).1).trans HI2.out.2.2)); have HS6 := Lib.hid (show wa.heap.size ≤ (w5_.alloc (.cells #[.int .i64 1, .int .i64 h.s, .int .i64 pi, .int .u64 pc] 50)).heap.size from by have h1 := HI2.out.2.1.2.size; have h2 := hb6.size; simp; omega); have p1 := (HI2.out.1.below hb6).cell 0; have p2 := (HI2.out.1.below hb6).lt; have p3 := HL6.out.cell 0; clear hb5 hb6)
                  refine wpAny_ready (rs := [5]) (by kernel_rfl) (by simp) ?_
                  refine AllReady.cons rfl (fun K hK => ?_) ?_
                  · go_simp
                    refine hK _ _ ?_
                    clear hK K
                    refine wpAny_ready (rs := [6]) (by kernel_rfl) (by simp) ?_
                    refine AllReady.cons rfl (fun K hK => ?_) ?_
                    · refine stepP rfl (.tmp 42) (.tmp 47) rfl wa.heap.size _ _ _ X rfl HO6.out _ rfl ⟨1, h.s, pi, pc⟩ HN6.out (by omega) (by exact HS6.out) ?_
                      intro A6 c6 w6 ho6 hg6
                      obtain ⟨l7, hJ7⟩ := ord_app HL6.out (OwP.alloc (HI2.out.2.1.below HB5.out) (.cells #[.int .i64 1, .int .i64 h.s, .int .i64 pi, .int .u64 pc] 50)) HD6.out HGL.out ho6 hg6
                      have HJ7 := Lib.hid hJ7
                      have m2 := l7.cell 0
                      have m3 := l7.frozen 0
                      have m4 := l7.lt
                      clear ho6 hg6 l7 hJ7
                      refine hK _ _ ?_
                      clear hK K
                      refine wpAny_ready (rs := [7]) (by kernel_rfl) (by simp) ?_
                      refine AllReady.cons rfl (fun K hK => ?_) ?_
                      · go_simp
                        refine hK _ _ ?_
                        clear hK K
                        refine wpAny_done (by kernel_rfl) ?_ _
                        go_wp2_with fail
                        go_roundw
                        case rel => exact ⟨k + 1, X ++ [⟨1, h.s, pi, pc⟩], by omega, by go_num, Lib.hid (by rw [HT.out, ← HXX.out]), HJ7⟩
                        case measure => simp [intOf]; omega
                      exact AllReady.nil
                    exact AllReady.nil
                  exact AllReady.nil
                exact AllReady.nil
              exact AllReady.nil
            exact AllReady.nil
          refine AllReady.cons rfl (fun K hK => ?_) ?_
          · go_simp
            refine hK _ _ ?_
            clear hK K
            refine wpAny_ready (rs := [1]) (by kernel_rfl) (by simp) ?_
            refine AllReady.cons rfl (fun K hK => ?_) ?_
            · go_simp
              refine hK _ _ ?_
              clear hK K
              refine wpAny_ready (rs := [2]) (by kernel_rfl) (by simp) ?_
              refine AllReady.cons rfl (fun K hK => ?_) ?_
              · go_simp
                refine hK _ _ ?_
                clear hK K
                refine wpAny_ready (rs := [4]) (by kernel_rfl) (by simp) ?_
                refine AllReady.cons rfl (fun K hK => ?_) ?_
                · go_simp
                  go_wp2_with (go_at_call 59; refine (rkcell_any 1 h.s pi pc _).mono ?_; rintro e w5_ ⟨rfl, hb5⟩; have hb6 : Below wv.heap.size wv w5_ := ⟨hb5.os, hb5.tape, hb5.output, hb5.size, hb5.block⟩; have HB5 := Lib.hid hb6; have HO6 := Lib.hid (OwP.alloc (HI2.out.2.1.below hb6) (.cells #[.int .i64 1, .int .i64 h.s, .int .i64 pi, .int .u64 pc] 50)).1; have HN6 := Lib.hid (Rb.new w5_ w5_.heap.size rfl 50 #[.int .i64 1, .int .i64 h.s, .int .i64 pi, .int .u64 pc]); have HL6 := Lib.hid ((HI2.out.1.below hb6).alloc (.cells #[.int .i64 1, .int .i64 h.s, .int .i64 pi, .int .u64 pc] 50)); have HD6 := Lib.hid ((Below.heap_alloc w5_ (.cells #[.int .i64 1, .int .i64 h.s, .int .i64 pi, .int .u64 pc] 50) D (Nat.lt_of_lt_of_le (Array.getElem?_eq_some_iff.1 HI2.out.2.2).1 hb6.size)).trans ((hb6.block D (Array.getElem?_eq_some_iff.1 HI2.out.2.2).1).trans HI2.out.2.2)); have HS6 := Lib.hid (show wa.heap.size ≤ (w5_.alloc (.cells #[.int .i64 1, .int .i64 h.s, .int .i64 pi, .int .u64 pc] 50)).heap.size from by have h1 := HI2.out.2.1.2.size; have h2 := hb6.size; simp; omega); have p1 := (HI2.out.1.below hb6).cell 0; have p2 := (HI2.out.1.below hb6).lt; have p3 := HL6.out.cell 0; clear hb5 hb6)
                  refine wpAny_ready (rs := [5]) (by kernel_rfl) (by simp) ?_
                  refine AllReady.cons rfl (fun K hK => ?_) ?_
                  · go_simp
                    refine hK _ _ ?_
                    clear hK K
                    refine wpAny_ready (rs := [6]) (by kernel_rfl) (by simp) ?_
                    refine AllReady.cons rfl (fun K hK => ?_) ?_
                    · refine stepP rfl (.tmp 42) (.tmp 47) rfl wa.heap.size _ _ _ X rfl HO6.out _ rfl ⟨1, h.s, pi, pc⟩ HN6.out (by omega) (by exact HS6.out) ?_
                      intro A6 c6 w6 ho6 hg6
                      obtain ⟨l7, hJ7⟩ := ord_app HL6.out (OwP.alloc (HI2.out.2.1.below HB5.out) (.cells #[.int .i64 1, .int .i64 h.s, .int .i64 pi, .int .u64 pc] 50)) HD6.out HGL.out ho6 hg6
                      have HJ7 := Lib.hid hJ7
                      have m2 := l7.cell 0
                      have m3 := l7.frozen 0
                      have m4 := l7.lt
                      clear ho6 hg6 l7 hJ7
                      refine hK _ _ ?_
                      clear hK K
                      refine wpAny_ready (rs := [7]) (by kernel_rfl) (by simp) ?_
                      refine AllReady.cons rfl (fun K hK => ?_) ?_
                      · go_simp
                        refine hK _ _ ?_
                        clear hK K
                        refine wpAny_done (by kernel_rfl) ?_ _
                        go_wp2_with fail
                        go_roundw
                        case rel => exact ⟨k + 1, X ++ [⟨1, h.s, pi, pc⟩], by omega, by go_num, Lib.hid (by rw [HT.out, ← HXX.out]), HJ7⟩
                        case measure => simp [intOf]; omega
                      exact AllReady.nil
                    exact AllReady.nil
                  exact AllReady.nil
                exact AllReady.nil
              exact AllReady.nil
            exact AllReady.nil
          exact AllReady.nil
        refine AllReady.cons rfl (fun K hK => ?_) ?_
        · go_simp
          refine hK _ _ ?_
          clear hK K
          refine wpAny_ready (rs := [0, 2, 3]) (by kernel_rfl) (by simp) ?_
          refine AllReady.cons rfl (fun K hK => ?_) ?_
          · go_simp
            refine hK _ _ ?_
            clear hK K
            refine wpAny_ready (rs := [2, 3]) (by kernel_rfl) (by simp) ?_
            refine AllReady.cons rfl (fun K hK => ?_) ?_
            · go_simp
              refine hK _ _ ?_
              clear hK K
              refine wpAny_ready (rs := [3]) (by kernel_rfl) (by simp) ?_
              refine AllReady.cons rfl (fun K hK => ?_) ?_
              · go_simp
                refine hK _ _ ?_
                clear hK K
                refine wpAny_ready (rs := [4]) (by kernel_rfl) (by simp) ?_
                refine AllReady.cons rfl (fun K hK => ?_) ?_
                · go_simp
                  go_wp2_with (go_at_call 59; refine (rkcell_any 1 h.s pi pc _).mono ?_; rintro e w5_ ⟨rfl, hb5⟩; have hb6 : Below wv.heap.size wv w5_ := ⟨hb5.os, hb5.tape, hb5.output, hb5.size, hb5.block⟩; have HB5 := Lib.hid hb6; have HO6 := Lib.hid (OwP.alloc (HI2.out.2.1.below hb6) (.cells #[.int .i64 1, .int .i64 h.s, .int .i64 pi, .int .u64 pc] 50)).1; have HN6 := Lib.hid (Rb.new w5_ w5_.heap.size rfl 50 #[.int .i64 1, .int .i64 h.s, .int .i64 pi, .int .u64 pc]); have HL6 := Lib.hid ((HI2.out.1.below hb6).alloc (.cells #[.int .i64 1, .int .i64 h.s, .int .i64 pi, .int .u64 pc] 50)); have HD6 := Lib.hid ((Below.heap_alloc w5_ (.cells #[.int .i64 1, .int .i64 h.s, .int .i64 pi, .int .u64 pc] 50) D (Nat.lt_of_lt_of_le (Array.getElem?_eq_some_iff.1 HI2.out.2.2).1 hb6.size)).trans ((hb6.block D (Array.getElem?_eq_some_iff.1 HI2.out.2.2).1).trans HI2.out.2.2)); have HS6 := Lib.hid (show wa.heap.size ≤ (w5_.alloc (.cells #[.int .i64 1, .int .i64 h.s, .int .i64 pi, .int .u64 pc] 50)).heap.size from by have h1 := HI2.out.2.1.2.size; have h2 := hb6.size; simp; omega); have p1 := (HI2.out.1.below hb6).cell 0; have p2 := (HI2.out.1.below hb6).lt; have p3 := HL6.out.cell 0; clear hb5 hb6)
                  refine wpAny_ready (rs := [5]) (by kernel_rfl) (by simp) ?_
                  refine AllReady.cons rfl (fun K hK => ?_) ?_
                  · go_simp
                    refine hK _ _ ?_
                    clear hK K
                    refine wpAny_ready (rs := [6]) (by kernel_rfl) (by simp) ?_
                    refine AllReady.cons rfl (fun K hK => ?_) ?_
                    · refine stepP rfl (.tmp 42) (.tmp 47) rfl wa.heap.size _ _ _ X rfl HO6.out _ rfl ⟨1, h.s, pi, pc⟩ HN6.out (by omega) (by exact HS6.out) ?_
                      intro A6 c6 w6 ho6 hg6
                      obtain ⟨l7, hJ7⟩ := ord_app HL6.out (OwP.alloc (HI2.out.2.1.below HB5.out) (.cells #[.int .i64 1, .int .i64 h.s, .int .i64 pi, .int .u64 pc] 50)) HD6.out HGL.out ho6 hg6
                      have HJ7 := Lib.hid hJ7
                      have m2 := l7.cell 0
                      have m3 := l7.frozen 0
                      have m4 := l7.lt
                      clear ho6 hg6 l7 hJ7
                      refine hK _ _ ?_
                      clear hK K
                      refine wpAny_ready (rs := [7]) (by kernel_rfl) (by simp) ?_
                      refine AllReady.cons rfl (fun K hK => ?_) ?_
                      · go_simp
                        refine hK _ _ ?_
                        clear hK K
                        refine wpAny_done (by kernel_rfl) ?_ _
                        go_wp2_with fail
                        go_roundw
                        case rel => exact ⟨k + 1, X ++ [⟨1, h.s, pi, pc⟩], by omega, by go_num, Lib.hid (by rw [HT.out, ← HXX.out]), HJ7⟩
                        case measure => simp [intOf]; omega
                      exact AllReady.nil
                    exact AllReady.nil
                  exact AllReady.nil
                exact AllReady.nil
              exact AllReady.nil
            refine AllReady.cons rfl (fun K hK => ?_) ?_
            · go_simp
              refine hK _ _ ?_
              clear hK K
              refine wpAny_ready (rs := [2]) (by kernel_rfl) (by simp) ?_
              refine AllReady.cons rfl (fun K hK => ?_) ?_
              · go_simp
                refine hK _ _ ?_
                clear hK K
                refine wpAny_ready (rs := [4]) (by kernel_rfl) (by simp) ?_
                refine AllReady.cons rfl (fun K hK => ?_) ?_
                · go_simp
                  go_wp2_with (go_at_call 59; refine (rkcell_any 1 h.s pi pc _).mono ?_; rintro e w5_ ⟨rfl, hb5⟩; have hb6 : Below wv.heap.size wv w5_ := ⟨hb5.os, hb5.tape, hb5.output, hb5.size, hb5.block⟩; have HB5 := Lib.hid hb6; have HO6 := Lib.hid (OwP.alloc (HI2.out.2.1.below hb6) (.cells #[.int .i64 1, .int .i64 h.s, .int .i64 pi, .int .u64 pc] 50)).1; have HN6 := Lib.hid (Rb.new w5_ w5_.heap.size rfl 50 #[.int .i64 1, .int .i64 h.s, .int .i64 pi, .int .u64 pc]); have HL6 := Lib.hid ((HI2.out.1.below hb6).alloc (.cells #[.int .i64 1, .int .i64 h.s, .int .i64 pi, .int .u64 pc] 50)); have HD6 := Lib.hid ((Below.heap_alloc w5_ (.cells #[.int .i64 1, .int .i64 h.s, .int .i64 pi, .int .u64 pc] 50) D (Nat.lt_of_lt_of_le (Array.getElem?_eq_some_iff.1 HI2.out.2.2).1 hb6.size)).trans ((hb6.block D (Array.getElem?_eq_some_iff.1 HI2.out.2.2).1).trans HI2.out.2.2)); have HS6 := Lib.hid (show wa.heap.size ≤ (w5_.alloc (.cells #[.int .i64 1, .int .i64 h.s, .int .i64 pi, .int .u64 pc] 50)).heap.size from by have h1 := HI2.out.2.1.2.size; have h2 := hb6.size; simp; omega); have p1 := (HI2.out.1.below hb6).cell 0; have p2 := (HI2.out.1.below hb6).lt; have p3 := HL6.out.cell 0; clear hb5 hb6)
                  refine wpAny_ready (rs := [5]) (by kernel_rfl) (by simp) ?_
                  refine AllReady.cons rfl (fun K hK => ?_) ?_
                  · go_simp
                    refine hK _ _ ?_
                    clear hK K
                    refine wpAny_ready (rs := [6]) (by kernel_rfl) (by simp) ?_
                    refine AllReady.cons rfl (fun K hK => ?_) ?_
                    · refine stepP rfl (.tmp 42) (.tmp 47) rfl wa.heap.size _ _ _ X rfl HO6.out _ rfl ⟨1, h.s, pi, pc⟩ HN6.out (by omega) (by exact HS6.out) ?_
                      intro A6 c6 w6 ho6 hg6
                      obtain ⟨l7, hJ7⟩ := ord_app HL6.out (OwP.alloc (HI2.out.2.1.below HB5.out) (.cells #[.int .i64 1, .int .i64 h.s, .int .i64 pi, .int .u64 pc] 50)) HD6.out HGL.out ho6 hg6
                      have HJ7 := Lib.hid hJ7
                      have m2 := l7.cell 0
                      have m3 := l7.frozen 0
                      have m4 := l7.lt
                      clear ho6 hg6 l7 hJ7
                      refine hK _ _ ?_
                      clear hK K
                      refine wpAny_ready (rs := [7]) (by kernel_rfl) (by simp) ?_
                      refine AllReady.cons rfl (fun K hK => ?_) ?_
                      · go_simp
                        refine hK _ _ ?_
                        clear hK K
                        refine wpAny_done (by kernel_rfl) ?_ _
                        go_wp2_with fail
                        go_roundw
                        case rel => exact ⟨k + 1, X ++ [⟨1, h.s, pi, pc⟩], by omega, by go_num, Lib.hid (by rw [HT.out, ← HXX.out]), HJ7⟩
                        case measure => simp [intOf]; omega
                      exact AllReady.nil
                    exact AllReady.nil
                  exact AllReady.nil
                exact AllReady.nil
              exact AllReady.nil
            exact AllReady.nil
          refine AllReady.cons rfl (fun K hK => ?_) ?_
          · go_simp
            refine hK _ _ ?_
            clear hK K
            refine wpAny_ready (rs := [0, 3]) (by kernel_rfl) (by simp) ?_
            refine AllReady.cons rfl (fun K hK => ?_) ?_
            · go_simp
              refine hK _ _ ?_
              clear hK K
              refine wpAny_ready (rs := [3]) (by kernel_rfl) (by simp) ?_
              refine AllReady.cons rfl (fun K hK => ?_) ?_
              · go_simp
                refine hK _ _ ?_
                clear hK K
                refine wpAny_ready (rs := [4]) (by kernel_rfl) (by simp) ?_
                refine AllReady.cons rfl (fun K hK => ?_) ?_
                · go_simp
                  go_wp2_with (go_at_call 59; refine (rkcell_any 1 h.s pi pc _).mono ?_; rintro e w5_ ⟨rfl, hb5⟩; have hb6 : Below wv.heap.size wv w5_ := ⟨hb5.os, hb5.tape, hb5.output, hb5.size, hb5.block⟩; have HB5 := Lib.hid hb6; have HO6 := Lib.hid (OwP.alloc (HI2.out.2.1.below hb6) (.cells #[.int .i64 1, .int .i64 h.s, .int .i64 pi, .int .u64 pc] 50)).1; have HN6 := Lib.hid (Rb.new w5_ w5_.heap.size rfl 50 #[.int .i64 1, .int .i64 h.s, .int .i64 pi, .int .u64 pc]); have HL6 := Lib.hid ((HI2.out.1.below hb6).alloc (.cells #[.int .i64 1, .int .i64 h.s, .int .i64 pi, .int .u64 pc] 50)); have HD6 := Lib.hid ((Below.heap_alloc w5_ (.cells #[.int .i64 1, .int .i64 h.s, .int .i64 pi, .int .u64 pc] 50) D (Nat.lt_of_lt_of_le (Array.getElem?_eq_some_iff.1 HI2.out.2.2).1 hb6.size)).trans ((hb6.block D (Array.getElem?_eq_some_iff.1 HI2.out.2.2).1).trans HI2.out.2.2)); have HS6 := Lib.hid (show wa.heap.size ≤ (w5_.alloc (.cells #[.int .i64 1, .int .i64 h.s, .int .i64 pi, .int .u64 pc] 50)).heap.size from by have h1 := HI2.out.2.1.2.size; have h2 := hb6.size; simp; omega); have p1 := (HI2.out.1.below hb6).cell 0; have p2 := (HI2.out.1.below hb6).lt; have p3 := HL6.out.cell 0; clear hb5 hb6)
                  refine wpAny_ready (rs := [5]) (by kernel_rfl) (by simp) ?_
                  refine AllReady.cons rfl (fun K hK => ?_) ?_
                  · go_simp
                    refine hK _ _ ?_
                    clear hK K
                    refine wpAny_ready (rs := [6]) (by kernel_rfl) (by simp) ?_
                    refine AllReady.cons rfl (fun K hK => ?_) ?_
                    · refine stepP rfl (.tmp 42) (.tmp 47) rfl wa.heap.size _ _ _ X rfl HO6.out _ rfl ⟨1, h.s, pi, pc⟩ HN6.out (by omega) (by exact HS6.out) ?_
                      intro A6 c6 w6 ho6 hg6
                      obtain ⟨l7, hJ7⟩ := ord_app HL6.out (OwP.alloc (HI2.out.2.1.below HB5.out) (.cells #[.int .i64 1, .int .i64 h.s, .int .i64 pi, .int .u64 pc] 50)) HD6.out HGL.out ho6 hg6
                      have HJ7 := Lib.hid hJ7
                      have m2 := l7.cell 0
                      have m3 := l7.frozen 0
                      have m4 := l7.lt
                      clear ho6 hg6 l7 hJ7
                      refine hK _ _ ?_
                      clear hK K
                      refine wpAny_ready (rs := [7]) (by kernel_rfl) (by simp) ?_
                      refine AllReady.cons rfl (fun K hK => ?_) ?_
                      · go_simp
                        refine hK _ _ ?_
                        clear hK K
                        refine wpAny_done (by kernel_rfl) ?_ _
                        go_wp2_with fail
                        go_roundw
                        case rel => exact ⟨k + 1, X ++ [⟨1, h.s, pi, pc⟩], by omega, by go_num, Lib.hid (by rw [HT.out, ← HXX.out]), HJ7⟩
                        case measure => simp [intOf]; omega
                      exact AllReady.nil
                    exact AllReady.nil
                  exact AllReady.nil
                exact AllReady.nil
              exact AllReady.nil
            refine AllReady.cons rfl (fun K hK => ?_) ?_
            · go_simp
              refine hK _ _ ?_
              clear hK K
              refine wpAny_ready (rs := [0, 4]) (by kernel_rfl) (by simp) ?_
              refine AllReady.cons rfl (fun K hK => ?_) ?_
              · go_simp
                refine hK _ _ ?_
                clear hK K
                refine wpAny_ready (rs := [4]) (by kernel_rfl) (by simp) ?_
                refine AllReady.cons rfl (fun K hK => ?_) ?_
                · go_simp
                  go_wp2_with (go_at_call 59; refine (rkcell_any 1 h.s pi pc _).mono ?_; rintro e w5_ ⟨rfl, hb5⟩; have hb6 : Below wv.heap.size wv w5_ := ⟨hb5.os, hb5.tape, hb5.output, hb5.size, hb5.block⟩; have HB5 := Lib.hid hb6; have HO6 := Lib.hid (OwP.alloc (HI2.out.2.1.below hb6) (.cells #[.int .i64 1, .int .i64 h.s, .int .i64 pi, .int .u64 pc] 50)).1; have HN6 := Lib.hid (Rb.new w5_ w5_.heap.size rfl 50 #[.int .i64 1, .int .i64 h.s, .int .i64 pi, .int .u64 pc]); have HL6 := Lib.hid ((HI2.out.1.below hb6).alloc (.cells #[.int .i64 1, .int .i64 h.s, .int .i64 pi, .int .u64 pc] 50)); have HD6 := Lib.hid ((Below.heap_alloc w5_ (.cells #[.int .i64 1, .int .i64 h.s, .int .i64 pi, .int .u64 pc] 50) D (Nat.lt_of_lt_of_le (Array.getElem?_eq_some_iff.1 HI2.out.2.2).1 hb6.size)).trans ((hb6.block D (Array.getElem?_eq_some_iff.1 HI2.out.2.2).1).trans HI2.out.2.2)); have HS6 := Lib.hid (show wa.heap.size ≤ (w5_.alloc (.cells #[.int .i64 1, .int .i64 h.s, .int .i64 pi, .int .u64 pc] 50)).heap.size from by have h1 := HI2.out.2.1.2.size; have h2 := hb6.size; simp; omega); have p1 := (HI2.out.1.below hb6).cell 0; have p2 := (HI2.out.1.below hb6).lt; have p3 := HL6.out.cell 0; clear hb5 hb6)
                  refine wpAny_ready (rs := [5]) (by kernel_rfl) (by simp) ?_
                  refine AllReady.cons rfl (fun K hK => ?_) ?_
                  · go_simp
                    refine hK _ _ ?_
                    clear hK K
                    refine wpAny_ready (rs := [6]) (by kernel_rfl) (by simp) ?_
                    refine AllReady.cons rfl (fun K hK => ?_) ?_
                    · refine stepP rfl (.tmp 42) (.tmp 47) rfl wa.heap.size _ _ _ X rfl HO6.out _ rfl ⟨1, h.s, pi, pc⟩ HN6.out (by omega) (by exact HS6.out) ?_
                      intro A6 c6 w6 ho6 hg6
                      obtain ⟨l7, hJ7⟩ := ord_app HL6.out (OwP.alloc (HI2.out.2.1.below HB5.out) (.cells #[.int .i64 1, .int .i64 h.s, .int .i64 pi, .int .u64 pc] 50)) HD6.out HGL.out ho6 hg6
                      have HJ7 := Lib.hid hJ7
                      have m2 := l7.cell 0
                      have m3 := l7.frozen 0
                      have m4 := l7.lt
                      clear ho6 hg6 l7 hJ7
                      refine hK _ _ ?_
                      clear hK K
                      refine wpAny_ready (rs := [7]) (by kernel_rfl) (by simp) ?_
                      refine AllReady.cons rfl (fun K hK => ?_) ?_
                      · go_simp
                        refine hK _ _ ?_
                        clear hK K
                        refine wpAny_done (by kernel_rfl) ?_ _
                        go_wp2_with fail
                        go_roundw
                        case rel => exact ⟨k + 1, X ++ [⟨1, h.s, pi, pc⟩], by omega, by go_num, Lib.hid (by rw [HT.out, ← HXX.out]), HJ7⟩
                        case measure => simp [intOf]; omega
                      exact AllReady.nil
                    exact AllReady.nil
                  exact AllReady.nil
                exact AllReady.nil
              refine AllReady.cons rfl (fun K hK => ?_) ?_
              · go_simp
                go_wp2_with (go_at_call 59; refine (rkcell_any 1 h.s pi pc _).mono ?_; rintro e w5_ ⟨rfl, hb5⟩; have hb6 : Below wv.heap.size wv w5_ := ⟨hb5.os, hb5.tape, hb5.output, hb5.size, hb5.block⟩; have HB5 := Lib.hid hb6; have HO6 := Lib.hid (OwP.alloc (HI2.out.2.1.below hb6) (.cells #[.int .i64 1, .int .i64 h.s, .int .i64 pi, .int .u64 pc] 50)).1; have HN6 := Lib.hid (Rb.new w5_ w5_.heap.size rfl 50 #[.int .i64 1, .int .i64 h.s, .int .i64 pi, .int .u64 pc]); have HL6 := Lib.hid ((HI2.out.1.below hb6).alloc (.cells #[.int .i64 1, .int .i64 h.s, .int .i64 pi, .int .u64 pc] 50)); have HD6 := Lib.hid ((Below.heap_alloc w5_ (.cells #[.int .i64 1, .int .i64 h.s, .int .i64 pi, .int .u64 pc] 50) D (Nat.lt_of_lt_of_le (Array.getElem?_eq_some_iff.1 HI2.out.2.2).1 hb6.size)).trans ((hb6.block D (Array.getElem?_eq_some_iff.1 HI2.out.2.2).1).trans HI2.out.2.2)); have HS6 := Lib.hid (show wa.heap.size ≤ (w5_.alloc (.cells #[.int .i64 1, .int .i64 h.s, .int .i64 pi, .int .u64 pc] 50)).heap.size from by have h1 := HI2.out.2.1.2.size; have h2 := hb6.size; simp; omega); have p1 := (HI2.out.1.below hb6).cell 0; have p2 := (HI2.out.1.below hb6).lt; have p3 := HL6.out.cell 0; clear hb5 hb6)
                refine wpAny_ready (rs := [0, 5]) (by kernel_rfl) (by simp) ?_
                refine AllReady.cons rfl (fun K hK => ?_) ?_
                · go_simp
                  refine hK _ _ ?_
                  clear hK K
                  refine wpAny_ready (rs := [5]) (by kernel_rfl) (by simp) ?_
                  refine AllReady.cons rfl (fun K hK => ?_) ?_
                  · go_simp
                    refine hK _ _ ?_
                    clear hK K
                    refine wpAny_ready (rs := [6]) (by kernel_rfl) (by simp) ?_
                    refine AllReady.cons rfl (fun K hK => ?_) ?_
                    · refine stepP rfl (.tmp 42) (.tmp 47) rfl wa.heap.size _ _ _ X rfl HO6.out _ rfl ⟨1, h.s, pi, pc⟩ HN6.out (by omega) (by exact HS6.out) ?_
                      intro A6 c6 w6 ho6 hg6
                      obtain ⟨l7, hJ7⟩ := ord_app HL6.out (OwP.alloc (HI2.out.2.1.below HB5.out) (.cells #[.int .i64 1, .int .i64 h.s, .int .i64 pi, .int .u64 pc] 50)) HD6.out HGL.out ho6 hg6
                      have HJ7 := Lib.hid hJ7
                      have m2 := l7.cell 0
                      have m3 := l7.frozen 0
                      have m4 := l7.lt
                      clear ho6 hg6 l7 hJ7
                      refine hK _ _ ?_
                      clear hK K
                      refine wpAny_ready (rs := [7]) (by kernel_rfl) (by simp) ?_
                      refine AllReady.cons rfl (fun K hK => ?_) ?_
                      · go_simp
                        refine hK _ _ ?_
                        clear hK K
                        refine wpAny_done (by kernel_rfl) ?_ _
                        go_wp2_with fail
                        go_roundw
                        case rel => exact ⟨k + 1, X ++ [⟨1, h.s, pi, pc⟩], by omega, by go_num, Lib.hid (by rw [HT.out, ← HXX.out]), HJ7⟩
                        case measure => simp [intOf]; omega
                      exact AllReady.nil
                    exact AllReady.nil
                  exact AllReady.nil
                refine AllReady.cons rfl (fun K hK => ?_) ?_
                · go_simp
                  refine hK _ _ ?_
                  clear hK K
                  refine wpAny_ready (rs := [0]) (by kernel_rfl) (by simp) ?_
                  refine AllReady.cons rfl (fun K hK => ?_) ?_
                  · go_simp
                    refine hK _ _ ?_
                    clear hK K
                    refine wpAny_ready (rs := [6]) (by kernel_rfl) (by simp) ?_
                    refine AllReady.cons rfl (fun K hK => ?_) ?_
                    · refine stepP rfl (.tmp 42) (.tmp 47) rfl wa.heap.size _ _ _ X rfl HO6.out _ rfl ⟨1, h.s, pi, pc⟩ HN6.out (by omega) (by exact HS6.out) ?_
                      intro A6 c6 w6 ho6 hg6
                      obtain ⟨l7, hJ7⟩ := ord_app HL6.out (OwP.alloc (HI2.out.2.1.below HB5.out) (.cells #[.int .i64 1, .int .i64 h.s, .int .i64 pi, .int .u64 pc] 50)) HD6.out HGL.out ho6 hg6
                      have HJ7 := Lib.hid hJ7
                      have m2 := l7.cell 0
                      have m3 := l7.frozen 0
                      have m4 := l7.lt
                      clear ho6 hg6 l7 hJ7
                      refine hK _ _ ?_
                      clear hK K
                      refine wpAny_ready (rs := [7]) (by kernel_rfl) (by simp) ?_
                      refine AllReady.cons rfl (fun K hK => ?_) ?_
                      · go_simp
                        refine hK _ _ ?_
                        clear hK K
                        refine wpAny_done (by kernel_rfl) ?_ _
                        go_wp2_with fail
                        go_roundw
                        case rel => exact ⟨k + 1, X ++ [⟨1, h.s, pi, pc⟩], by omega, by go_num, Lib.hid (by rw [HT.out, ← HXX.out]), HJ7⟩
                        case measure => simp [intOf]; omega
                      exact AllReady.nil
                    exact AllReady.nil
                  exact AllReady.nil
                exact AllReady.nil
              exact AllReady.nil
            exact AllReady.nil
          refine AllReady.cons rfl (fun K hK => ?_) ?_
          · go_simp
            refine hK _ _ ?_
            clear hK K
            refine wpAny_ready (rs := [0, 2]) (by kernel_rfl) (by simp) ?_
            refine AllReady.cons rfl (fun K hK => ?_) ?_
            · go_simp
              refine hK _ _ ?_
              clear hK K
              refine wpAny_ready (rs := [2]) (by kernel_rfl) (by simp) ?_
              refine AllReady.cons rfl (fun K hK => ?_) ?_
              · go_simp
                refine hK _ _ ?_
                clear hK K
                refine wpAny_ready (rs := [4]) (by kernel_rfl) (by simp) ?_
                refine AllReady.cons rfl (fun K hK => ?_) ?_
                · go_simp
                  go_wp2_with (go_at_call 59; refine (rkcell_any 1 h.s pi pc _).mono ?_; rintro e w5_ ⟨rfl, hb5⟩; have hb6 : Below wv.heap.size wv w5_ := ⟨hb5.os, hb5.tape, hb5.output, hb5.size, hb5.block⟩; have HB5 := Lib.hid hb6; have HO6 := Lib.hid (OwP.alloc (HI2.out.2.1.below hb6) (.cells #[.int .i64 1, .int .i64 h.s, .int .i64 pi, .int .u64 pc] 50)).1; have HN6 := Lib.hid (Rb.new w5_ w5_.heap.size rfl 50 #[.int .i64 1, .int .i64 h.s, .int .i64 pi, .int .u64 pc]); have HL6 := Lib.hid ((HI2.out.1.below hb6).alloc (.cells #[.int .i64 1, .int .i64 h.s, .int .i64 pi, .int .u64 pc] 50)); have HD6 := Lib.hid ((Below.heap_alloc w5_ (.cells #[.int .i64 1, .int .i64 h.s, .int .i64 pi, .int .u64 pc] 50) D (Nat.lt_of_lt_of_le (Array.getElem?_eq_some_iff.1 HI2.out.2.2).1 hb6.size)).trans ((hb6.block D (Array.getElem?_eq_some_iff.1 HI2.out.2.2).1).trans HI2.out.2.2)); have HS6 := Lib.hid (show wa.heap.size ≤ (w5_.alloc (.cells #[.int .i64 1, .int .i64 h.s, .int .i64 pi, .int .u64 pc] 50)).heap.size from by have h1 := HI2.out.2.1.2.size; have h2 := hb6.size; simp; omega); have p1 := (HI2.out.1.below hb6).cell 0; have p2 := (HI2.out.1.below hb6).lt; have p3 := HL6.out.cell 0; clear hb5 hb6)
                  refine wpAny_ready (rs := [5]) (by kernel_rfl) (by simp) ?_
                  refine AllReady.cons rfl (fun K hK => ?_) ?_
                  · go_simp
                    refine hK _ _ ?_
                    clear hK K
                    refine wpAny_ready (rs := [6]) (by kernel_rfl) (by simp) ?_
                    refine AllReady.cons rfl (fun K hK => ?_) ?_
                    · refine stepP rfl (.tmp 42) (.tmp 47) rfl wa.heap.size _ _ _ X rfl HO6.out _ rfl ⟨1, h.s, pi, pc⟩ HN6.out (by omega) (by exact HS6.out) ?_
                      intro A6 c6 w6 ho6 hg6
                      obtain ⟨l7, hJ7⟩ := ord_app HL6.out (OwP.alloc (HI2.out.2.1.below HB5.out) (.cells #[.int .i64 1, .int .i64 h.s, .int .i64 pi, .int .u64 pc] 50)) HD6.out HGL.out ho6 hg6
                      have HJ7 := Lib.hid hJ7
                      have m2 := l7.cell 0
                      have m3 := l7.frozen 0
                      have m4 := l7.lt
                      clear ho6 hg6 l7 hJ7
                      refine hK _ _ ?_
                      clear hK K
                      refine wpAny_ready (rs := [7]) (by kernel_rfl) (by simp) ?_
                      refine AllReady.cons rfl (fun K hK => ?_) ?_
                      · go_simp
                        refine hK _ _ ?_
                        clear hK K
                        refine wpAny_done (by kernel_rfl) ?_ _
                        go_wp2_with fail
                        go_roundw
                        case rel => exact ⟨k + 1, X ++ [⟨1, h.s, pi, pc⟩], by omega, by go_num, Lib.hid (by rw [HT.out, ← HXX.out]), HJ7⟩
                        case measure => simp [intOf]; omega
                      exact AllReady.nil
                    exact AllReady.nil
                  exact AllReady.nil
                exact AllReady.nil
              exact AllReady.nil
            refine AllReady.cons rfl (fun K hK => ?_) ?_
            · go_simp
              refine hK _ _ ?_
              clear hK K
              refine wpAny_ready (rs := [0, 4]) (by kernel_rfl) (by simp) ?_
              refine AllReady.cons rfl (fun K hK => ?_) ?_
              · go_simp
                refine hK _ _ ?_
                clear hK K
                refine wpAny_ready (rs := [4]) (by kernel_rfl) (by simp) ?_
                refine AllReady.cons rfl (fun K hK => ?_) ?_
                · go_simp
                  go_wp2_with (go_at_call 59; refine (rkcell_any 1 h.s pi pc _).mono ?_; rintro e w5_ ⟨rfl, hb5⟩; have hb6 : Below wv.heap.size wv w5_ := ⟨hb5.os, hb5.tape, hb5.output, hb5.size, hb5.block⟩; have HB5 := Lib.hid hb6; have HO6 := Lib.hid (OwP.alloc (HI2.out.2.1.below hb6) (.cells #[.int .i64 1, .int .i64 h.s, .int .i64 pi, .int .u64 pc] 50)).1; have HN6 := Lib.hid (Rb.new w5_ w5_.heap.size rfl 50 #[.int .i64 1, .int .i64 h.s, .int .i64 pi, .int .u64 pc]); have HL6 := Lib.hid ((HI2.out.1.below hb6).alloc (.cells #[.int .i64 1, .int .i64 h.s, .int .i64 pi, .int .u64 pc] 50)); have HD6 := Lib.hid ((Below.heap_alloc w5_ (.cells #[.int .i64 1, .int .i64 h.s, .int .i64 pi, .int .u64 pc] 50) D (Nat.lt_of_lt_of_le (Array.getElem?_eq_some_iff.1 HI2.out.2.2).1 hb6.size)).trans ((hb6.block D (Array.getElem?_eq_some_iff.1 HI2.out.2.2).1).trans HI2.out.2.2)); have HS6 := Lib.hid (show wa.heap.size ≤ (w5_.alloc (.cells #[.int .i64 1, .int .i64 h.s, .int .i64 pi, .int .u64 pc] 50)).heap.size from by have h1 := HI2.out.2.1.2.size; have h2 := hb6.size; simp; omega); have p1 := (HI2.out.1.below hb6).cell 0; have p2 := (HI2.out.1.below hb6).lt; have p3 := HL6.out.cell 0; clear hb5 hb6)
                  refine wpAny_ready (rs := [5]) (by kernel_rfl) (by simp) ?_
                  refine AllReady.cons rfl (fun K hK => ?_) ?_
                  · go_simp
                    refine hK _ _ ?_
                    clear hK K
                    refine wpAny_ready (rs := [6]) (by kernel_rfl) (by simp) ?_
                    refine AllReady.cons rfl (fun K hK => ?_) ?_
                    · refine stepP rfl (.tmp 42) (.tmp 47) rfl wa.heap.size _ _ _ X rfl HO6.out _ rfl ⟨1, h.s, pi, pc⟩ HN6.out (by omega) (by exact HS6.out) ?_
                      intro A6 c6 w6 ho6 hg6
                      obtain ⟨l7, hJ7⟩ := ord_app HL6.out (OwP.alloc (HI2.out.2.1.below HB5.out) (.cells #[.int .i64 1, .int .i64 h.s, .int .i64 pi, .int .u64 pc] 50)) HD6.out HGL.out ho6 hg6
                      have HJ7 := Lib.hid hJ7
                      have m2 := l7.cell 0
                      have m3 := l7.frozen 0
                      have m4 := l7.lt
                      clear ho6 hg6 l7 hJ7
                      refine hK _ _ ?_
                      clear hK K
                      refine wpAny_ready (rs := [7]) (by kernel_rfl) (by simp) ?_
                      refine AllReady.cons rfl (fun K hK => ?_) ?_
                      · go_simp
                        refine hK _ _ ?_
                        clear hK K
                        refine wpAny_done (by kernel_rfl) ?_ _
                        go_wp2_with fail
                        go_roundw
                        case rel => exact ⟨k + 1, X ++ [⟨1, h.s, pi, pc⟩], by omega, by go_num, Lib.hid (by rw [HT.out, ← HXX.out]), HJ7⟩
                        case measure => simp [intOf]; omega
                      exact AllReady.nil
                    exact AllReady.nil
                  exact AllReady.nil
                exact AllReady.nil
              refine AllReady.cons rfl (fun K hK => ?_) ?_
              · go_simp
                go_wp2_with (go_at_call 59; refine (rkcell_any 1 h.s pi pc _).mono ?_; rintro e w5_ ⟨rfl, hb5⟩; have hb6 : Below wv.heap.size wv w5_ := ⟨hb5.os, hb5.tape, hb5.output, hb5.size, hb5.block⟩; have HB5 := Lib.hid hb6; have HO6 := Lib.hid (OwP.alloc (HI2.out.2.1.below hb6) (.cells #[.int .i64 1, .int .i64 h.s, .int .i64 pi, .int .u64 pc] 50)).1; have HN6 := Lib.hid (Rb.new w5_ w5_.heap.size rfl 50 #[.int .i64 1, .int .i64 h.s, .int .i64 pi, .int .u64 pc]); have HL6 := Lib.hid ((HI2.out.1.below hb6).alloc (.cells #[.int .i64 1, .int .i64 h.s, .int .i64 pi, .int .u64 pc] 50)); have HD6 := Lib.hid ((Below.heap_alloc w5_ (.cells #[.int .i64 1, .int .i64 h.s, .int .i64 pi, .int .u64 pc] 50) D (Nat.lt_of_lt_of_le (Array.getElem?_eq_some_iff.1 HI2.out.2.2).1 hb6.size)).trans ((hb6.block D (Array.getElem?_eq_some_iff.1 HI2.out.2.2).1).trans HI2.out.2.2)); have HS6 := Lib.hid (show wa.heap.size ≤ (w5_.alloc (.cells #[.int .i64 1, .int .i64 h.s, .int .i64 pi, .int .u64 pc] 50)).heap.size from by have h1 := HI2.out.2.1.2.size; have h2 := hb6.size; simp; omega); have p1 := (HI2.out.1.below hb6).cell 0; have p2 := (HI2.out.1.below hb6).lt; have p3 := HL6.out.cell 0; clear hb5 hb6)
                refine wpAny_ready (rs := [0, 5]) (by kernel_rfl) (by simp) ?_
                refine AllReady.cons rfl (fun K hK => ?_) ?_
                · go_simp
                  refine hK _ _ ?_
                  clear hK K
                  refine wpAny_ready (rs := [5]) (by kernel_rfl) (by simp) ?_
                  refine AllReady.cons rfl (fun K hK => ?_) ?_
                  · go_simp
                    refine hK _ _ ?_
                    clear hK K
                    refine wpAny_ready (rs := [6]) (by kernel_rfl) (by simp) ?_
                    refine AllReady.cons rfl (fun K hK => ?_) ?_
                    · refine stepP rfl (.tmp 42) (.tmp 47) rfl wa.heap.size _ _ _ X rfl HO6.out _ rfl ⟨1, h.s, pi, pc⟩ HN6.out (by omega) (by exact HS6.out) ?_
                      intro A6 c6 w6 ho6 hg6
                      obtain ⟨l7, hJ7⟩ := ord_app HL6.out (OwP.alloc (HI2.out.2.1.below HB5.out) (.cells #[.int .i64 1, .int .i64 h.s, .int .i64 pi, .int .u64 pc] 50)) HD6.out HGL.out ho6 hg6
                      have HJ7 := Lib.hid hJ7
                      have m2 := l7.cell 0
                      have m3 := l7.frozen 0
                      have m4 := l7.lt
                      clear ho6 hg6 l7 hJ7
                      refine hK _ _ ?_
                      clear hK K
                      refine wpAny_ready (rs := [7]) (by kernel_rfl) (by simp) ?_
                      refine AllReady.cons rfl (fun K hK => ?_) ?_
                      · go_simp
                        refine hK _ _ ?_
                        clear hK K
                        refine wpAny_done (by kernel_rfl) ?_ _
                        go_wp2_with fail
                        go_roundw
                        case rel => exact ⟨k + 1, X ++ [⟨1, h.s, pi, pc⟩], by omega, by go_num, Lib.hid (by rw [HT.out, ← HXX.out]), HJ7⟩
                        case measure => simp [intOf]; omega
                      exact AllReady.nil
                    exact AllReady.nil
                  exact AllReady.nil
                refine AllReady.cons rfl (fun K hK => ?_) ?_
                · go_simp
                  refine hK _ _ ?_
                  clear hK K
                  refine wpAny_ready (rs := [0]) (by kernel_rfl) (by simp) ?_
                  refine AllReady.cons rfl (fun K hK => ?_) ?_
                  · go_simp
                    refine hK _ _ ?_
                    clear hK K
                    refine wpAny_ready (rs := [6]) (by kernel_rfl) (by simp) ?_
                    refine AllReady.cons rfl (fun K hK => ?_) ?_
                    · refine stepP rfl (.tmp 42) (.tmp 47) rfl wa.heap.size _ _ _ X rfl HO6.out _ rfl ⟨1, h.s, pi, pc⟩ HN6.out (by omega) (by exact HS6.out) ?_
                      intro A6 c6 w6 ho6 hg6
                      obtain ⟨l7, hJ7⟩ := ord_app HL6.out (OwP.alloc (HI2.out.2.1.below HB5.out) (.cells #[.int .i64 1, .int .i64 h.s, .int .i64 pi, .int .u64 pc] 50)) HD6.out HGL.out ho6 hg6
                      have HJ7 := Lib.hid hJ7
                      have m2 := l7.cell 0
                      have m3 := l7.frozen 0
                      have m4 := l7.lt
                      clear ho6 hg6 l7 hJ7
                      refine hK _ _ ?_
                      clear hK K
                      refine wpAny_ready (rs := [7]) (by kernel_rfl) (by simp) ?_
                      refine AllReady.cons rfl (fun K hK => ?_) ?_
                      · go_simp
                        refine hK _ _ ?_
                        clear hK K
                        refine wpAny_done (by kernel_rfl) ?_ _
                        go_wp2_with fail
                        go_roundw
                        case rel => exact ⟨k + 1, X ++ [⟨1, h.s, pi, pc⟩], by omega, by go_num, Lib.hid (by rw [HT.out, ← HXX.out]), HJ7⟩
                        case measure => simp [intOf]; omega
                      exact AllReady.nil
                    exact AllReady.nil
                  exact AllReady.nil
                exact AllReady.nil
              exact AllReady.nil
            exact AllReady.nil
          exact AllReady.nil
        refine AllReady.cons rfl (fun K hK => ?_) ?_
        · go_simp
          refine hK _ _ ?_
          clear hK K
          refine wpAny_ready (rs := [0, 1]) (by kernel_rfl) (by simp) ?_
          refine AllReady.cons rfl (fun K hK => ?_) ?_
          · go_simp
            refine hK _ _ ?_
            clear hK K
            refine wpAny_ready (rs := [1]) (by kernel_rfl) (by simp) ?_
            refine AllReady.cons rfl (fun K hK => ?_) ?_
            · go_simp
              refine hK _ _ ?_
              clear hK K
              refine wpAny_ready (rs := [2]) (by kernel_rfl) (by simp) ?_
              refine AllReady.cons rfl (fun K hK => ?_) ?_
              · go_simp
                refine hK _ _ ?_
                clear hK K
                refine wpAny_ready (rs := [4]) (by kernel_rfl) (by simp) ?_
                refine AllReady.cons rfl (fun K hK => ?_) ?_
                · go_simp
                  go_wp2_with (go_at_call 59; refine (rkcell_any 1 h.s pi pc _).mono ?_; rintro e w5_ ⟨rfl, hb5⟩; have hb6 : Below wv.heap.size wv w5_ := ⟨hb5.os, hb5.tape, hb5.output, hb5.size, hb5.block⟩; have HB5 := Lib.hid hb6; have HO6 := Lib.hid (OwP.alloc (HI2.out.2.1.below hb6) (.cells #[.int .i64 1, .int .i64 h.s, .int .i64 pi, .int .u64 pc] 50)).1; have HN6 := Lib.hid (Rb.new w5_ w5_.heap.size rfl 50 #[.int .i64 1, .int .i64 h.s, .int .i64 pi, .int .u64 pc]); have HL6 := Lib.hid ((HI2.out.1.below hb6).alloc (.cells #[.int .i64 1, .int .i64 h.s, .int .i64 pi, .int .u64 pc] 50)); have HD6 := Lib.hid ((Below.heap_alloc w5_ (.cells #[.int .i64 1, .int .i64 h.s, .int .i64 pi, .int .u64 pc] 50) D (Nat.lt_of_lt_of_le (Array.getElem?_eq_some_iff.1 HI2.out.2.2).1 hb6.size)).trans ((hb6.block D (Array.getElem?_eq_some_iff.1 HI2.out.2.2).1).trans HI2.out.2.2)); have HS6 := Lib.hid (show wa.heap.size ≤ (w5_.alloc (.cells #[.int .i64 1, .int .i64 h.s, .int .i64 pi, .int .u64 pc] 50)).heap.size from by have h1 := HI2.out.2.1.2.size; have h2 := hb6.size; simp; omega); have p1 := (HI2.out.1.below hb6).cell 0; have p2 := (HI2.out.1.below hb6).lt; have p3 := HL6.out.cell 0; clear hb5 hb6)
                  refine wpAny_ready (rs := [5]) (by kernel_rfl) (by simp) ?_
                  refine AllReady.cons rfl (fun K hK => ?_) ?_
                  · go_simp
                    refine hK _ _ ?_
                    clear hK K
                    refine wpAny_ready (rs := [6]) (by kernel_rfl) (by simp) ?_
                    refine AllReady.cons rfl (fun K hK => ?_) ?_
                    · refine stepP rfl (.tmp 42) (.tmp 47) rfl wa.heap.size _ _ _ X rfl HO6.out _ rfl ⟨1, h.s, pi, pc⟩ HN6.out (by omega) (by exact HS6.out) ?_
                      intro A6 c6 w6 ho6 hg6
                      obtain ⟨l7, hJ7⟩ := ord_app HL6.out (OwP.alloc (HI2.out.2.1.below HB5.out) (.cells #[.int .i64 1, .int .i64 h.s, .int .i64 pi, .int .u64 pc] 50)) HD6.out HGL.out ho6 hg6
                      have HJ7 := Lib.hid hJ7
                      have m2 := l7.cell 0
                      have m3 := l7.frozen 0
                      have m4 := l7.lt
                      clear ho6 hg6 l7 hJ7
                      refine hK _ _ ?_
                      clear hK K
                      refine wpAny_ready (rs := [7]) (by kernel_rfl) (by simp) ?_
                      refine AllReady.cons rfl (fun K hK => ?_) ?_
                      · go_simp
                        refine hK _ _ ?_
                        clear hK K
                        refine wpAny_done (by kernel_rfl) ?_ _
                        go_wp2_with fail
                        go_roundw
                        case rel => exact ⟨k + 1, X ++ [⟨1, h.s, pi, pc⟩], by omega, by go_num, Lib.hid (by rw [HT.out, ← HXX.out]), HJ7⟩
                        case measure => simp [intOf]; omega
                      exact AllReady.nil
                    exact AllReady.nil
                  exact AllReady.nil
                exact AllReady.nil
              exact AllReady.nil
            exact AllReady.nil
          refine AllReady.cons rfl (fun K hK => ?_) ?_
          · go_simp
            refine hK _ _ ?_
            clear hK K
            refine wpAny_ready (rs := [0, 2]) (by kernel_rfl) (by simp) ?_
            refine AllReady.cons rfl (fun K hK => ?_) ?_
            · go_simp
              refine hK _ _ ?_
              clear hK K
              refine wpAny_ready (rs := [2]) (by kernel_rfl) (by simp) ?_
              refine AllReady.cons rfl (fun K hK => ?_) ?_
              · go_simp
                refine hK _ _ ?_
                clear hK K
                refine wpAny_ready (rs := [4]) (by kernel_rfl) (by simp) ?_
                refine AllReady.cons rfl (fun K hK => ?_) ?_
                · go_simp
                  go_wp2_with (go_at_call 59; refine (rkcell_any 1 h.s pi pc _).mono ?_; rintro e w5_ ⟨rfl, hb5⟩; have hb6 : Below wv.heap.size wv w5_ := ⟨hb5.os, hb5.tape, hb5.output, hb5.size, hb5.block⟩; have HB5 := Lib.hid hb6; have HO6 := Lib.hid (OwP.alloc (HI2.out.2.1.below hb6) (.cells #[.int .i64 1, .int .i64 h.s, .int .i64 pi, .int .u64 pc] 50)).1; have HN6 := Lib.hid (Rb.new w5_ w5_.heap.size rfl 50 #[.int .i64 1, .int .i64 h.s, .int .i64 pi, .int .u64 pc]); have HL6 := Lib.hid ((HI2.out.1.below hb6).alloc (.cells #[.int .i64 1, .int .i64 h.s, .int .i64 pi, .int .u64 pc] 50)); have HD6 := Lib.hid ((Below.heap_alloc w5_ (.cells #[.int .i64 1, .int .i64 h.s, .int .i64 pi, .int .u64 pc] 50) D (Nat.lt_of_lt_of_le (Array.getElem?_eq_some_iff.1 HI2.out.2.2).1 hb6.size)).trans ((hb6.block D (Array.getElem?_eq_some_iff.1 HI2.out.2.2).1).trans HI2.out.2.2)); have HS6 := Lib.hid (show wa.heap.size ≤ (w5_.alloc (.cells #[.int .i64 1, .int .i64 h.s, .int .i64 pi, .int .u64 pc] 50)).heap.size from by have h1 := HI2.out.2.1.2.size; have h2 := hb6.size; simp; omega); have p1 := (HI2.out.1.below hb6).cell 0; have p2 := (HI2.out.1.below hb6).lt; have p3 := HL6.out.cell 0; clear hb5 hb6)
                  refine wpAny_ready (rs := [5]) (by kernel_rfl) (by simp) ?_
                  refine AllReady.cons rfl (fun K hK => ?_) ?_
                  · go_simp
                    refine hK _ _ ?_
                    clear hK K
                    refine wpAny_ready (rs := [6]) (by kernel_rfl) (by simp) ?_
                    refine AllReady.cons rfl (fun K hK => ?_) ?_
                    · refine stepP rfl (.tmp 42) (.tmp 47) rfl wa.heap.size _ _ _ X rfl HO6.out _ rfl ⟨1, h.s, pi, pc⟩ HN6.out (by omega) (by exact HS6.out) ?_
                      intro A6 c6 w6 ho6 hg6
                      obtain ⟨l7, hJ7⟩ := ord_app HL6.out (OwP.alloc (HI2.out.2.1.below HB5.out) (.cells #[.int .i64 1, .int .i64 h.s, .int .i64 pi, .int .u64 pc] 50)) HD6.out HGL.out ho6 hg6
                      have HJ7 := Lib.hid hJ7
                      have m2 := l7.cell 0
                      have m3 := l7.frozen 0
                      have m4 := l7.lt
                      clear ho6 hg6 l7 hJ7
                      refine hK _ _ ?_
                      clear hK K
                      refine wpAny_ready (rs := [7]) (by kernel_rfl) (by simp) ?_
                      refine AllReady.cons rfl (fun K hK => ?_) ?_
                      · go_simp
                        refine hK _ _ ?_
                        clear hK K
                        refine wpAny_done (by kernel_rfl) ?_ _
                        go_wp2_with fail
                        go_roundw
                        case rel => exact ⟨k + 1, X ++ [⟨1, h.s, pi, pc⟩], by omega, by go_num, Lib.hid (by rw [HT.out, ← HXX.out]), HJ7⟩
                        case measure => simp [intOf]; omega
                      exact AllReady.nil
                    exact AllReady.nil
                  exact AllReady.nil
                exact AllReady.nil
              exact AllReady.nil
            refine AllReady.cons rfl (fun K hK => ?_) ?_
            · go_simp
              refine hK _ _ ?_
              clear hK K
              refine wpAny_ready (rs := [0, 4]) (by kernel_rfl) (by simp) ?_
              refine AllReady.cons rfl (fun K hK => ?_) ?_
              · go_simp
                refine hK _ _ ?_
                clear hK K
                refine wpAny_ready (rs := [4]) (by kernel_rfl) (by simp) ?_
                refine AllReady.cons rfl (fun K hK => ?_) ?_
                · go_simp
                  go_wp2_with (go_at_call 59; refine (rkcell_any 1 h.s pi pc _).mono ?_; rintro e w5_ ⟨rfl, hb5⟩; have hb6 : Below wv.heap.size wv w5_ := ⟨hb5.os, hb5.tape, hb5.output, hb5.size, hb5.block⟩; have HB5 := Lib.hid hb6; have HO6 := Lib.hid (OwP.alloc (HI2.out.2.1.below hb6) (.cells #[.int .i64 1, .int .i64 h.s, .int .i64 pi, .int .u64 pc] 50)).1; have HN6 := Lib.hid (Rb.new w5_ w5_.heap.size rfl 50 #[.int .i64 1, .int .i64 h.s, .int .i64 pi, .int .u64 pc]); have HL6 := Lib.hid ((HI2.out.1.below hb6).alloc (.cells #[.int .i64 1, .int .i64 h.s, .int .i64 pi, .int .u64 pc] 50)); have HD6 := Lib.hid ((Below.heap_alloc w5_ (.cells #[.int .i64 1, .int .i64 h.s, .int .i64 pi, .int .u64 pc] 50) D (Nat.lt_of_lt_of_le (Array.getElem?_eq_some_iff.1 HI2.out.2.2).1 hb6.size)).trans ((hb6.block D (Array.getElem?_eq_some_iff.1 HI2.out.2.2).1).trans HI2.out.2.2)); have HS6 := Lib.hid (show wa.heap.size ≤ (w5_.alloc (.cells #[.int .i64 1, .int .i64 h.s, .int .i64 pi, .int .u64 pc] 50)).heap.size from by have h1 := HI2.out.2.1.2.size; have h2 := hb6.size; simp; omega); have p1 := (HI2.out.1.below hb6).cell 0; have p2 := (HI2.out.1.below hb6).lt; have p3 := HL6.out.cell 0; clear hb5 hb6)
                  refine wpAny_ready (rs := [5]) (by kernel_rfl) (by simp) ?_
                  refine AllReady.cons rfl (fun K hK => ?_) ?_
                  · go_simp
                    refine hK _ _ ?_
                    clear hK K
                    refine wpAny_ready (rs := [6]) (by kernel_rfl) (by simp) ?_
                    refine AllReady.cons rfl (fun K hK => ?_) ?_
                    · refine stepP rfl (.tmp 42) (.tmp 47) rfl wa.heap.size _ _ _ X rfl HO6.out _ rfl ⟨1, h.s, pi, pc⟩ HN6.out (by omega) (by exact HS6.out) ?_
                      intro A6 c6 w6 ho6 hg6
                      obtain ⟨l7, hJ7⟩ := ord_app HL6.out (OwP.alloc (HI2.out.2.1.below HB5.out) (.cells #[.int .i64 1, .int .i64 h.s, .int .i64 pi, .int .u64 pc] 50)) HD6.out HGL.out ho6 hg6
                      have HJ7 := Lib.hid hJ7
                      have m2 := l7.cell 0
                      have m3 := l7.frozen 0
                      have m4 := l7.lt
                      clear ho6 hg6 l7 hJ7
                      refine hK _ _ ?_
                      clear hK K
                      refine wpAny_ready (rs := [7]) (by kernel_rfl) (by simp) ?_
                      refine AllReady.cons rfl (fun K hK => ?_) ?_
                      · go_simp
                        refine hK _ _ ?_
                        clear hK K
                        refine wpAny_done (by kernel_rfl) ?_ _
                        go_wp2_with fail
                        go_roundw
                        case rel => exact ⟨k + 1, X ++ [⟨1, h.s, pi, pc⟩], by omega, by go_num, Lib.hid (by rw [HT.out, ← HXX.out]), HJ7⟩
                        case measure => simp [intOf]; omega
                      exact AllReady.nil
                    exact AllReady.nil
                  exact AllReady.nil
                exact AllReady.nil
              refine AllReady.cons rfl (fun K hK => ?_) ?_
              · go_simp
                go_wp2_with (go_at_call 59; refine (rkcell_any 1 h.s pi pc _).mono ?_; rintro e w5_ ⟨rfl, hb5⟩; have hb6 : Below wv.heap.size wv w5_ := ⟨hb5.os, hb5.tape, hb5.output, hb5.size, hb5.block⟩; have HB5 := Lib.hid hb6; have HO6 := Lib.hid (OwP.alloc (HI2.out.2.1.below hb6) (.cells #[.int .i64 1, .int .i64 h.s, .int .i64 pi, .int .u64 pc] 50)).1; have HN6 := Lib.hid (Rb.new w5_ w5_.heap.size rfl 50 #[.int .i64 1, .int .i64 h.s, .int .i64 pi, .int .u64 pc]); have HL6 := Lib.hid ((HI2.out.1.below hb6).alloc (.cells #[.int .i64 1, .int .i64 h.s, .int .i64 pi, .int .u64 pc] 50)); have HD6 := Lib.hid ((Below.heap_alloc w5_ (.cells #[.int .i64 1, .int .i64 h.s, .int .i64 pi, .int .u64 pc] 50) D (Nat.lt_of_lt_of_le (Array.getElem?_eq_some_iff.1 HI2.out.2.2).1 hb6.size)).trans ((hb6.block D (Array.getElem?_eq_some_iff.1 HI2.out.2.2).1).trans HI2.out.2.2)); have HS6 := Lib.hid (show wa.heap.size ≤ (w5_.alloc (.cells #[.int .i64 1, .int .i64 h.s, .int .i64 pi, .int .u64 pc] 50)).heap.size from by have h1 := HI2.out.2.1.2.size; have h2 := hb6.size; simp; omega); have p1 := (HI2.out.1.below hb6).cell 0; have p2 := (HI2.out.1.below hb6).lt; have p3 := HL6.out.cell 0; clear hb5 hb6)
                refine wpAny_ready (rs := [0, 5]) (by kernel_rfl) (by simp) ?_
                refine AllReady.cons rfl (fun K hK => ?_) ?_
                · go_simp
                  refine hK _ _ ?_
                  clear hK K
                  refine wpAny_ready (rs := [5]) (by kernel_rfl) (by simp) ?_
                  refine AllReady.cons rfl (fun K hK => ?_) ?_
                  · go_simp
                    refine hK _ _ ?_
                    clear hK K
                    refine wpAny_ready (rs := [6]) (by kernel_rfl) (by simp) ?_
                    refine AllReady.cons rfl (fun K hK => ?_) ?_
                    · refine stepP rfl (.tmp 42) (.tmp 47) rfl wa.heap.size _ _ _ X rfl HO6.out _ rfl ⟨1, h.s, pi, pc⟩ HN6.out (by omega) (by exact HS6.out) ?_
                      intro A6 c6 w6 ho6 hg6
                      obtain ⟨l7, hJ7⟩ := ord_app HL6.out (OwP.alloc (HI2.out.2.1.below HB5.out) (.cells #[.int .i64 1, .int .i64 h.s, .int .i64 pi, .int .u64 pc] 50)) HD6.out HGL.out ho6 hg6
                      have HJ7 := Lib.hid hJ7
                      have m2 := l7.cell 0
                      have m3 := l7.frozen 0
                      have m4 := l7.lt
                      clear ho6 hg6 l7 hJ7
                      refine hK _ _ ?_
                      clear hK K
                      refine wpAny_ready (rs := [7]) (by kernel_rfl) (by simp) ?_
                      refine AllReady.cons rfl (fun K hK => ?_) ?_
                      · go_simp
                        refine hK _ _ ?_
                        clear hK K
                        refine wpAny_done (by kernel_rfl) ?_ _
                        go_wp2_with fail
                        go_roundw
                        case rel => exact ⟨k + 1, X ++ [⟨1, h.s, pi, pc⟩], by omega, by go_num, Lib.hid (by rw [HT.out, ← HXX.out]), HJ7⟩
                        case measure => simp [intOf]; omega
                      exact AllReady.nil
                    exact AllReady.nil
                  exact AllReady.nil
                refine AllReady.cons rfl (fun K hK => ?_) ?_
                · go_simp
                  refine hK _ _ ?_
                  clear hK K
                  refine wpAny_ready (rs := [0]) (by kernel_rfl) (by simp) ?_
                  refine AllReady.cons rfl (fun K hK => ?_) ?_
                  · go_simp
                    refine hK _ _ ?_
                    clear hK K
                    refine wpAny_ready (rs := [6]) (by kernel_rfl) (by simp) ?_
                    refine AllReady.cons rfl (fun K hK => ?_) ?_
                    · refine stepP rfl (.tmp 42) (.tmp 47) rfl wa.heap.size _ _ _ X rfl HO6.out _ rfl ⟨1, h.s, pi, pc⟩ HN6.out (by omega) (by exact HS6.out) ?_
                      intro A6 c6 w6 ho6 hg6
                      obtain ⟨l7, hJ7⟩ := ord_app HL6.out (OwP.alloc (HI2.out.2.1.below HB5.out) (.cells #[.int .i64 1, .int .i64 h.s, .int .i64 pi, .int .u64 pc] 50)) HD6.out HGL.out ho6 hg6
                      have HJ7 := Lib.hid hJ7
                      have m2 := l7.cell 0
                      have m3 := l7.frozen 0
                      have m4 := l7.lt
                      clear ho6 hg6 l7 hJ7
                      refine hK _ _ ?_
                      clear hK K
                      refine wpAny_ready (rs := [7]) (by kernel_rfl) (by simp) ?_
                      refine AllReady.cons rfl (fun K hK => ?_) ?_
                      · go_simp
                        refine hK _ _ ?_
                        clear hK K
                        refine wpAny_done (by kernel_rfl) ?_ _
                        go_wp2_with fail
                        go_roundw
                        case rel => exact ⟨k + 1, X ++ [⟨1, h.s, pi, pc⟩], by omega, by go_num, Lib.hid (by rw [HT.out, ← HXX.out]), HJ7⟩
                        case measure => simp [intOf]; omega
                      exact AllReady.nil
                    exact AllReady.nil
                  exact AllReady.nil
                exact AllReady.nil
              exact AllReady.nil
            exact AllReady.nil
          exact AllReady.nil
        exact AllReady.nil
      · obtain rfl : k = h.P.length := by omega
        have hki : ¬ ((h.P.length : Int) < (h.P.length : Int)) := by omega
        have hX0 : X = negL h ++ ⟨0, 0, 0, h.zc⟩ :: posL h := by rw [HXX.out, List.take_of_length_le (by simp [posL]), ← HY.out, List.append_assoc]; rfl
        have l1 : wr.cell? ⟨gl, 0, none⟩ = some (.slice A1 X.length c1) := HI.out.1.cell 0
        have l3 := HI.out.1.lt
        have HXE := Lib.hid hX0
        have hpl : (posL h).length = h.P.length := by simp [posL]
        have hxl : X.length ≤ 2000 := by rw [hX0, List.length_append, List.length_cons]; omega
        have HLO := Lib.hid (show w.heap.size ≤ D from by have h1 := HB0.out.size; have h2 := HS4z.out; omega)
        obtain ⟨n, hn⟩ : ∃ n, X.length = n := ⟨_, rfl⟩
        rw [hn] at l1
        have HN := Lib.hid hn
        clear hX0 HXX hpl hn
        by_cases hzc : h.zc = 0
        · have HZ := Lib.hid (show ordF h = negL h ++ posL h from by unfold ordF zeroL; rw [if_neg (by omega)]; rfl)
          have HDEL := Lib.hid (cdel_one A1 n c1 (negL h) (posL h) ⟨0, 0, 0, h.zc⟩ wa wr (by have := HI.out.2.1; rw [HXE.out] at this; exact this) (by rw [← HN.out, HXE.out]) (by rw [← HXE.out]; exact hxl) hzc (neg_ne HO.out) (pos_ne HO.out))
          clear hzc hxl
          go_wp2_with fail
          refine HDEL.out.mono ?_
          rintro e w6 ⟨rfl, hcs, hbel, g, hAg, hko⟩
          have hD6 : w6.heap[D]? = some (.deferred (some [])) := (hko.2 D (Array.getElem?_eq_some_iff.1 HI.out.2.2).1 (fun e => by
            subst e
            have h1 := HI.out.2.2
            rcases HI.out.2.1.1.2 with ⟨e1, _⟩ | ⟨g', cap, cur, e1, _, hgb, _⟩
            · rw [hAg] at e1; cases e1
            · rw [hAg] at e1
              injection e1 with e1 _ _
              injection e1 with e1
              injection e1 with e1 _ _
              subst e1
              rw [h1] at hgb
              cases hgb)).trans HI.out.2.2
          have HF := Lib.hid (ord_end (l := ordF h) (n := (negL h).length + (posL h).length) (c := c1) (by rw [HZ.out]; exact hcs) (by rw [HZ.out, List.length_append]) HB0.out hbel hD6 HLO.out (HI.out.2.1.new HB0.out.size))
          clear hcs hbel hAg hko
          go_wp2_with fail
          refine ⟨by simp, .inl ⟨_, _, rfl, run_takeDeferred hD6, ?_⟩⟩
          refine ⟨_, results_tmp rfl _ _ _, ?_⟩
          exact HF.out
        · have HZ := Lib.hid (show ordF h = X from by rw [HXE.out]; unfold ordF zeroL; rw [if_pos (by omega)]; rfl)
          have HDEL := Lib.hid (cdel_none A1 n c1 X wr (HI.out.2.1.cs (by omega)) HN.out.symm hxl (fun p hp => by
            rw [HXE.out] at hp
            rcases List.mem_append.1 hp with hp | hp
            · exact neg_ne HO.out p hp
            · rcases List.mem_cons.1 hp with rfl | hp
              · exact hzc
              · exact pos_ne HO.out p hp))
          have hx2 := hxl
          clear hzc hxl
          go_wp2_with fail
          refine HDEL.out.mono ?_
          rintro e w6 ⟨rfl, hbel⟩
          have hD6 : w6.heap[D]? = some (.deferred (some [])) := (hbel.block D (Array.getElem?_eq_some_iff.1 HI.out.2.2).1).trans HI.out.2.2
          have HF := Lib.hid (ord_end (l := ordF h) (n := n) (c := c1) (by rw [HZ.out]; exact (HI.out.2.1.cs (by omega)).below hbel) (by rw [HZ.out]; exact HN.out.symm) HB0.out (HI.out.2.1.2.trans (hbel.mono HI.out.2.1.2.size)) hD6 HLO.out (HI.out.2.1.new HB0.out.size))
          clear hbel
          go_wp2_with fail
          refine ⟨by simp, .inl ⟨_, _, rfl, run_takeDeferred hD6, ?_⟩⟩
          refine ⟨_, results_tmp rfl _ _ _, ?_⟩
          exact HF.out
  case stop =>
    rintro D c pre W _ _ h _
    exact h.elim
end Go.Proofs.Ytbibhjcmdehdbaa
