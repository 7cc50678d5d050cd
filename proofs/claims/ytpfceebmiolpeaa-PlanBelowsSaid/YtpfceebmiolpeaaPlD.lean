/- slices.Values, slices.Collect at items. -/
import Derived.RangeFuncNested
import Derived.RangeFuncBound
import Derived.RangeFuncCalls
import Derived.RangeFuncLeaves
import Derived.RangeFuncBox
import Derived.Shelf.Abstract
import Derived.Shelf.RegionOpen
import Derived.OwnWalkIn
import Derived.TacticsInMore
import Derived.LoopNIn
import Derived.LoopIn
import Derived.Maps.AppendAt
import Derived.Laws.MakeOwn
import Derived.Test.YtpfceebmiolpeaaPlC
namespace Go.Proofs.Ytpfceebmiolpeaa.Pl
open Go.RowKit Go.Sort Go.Shelf
set_option linter.unusedVariables false
attribute [local go_sem] Oper.semAt_some

def encT (x : It) : Array Value := #[.agg (itA x)]
set_option maxRecDepth 100000 in
set_option maxHeartbeats 2000000 in
theorem val1_in (F : Fence) (n : Nat) (hf : F.fn 58) (hro : F.round = none) (hn : 1 ≤ n) (l Bs n₀ b off cap : Nat) (L : List It) (hL : L.length ≤ 100000) (hb : b < n₀) (BB : Nat) (J Jx : List It → World → Prop) (hA : AbidesFrom BB J)
    (hY : ∀ pre x W, J pre W → pre.length < L.length → YieldAt F (n - 1) Try.prog l (encT x) W fun e W' =>
      (e = .returned (.bool true) ∧ J (pre ++ [x]) W' ∧ Below n₀ W W') ∨ (e = .returned (.bool false) ∧ Jx (pre ++ [x]) W'))
    (W : World) (hn₀ : n₀ ≤ W.heap.size) (hBs : W.cell? ⟨Bs, 0, none⟩ = some (.slice (some ⟨b, off, none⟩) L.length cap)) (hc : ∀ (k : Nat) (x : It), L[k]? = some x → W.cell? ⟨b, off + k * 4, none⟩ = some (.int .i64 x.q) ∧ W.cell? ⟨b, off + k * 4 + 1, none⟩ = some (.int .i64 x.lo) ∧ W.cell? ⟨b, off + k * 4 + 2, none⟩ = some (.int .i64 x.hi) ∧ W.cell? ⟨b, off + k * 4 + 3, none⟩ = some (.int .i64 x.lv)) (h0 : J [] W) :
    CallsIn F n Try.prog 58 #[.func (.yield l) #[] #[], .pointer (some ⟨Bs, 0, none⟩)] W fun e W' => (∃ v, e = .returned v) ∧
      ((∃ ys, ys = L ∧ J ys W') ∨ (∃ pre, True ∧ Jx pre W')) := by
  have hl2 : (L.length : Int) ≤ 100000 := by omega
  refine callsIn_of_wp Try.func58 rfl hf ?_ hro
  simp only [Try.ntmps58, List.size_toArray, List.length_cons, List.length_nil, Nat.reduceAdd, Nat.reduceSub, Array.replicate_succ, Array.replicate_zero, List.push_toArray, List.append_toArray, List.nil_append, List.cons_append]
  gi_wp2
  gi_loopw [7] (fun i wr => ∃ k : Nat, k ≤ L.length ∧ i = .int .i64 k ∧ J (L.take k) wr ∧ Below n₀ W wr)
    (fun i _ => L.length - (intOf i).toNat)
  case atStart => exact ⟨0, by omega, rfl, h0, Below.refl _ _⟩
  case round =>
    obtain ⟨k, hk, rfl, hJs, hnx⟩ := hrel
    by_cases hlt : k < L.length
    · have hki : (k : Int) < (L.length : Int) := by omega
      obtain ⟨p, hp⟩ := getElem?_lt hlt
      obtain ⟨q0, q1, q2, q3⟩ := hc k p hp
      have c0 : wr.cell? ⟨b, off + k * 4, none⟩ = some (.int .i64 p.q) := (hnx.cell (p := ⟨b, off + k * 4, none⟩) hb).trans q0
      have c1 : wr.cell? ⟨b, off + k * 4 + 1, none⟩ = some (.int .i64 p.lo) := (hnx.cell (p := ⟨b, off + k * 4 + 1, none⟩) hb).trans q1
      have c2 : wr.cell? ⟨b, off + k * 4 + 2, none⟩ = some (.int .i64 p.hi) := (hnx.cell (p := ⟨b, off + k * 4 + 2, none⟩) hb).trans q2
      have c3 : wr.cell? ⟨b, off + k * 4 + 3, none⟩ = some (.int .i64 p.lv) := (hnx.cell (p := ⟨b, off + k * 4 + 3, none⟩) hb).trans q3
      have hT := take_snoc L k p hp
      have hJ2 := hA _ wr _ none hJs (World.grownBy_alloc wr (.cells (itA p) 78) none) (fun r e => by cases e)
      have hb2 : Below n₀ W (wr.alloc (.cells (itA p) 78)) := hnx.alloc (Nat.le_trans hn₀ hnx.size) _
      obtain ⟨fn, tmps, assign, body, hy, hR⟩ := hY _ p _ hJ2 (by rw [List.length_take]; omega)
      unfold encT at hy
      obtain ⟨y0, y1, y2, y3⟩ := box4 (heap_alloc_new wr (.cells (itA p) 78))
      unfold itA at hy y0 y1 y2 y3 hb2
      clear q0 q1 q2 q3 hp
      gi_wp2
      refine hR.mono ?_
      rintro e W3 (⟨rfl, hJ3, hk3⟩ | ⟨rfl, hJx3⟩)
      · gi_wp2
        go_roundw
        case rel => exact ⟨k + 1, by omega, by go_num, by rw [hT]; exact hJ3, hb2.trans hk3⟩
        case measure => simp [intOf]; omega
      · gi_wp2
        refine bodyPost_ret (results_none rfl _ _ _) rfl ?_
        exact ⟨⟨_, rfl⟩, .inr ⟨_, trivial, hJx3⟩⟩
    · obtain rfl : k = L.length := by omega
      have hki : ¬ ((L.length : Int) < (L.length : Int)) := by omega
      gi_wp2
      go_end0
      rw [List.take_length] at hJs
      first
        | exact ⟨⟨_, rfl⟩, .inl hJs⟩
        | exact ⟨⟨_, rfl⟩, .inl ⟨_, rfl, hJs⟩⟩
set_option maxRecDepth 100000 in
set_option maxHeartbeats 1000000 in
theorem val_nil_in (F : Fence) (n : Nat) (hf : F.fn 58) (hro : F.round = none) (l Bs : Nat) (B : Option Addr) (cap : Nat) (J : List It → World → Prop) (W : World) (hBs : W.cell? ⟨Bs, 0, none⟩ = some (.slice B 0 cap)) (h0 : J [] W) :
    CallsIn F n Try.prog 58 #[.func (.yield l) #[] #[], .pointer (some ⟨Bs, 0, none⟩)] W fun e W' => (∃ v, e = .returned v) ∧ J [] W' := by
  refine callsIn_of_wp Try.func58 rfl hf ?_ hro
  simp only [Try.ntmps58, List.size_toArray, List.length_cons, List.length_nil, Nat.reduceAdd, Nat.reduceSub, Array.replicate_succ, Array.replicate_zero, List.push_toArray, List.append_toArray, List.nil_append, List.cons_append]
  gi_wp2
  gi_loopw [7] (fun i wr => i = .int .i64 0 ∧ J [] wr) (fun _ _ => 0)
  case atStart => exact ⟨rfl, h0⟩
  case round =>
    obtain ⟨rfl, hJs⟩ := hrel
    gi_wp2
    go_end0
    exact ⟨⟨_, rfl⟩, hJs⟩
theorem val_any (a : Option Addr) (len cap : Nat) (w : World) :
    Calls Try.prog 45 #[.slice a len cap] w fun e w' => e = .returned (.func (.func 58) #[] #[.pointer (some ⟨w.heap.size, 0, none⟩)]) ∧ w' = w.alloc (.cells #[.slice a len cap] 32) := by
  go_enter Try.func45, Try.ntmps45
  go_wp2_with fail
  go_ret
  exact ⟨rfl, rfl⟩
theorem val_stops (F : Fence) (n : Nat) (hf : F.fn 58) (hro : F.round = none) (hn : 1 ≤ n) (Bs n₀ : Nat) (B : Option Addr) (cap : Nat) (L : List It) (hL : L.length ≤ 100000) (w : World) (hBs : Bs < w.heap.size) (hn₀ : n₀ ≤ w.heap.size)
    (hc : w.cell? ⟨Bs, 0, none⟩ = some (.slice B L.length cap)) (hI : Cl w B (fC itA L)) (hlo : ∀ a, B = some a → L.length = 0 ∨ a.block < n₀) :
    SeqStopsK F n Try.prog 58 #[.pointer (some ⟨Bs, 0, none⟩)] encT (Below n₀) (fun ys => ys = L) (fun _ => True) L.length w := fun l J Jx W hW hA _ hY h0 => by
  have hc' := (hW.cell (p := ⟨Bs, 0, none⟩) hBs).trans hc
  by_cases h0l : L.length = 0
  · rw [h0l] at hc'
    have e : L = [] := List.eq_nil_of_length_eq_zero h0l
    subst e
    exact (val_nil_in F n hf hro l Bs B cap J W hc' h0).mono fun e W' ⟨he, hj⟩ => ⟨he, .inl ⟨_, rfl, hj⟩⟩
  · obtain ⟨b, off, rfl, hcs⟩ := (hI.below hW).its (by omega)
    have hb : b < n₀ := by rcases hlo _ rfl with h | h; exact absurd h h0l; exact h
    exact val1_in F n hf hro hn l Bs n₀ b off cap L hL hb _ J Jx hA hY W (Nat.le_trans hn₀ hW.size) hc' hcs h0
/-- a block of cells as a whole -/
def Rb (W : World) (g : Nat) (t : TypeId) (vs : Array Value) : Prop := W.heap[g]? = some (.cells vs t (0, 0))
theorem Rb.lt {W : World} {g : Nat} {t : TypeId} {vs : Array Value} (h : Rb W g t vs) : g < W.heap.size := (Array.getElem?_eq_some_iff.1 h).1
theorem Rb.below {W W' : World} {g : Nat} {t : TypeId} {vs : Array Value} (h : Rb W g t vs) (hb : Below W.heap.size W W') : Rb W' g t vs := (hb.block g h.lt).trans h
theorem Rb.alloc {W : World} {g : Nat} {t : TypeId} {vs : Array Value} (h : Rb W g t vs) (o : Obj) : Rb (W.alloc o) g t vs := (Below.heap_alloc _ _ _ h.lt).trans h
theorem Rb.grown {W W' : World} {g : Nat} {t : TypeId} {vs : Array Value} {row : Option Nat} (h : Rb W g t vs) (hg : W.grownBy W' row) (hne : some g ≠ row) : Rb W' g t vs := (hg.block g h.lt hne).trans h
theorem Rb.not_row {W : World} {n₀ g : Nat} {t e : TypeId} {vs : Array Value} {size k : Nat} {v : Value} {xs : List Value} (h : Rb W g t vs) (hte : t ≠ e) (hrow : W.ownsRow n₀ e size v k xs) : some g ≠ v.ownBlock := fun e' => by
  rcases hrow.2 with ⟨rfl, _⟩ | ⟨g', cap, cur, rfl, _, hgb, _⟩
  · simp [Value.ownBlock] at e'
  · have e2 : g = g' := by simpa [Value.ownBlock] using e'
    subst e2
    rw [show W.heap[g]? = _ from h] at hgb
    injection hgb with hgb
    injection hgb with _ h2 _
    exact hte h2
theorem Rb.kept_nc {W W' : World} {g : Nat} {t : TypeId} {vs : Array Value} {row : Option Nat} (h : Rb W g t vs) (hg : W.grownBy W' row) (hr : ∀ r, row = some r → ∃ o : Obj, W.heap[r]? = some o ∧ o.isCells = false) : Rb W' g t vs :=
  (hg.block g h.lt (fun e' => by obtain ⟨o, ho, hc⟩ := hr g e'.symm; rw [show W.heap[g]? = _ from h] at ho; cases ho; cases hc)).trans h
def OwT (w0 w : World) (A : Option Addr) (c : Nat) (X : List It) : Prop := w.ownsRow w0.heap.size 78 4 (.slice A X.length c) X.length (fC itA X) ∧ Below w0.heap.size w0 w
theorem OwT.kept_nc {w0 W W' : World} {A : Option Addr} {c : Nat} {M : List It} {row : Option Nat} (h : OwT w0 W A c M) (hg : W.grownBy W' row) (hr : ∀ r, row = some r → w0.heap.size ≤ r ∧ ∃ o : Obj, W.heap[r]? = some o ∧ o.isCells = false) : OwT w0 W' A c M := by
  refine ⟨h.1.kept hg ?_, h.2.grown hg h.2.size (fun k e => (hr k e).1)⟩
  rcases h.1.2 with ⟨e, _⟩ | ⟨g, cap, cur, e, _, hgb, _⟩
  · exact .inl (by rw [e]; rfl)
  · refine .inr fun e' => ?_
    rw [e] at e'
    obtain ⟨o, ho, hc⟩ := (hr g e'.symm).2
    rw [hgb] at ho; cases ho; cases hc
theorem OwT.alloc {w0 w : World} {A : Option Addr} {c : Nat} {X : List It} (h : OwT w0 w A c X) (o : Obj) : OwT w0 (w.alloc o) A c X := ⟨h.1.alloc o, h.2.alloc h.2.size o⟩
/-- between two rounds of AppendSeq -/
def ApI (wa : World) (gl : Nat) (pre : List It) (W : World) : Prop := ∃ (A : Option Addr) (c : Nat), Rb W gl 32 #[.slice A pre.length c] ∧ OwT wa W A c pre
theorem apI_own (wa : World) (gl B0 : Nat) (hB : wa.heap.size ≤ B0) : OwnFrom B0 (ApI wa gl) := by
  rintro pre W W' row ⟨A, c, h1, h2⟩ hg hr
  exact ⟨A, c, h1.kept_nc hg (fun r e => (hr r e).2), h2.kept_nc hg (fun r e => ⟨Nat.le_trans hB (hr r e).1, (hr r e).2⟩)⟩
theorem keeps_below {W W' : World} (h : Below W.heap.size W W') : KeepsOthers W W' := ⟨h.size, fun k o hk _ => (h.block k (Array.getElem?_eq_some_iff.1 hk).1).trans hk⟩
theorem cl_lo {w : World} {B : Option Addr} {L : List It} (h : Cl w B (fC itA L)) : ∀ a, B = some a → L.length = 0 ∨ a.block < w.heap.size := fun a ha => by
  by_cases h0 : L.length = 0
  · exact .inl h0
  · obtain ⟨b, off, e, hc⟩ := h.its (by omega)
    obtain ⟨p, hp⟩ := getElem?_lt (l := L) (k := 0) (by omega)
    have := block_lt_of_cell (hc 0 p hp).1
    rw [e] at ha
    injection ha with ha
    rw [← ha]
    exact .inr this
set_option maxRecDepth 100000 in
theorem ap_post {wa W w7 : World} {gl : Nat} {A1 A' : Option Addr} {c1 c' : Nat} {X : List It} {y : It} (h1 : Rb W gl 32 #[.slice A1 X.length c1]) (h2 : OwT wa W A1 c1 X) (hgl : wa.heap.size ≤ gl)
    (r1 : w7.ownsRow wa.heap.size 78 4 (.slice A' (X.length + 1) c') (X.length + 1) (fC itA X ++ (itA y).toList)) (r2 : (W.alloc (.cells (itA y) 78)).grownBy w7 (Value.slice A1 X.length c1).ownBlock) :
    Rb w7 gl 32 #[.slice A1 X.length c1] ∧
      KeepsOthers W (w7.setCell ⟨gl, 0, none⟩ (.slice A' (X.length + 1) c')) ∧ Below wa.heap.size W (w7.setCell ⟨gl, 0, none⟩ (.slice A' (X.length + 1) c')) ∧
      Rb (w7.setCell ⟨gl, 0, none⟩ (.slice A' (X.length + 1) c')) gl 32 #[.slice A' (X ++ [y]).length c'] ∧ OwT wa (w7.setCell ⟨gl, 0, none⟩ (.slice A' (X.length + 1) c')) A' c' (X ++ [y]) := by
  have e0 : fC itA X ++ (itA y).toList = fC itA (X ++ [y]) := by rw [fC_append]; simp [fC]
  rw [e0] at r1
  have o6 := h2.alloc (.cells (itA y) 78)
  have l5 := h1.alloc (.cells (itA y) 78)
  have l7 := l5.grown r2 (l5.not_row (by decide) o6.1)
  have hlen : X.length + 1 = (X ++ [y]).length := by rw [List.length_append]; rfl
  have bel7 : Below wa.heap.size W w7 := ((Below.refl _ _).alloc h2.2.size (.cells (itA y) 78)).grown r2 (by have := o6.2.size; exact this) (fun k hk => (o6.1.lt k hk).1)
  have own7 : OwT wa w7 A' c' (X ++ [y]) := ⟨by rw [← hlen]; exact r1, h2.2.trans bel7⟩
  refine ⟨l7, ?_, bel7.setCell (p := ⟨gl, 0, none⟩) hgl _, by rw [← hlen]; exact heap_set_at l7 _, ⟨own7.1.kept (grownBy_setCell' w7 gl _) (.inr (l7.not_row (by decide) own7.1).symm), own7.2.setCell (p := ⟨gl, 0, none⟩) hgl _⟩⟩
  refine ((KeepsOthers.alloc W _).trans (KeepsOthers.of_grownBy r2 fun j o ej hj => ?_)).trans (KeepsOthers.setCell _ _ _)
  rcases o6.1.2 with ⟨e1, _⟩ | ⟨g, cap, cur, e1, _, hgb, _⟩
  · rw [e1] at ej; cases ej
  · rw [e1] at ej
    have e2 : g = j := by simpa [Value.ownBlock] using ej
    subst e2
    rw [hgb] at hj
    injection hj with hj
    rw [← hj]
    rfl
theorem new_cells (w : World) (p : It) (t : TypeId) : ∀ j u, (itA p).toList[j]? = some u → (w.alloc (.cells (itA p) t)).cell? ((⟨w.heap.size, 0, none⟩ : Addr).add j) = some u := fun j u hu => by
  rw [addr_at, Nat.zero_add, cell_of_row _ _ _ _ _ _ (heap_alloc_new w _)]
  simpa using hu
set_option maxHeartbeats 4000000 in
set_option maxRecDepth 100000 in
theorem seq_any (B : Option Addr) (d Bs : Nat) (L : List It) (hL : L.length ≤ 1000) (w : World) (hBs : Bs < w.heap.size) (hc : w.cell? ⟨Bs, 0, none⟩ = some (.slice B L.length d)) (hI : Cl w B (fC itA L)) :
    Calls Try.prog 72 #[.slice none 0 0, .func (.func 58) #[] #[.pointer (some ⟨Bs, 0, none⟩)]] w fun e w' => ∃ v, e = .returned v ∧ RowP 78 itA w L v w' := by
  have HI := Lib.hid (And.intro hc hI)
  clear hc hI
  refine (callsIn_wide (n := 8)).1 ?_
  refine callsIn_of_wp_marks Try.func72 rfl trivial ?_ rfl
  rw [wpIn_wide]
  simp only [Try.ntmps72, List.size_toArray, List.length_cons, List.length_nil, Nat.reduceAdd, Nat.reduceSub, Array.replicate_succ, Array.replicate_zero, List.push_toArray, List.append_toArray, List.nil_append, List.cons_append]
  obtain ⟨W1, hW1⟩ : ∃ W1, w.alloc (.cells #[.slice none 0 0] 32) = W1 := ⟨_, rfl⟩
  obtain ⟨gl, hgl⟩ : ∃ g, w.heap.size = g := ⟨_, rfl⟩
  have b1 : Below w.heap.size w W1 := hW1 ▸ (Below.refl _ _).alloc (Nat.le_refl _) _
  have HX := Lib.hid (show Rb W1 gl 32 #[.slice none 0 0] from hgl ▸ hW1 ▸ heap_alloc_new w _)
  have hz1 : W1.heap.size = w.heap.size + 1 := by rw [← hW1]; simp
  have B1 := Lib.hid b1
  have HGL := Lib.hid hgl
  go_wp2_with fail
  have HJ := Lib.hid (And.intro HI.out.1 HI.out.2)
  obtain ⟨i0, hi, hz0, hz1', hz2⟩ := info_parts infoT
  refine (wpIn_wide (n := 8)).1 ?_
  refine wpIn_rangeFunc_ownH rfl (by omega) (gf := 58) (lb := #[.pointer (some ⟨Bs, 0, none⟩)]) rfl trivial (enters_of Try.func58 (by kernel_rfl) rfl)
    (val_stops Fence.wide (8 - 1) trivial rfl (by omega) Bs w.heap.size B d L (by omega) W1 (by omega) (by omega) (cell_below HI.out.1 b1) (HI.out.2.below b1) (cl_lo HI.out.2)) (fun h k => h.trans k) (belowK_b b1.size) (Below.refl _ _) (fun _ => rfl)
    (ApI w gl) (fun _ _ _ => False) (apI_own w gl _ b1.size) (fun _ _ _ _ _ hs _ _ => hs)
    ⟨none, 0, HX.out, own_nil _ _ _ _, b1⟩
    (fun x a' W => ∃ Bx, Rb W Bx 78 (itA x) ∧ a' = { tmps := #[.slice none 0 0, .func (.func 58) #[] #[.pointer (some ⟨Bs, 0, none⟩)], .pointer (some ⟨gl, 0, none⟩), undef, .slice none 0 0, .pointer (some ⟨Bx, 0, none⟩), .func (.func 58) #[] #[.pointer (some ⟨Bs, 0, none⟩)], .agg (itA x), undef, undef, undef, undef, undef], defers := [] })
    (fun x a' _ X Y row hs hg hr => by obtain ⟨Bx, h2, h3⟩ := hs; exact ⟨Bx, h2.kept_nc hg (fun r e => (hr r e).2), h3⟩)
    ?assign ?body ?done ?stop
  case assign =>
    rintro l pre x W K ⟨A1, c1, i1, i2⟩ hK
    unfold encT itA
    gi_wp2
    exact hK _ _ ((KeepsOthers.alloc _ _).from _) ((Below.refl _ W).alloc i2.2.size _) ⟨A1, c1, i1.alloc _, i2.alloc _⟩ ⟨W.heap.size, heap_alloc_new W _, rfl⟩
  case body =>
    rintro l pre x a' W hl ⟨r, hr⟩ ⟨A1, c1, i1, i2⟩ ⟨Bx, bX, rfl⟩ hlt
    have HII := Lib.hid (And.intro i1 i2)
    obtain ⟨y0, y1, y2, y3⟩ := box4 (show W.heap[Bx]? = some (.cells #[.int .i64 x.q, .int .i64 x.lo, .int .i64 x.hi, .int .i64 x.lv] 78 (0, 0)) from bX)
    obtain ⟨l1, l2⟩ := box1 (show W.heap[gl]? = some (.cells #[.slice A1 pre.length c1] 32 (0, 0)) from i1)
    clear i1 i2 bX hr
    unfold itA
    gi_wp2_with (gi_at_builtin; refine wpListIn_append_own _ rfl _ _ 32 rfl w.heap.size 78 i0 (.agg #[.int .i64 0, .int .i64 0, .int .i64 0, .int .i64 0]) 4 32 Try.underlying32 hi hz0 hz1' hz2 rfl (by decide) _ _ _ rfl (HII.out.2.alloc _).1 ⟨W.heap.size, 0, none⟩ 1 1 (itA x).toList rfl rfl (new_cells W x 78) (fourI.one x) (by unfold maxLen; omega) (by omega) (HII.out.2.alloc _).2.size ?_; intro v' w7 own7 g7 nil7; obtain ⟨A', c', rfl⟩ := own_shape own7; have hpost := ap_post HII.out.1 HII.out.2 (by omega) own7 g7; obtain ⟨m1, m2⟩ := box1 hpost.1; have HP := Lib.hid hpost.2; clear own7 g7 nil7 hpost)
    exact ⟨HP.out.1.from _, HP.out.2.1, A', c', HP.out.2.2.1, HP.out.2.2.2⟩
  case done =>
    rintro D xs W hD rfl ⟨A1, c1, i1, i2⟩ hDef
    obtain ⟨l1, l2⟩ := box1 (show W.heap[gl]? = some (.cells #[.slice A1 xs.length c1] 32 (0, 0)) from i1)
    have i3 := i2.kept_nc (grownBy_putObj' W D (.deferred none)) (fun r e => by cases e; exact ⟨by omega, _, hDef, rfl⟩)
    have HE := Lib.hid (show RowP 78 itA w xs (.slice A1 xs.length c1) (W.putObj D (.deferred none)) from ⟨A1, c1, rfl, i3.1, i3.2⟩)
    clear i1 i2 i3
    go_wp2_with fail
    refine ⟨by simp, .inl ⟨_, _, rfl, run_takeDeferred hDef, ?_⟩⟩
    refine ⟨_, results_tmp rfl _ _ _, ?_⟩
    exact ⟨_, rfl, HE.out⟩
  case stop =>
    rintro D c pre W _ _ h _
    exact h.elim
end Go.Proofs.Ytpfceebmiolpeaa.Pl
