import Derived.Test.YtakomfnajeolcaaGreatDoorCtA4
import Derived.Laws.MakeOwn
import Derived.Laws.StructEq
set_option linter.unusedVariables false
/- The contract of runs. -/
namespace Go.Proofs.YtakomfnajeolcaaGreatDoor.Tk
open Go.RowKit Go.Sort
set_option linter.unusedVariables false

theorem twoC_set (r : List (Int × Int)) (p : Int × Int) (n : Int) : (twoC .i64 (r ++ [p])).set (r.length * 2 + 1) (.int .i64 n) = twoC .i64 (r ++ [(p.1, n)]) := by
  rw [twoC_append, twoC_append, List.set_append_right _ _ (by rw [twoC_length]; omega), twoC_length]
  congr 1
  rw [show r.length * 2 + 1 - r.length * 2 = 1 by omega]
  rfl
theorem runs_last {l : List Int} (h : l ≠ []) : ∃ r p, runsL l = r ++ [p] := split_last (runsL_ne h)
/-- a slice that lies in memory made since, or nowhere -/
def New (w : World) (A : Option Addr) : Prop := ∀ a, A = some a → w.heap.size ≤ a.block
theorem New.mono {w w' : World} {A : Option Addr} (h : New w' A) (k : w.heap.size ≤ w'.heap.size) : New w A := fun a ha => Nat.le_trans k (h a ha)
/-- what runs leaves -/
def RunsPost (w : World) (l : List Int) (e : Ending) (w' : World) : Prop := ∃ A c, e = .returned (.agg #[.int .i64 (fstL l), .slice A (runsL l).length c]) ∧ Ly w' A l ∧ New w A ∧ Below w.heap.size w w'
/-- what holds while runs are made of l -/
structure RnSt (w wr : World) (gL : Nat) (l : List Int) (A : Option Addr) (c : Nat) : Prop where
  box : wr.heap[gL]? = some (.cells #[.int .i64 (fstL l), .slice A (runsL l).length c] 52 (0, 0))
  own : wr.ownsRow (gL + 1) 130 2 (.slice A (runsL l).length c) (runsL l).length (twoC .i64 (runsL l))
  res : wr.heap[w.heap.size]? = some (.cells #[.int .i64 0, .slice none 0 0] 52 (0, 0))
  bel : Below w.heap.size w wr
  lt : w.heap.size + 1 = gL
theorem RnSt.first {w wr : World} {gL : Nat} {A : Option Addr} {c : Nat} (h : RnSt w wr gL [] A c) (x : Int) :
    RnSt w (((wr.setCell ⟨gL, 0, none⟩ (.int .i64 x)).setCell ⟨gL, 1, none⟩ (.slice (some ⟨wr.heap.size, 0, none⟩) 1 1)).alloc (.cells #[.int .i64 0, .int .i64 1] 130)) gL [x] (some ⟨wr.heap.size, 0, none⟩) 1 := by
  have hlt : gL < wr.heap.size := (Array.getElem?_eq_some_iff.1 h.box).1
  have hlw := h.lt
  refine ⟨?_, ?_, ?_, ?_, hlw⟩
  · rw [Below.heap_alloc _ _ _ (by simp; omega), heap_set_at (heap_set_at h.box _)]; rfl
  · have := World.ownsRow_lit (base := gL + 1) (size := 2) (e := 130) ((wr.setCell ⟨gL, 0, none⟩ (.int .i64 x)).setCell ⟨gL, 1, none⟩ (.slice (some ⟨wr.heap.size, 0, none⟩) 1 1)) #[.int .i64 0, .int .i64 1] 1 (by simp; omega) (by unfold maxLen; omega) rfl
    have e : ((wr.setCell ⟨gL, 0, none⟩ (.int .i64 x)).setCell ⟨gL, 1, none⟩ (.slice (some ⟨wr.heap.size, 0, none⟩) 1 1)).heap.size = wr.heap.size := by simp
    rw [e] at this
    exact this
  · rw [Below.heap_alloc _ _ _ (by simp; omega), Below.heap_setCell _ _ _ _ (by simp; omega), Below.heap_setCell _ _ _ _ (by simp; omega)]; exact h.res
  · have hb : Below w.heap.size w ((wr.setCell ⟨gL, 0, none⟩ (.int .i64 x)).setCell ⟨gL, 1, none⟩ (.slice (some ⟨wr.heap.size, 0, none⟩) 1 1)) := (h.bel.setCell (by simp; omega) _).setCell (by simp; omega) _
    exact hb.alloc hb.size _
theorem RnSt.more {w wr : World} {gL g : Nat} {c : Nat} {l : List Int} {r : List (Int × Int)} {p : Int × Int} (h : RnSt w wr gL l (some ⟨g, 0, none⟩) c) (hr : runsL l = r ++ [p]) (hl : l ≠ []) :
    RnSt w (wr.setCell ⟨g, r.length * 2 + 1, none⟩ (.int .i64 (p.2 + 1))) gL (l ++ [endL l]) (some ⟨g, 0, none⟩) c := by
  have hlt : gL < wr.heap.size := (Array.getElem?_eq_some_iff.1 h.box).1
  have hlw := h.lt
  have hg : gL + 1 ≤ g := (h.own.lt g rfl).1
  have hn : runsL (l ++ [endL l]) = r ++ [(p.1, p.2 + 1)] := by rw [runsL_snoc, hr, addIx_more]
  have hlen : (runsL (l ++ [endL l])).length = (runsL l).length := by rw [hn, hr]; simp
  refine ⟨?_, ?_, ?_, ?_, hlw⟩
  · rw [Below.heap_setCell _ _ _ _ (by simp; omega), headD_snoc _ _ hl, hlen]; exact h.box
  · have := (h.own.stored (r.length * 2 + 1) (.int .i64 (p.2 + 1))).1
    rw [hr, twoC_set, ← hr] at this
    rw [hlen, hn]
    exact this
  · rw [Below.heap_setCell _ _ _ _ (by simp; omega)]; exact h.res
  · exact h.bel.setCell (by simp; omega) _
theorem RnSt.next {w wr w2 : World} {gL : Nat} {A A2 : Option Addr} {c c2 : Nat} {l : List Int} {x : Int} {o : Obj} (h : RnSt w wr gL l A c) (hl : l ≠ []) (hx : x ≠ endL l)
    (ho : w2.ownsRow (gL + 1) 130 2 (.slice A2 ((runsL l).length + 1) c2) ((runsL l).length + 1) (twoC .i64 (runsL l ++ [(x - endL l, 1)]))) (hg : (wr.alloc o).grownBy w2 (Value.slice A (runsL l).length c).ownBlock) :
    RnSt w (w2.setCell ⟨gL, 1, none⟩ (.slice A2 ((runsL l).length + 1) c2)) gL (l ++ [x]) A2 c2 := by
  have hlt : gL < wr.heap.size := (Array.getElem?_eq_some_iff.1 h.box).1
  have hlw := h.lt
  have hlw2 : w.heap.size < wr.heap.size := by omega
  have hn : runsL (l ++ [x]) = runsL l ++ [(x - endL l, 1)] := by rw [runsL_snoc, addIx_new _ _ _ (runsL_ne hl) hx]
  have hlen : (runsL (l ++ [x])).length = (runsL l).length + 1 := by rw [hn]; simp
  have hrow : ∀ k, (Value.slice A (runsL l).length c).ownBlock = some k → gL + 1 ≤ k := fun k hk => (h.own.lt k hk).1
  have e1 : ∀ j, j ≤ gL → w2.heap[j]? = wr.heap[j]? := fun j hj => by
    rw [hg.block j (by simp; omega) (fun e => by have := hrow j e.symm; omega), Below.heap_alloc _ _ _ (by omega)]
  refine ⟨?_, ?_, ?_, ?_, hlw⟩
  · rw [heap_set_at ((e1 gL (Nat.le_refl _)).trans h.box), headD_snoc _ _ hl, hlen]; rfl
  · rw [hlen, hn]
    exact ownsRow_setCell_below ho (a := ⟨gL, 1, none⟩) (by simp) _
  · rw [Below.heap_setCell _ _ _ _ (by simp; omega), e1 _ (by omega)]; exact h.res
  · exact ((h.bel.alloc h.bel.size o).grown hg (by have := h.bel.size; simp; omega) (fun k hk => by have := hrow k hk; omega)).setCell (by simp; omega) _
def RnRel (l : List Int) (w : World) (gL : Nat) (e i : Value) (wr : World) : Prop :=
  ∃ (k : Nat) (A : Option Addr) (c : Nat), k ≤ l.length ∧ i = .int .i64 k ∧ e = .int .i64 (endL (l.take k)) ∧ RnSt w wr gL (l.take k) A c

set_option maxHeartbeats 1000000 in
set_option maxRecDepth 100000 in
theorem runs_any (A : Option Addr) (c : Nat) (l : List Int) (w : World) (hS : Cl w A (intsC .i64 l)) (ha : Asc l) (hi : Inb l) (hl : l.length ≤ 10000) :
    Calls Tryz.prog 119 #[.slice A l.length c] w (RunsPost w l) := by
  have HS := Lib.hid hS
  have HI := Lib.hid hi
  have HA := Lib.hid ha
  have HRN := Lib.hid (fun k => (runs_tell (l.take k)))
  clear hS hi ha
  obtain ⟨gL, hgL⟩ : ∃ g, w.heap.size + 1 = g := ⟨_, rfl⟩
  have R0 : Hid (RnRel l w gL (.int .i64 0) (.int .i64 0) ((w.alloc (.cells #[.int .i64 0, .slice none 0 0] 52)).alloc (.cells #[.int .i64 0, .slice none 0 0] 52))) := by
    refine ⟨0, none, 0, by omega, rfl, rfl, ?_, ?_, ?_, ?_, hgL⟩
    · have := heap_alloc_new (w.alloc (.cells #[.int .i64 0, .slice none 0 0] 52)) (.cells #[.int .i64 0, .slice none 0 0] 52)
      rw [← hgL]
      simpa [runsL_nil, fstL] using this
    · simp only [List.take_zero]; exact World.ownsRow_nil _ _ _ _
    · rw [Below.heap_alloc _ _ _ (by simp)]; exact heap_alloc_new w _
    · exact ((Below.refl _ _).alloc (Nat.le_refl _) _).alloc (by simp) _
  have hG := Lib.hid hgL
  clear hgL
  go_enter Tryz.func119, Tryz.ntmps119
  go_wp2_with fail
  simp only [hG.out]
  go_loopw [4, 9] (fun e i wr => RnRel l w gL e i wr) (fun _ i _ => l.length - (intOf i).toNat)
  case atStart => exact R0.out
  case round =>
    obtain ⟨k, A1, c1, hk, rfl, rfl, hst⟩ := hrel
    have HST := Lib.hid hst
    obtain ⟨x0, x1, xf⟩ := box2 hst.box
    have xf0 := xf 0
    have xf1 := xf 1
    have hgl : gL < wr.heap.size := (Array.getElem?_eq_some_iff.1 hst.box).1
    clear hst xf
    by_cases hlt : k < l.length
    · obtain ⟨b, off, rfl, hc⟩ := (HS.out.below HST.out.bel).ints (by omega)
      obtain ⟨x, hx⟩ := getElem?_lt hlt
      have hxc := hc k x hx
      obtain ⟨xb1, xb2⟩ := HI.out x (mem_of_at hx)
      have HTK := Lib.hid (take_snoc l k x hx)
      have hki : (k : Int) < (l.length : Int) := by omega
      by_cases h0 : k = 0
      · have ht0 : l.take k = [] := by rw [h0]; rfl
        have h0' : ((k : Int) == 0) = true := by simp; exact h0
        have HNX := Lib.hid (show RnSt w _ gL (l.take (k + 1)) _ _ from by
          rw [HTK.out, ht0]
          have := HST.out
          rw [ht0] at this
          exact this.first x)
        have HEN := Lib.hid (show endL (l.take (k + 1)) = x + 1 by rw [HTK.out, endL_snoc])
        clear hc hx ht0 h0
        go_wp2_with fail
        go_roundw
        case rel => exact ⟨k + 1, _, _, by omega, by go_num, by rw [HEN.out], HNX.out⟩
        case measure => simp [intOf]; omega
      · have hne : l.take k ≠ [] := fun e => by
          have := List.length_take (i := k) (l := l)
          rw [e] at this; simp at this; omega
        have h0' : ((k : Int) == 0) = false := by simp; exact h0
        obtain ⟨y, hy, hye⟩ := endL_last hne
        have hyb := HI.out y (List.mem_of_mem_take hy)
        have HEN := Lib.hid (show endL (l.take (k + 1)) = x + 1 by rw [HTK.out, endL_snoc])
        obtain ⟨E, hE⟩ : ∃ E, endL (l.take k) = E := ⟨_, rfl⟩
        have HE := Lib.hid hE
        rw [hE] at hye ⊢
        have he1 : -262143 ≤ E := by omega
        have he2 : E ≤ 262145 := by omega
        by_cases hxe : x = E
        · obtain ⟨r, p, hr⟩ := runs_last hne
          have HR := Lib.hid hr
          have hpl := (HRN.out k).2.2.2 p (by rw [hr]; simp)
          have hown := HST.out.own
          have hq : (runsL (l.take k)).length = r.length + 1 := by rw [hr]; simp
          have hrl := runsL_le (l.take k)
          have hrk := List.length_take_le k l
          rw [hq] at hown
          obtain ⟨g, c2, hv, _, _⟩ := hown.form (by omega)
          injection hv with e1 e2 e3
          subst e1
          have hat : (twoC .i64 (runsL (l.take k)))[r.length * 2 + 1]? = some (.int .i64 p.2) := (twoC_at (by rw [hr]; simp)).2
          have hcl := hown.cellAt (r.length * 2 + 1) (by omega)
          rw [hat] at hcl
          have hfz := hown.frozenAt (r.length * 2 + 1)
          have hxe' : (x == E) = true := by simpa using hxe
          have hge : gL + 1 ≤ g := (hown.lt g rfl).1
          have hp2 : p.2 ≤ 100000 := by
            have a := (HRN.out k).2.2.1
            have b := sum_pos (s := r) (fun q hq => (HRN.out k).2.2.2 q (by rw [hr]; simp [hq]))
            rw [hr, lens_snoc] at a
            omega
          obtain ⟨P, hP⟩ : ∃ P, p.2 = P := ⟨_, rfl⟩
          have HNX := Lib.hid (show RnSt w (wr.setCell ⟨g, r.length * 2 + 1, none⟩ (.int .i64 (P + 1))) gL (l.take (k + 1)) (some ⟨g, 0, none⟩) c1 from by
            rw [HTK.out, hxe, ← HE.out, ← hP]
            exact HST.out.more hr hne)
          rw [hP] at hcl hpl hp2
          rw [hq] at x1
          have hr9 : r.length ≤ 100000 := by omega
          clear hc hx hE hye hy hyb hxe hr hown hq hrl hrk e2 e3 hat hP hne
          go_wp2_with fail
          go_roundw
          case rel => exact ⟨k + 1, _, _, by omega, by go_num, by rw [HEN.out], HNX.out⟩
          case measure => simp [intOf]; omega
        · have hxe' : (x == E) = false := by simpa using hxe
          have hl9 : (runsL (l.take k)).length + 1 ≤ 1000000 := by
            have a := runsL_le (l.take k)
            have b := List.length_take (i := k) (l := l)
            omega
          have hge : gL + 1 ≤ wr.heap.size := by have := (Array.getElem?_eq_some_iff.1 HST.out.box).1; omega
          have HNE := Lib.hid (And.intro hne (show x ≠ endL (l.take k) by rw [HE.out]; exact hxe))
          clear hc hx hE hye hy hyb hxe hne
          go_wp2_with (at_builtin; refine app_span rfl _ _ rfl (gL + 1) _ _ _ (runsL (l.take k)) rfl (HST.out.own.alloc _) _ rfl (x - E, 1) (new_two _ _ _ _).1 (new_two _ _ _ _).2 hl9 ?d1 ?_)
          case d1 => simp; omega
          intro A3 c3 w3 ho3 hg3
          have HNX := Lib.hid (show RnSt w (w3.setCell ⟨gL, 1, none⟩ (.slice A3 ((runsL (l.take k)).length + 1) c3)) gL (l.take (k + 1)) A3 c3 from by
            rw [HTK.out]
            exact HST.out.next HNE.out.1 HNE.out.2 (by rw [HE.out]; exact ho3) hg3)
          have hk3 := keep_app HST.out.own HST.out.box (by decide) hg3
          obtain ⟨z0, z1, zf⟩ := box2 hk3
          have zf1 := zf 1
          clear ho3 hg3 hk3 zf
          go_wp2_with fail
          go_roundw
          case rel => exact ⟨k + 1, _, _, by omega, by go_num, by rw [HEN.out], HNX.out⟩
          case measure => simp [intOf]; omega
    · obtain rfl : k = l.length := by omega
      have hki : ¬ ((l.length : Int) < (l.length : Int)) := by omega
      rw [List.take_length] at HST x0 x1
      obtain ⟨z0, z1, zf⟩ := box2 HST.out.res
      have zf0 := zf 0
      have zf1 := zf 1
      have hgz : w.heap.size ≠ gL := by have := HST.out.lt; omega
      clear zf
      have HEND := Lib.hid (show RunsPost w l (.returned (.agg #[.int .i64 (fstL l), .slice A1 (runsL l).length c1])) ((wr.setCell ⟨w.heap.size, 0, none⟩ (.int .i64 (fstL l))).setCell ⟨w.heap.size, 1, none⟩ (.slice A1 (runsL l).length c1)) from by
        have hlw := HST.out.lt
        refine ⟨A1, c1, rfl, ?_, fun a ha => ?_, ?_⟩
        · exact own_cl (ownsRow_setCell_below (ownsRow_setCell_below HST.out.own (a := ⟨w.heap.size, 0, none⟩) (by simp; omega) _) (a := ⟨w.heap.size, 1, none⟩) (by simp; omega) _)
        · subst ha; have := (HST.out.own.lt a.block rfl).1; omega
        · exact (HST.out.bel.setCell (Nat.le_refl _) _).setCell (Nat.le_refl _) _)
      obtain ⟨F, hF⟩ : ∃ F, fstL l = F := ⟨_, rfl⟩
      obtain ⟨M, hM⟩ : ∃ M, (runsL l).length = M := ⟨_, rfl⟩
      rw [hF] at x0
      rw [hM] at x1
      rw [hF, hM] at HEND
      clear hF hM
      go_wp2_with fail
      exact bodyPost_ret (v := .agg #[.int .i64 F, .slice A1 M c1]) (by simp [results, Tryz.results119, go_sem, z0, z1]) rfl HEND.out
end Go.Proofs.YtakomfnajeolcaaGreatDoor.Tk


/- The contract of Of. -/
namespace Go.Proofs.YtakomfnajeolcaaGreatDoor.Tk
open Go.RowKit Go.Sort
set_option linter.unusedVariables false

theorem infoU : (Tryz.prog.info? 36).map (fun i => (i.zero, i.size, i.bytes)) = some (some (.int .u64 0), 1, 8) := by kernel_rfl
/-- make of so many numbers -/
theorem make_int (n : Nat) (hn : n ≤ 1000000) (w : World) : (Instr.makeSlice 72 (.int .i64 (n : Int)) (.int .i64 (n : Int))).run Tryz.prog w = .ok (.slice (some ⟨w.heap.size, 0, none⟩) n n) (w.alloc (.cells (madeCells #[.int .i64 0] n) 3)) := by
  obtain ⟨i0, hi, hz0, hz1, hz2⟩ := info_parts infoI
  have hr := run_make (P := Tryz.prog) w 72 3 i0 (.int .i64 0) Tryz.underlying72 hi hz0 .i64 .i64 n n (by omega) (Int.le_refl _) (by rw [hz2]; omega) (by omega)
  simp only [Int.toNat_natCast, hz1, Nat.mul_one] at hr
  exact hr
theorem make_u64 (n : Nat) (hn : n ≤ 1000000) (w : World) : (Instr.makeSlice 64 (.int .i64 (n : Int)) (.int .i64 (n : Int))).run Tryz.prog w = .ok (.slice (some ⟨w.heap.size, 0, none⟩) n n) (w.alloc (.cells (madeCells #[.int .u64 0] n) 36)) := by
  obtain ⟨i0, hi, hz0, hz1, hz2⟩ := info_parts infoU
  have hr := run_make (P := Tryz.prog) w 64 36 i0 (.int .u64 0) Tryz.underlying64 hi hz0 .i64 .i64 n n (by omega) (Int.le_refl _) (by rw [hz2]; omega) (by omega)
  simp only [Int.toNat_natCast, hz1, Nat.mul_one] at hr
  exact hr
theorem made_own (k : IntKind) (t : TypeId) (n : Nat) (hn : n ≤ 1000000) (w : World) (B : Nat) (hB : B ≤ w.heap.size) : (w.alloc (.cells (madeCells #[.int k 0] n) t)).ownsRow B t 1 (.slice (some ⟨w.heap.size, 0, none⟩) n n) n (intsC k (List.replicate n 0)) := by
  have := World.ownsRow_lit (base := B) (size := 1) (e := t) w (madeCells #[.int k 0] n) n hB (by unfold maxLen; omega) (by simp [size_madeCells])
  rw [toList_madeCells_one] at this
  simpa [intsC] using this
/-- the numbers that are laid so far, and zeros -/
def doneL (xs : List Int) (n : Nat) : List Int := xs ++ List.replicate (n - xs.length) 0
theorem doneL_nil (n : Nat) : doneL [] n = List.replicate n 0 := by simp [doneL]
theorem doneL_all (xs : List Int) (n : Nat) (h : xs.length = n) : doneL xs n = xs := by simp [doneL, h]
theorem doneL_set (k : IntKind) (xs : List Int) (n : Nat) (x : Int) (h : xs.length < n) : (intsC k (doneL xs n)).set xs.length (.int k x) = intsC k (doneL (xs ++ [x]) n) := by
  unfold doneL
  rw [intsC_append, List.set_append_right _ _ (by rw [intsC_length]; omega), intsC_length, Nat.sub_self]
  obtain ⟨m, hm⟩ : ∃ m, n - xs.length = m + 1 := ⟨n - xs.length - 1, by omega⟩
  rw [hm, show n - (xs ++ [x]).length = m by simp; omega]
  simp [intsC, List.replicate_succ]
/-- a cell of a row that is laid one by one -/
theorem done_cell {w : World} {B g n c : Nat} {k : IntKind} {t : TypeId} {xs : List Int} (h : w.ownsRow B t 1 (.slice (some ⟨g, 0, none⟩) n c) n (intsC k (doneL xs n))) (hx : xs.length < n) : w.cell? ⟨g, xs.length, none⟩ = some (.int k 0) ∧ w.frozen? ⟨g, xs.length, none⟩ = false := by
  refine ⟨?_, h.frozenAt _⟩
  rw [h.cellAt xs.length (by omega)]
  refine intsC_at ?_
  unfold doneL
  rw [List.getElem?_append_right (Nat.le_refl _), Nat.sub_self]
  obtain ⟨m, hm⟩ : ∃ m, n - xs.length = m + 1 := ⟨n - xs.length - 1, by omega⟩
  rw [hm, List.replicate_succ]
  rfl
/-- the indices of buckets -/
def idsL (l : List (Int × Int)) : List Int := l.map (·.1)
theorem runs_at (A : Option Addr) (n c : Nat) (l : List Int) (w : World) (hn : n = l.length) (hS : Cl w A (intsC .i64 l)) (ha : Asc l) (hi : Inb l) (hl : l.length ≤ 10000) :
    Calls Tryz.prog 119 #[.slice A n c] w (RunsPost w l) := by
  subst hn
  exact runs_any A c l w hS ha hi hl
def OfRel (l : List (Int × Int)) (w : World) (g : Nat) (i : Value) (wr : World) : Prop :=
  ∃ k : Nat, k ≤ l.length ∧ i = .int .i64 k ∧ wr.ownsRow w.heap.size 3 1 (.slice (some ⟨g, 0, none⟩) l.length l.length) l.length (intsC .i64 (doneL ((idsL l).take k) l.length)) ∧
    wr.heap[w.heap.size]? = some (.cells #[.int .i64 0, .slice none 0 0] 52 (0, 0)) ∧ Below w.heap.size w wr
set_option maxHeartbeats 1000000 in
set_option maxRecDepth 100000 in
theorem of_any (A : Option Addr) (c : Nat) (l : List (Int × Int)) (w : World) (hS : Cl w A (twoC .u64 l)) (ha : Asc (idsL l)) (hi : Inb (idsL l)) (hl : l.length ≤ 10000) :
    Calls Tryz.prog 104 #[.slice A l.length c] w (RunsPost w (idsL l)) := by
  have HS := Lib.hid hS
  have HI := Lib.hid (And.intro ha hi)
  have hlen : (idsL l).length = l.length := by simp [idsL]
  have HLEN := Lib.hid hlen
  have hmk := make_int l.length (by omega)
  obtain ⟨g, hg⟩ : ∃ g, w.heap.size + 1 = g := ⟨_, rfl⟩
  obtain ⟨W0, hW0⟩ : ∃ W, (w.alloc (.cells #[.int .i64 0, .slice none 0 0] 52)).alloc (.cells (madeCells #[.int .i64 0] l.length) 3) = W := ⟨_, rfl⟩
  have R0 : Hid (OfRel l w g (.int .i64 0) W0) := by
    refine ⟨0, by omega, rfl, ?_, ?_, ?_⟩
    · have := made_own .i64 3 l.length (by omega) (w.alloc (.cells #[.int .i64 0, .slice none 0 0] 52)) w.heap.size (by simp)
      rw [List.take_zero, doneL_nil, ← hW0, ← hg]
      simpa using this
    · rw [← hW0, Below.heap_alloc _ _ _ (by simp)]; exact heap_alloc_new w _
    · rw [← hW0]; exact ((Below.refl _ _).alloc (Nat.le_refl _) _).alloc (by simp) _
  have hWW := Lib.hid hW0
  have hGG := Lib.hid hg
  clear hS ha hi hlen hg hW0
  go_enter Tryz.func104, Tryz.ntmps104
  go_wp2_with fail
  simp only [hGG.out]
  rw [hWW.out]
  clear hmk
  go_loopw [11] (fun i wr => OfRel l w g i wr) (fun i _ => l.length - (intOf i).toNat)
  case atStart => exact R0.out
  case round =>
    obtain ⟨k, hk, rfl, ho, hbx, hb⟩ := hrel
    have HO := Lib.hid ho
    have HBX := Lib.hid hbx
    have HB := Lib.hid hb
    by_cases hlt : k < l.length
    · obtain ⟨b, off, rfl, hc⟩ := (HS.out.below hb).twos (by omega)
      obtain ⟨p, hp⟩ := getElem?_lt hlt
      obtain ⟨q1, q2⟩ := hc k p hp
      have htl : ((idsL l).take k).length = k := by rw [List.length_take, HLEN.out]; omega
      obtain ⟨d1, d2⟩ := done_cell ho (by rw [htl]; exact hlt)
      have hst := (ho.stored ((idsL l).take k).length (.int .i64 p.1)).1
      rw [doneL_set _ _ _ _ (by rw [htl]; exact hlt), ← take_snoc (idsL l) k p.1 (by simp [idsL, hp])] at hst
      rw [htl] at d1 d2 hst
      have hkg : k < l.length := hlt
      have hgb := (ho.lt g rfl)
      have HNX := Lib.hid (show OfRel l w g (.int .i64 ((k + 1 : Nat) : Int)) ((wr.setCell ⟨g, k, none⟩ (.int .i64 p.1)).alloc (.cells #[.int .i64 p.1, .int .u64 p.2] 86)) from
        ⟨k + 1, hlt, rfl, hst.alloc _, by
          rw [Below.heap_alloc _ _ _ (by have := hb.size; simp; have := (Array.getElem?_eq_some_iff.1 hbx).1; omega), Below.heap_setCell _ _ _ _ (by
            intro e
            have h1 := own_ne ho hbx (by decide)
            exact h1 (by simp [Value.ownBlock]; exact e.symm))]
          exact hbx, (hb.setCell hgb.1 _).alloc (by have := hb.size; simp; omega) _⟩)
      obtain ⟨pi, pc⟩ := p
      simp only at q1 q2 HNX
      have hki : (k : Int) < (l.length : Int) := by omega
      have hglt := hgb.2
      clear hc hp htl hst hgb ho hbx hb
      go_wp2_with fail
      go_roundw
      case rel => exact HNX.out
      case measure => simp [intOf]; omega
    · obtain rfl : k = l.length := by omega
      have hki : ¬ ((l.length : Int) < (l.length : Int)) := by omega
      have hall : doneL ((idsL l).take l.length) l.length = idsL l := by
        rw [List.take_of_length_le (by rw [HLEN.out]; exact Nat.le_refl _)]
        exact doneL_all _ _ HLEN.out
      have hcl := own_cl ho
      rw [hall] at hcl
      have HCL := Lib.hid hcl
      clear hcl hall ho hbx hb HO
      go_wp2_with fail
      refine (runs_at _ _ _ (idsL l) wr HLEN.out.symm HCL.out HI.out.1 HI.out.2 (by rw [HLEN.out]; exact hl)).mono ?_
      rintro e w2 ⟨A2, c2, rfl, hly, hnw, hb2⟩
      have hgw : w.heap.size < wr.heap.size := (Array.getElem?_eq_some_iff.1 HBX.out).1
      obtain ⟨z0, z1, zf⟩ := box2 ((hb2.block w.heap.size hgw).trans HBX.out)
      have zf0 := zf 0
      have zf1 := zf 1
      obtain ⟨F, hF⟩ : ∃ F, fstL (idsL l) = F := ⟨_, rfl⟩
      obtain ⟨M, hM⟩ : ∃ M, (runsL (idsL l)).length = M := ⟨_, rfl⟩
      have HEND := Lib.hid (show RunsPost w (idsL l) (.returned (.agg #[.int .i64 F, .slice A2 M c2])) ((w2.setCell ⟨w.heap.size, 0, none⟩ (.int .i64 F)).setCell ⟨w.heap.size, 1, none⟩ (.slice A2 M c2)) from by
        rw [← hF, ← hM]
        refine ⟨A2, c2, rfl, ?_, hnw.mono HB.out.size, ?_⟩
        · exact Cl.set (Cl.set hly (p := ⟨w.heap.size, 0, none⟩) (fun a ha => by have := hnw a ha; simp; omega) _) (p := ⟨w.heap.size, 1, none⟩) (fun a ha => by have := hnw a ha; simp; omega) _
        · exact ((HB.out.trans (hb2.mono HB.out.size)).setCell (Nat.le_refl _) _).setCell (Nat.le_refl _) _)
      rw [hF, hM]
      clear hly hnw hb2 zf hF hM
      go_wp2_with fail
      exact bodyPost_ret (v := .agg #[.int .i64 F, .slice A2 M c2]) (by simp [results, Tryz.results104, go_sem, z0, z1]) rfl HEND.out
end Go.Proofs.YtakomfnajeolcaaGreatDoor.Tk


/- The contracts of slices.Equal at runs, and of Same. -/
namespace Go.Proofs.YtakomfnajeolcaaGreatDoor.Tk
open Go.RowKit Go.Sort
set_option linter.unusedVariables false

def eqL (P Q : List (Int × Int)) : Bool := decide (P = Q)
theorem eqL_len {P Q : List (Int × Int)} (h : P.length ≠ Q.length) : eqL P Q = false := by
  unfold eqL
  rw [decide_eq_false_iff_not]
  intro e
  exact h (by rw [e])
theorem eqL_at {P Q : List (Int × Int)} {k : Nat} {p q : Int × Int} (hp : P[k]? = some p) (hq : Q[k]? = some q) (h : p ≠ q) : eqL P Q = false := by
  unfold eqL
  rw [decide_eq_false_iff_not]
  intro e
  rw [e, hq] at hp
  exact h (by simpa using hp.symm)
theorem take_both {P Q : List (Int × Int)} {k : Nat} {p : Int × Int} (hp : P[k]? = some p) (hq : Q[k]? = some p) (h : P.take k = Q.take k) : P.take (k + 1) = Q.take (k + 1) := by
  rw [take_snoc P k p hp, take_snoc Q k p hq, h]
def EqRel (P Q : List (Int × Int)) (w : World) (i : Value) (wr : World) : Prop := ∃ k : Nat, k ≤ P.length ∧ i = .int .i64 k ∧ P.take k = Q.take k ∧ ∃ q, wr = w.drewN q

/-- two layouts are one -/
def sameB (l m : List Int) : Bool := decide (l = m)
end Go.Proofs.YtakomfnajeolcaaGreatDoor.Tk
