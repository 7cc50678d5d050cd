/- Numbers by size; which blocks' numbers: Within, Below. -/
import Derived.Test.YtpfceebmiolpeaaPlC
import Derived.Test.YtpfceebmiolpeaaShelfS
import Derived.Deep.RegionLaw
namespace Go.Proofs.Ytpfceebmiolpeaa.Pl
open Go.RowKit Go.Sort
set_option linter.unusedVariables false

theorem own_holds {w : World} {base g c n : Nat} {X : List Int} (h : w.ownsRow base 3 1 (.slice (some ⟨g, 0, none⟩) n c) n (intsC .i64 X)) : Holds (Value.int .i64) w g 0 X.toArray := by
  have hn := h.1
  rw [intsC_length] at hn
  intro j hj
  have hj' : j < X.length := by simpa using hj
  refine ⟨?_, by rw [Nat.zero_add]; exact h.frozenAt j⟩
  rw [Nat.zero_add, h.cellAt j (by omega), intsC_at (List.getElem?_eq_getElem hj'), getElem!_pos X.toArray j hj]
  simp
theorem puti_heap {w : World} {g n : Nat} {os : Array Obj} {cur : Array Value} {e : TypeId} {fr : Nat × Nat} (F : Array Int) (hb : w.heap[g]? = some (.cells cur e fr)) :
    (grow (putRow (Value.int .i64) (Sort.ahead w n) g 0 F) os).heap[g]? = some (.cells (putCells (Value.int .i64) 0 F cur) e fr) := by
  have hg : g < w.heap.size := (Array.getElem?_eq_some_iff.1 hb).1
  rw [heap_grow_old _ _ (by simpa using hg)]
  simp [putRow, mapBlock, Sort.ahead, Array.getElem?_modify, hb, onCells]
theorem puti_grown {w : World} {g n : Nat} {os : Array Obj} (F : Array Int) : w.grownBy (grow (putRow (Value.int .i64) (Sort.ahead w n) g 0 F) os) (some g) := by
  refine ⟨rfl, rfl, rfl, by simp, fun k hk hne => ?_⟩
  rw [heap_grow_old _ _ (by simpa using hk)]
  have : g ≠ k := fun e => hne (by rw [e])
  simp [putRow, mapBlock, Sort.ahead, Array.getElem?_modify, this]
theorem puti_take (cur : Array Value) (F : Array Int) (h : F.size ≤ cur.size) : (putCells (Value.int .i64) 0 F cur).toList.take F.size = intsC .i64 F.toList := by
  apply List.ext_getElem?
  intro j
  by_cases hj : j < F.size
  · rw [List.getElem?_take_of_lt hj, Array.getElem?_toList, intsC_at (x := F[j]!) (by rw [Array.getElem?_toList, getElem!_pos F j hj]; simp [hj])]
    simp [putCells, hj, show j < cur.size by omega]
  · rw [List.getElem?_take_eq_none (by omega), List.getElem?_eq_none (by rw [intsC_length]; simp; omega)]
theorem puti_own {w : World} {base g c n q m : Nat} {os : Array Obj} {X : List Int} (h : w.ownsRow base 3 1 (.slice (some ⟨g, 0, none⟩) n c) n (intsC .i64 X)) (F : List Int) (hF : F.length = n) :
    (grow (putRow (Value.int .i64) (Sort.ahead w q) g 0 F.toArray) os).ownsRow base 3 1 (.slice (some ⟨g, 0, none⟩) n c) n (intsC .i64 F) := by
  rcases h.2 with ⟨h', _⟩ | ⟨g', cap', cur, hv, hb, hg, hnc, hcm, hcs, htake⟩
  · simp at h'
  · simp only [Value.slice.injEq, Option.some.injEq, Addr.mk.injEq, and_true, true_and] at hv
    obtain ⟨rfl, rfl⟩ := hv
    refine ⟨by rw [intsC_length]; omega, .inr ⟨g, c, _, rfl, hb, puti_heap _ hg, hnc, hcm, by simp [putCells, hcs], ?_⟩⟩
    have := puti_take cur F.toArray (by simp; omega)
    simpa [hF] using this
theorem merge_srt (X : List Int) : (X.mergeSort fun x y => decide (x ≤ y)) = srt X := by
  refine srt_of (List.mergeSort_perm _ _) ?_
  have := List.pairwise_mergeSort (le := fun x y : Int => decide (x ≤ y)) (fun a b c h1 h2 => by simp at *; omega) (fun a b => by simp; omega) X
  simpa using this
theorem sortI_any (base n c : Nat) (A : Option Addr) (X : List Int) (w : World) (h : w.ownsRow base 3 1 (.slice A n c) n (intsC .i64 X)) (hn : n = X.length) (hX : X.length ≤ 1000000) :
    Calls Try.prog 48 #[.slice A n c] w fun e w' => e = .returned (.tuple #[]) ∧ w'.ownsRow base 3 1 (.slice A n c) n (intsC .i64 (srt X)) ∧ w.grownBy w' (Value.slice A n c).ownBlock := by
  subst hn
  rw [← merge_srt]
  by_cases h0 : X.length = 0
  · have hX0 : X = [] := List.eq_nil_of_length_eq_zero h0
    subst hX0
    refine (Try.slices_Sort_int_none A c w).mono ?_
    rintro e w' ⟨rfl, rfl⟩
    exact ⟨rfl, by simpa using h, World.grownBy.refl _ _⟩
  · obtain ⟨g, c', hv, _, _⟩ := h.form (by omega)
    injection hv with e1 e2 e3
    subst e1
    have hlt := (h.lt g rfl).2
    refine (Try.slices_Sort_int g 0 c X w (own_holds h) hlt (by omega)).mono ?_
    rintro e w' ⟨rfl, q, os, rfl⟩
    exact ⟨rfl, puti_own (m := 0) h _ (List.length_mergeSort _), puti_grown _⟩

/-- a test of an item: what a closure says -/
def Tests (w0 : World) (f : Nat) (lb : Array Value) (p : It → Bool) : Prop := ∀ (x : It) (w : World), RightI x → Below w0.heap.size w0 w → Calls Try.prog f (#[.agg (itA x)] ++ lb) w fun e w' => e = .returned (.bool (p x)) ∧ Below w.heap.size w w'
def IRel (w : World) (X : List Int) (v : Value) (wr : World) : Prop := ∃ (A : Option Addr) (n c : Nat), v = .slice A n c ∧ wr.ownsRow w.heap.size 3 1 (.slice A n c) n (intsC .i64 X) ∧ Below w.heap.size w wr
set_option maxHeartbeats 2000000 in
theorem numbers_any (A : Option Addr) (n c : Nat) (l : List It) (f : Nat) (a1 : Value) (p : It → Bool) (lb : Array Value) (hlb : lb.size ≤ 2) (w : World) (hn : n = l.length) (h : Cl w A (fC itA l)) (hr : ∀ x ∈ l, RightI x) (hl : l.length ≤ 1000) (hf : Tests w f lb p)
    (ef : ∀ args w, (callFunc f args).run Try.prog w = .ok (.enter f args) w) :
    Calls Try.prog 34 #[.slice A n c, .func (.func f) #[] lb] w fun e w' => ∃ v, e = .returned v ∧ IntP w (srt ((l.filter p).map It.q)) v w' := by
  subst hn
  have HL := Lib.hid h
  have HF := Lib.hid hf
  have HR := Lib.hid hr
  clear h hf hr
  go_enter Try.func34, Try.ntmps34
  go_wp2_with fail
  go_loopw [5, 10] (fun v i wr => ∃ k : Nat, k ≤ l.length ∧ i = .int .i64 k ∧ Hid (IRel w (((l.take k).filter p).map It.q) v wr)) (fun _ i _ => l.length - (intOf i).toNat)
  case atStart => exact ⟨0, by omega, rfl, Lib.hid ⟨none, 0, 0, rfl, own_nil _ _ _ _, Below.refl _ _⟩⟩
  case round =>
    obtain ⟨k, hk, rfl, HRl⟩ := hrel
    obtain ⟨B, m, d, rfl, hown, hb⟩ := HRl.out
    by_cases hlt : k < l.length
    · have hki : (k : Int) < (l.length : Int) := by omega
      obtain ⟨x, hx⟩ := getElem?_lt hlt
      obtain ⟨b, off, rfl, hcell⟩ := (HL.out.below hb).its (by omega)
      obtain ⟨q0, q1, q2, q3⟩ := hcell k x hx
      have hm := own_lenI hown
      have hml : m ≤ k := by
        rw [hm, List.length_map]
        have h1 := List.length_filter_le p (l.take k)
        rw [List.length_take] at h1
        omega
      have HT := Lib.hid (show ((l.take (k + 1)).filter p).map It.q = ((l.take k).filter p).map It.q ++ if p x then [x.q] else [] by
        rw [take_snoc l k x hx, List.filter_append, List.map_append, List.filter_cons]
        cases p x <;> rfl)
      have HC := Lib.hid (fun (wx : World) hbx => HF.out x wx (HR.out x (mem_of_at hx)) hbx)
      obtain ⟨z, hz⟩ : ∃ z, p x = z := ⟨_, rfl⟩
      rw [hz] at HT HC
      have HO := Lib.hid (own_below hown ((Below.refl _ _).alloc (Nat.le_refl _) (.cells (itA x) 78)))
      have HB := Lib.hid (hb.alloc hb.size (.cells (itA x) 78))
      have HX := Lib.hid (heap_alloc_new wr (.cells (itA x) 78))
      obtain ⟨y0, y1, y2, y3⟩ := box4 HX.out
      have hlt2 : wr.heap.size < (wr.alloc (.cells (itA x) 78)).heap.size := by simp
      unfold itA at y0 y1 y2 y3
      clear hcell hx hown hb hm HRl hz
      go_wp2_with fail
      refine (HC.out _ HB.out).mono ?_
      rintro e w2 ⟨rfl, hb2⟩
      have HO2 := Lib.hid (own_below HO.out hb2)
      have HB2 := Lib.hid (HB.out.trans (hb2.mono HB.out.size))
      have x0 := cell_below y0 hb2
      clear y0 y1 y2 y3 hb2 q0 q1 q2 q3
      cases z with
      | true =>
        have HT' := Lib.hid (show ((l.take (k + 1)).filter p).map It.q = ((l.take k).filter p).map It.q ++ [x.q] from HT.out)
        go_wp2_with (at_builtin; refine put_int (W := w) rfl _ _ rfl w.heap.size B m d (((l.take k).filter p).map It.q) rfl HO2.out HB2.out HB2.out.size (by omega) w2.heap.size rfl rfl x.q ?_; intro A2 c2 w3 hown3 hb3 hw3; rw [← HT'.out] at hown3; have HR3 := Lib.hid (show IRel w (((l.take (k + 1)).filter p).map It.q) (.slice A2 (m + 1) c2) w3 from ⟨A2, m + 1, c2, rfl, hown3, hb3⟩); clear hown3 hb3 hw3)
        go_roundw
        case rel => exact ⟨k + 1, by omega, by go_num, HR3⟩
        case measure => simp [intOf]; omega
      | false =>
        rw [if_neg (by simp), List.append_nil] at HT
        have HR3 := Lib.hid (show IRel w (((l.take (k + 1)).filter p).map It.q) (.slice B m d) w2 from ⟨B, m, d, rfl, by rw [HT.out]; exact HO2.out, HB2.out⟩)
        go_wp2_with fail
        go_roundw
        case rel => exact ⟨k + 1, by omega, by go_num, HR3⟩
        case measure => simp [intOf]; omega
    · obtain rfl : k = l.length := by omega
      have hki : ¬ ((l.length : Int) < (l.length : Int)) := by omega
      rw [List.take_length] at hown
      have hm := own_lenI hown
      have hml : m ≤ 1000 := by
        rw [hm, List.length_map]
        exact Nat.le_trans (List.length_filter_le p l) hl
      have HS := Lib.hid (sortI_any w.heap.size m d B _ wr hown hm (by rw [← hm]; omega))
      have HO := Lib.hid hown
      have HB := Lib.hid hb
      have HM := Lib.hid hm
      clear hown hb HRl hm
      go_wp2_with fail
      refine HS.out.mono ?_
      rintro e w2 ⟨rfl, ho2, hg2⟩
      have hm2 := Lib.hid (show m = (srt ((l.filter p).map It.q)).length by rw [srt_length]; exact HM.out)
      have HE := Lib.hid (show IntP w (srt ((l.filter p).map It.q)) (.slice B m d) w2 from ⟨B, d, by rw [← hm2.out], by rw [← hm2.out]; exact ho2, HB.out.grown hg2 HB.out.size (fun k hk => (HO.out.lt k hk).1)⟩)
      clear ho2 hg2
      go_wp2_with fail
      go_ret
      exact ⟨_, rfl, HE.out⟩
/-- the closure of Below -/
theorem belowC (w0 : World) (g : Nat) (mark : Int) (h : w0.cell? ⟨g, 0, none⟩ = some (.int .i64 mark)) : Tests w0 35 #[.pointer (some ⟨g, 0, none⟩)] (fun x => decide (x.hi ≤ mark)) := by
  intro x w hx hb
  have c0 := cell_below (cell_below h hb) ((Below.refl w.heap.size w).alloc (Nat.le_refl _) (.cells (itA x) 78))
  have hb1 : Below w.heap.size w (w.alloc (.cells (itA x) 78)) := (Below.refl _ _).alloc (Nat.le_refl _) _
  unfold itA at c0 hb1 ⊢
  go_enter Try.func35, Try.ntmps35
  go_wp2_with fail
  go_ret
  exact ⟨rfl, hb1⟩
theorem within_add {x : It} {low k : Int} (hx : RightI x) (h1 : -4611686018427387904 ≤ low) (h2 : low ≤ 4611686018427387904) : wrap64 (low + wd k) = low + wd k := by
  have := wd_pos k
  exact IntWalk.wrap64_in _ ⟨by omega, by omega⟩
/-- the closure of Within -/
theorem withinC (w0 : World) (g h : Nat) (low k : Int) (hk : I64 k) (h1 : -9223372036854775808 ≤ low) (c1 : w0.cell? ⟨g, 0, none⟩ = some (.int .i64 low)) (c2 : w0.cell? ⟨h, 0, none⟩ = some (.int .i64 k)) : Tests w0 36 #[.pointer (some ⟨g, 0, none⟩), .pointer (some ⟨h, 0, none⟩)] (inB k low) := by
  intro x w hx hb
  have d1 := cell_below (cell_below c1 hb) ((Below.refl w.heap.size w).alloc (Nat.le_refl _) (.cells (itA x) 78))
  have d2 := cell_below (cell_below c2 hb) ((Below.refl w.heap.size w).alloc (Nat.le_refl _) (.cells (itA x) 78))
  have hb1 : Below w.heap.size w (w.alloc (.cells (itA x) 78)) := (Below.refl _ _).alloc (Nat.le_refl _) _
  obtain ⟨y0, y1, y2, y3⟩ := box4 (heap_alloc_new w (.cells (itA x) 78))
  have HB := Lib.hid hb1
  have HWD := Lib.hid (fun w => width_any k hk w)
  unfold itA at d1 d2 y0 y1 y2 y3 ⊢
  clear hb1
  by_cases hlo : low ≤ x.lo
  · have HWR := Lib.hid (within_add (x := x) (k := k) hx (show -4611686018427387904 ≤ max low (-4611686018427387904) by omega))
    obtain ⟨s, hs⟩ : ∃ s, wrap64 (low + wd k) = s := ⟨_, rfl⟩
    have HE := Lib.hid (show decide (x.hi ≤ s) = inB k low x by
      have h2 := hx.o1; have h3 := hx.hi; have h4 := wd_pos x.lv; have h5 := wd_pos k
      unfold inB
      by_cases hl : -4611686018427387904 ≤ low
      · have e := within_add (x := x) (k := k) hx hl (by omega)
        rw [← hs, e]
        simp [hlo]
      · have e : wrap64 (low + wd k) = low + wd k := IntWalk.wrap64_in _ ⟨by omega, by omega⟩
        rw [← hs, e]
        simp [hlo])
    obtain ⟨d, hd⟩ : ∃ d, wd k = d := ⟨_, rfl⟩
    simp only [hd] at HWD hs
    have hs' : wrap64 (low + d) = s := hs
    clear hs hd HWR
    go_enter Try.func36, Try.ntmps36
    go_wp2_with fail
    go_quiet (first | (go_at_call 11; refine Calls.quiet_of_same ((HWD.out _).mono fun e w' h => ⟨h.1, h.2.symm⟩)))
    go_wp2_with fail
    go_ret
    exact ⟨ret_bool HE.out, below_drewN HB.out _⟩
  · have hlo' : decide (low ≤ x.lo) = false := by simpa using hlo
    have HE := Lib.hid (show false = inB k low x by unfold inB; simp [hlo])
    go_enter Try.func36, Try.ntmps36
    go_wp2_with fail
    go_quiet (fail)
    go_wp2_with fail
    go_ret
    exact ⟨ret_bool HE.out, below_drewN HB.out _⟩
theorem IntP.from_ {w w1 w' : World} {X : List Int} {v : Value} (h : IntP w1 X v w') (hb : Below w.heap.size w w1) : IntP w X v w' := by
  obtain ⟨A, c, rfl, h1, h2⟩ := h
  exact ⟨A, c, rfl, own_base h1 hb.size, hb.trans (h2.mono hb.size)⟩
set_option maxRecDepth 100000 in
theorem within_any (A : Option Addr) (n c : Nat) (l : List It) (k low : Int) (w : World) (hn : n = l.length) (h : Cl w A (fC itA l)) (hr : ∀ x ∈ l, RightI x) (hl : l.length ≤ 1000) (hk : I64 k) (h1 : -9223372036854775808 ≤ low) :
    Calls Try.prog 22 #[.slice A n c, .int .i64 k, .int .i64 low] w fun e w' => ∃ v, e = .returned v ∧ IntP w (withinF l k low) v w' := by
  subst hn
  obtain ⟨W1, hW1⟩ : ∃ W1, w.alloc (.cells #[.int .i64 k] 3) = W1 := ⟨_, rfl⟩
  obtain ⟨W2, hW2⟩ : ∃ W2, W1.alloc (.cells #[.int .i64 low] 2) = W2 := ⟨_, rfl⟩
  obtain ⟨g, hg⟩ : ∃ g, w.heap.size = g := ⟨_, rfl⟩
  have hz1 : W1.heap.size = g + 1 := by rw [← hW1, ← hg]; simp
  have b1 : Below w.heap.size w W1 := hW1 ▸ (Below.refl _ _).alloc (Nat.le_refl _) _
  have b12 : Below W1.heap.size W1 W2 := hW2 ▸ (Below.refl _ _).alloc (Nat.le_refl _) _
  have hb2 : Below w.heap.size w W2 := b1.trans (b12.mono b1.size)
  have x1 : W1.heap[g]? = some (.cells #[.int .i64 k] 3 (0, 0)) := hg ▸ hW1 ▸ heap_alloc_new w _
  have x2 : W2.heap[g + 1]? = some (.cells #[.int .i64 low] 2 (0, 0)) := hz1 ▸ hW2 ▸ heap_alloc_new W1 _
  have HC := Lib.hid (numbers_any A l.length c l 36 undef (inB k low) #[.pointer (some ⟨g + 1, 0, none⟩), .pointer (some ⟨g, 0, none⟩)] (by simp) W2 rfl (h.below hb2) hr hl (withinC W2 (g + 1) g low k hk h1 (box1 x2).1 (cell_below (box1 x1).1 b12)) (enters_of Try.func36 (by kernel_rfl) rfl))
  have HB := Lib.hid hb2
  clear b1 b12 hb2 x1 x2 h hr hz1
  subst hW2 hW1 hg
  go_enter Try.func22, Try.ntmps22
  go_wp2_with fail
  refine HC.out.mono ?_
  rintro e w3 ⟨v, rfl, hp⟩
  have HP := Lib.hid (hp.from_ HB.out)
  clear hp
  go_wp2_with fail
  go_ret
  exact ⟨_, rfl, HP.out⟩
set_option maxRecDepth 100000 in
theorem below_any (A : Option Addr) (n c : Nat) (l : List It) (mark : Int) (w : World) (hn : n = l.length) (h : Cl w A (fC itA l)) (hr : ∀ x ∈ l, RightI x) (hl : l.length ≤ 1000) :
    Calls Try.prog 21 #[.slice A n c, .int .i64 mark] w fun e w' => ∃ v, e = .returned v ∧ IntP w (srt ((l.filter fun x => decide (x.hi ≤ mark)).map It.q)) v w' := by
  subst hn
  obtain ⟨W1, hW1⟩ : ∃ W1, w.alloc (.cells #[.int .i64 mark] 2) = W1 := ⟨_, rfl⟩
  obtain ⟨g, hg⟩ : ∃ g, w.heap.size = g := ⟨_, rfl⟩
  have b1 : Below w.heap.size w W1 := hW1 ▸ (Below.refl _ _).alloc (Nat.le_refl _) _
  have x1 : W1.heap[g]? = some (.cells #[.int .i64 mark] 2 (0, 0)) := hg ▸ hW1 ▸ heap_alloc_new w _
  have HC := Lib.hid (numbers_any A l.length c l 35 undef (fun x => decide (x.hi ≤ mark)) #[.pointer (some ⟨g, 0, none⟩)] (by simp) W1 rfl (h.below b1) hr hl (belowC W1 g mark (box1 x1).1) (enters_of Try.func35 (by kernel_rfl) rfl))
  have HB := Lib.hid b1
  clear b1 x1 h hr
  subst hW1 hg
  go_enter Try.func21, Try.ntmps21
  go_wp2_with fail
  refine HC.out.mono ?_
  rintro e w3 ⟨v, rfl, hp⟩
  have HP := Lib.hid (hp.from_ HB.out)
  clear hp
  go_wp2_with fail
  go_ret
  exact ⟨_, rfl, HP.out⟩
end Go.Proofs.Ytpfceebmiolpeaa.Pl
