/- The law TombHas, for whatever comes in. -/
import Derived.Test.YtdmlogpmojmikaaTmY
import Derived.Test.YtdmlogpmojmikaaTmU
namespace Go.Proofs.Ytdmlogpmojmikaa.Tm
open Go.RowKit Go.Sort
set_option linter.unusedVariables false

/-- a new box of the region's own, for a set -/
def BoxG (B : Nat) (v : Value) (w : World) : Prop := ∃ g, v = .pointer (some ⟨g, 0, none⟩) ∧ B ≤ g ∧ w.heap[g]? = some (.cells #[.slice none 0 0] 28 (0, 0))
theorem BoxG.below {B : Nat} {v : Value} {w w' : World} (h : BoxG B v w) (hb : Below w.heap.size w w') : BoxG B v w' := by
  obtain ⟨g, h1, h2, h3⟩ := h
  exact ⟨g, h1, h2, (hb.block g (Array.getElem?_eq_some_iff.1 h3).1).trans h3⟩
theorem und_ptr {g : Nat} (h : (some undef : Option Value) = some (.pointer (some ⟨g, 0, none⟩))) : False := by
  have h' := Option.some.inj h
  unfold undef at h'
  cases h'
def NU (v : Value) : Prop := v ≠ undef
def killH : Tmp → Option Tmp := fun s => match s with | 72 => some 75 | 75 => some 82 | 78 => some 81 | _ => none
def spH (Ea Eb Ec : List Int) (r1 r2 t : Int) : Tmp → Rg.Sp := fun s => match s with
  | 72 => ⟨2, 1, Ea.length, intsC .i64 Ea⟩
  | 74 => ⟨2, 1, Eb.length, intsC .i64 Eb⟩
  | 75 => ⟨2, 1, (Ea ++ Eb).length, intsC .i64 (Ea ++ Eb)⟩
  | 77 => ⟨24, 2, 1, twoC .i64 [(r1, r2)]⟩
  | 78 => ⟨2, 1, Ec.length, intsC .i64 Ec⟩
  | 80 => ⟨2, 1, 1, intsC .i64 [t]⟩
  | 81 => ⟨2, 1, (Ec ++ [t]).length, intsC .i64 (Ec ++ [t])⟩
  | _ => ⟨2, 1, ((Ea ++ Eb) ++ (Ec ++ [t])).length, intsC .i64 ((Ea ++ Eb) ++ (Ec ++ [t]))⟩
def GH (B : Nat) (Ea Eb Ec : List Int) (r1 r2 t : Int) (a : Act) (w : World) : Prop := Rg.Rws [72, 74, 75, 77, 78, 80, 81, 82] killH (Rg.rowW B (spH Ea Eb Ec r1 r2 t)) a w
theorem rws_none {S : List Tmp} {kill : Tmp → Option Tmp} {ow : Tmp → Value → World → Prop} {a : Act} {w : World} (h : ∀ s ∈ S, Rg.Und a s) : Rg.Rws S kill ow a w :=
  ⟨fun s hs hl => absurd (h s hs) hl.1, fun s hs t ht hst h1 => absurd (h s hs) h1.1⟩
theorem is_hasB {X l : List Rg} (h : Is X l) (t : Int) : hasB X t = hasRB l t := by
  unfold hasB hasRB
  rw [Bool.eq_iff_iff, decide_eq_true_eq, decide_eq_true_eq, h.2]
theorem hasB_of {Z : List Rg} {H : Int → Prop} (h : ∀ t, HasP Z t ↔ H t) (t : Int) (b : Bool) (hb : b = true ↔ H t) : hasB Z t = b := by
  unfold hasB
  rw [Bool.eq_iff_iff, decide_eq_true_eq, h, hb]
theorem hasRB_iff (l : List Rg) (t : Int) : hasRB l t = true ↔ HasR l t := by unfold hasRB; rw [decide_eq_true_eq]
theorem new_sm2 (w : World) (p q : Int) (t : TypeId) : Cl (w.alloc (.cells #[.int .i64 p, .int .i64 0, .int .i64 0, .int .i64 0, .int .u64 0, .int .u64 0, .int .i64 0, .slice none 0 0, .slice none 0 0, .int .i64 q, .int .i64 0, .int .i64 0, .int .i64 0, .int .u64 0, .int .u64 0, .int .i64 0, .slice none 0 0, .slice none 0 0] t)) (some ⟨w.heap.size, 0, none⟩) (smC [(p, 0), (q, 0)]) := by
  refine .inr ⟨w.heap.size, 0, rfl, fun j v hj => ?_⟩
  have e : smC [(p, 0), (q, 0)] = #[Value.int .i64 p, .int .i64 0, .int .i64 0, .int .i64 0, .int .u64 0, .int .u64 0, .int .i64 0, .slice none 0 0, .slice none 0 0, .int .i64 q, .int .i64 0, .int .i64 0, .int .i64 0, .int .u64 0, .int .u64 0, .int .i64 0, .slice none 0 0, .slice none 0 0].toList := rfl
  rw [e] at hj
  rw [Nat.zero_add, cell_of_row _ _ _ _ _ _ (heap_alloc_new w _)]
  simpa using hj
set_option maxHeartbeats 16000000 in
set_option maxRecDepth 100000 in
theorem has_main (A B : Option Addr) (n m c d : Nat) (a b : List Rg) (r1 r2 t : Int) (w : World) (hn : n = a.length) (hm : m = b.length) (hA : Cl w A (twoC .i64 a)) (hB : Cl w B (twoC .i64 b)) (hl : a.length ≤ 60) (hk : b.length ≤ 60) (ht1 : -9223372036854775808 ≤ t) (ht2 : t ≤ 4611686018427387904) :
    Calls Try.prog 3 #[.slice A n c, .slice B m d, .agg #[.int .i64 r1, .int .i64 r2], .int .i64 t] w fun e w' => e = .returned (.bool true) ∧ Below w.heap.size w w' := by
  subst hn hm
  obtain ⟨n, hn⟩ : ∃ n, a.length = n := ⟨_, rfl⟩
  obtain ⟨m, hm⟩ : ∃ m, b.length = m := ⟨_, rfl⟩
  obtain ⟨W1, hW1⟩ : ∃ W1, w.alloc (.cells #[.int .i64 r1, .int .i64 r2] 24) = W1 := ⟨_, rfl⟩
  obtain ⟨g6, hg6⟩ : ∃ g6, w.heap.size = g6 := ⟨_, rfl⟩
  have b1 : Below w.heap.size w W1 := hW1 ▸ grows w _
  have x6 : W1.heap[g6]? = some (.cells #[.int .i64 r1, .int .i64 r2] 24 (0, 0)) := hg6 ▸ hW1 ▸ heap_alloc_new w _
  have HX6 := Lib.hid x6
  have B1 := Lib.hid b1
  have HT1 := Lib.hid (to_any A n c a W1 hn.symm (hA.below b1) (by omega))
  have HAA := Lib.hid (hA.below b1)
  have HBB := Lib.hid (hB.below b1)
  have HN := Lib.hid (And.intro hn hm)
  rw [hn] at hl
  rw [hm] at hk
  have hn60 : ¬ (60 : Int) < (n : Int) := by omega
  have hm60 : ¬ (60 : Int) < (m : Int) := by omega
  have ht3 : ¬ (4611686018427387904 : Int) < t := by omega
  rw [hn, hm]
  clear hn hm hA hB b1 x6
  go_enter Try.func3, Try.ntmps3
  go_wp2_with fail
  clear hW1
  refine HT1.out.mono ?_
  rintro e w2 ⟨A2, c2, rfl, ho2, hb2⟩
  rw [HN.out.1] at ho2 ⊢
  have HO2 := Lib.hid (of_any A2 n c2 a w2 HN.out.1.symm (own_cl ho2) (by have := HN.out.1; omega))
  have B2 := Lib.hid hb2
  clear ho2 hb2
  go_wp2_with fail
  refine HO2.out.mono ?_
  rintro e w3 ⟨v3, X, rfl, hx3, hl3, hst3, hb3⟩
  have HX := Lib.hid hx3
  have HXL := Lib.hid hl3
  have HS3 := Lib.hid hst3
  have B3 := Lib.hid (B2.out.trans (hb3.mono B2.out.size))
  have HT3 := Lib.hid (to_any B m d b w3 HN.out.2.symm (HBB.out.below B3.out) (by have := HN.out.2; omega))
  clear hx3 hl3 hst3 hb3
  go_wp2_with fail
  refine HT3.out.mono ?_
  rintro e w4 ⟨A4, c4, rfl, ho4, hb4⟩
  rw [HN.out.2] at ho4 ⊢
  have HO4 := Lib.hid (of_any A4 m c4 b w4 HN.out.2.symm (own_cl ho4) (by have := HN.out.2; omega))
  have B4 := Lib.hid (B3.out.trans (hb4.mono B3.out.size))
  have HS4 := Lib.hid (HS3.out.below hb4)
  clear ho4 hb4
  go_wp2_with fail
  refine HO4.out.mono ?_
  rintro e w5 ⟨v5, Y, rfl, hy5, hl5, hst5, hb5⟩
  have HY := Lib.hid hy5
  have HYL := Lib.hid hl5
  have B5 := Lib.hid (B4.out.trans (hb5.mono B4.out.size))
  obtain ⟨P, cp, rfl, zP, hP⟩ := HS4.out.below hb5
  obtain ⟨Q, cq, rfl, zQ, hQ⟩ := hst5
  obtain ⟨N, hN⟩ : ∃ N, X.length = N := ⟨_, rfl⟩
  obtain ⟨M, hM⟩ : ∃ M, Y.length = M := ⟨_, rfl⟩
  obtain ⟨W7, hW7⟩ : ∃ W7, w5.alloc (.cells #[.slice P N cp] 28) = W7 := ⟨_, rfl⟩
  obtain ⟨W8, hW8⟩ : ∃ W8, W7.alloc (.cells #[.slice Q M cq] 28) = W8 := ⟨_, rfl⟩
  obtain ⟨g9, hg9⟩ : ∃ g9, w5.heap.size = g9 := ⟨_, rfl⟩
  have e7 : W7.heap.size = g9 + 1 := by rw [← hW7, ← hg9]; simp
  have e8 : W8.heap.size = g9 + 2 := by rw [← hW8]; simp [e7]
  have c7 : Below w5.heap.size w5 W7 := hW7 ▸ grows _ _
  have c78 : Below W7.heap.size W7 W8 := hW8 ▸ grows _ _
  have c8 := c7.trans (c78.mono c7.size)
  have x9 : W8.heap[g9]? = some (.cells #[.slice P N cp] 28 (0, 0)) := (c78.block g9 (by omega)).trans (hg9 ▸ hW7 ▸ heap_alloc_new w5 _)
  have x10 : W8.heap[g9 + 1]? = some (.cells #[.slice Q M cq] 28 (0, 0)) := e7 ▸ hW8 ▸ heap_alloc_new W7 _
  have B8 := Lib.hid (B5.out.trans (c8.mono B5.out.size))
  have x6 := (B8.out.block g6 (Array.getElem?_eq_some_iff.1 HX6.out).1).trans HX6.out
  have SX := Lib.hid (show St W8 (.agg #[.slice P N cp]) X from ⟨P, cp, by rw [hN], zP, hP.below c8⟩)
  have SY := Lib.hid (show St W8 (.agg #[.slice Q M cq]) Y from ⟨Q, cq, by rw [hM], zQ, hQ.below c8⟩)
  have HB8 := Lib.hid (And.intro x6 (And.intro x9 x10))
  have HLX := Lib.hid (show X.length ≤ 60 ∧ Y.length ≤ 60 by have := HXL.out; have := HYL.out; have := HN.out; omega)
  have HLT := Lib.hid (show g6 < W8.heap.size ∧ g9 < W8.heap.size ∧ g9 + 1 < W8.heap.size by have := (Array.getElem?_eq_some_iff.1 x6).1; omega)
  rw [hN, hM]
  clear hy5 hl5 zP hP zQ hQ hb5 hN hM c7 c78 c8 x6 x9 x10
  go_wp2_with fail
  clear hW7 hW8
  have TX := Lib.hid (show TS (HasP X) 60 (.agg #[.slice P N cp]) W8 from ⟨X, HX.out.1, fun t => Iff.rfl, HLX.out.1, SX.out⟩)
  have TY := Lib.hid (show TS (HasP Y) 60 (.agg #[.slice Q M cq]) W8 from ⟨Y, HY.out.1, fun t => Iff.rfl, HLX.out.2, SY.out⟩)
  refine Rg.wp_region_invG (R := fun sl v w => match sl with
      | 42 => TS (HasP X) 60 v w
      | 43 => TS (HasP Y) 60 v w
      | 44 => TS (fun t => HasP X t ∨ HasP Y t) (60 + 60) v w
      | 45 => TS (HasP X) 60 v w
      | 46 => v = .agg #[.int .i64 r1, .int .i64 r2]
      | 47 => TS (fun t => HasP X t ∧ ¬ HasR [(r1, r2)] t) (2 * 60) v w
      | 11 => BoxG W8.heap.size v w
      | 12 => BoxG W8.heap.size v w
      | _ => True) (fun a w => Rg.Two 11 12 a w) 8 [42, 43, 44, 45, 46, 47, 11, 12] 193 [false, false, false, false, false, false, false, false, false, false, false, true, true, false, false, false, false, false, false, false, false, false, false, false, false, false, false, false, false, false, false, false, false, false, false, false, false, false, false, false, false, false, true, true, true, true, true, true, false, false, false, false, false, false, false, false, false, false, false, false, false, false, false, false, false, false, false, false, false, false, false, false, false, false, false, false, false, false, false, false, false, false, false, false, false, false, false, false, false, false, false, false, false, false, false, false, false, false, false, false, false, false, false, false, false, false, false, false, false, false, false, false, false, false, false, false, false, false, false, false, false, false, false, false, false, false, false, false, false, false, false, false, false, false, false, false, false, false, false, false, false, false, false, false, false, false, false, false, false, false, false, false, false, false, false, false, false, false, false, false, false, false, false, false, false, false, false, false, false, false, false, false, false, false, false, false, false, false, false, false, false, false, false, false, false, false, false, false, false, false, false, false, false] (by kernel_rfl) rfl (by kernel_rfl) (by kernel_rfl) (by kernel_rfl) (by kernel_rfl) (Nat.le_of_ble_eq_true (by kernel_rfl)) (by kernel_rfl) (by kernel_rfl) ?mono ?g0 ?good ?done
  case mono =>
    refine List.forall_mem_cons.2 ⟨fun _ _ _ _ hb h => TS.below h hb, ?_⟩
    refine List.forall_mem_cons.2 ⟨fun _ _ _ _ hb h => TS.below h hb, ?_⟩
    refine List.forall_mem_cons.2 ⟨fun _ _ _ _ hb h => TS.below h hb, ?_⟩
    refine List.forall_mem_cons.2 ⟨fun _ _ _ _ hb h => TS.below h hb, ?_⟩
    refine List.forall_mem_cons.2 ⟨fun _ _ _ _ _ h => h, ?_⟩
    refine List.forall_mem_cons.2 ⟨fun _ _ _ _ hb h => TS.below h hb, ?_⟩
    refine List.forall_mem_cons.2 ⟨fun _ _ _ _ hb h => BoxG.below h hb, ?_⟩
    refine List.forall_mem_cons.2 ⟨fun _ _ _ _ hb h => BoxG.below h hb, ?_⟩
    exact fun _ h => absurd h (by simp)
  case g0 => exact ⟨fun g h => (und_ptr h).elim, fun g h => (und_ptr h).elim, fun g k h _ => (und_ptr h).elim⟩
  case good =>
    refine Rg.goodG_cons ?_ ?_
    · intro ac w' cx hg hn
      have e9 := cx.at_ 9 (by kernel_rfl) rfl
      have hx := (box1 ((cx.bel.block g9 HLT.out.2.1).trans HB8.out.2.1)).1
      refine .inl ⟨(Rg.wanted_none rfl), fun K hK => ?_⟩
      go_simp
      exact hK _ _ (Below.refl _ _) (fun t ht => by injection ht with ht; subst ht; exact (TX.out.below cx.bel)) (hg.keep (Below.refl _ _) (by decide) (by decide))
    refine Rg.goodG_cons ?_ ?_
    · intro ac w' cx hg hn
      have e10 := cx.at_ 10 (by kernel_rfl) rfl
      have hx := (box1 ((cx.bel.block (g9 + 1) HLT.out.2.2).trans HB8.out.2.2)).1
      refine .inl ⟨(Rg.wanted_none rfl), fun K hK => ?_⟩
      go_simp
      exact hK _ _ (Below.refl _ _) (fun t ht => by injection ht with ht; subst ht; exact (TY.out.below cx.bel)) (hg.keep (Below.refl _ _) (by decide) (by decide))
    refine Rg.goodG_cons ?_ ?_
    · intro ac w' cx hg hn
      obtain ⟨v42, e42, r42⟩ := hn 42 (Rg.mem_of (by kernel_rfl))
      replace r42 : TS (HasP X) 60 v42 w' := r42
      obtain ⟨v43, e43, r43⟩ := hn 43 (Rg.mem_of (by kernel_rfl))
      replace r43 : TS (HasP Y) 60 v43 w' := r43
      refine .inl ⟨(Rg.wanted_none rfl), fun K hK => ?_⟩
      go_simp
      refine (andT r42 r43 (by omega) (by omega)).mono ?_
      rintro e w2 ⟨z, rfl, hz, hb⟩
      exact hK _ _ hb (fun t ht => by injection ht with ht; subst ht; exact hz) (hg.keep hb (by decide) (by decide))
    refine Rg.goodG_cons ?_ ?_
    · intro ac w' cx hg hn
      have e9 := cx.at_ 9 (by kernel_rfl) rfl
      have hx := (box1 ((cx.bel.block g9 HLT.out.2.1).trans HB8.out.2.1)).1
      refine .inl ⟨(Rg.wanted_none rfl), fun K hK => ?_⟩
      go_simp
      exact hK _ _ (Below.refl _ _) (fun t ht => by injection ht with ht; subst ht; exact (TX.out.below cx.bel)) (hg.keep (Below.refl _ _) (by decide) (by decide))
    refine Rg.goodG_cons ?_ ?_
    · intro ac w' cx hg hn
      have e6 := cx.at_ 6 (by kernel_rfl) rfl
      obtain ⟨hx, hy, _⟩ := box2 ((cx.bel.block g6 HLT.out.1).trans HB8.out.1)
      refine .inl ⟨(Rg.wanted_none rfl), fun K hK => ?_⟩
      go_simp
      exact hK _ _ (Below.refl _ _) (fun t ht => by injection ht with ht; subst ht; exact rfl) (hg.keep (Below.refl _ _) (by decide) (by decide))
    refine Rg.goodG_cons ?_ ?_
    · intro ac w' cx hg hn
      obtain ⟨v45, e45, r45⟩ := hn 45 (Rg.mem_of (by kernel_rfl))
      replace r45 : TS (HasP X) 60 v45 w' := r45
      obtain ⟨v46, e46, r46⟩ := hn 46 (Rg.mem_of (by kernel_rfl))
      obtain rfl : v46 = .agg #[.int .i64 r1, .int .i64 r2] := r46
      refine .inl ⟨(Rg.wanted_none rfl), fun K hK => ?_⟩
      go_simp
      refine (withoutR r45 r1 r2 (by omega)).mono ?_
      rintro e w2 ⟨z, rfl, hz, hb⟩
      exact hK _ _ hb (fun t ht => by injection ht with ht; subst ht; exact hz) (hg.keep hb (by decide) (by decide))
    refine Rg.goodG_cons ?_ ?_
    · intro ac w' cx hg hn
      refine .inl ⟨(Rg.wanted_none rfl), fun K hK => ?_⟩
      go_simp
      exact hK _ _ (grows _ _) (fun t ht => by injection ht with ht; subst ht; exact ⟨_, rfl, cx.bel.size, heap_alloc_new _ _⟩) (hg.first (by decide))
    refine Rg.goodG_cons ?_ ?_
    · intro ac w' cx hg hn
      refine .inl ⟨(Rg.wanted_none rfl), fun K hK => ?_⟩
      go_simp
      exact hK _ _ (grows _ _) (fun t ht => by injection ht with ht; subst ht; exact ⟨_, rfl, cx.bel.size, heap_alloc_new _ _⟩) (hg.second (by decide))
    exact Rg.goodG_nil
  case done =>
    intro u w6 hb6 hr hG
    obtain ⟨Z, hz1, hz2, hz3, C, cz, q44, zC, hC⟩ : TS (fun t => HasP X t ∨ HasP Y t) (60 + 60) (u 44) w6 := hr 44 (by simp)
    obtain ⟨L, hl1, hl2, hl3, D, cl, q47, zD, hD⟩ : TS (fun t => HasP X t ∧ ¬ HasR [(r1, r2)] t) (2 * 60) (u 47) w6 := hr 47 (by simp)
    obtain ⟨g11, q11, hB11, x11⟩ : BoxG W8.heap.size (u 11) w6 := hr 11 (by simp)
    obtain ⟨g12, q12, hB12, x12⟩ : BoxG W8.heap.size (u 12) w6 := hr 12 (by simp)
    have hne : g11 ≠ g12 := hG.ne g11 g12 ((show _ = some (u 11) from rfl).trans (by rw [q11])) ((show _ = some (u 12) from rfl).trans (by rw [q12]))
    obtain ⟨nz, hnz⟩ : ∃ nz, Z.length = nz := ⟨_, rfl⟩
    obtain ⟨nl, hnl⟩ : ∃ nl, L.length = nl := ⟨_, rfl⟩
    rw [hnz] at q44
    rw [hnl] at q47
    simp only [Rg.fillL_cons, Rg.fillL_nil, if_true, if_false, Bool.false_eq_true, q44, q47, q11, q12]
    change wpList _ _ _ [_, _] _ _
    obtain ⟨y11, f11⟩ := box1 x11
    obtain ⟨y12, f12⟩ := box1 x12
    have hne' : g12 ≠ g11 := fun e => hne e.symm
    obtain ⟨W9, hW9⟩ : ∃ W9, w6.setCell ⟨g11, 0, none⟩ (.slice C nz cz) = W9 := ⟨_, rfl⟩
    have x11' : W9.heap[g11]? = some (.cells #[.slice C nz cz] 28 (0, 0)) := by rw [← hW9, heap_set_at x11]; rfl
    have x12' : W9.heap[g12]? = some (.cells #[.slice none 0 0] 28 (0, 0)) := by rw [← hW9, Below.heap_setCell _ _ _ _ hne']; exact x12
    obtain ⟨W10, hW10⟩ : ∃ W10, W9.setCell ⟨g12, 0, none⟩ (.slice D nl cl) = W10 := ⟨_, rfl⟩
    have x11'' : W10.heap[g11]? = some (.cells #[.slice C nz cz] 28 (0, 0)) := by rw [← hW10, Below.heap_setCell _ _ _ _ hne]; exact x11'
    have x12'' : W10.heap[g12]? = some (.cells #[.slice D nl cl] 28 (0, 0)) := by rw [← hW10, heap_set_at x12']; rfl
    have c10 : Below W8.heap.size W8 W10 := hW10 ▸ (hW9 ▸ hb6.setCell hB11 _).setCell hB12 _
    have move : ∀ (E : Option Addr) (Z : List Rg), Cl w6 E (twoC .i64 Z) → Cl W10 E (twoC .i64 Z) := fun E Z h => by
      have h1 := cl_box h x11 (by intro n e; cases e) (.slice C nz cz)
      rw [hW9] at h1
      have h2 := cl_box h1 x12' (by intro n e; cases e) (.slice D nl cl)
      rw [hW10] at h2
      exact h2
    have SZ := Lib.hid (show St W10 (.agg #[.slice C nz cz]) Z from ⟨C, cz, by rw [hnz], zC, move _ _ hC⟩)
    have SL := Lib.hid (show St W10 (.agg #[.slice D nl cl]) L from ⟨D, cl, by rw [hnl], zD, move _ _ hD⟩)
    have HZ := Lib.hid (And.intro hz1 (And.intro hz2 hz3))
    have HLL := Lib.hid (And.intro hl1 (And.intro hl2 hl3))
    have B10 := Lib.hid (B8.out.trans (c10.mono B8.out.size))
    have S10 := Lib.hid (SX.out.below c10)
    have HB10 := Lib.hid (show W10.heap[g6]? = some (.cells #[.int .i64 r1, .int .i64 r2] 24 (0, 0)) ∧ W10.heap[g9]? = some (.cells #[.slice P N cp] 28 (0, 0)) ∧ W10.heap[g11]? = some (.cells #[.slice C nz cz] 28 (0, 0)) ∧ W10.heap[g12]? = some (.cells #[.slice D nl cl] 28 (0, 0)) from ⟨(c10.block g6 HLT.out.1).trans HB8.out.1, (c10.block g9 HLT.out.2.1).trans HB8.out.2.1, x11'', x12''⟩)
    have HLU := Lib.hid (show g6 < W10.heap.size ∧ g9 < W10.heap.size ∧ g11 < W10.heap.size ∧ g12 < W10.heap.size from ⟨(Array.getElem?_eq_some_iff.1 HB10.out.1).1, (Array.getElem?_eq_some_iff.1 HB10.out.2.1).1, (Array.getElem?_eq_some_iff.1 HB10.out.2.2.1).1, (Array.getElem?_eq_some_iff.1 HB10.out.2.2.2).1⟩)
    have y12' := (box1 x12').1
    have f12' := (box1 x12').2
    clear hr hG hb6 hz1 hz2 hz3 hl1 hl2 hl3 zC hC zD hD move c10 x11 x12 x11' x12' x11'' x12'' hnz hnl
    go_wp2_with fail
    clear hW9 hW10 y11 f11 y12 f12 y12' f12'
    obtain ⟨zc, hzc⟩ : ∃ zc, rightB (r1, r2) = zc := ⟨_, rfl⟩
    have HZC := Lib.hid hzc
    clear hzc
    refine Rg.wp_region_inv (R := fun sl v w => match sl with
        | 48 => v = .agg #[.slice P N cp]
        | 49 => RL X v w
        | 50 => v = .bool true
        | 51 => v = .bool false
        | 52 => v = .bool false
        | 53 => v = .agg #[.slice C nz cz]
        | 54 => RL Z v w
        | 55 => v = .bool true
        | 56 => v = .bool false
        | 57 => v = .bool false
        | 58 => v = .bool false
        | 59 => v = .agg #[.slice D nl cl]
        | 60 => RL L v w
        | 61 => v = .bool true
        | 62 => v = .bool false
        | 63 => v = .bool false
        | 64 => v = .bool false
        | 65 => v = .agg #[.int .i64 r1, .int .i64 r2]
        | 66 => v = .bool zc
        | 67 => v = .agg #[.int .i64 r1, .int .i64 r2]
        | 68 => v = .bool zc
        | 69 => v = .bool false
        | 70 => v = .bool false
        | _ => True) [48, 49, 50, 51, 52, 53, 54, 55, 56, 57, 58, 59, 60, 61, 62, 63, 64, 65, 66, 67, 68, 69, 70] 193 [false, false, false, false, false, false, false, false, false, false, false, false, false, false, false, false, false, false, false, false, false, false, false, false, false, false, false, false, false, false, false, false, false, false, false, false, false, false, false, false, false, false, false, false, false, false, false, false, true, true, true, true, true, true, true, true, true, true, true, true, true, true, true, true, true, true, true, true, true, true, true, false, false, false, false, false, false, false, false, false, false, false, false, false, false, false, false, false, false, false, false, false, false, false, false, false, false, false, false, false, false, false, false, false, false, false, false, false, false, false, false, false, false, false, false, false, false, false, false, false, false, false, false, false, false, false, false, false, false, false, false, false, false, false, false, false, false, false, false, false, false, false, false, false, false, false, false, false, false, false, false, false, false, false, false, false, false, false, false, false, false, false, false, false, false, false, false, false, false, false, false, false, false, false, false, false, false, false, false, false, false, false, false, false, false, false, false, false, false, false, false, false, false] (by kernel_rfl) rfl (by kernel_rfl) (by kernel_rfl) (by kernel_rfl) (by kernel_rfl) (by kernel_rfl) ?mono ?good ?done
    case mono =>
      refine List.forall_mem_cons.2 ⟨fun _ _ _ _ _ h => h, ?_⟩
      refine List.forall_mem_cons.2 ⟨fun _ _ _ _ hb h => RL.below h hb, ?_⟩
      refine List.forall_mem_cons.2 ⟨fun _ _ _ _ _ h => h, ?_⟩
      refine List.forall_mem_cons.2 ⟨fun _ _ _ _ _ h => h, ?_⟩
      refine List.forall_mem_cons.2 ⟨fun _ _ _ _ _ h => h, ?_⟩
      refine List.forall_mem_cons.2 ⟨fun _ _ _ _ _ h => h, ?_⟩
      refine List.forall_mem_cons.2 ⟨fun _ _ _ _ hb h => RL.below h hb, ?_⟩
      refine List.forall_mem_cons.2 ⟨fun _ _ _ _ _ h => h, ?_⟩
      refine List.forall_mem_cons.2 ⟨fun _ _ _ _ _ h => h, ?_⟩
      refine List.forall_mem_cons.2 ⟨fun _ _ _ _ _ h => h, ?_⟩
      refine List.forall_mem_cons.2 ⟨fun _ _ _ _ _ h => h, ?_⟩
      refine List.forall_mem_cons.2 ⟨fun _ _ _ _ _ h => h, ?_⟩
      refine List.forall_mem_cons.2 ⟨fun _ _ _ _ hb h => RL.below h hb, ?_⟩
      refine List.forall_mem_cons.2 ⟨fun _ _ _ _ _ h => h, ?_⟩
      refine List.forall_mem_cons.2 ⟨fun _ _ _ _ _ h => h, ?_⟩
      refine List.forall_mem_cons.2 ⟨fun _ _ _ _ _ h => h, ?_⟩
      refine List.forall_mem_cons.2 ⟨fun _ _ _ _ _ h => h, ?_⟩
      refine List.forall_mem_cons.2 ⟨fun _ _ _ _ _ h => h, ?_⟩
      refine List.forall_mem_cons.2 ⟨fun _ _ _ _ _ h => h, ?_⟩
      refine List.forall_mem_cons.2 ⟨fun _ _ _ _ _ h => h, ?_⟩
      refine List.forall_mem_cons.2 ⟨fun _ _ _ _ _ h => h, ?_⟩
      refine List.forall_mem_cons.2 ⟨fun _ _ _ _ _ h => h, ?_⟩
      refine List.forall_mem_cons.2 ⟨fun _ _ _ _ _ h => h, ?_⟩
      exact fun _ h => absurd h (by simp)
    case good =>
      refine Rg.good_cons ?_ ?_
      · intro ac w' cx hn
        have e9 := cx.at_ 9 (by kernel_rfl) rfl
        have hx := (box1 ((cx.bel.block g9 HLU.out.2.1).trans HB10.out.2.1)).1
        refine .inl ⟨(Rg.wanted_none rfl), fun K hK => ?_⟩
        go_simp
        exact hK _ _ (Below.refl _ _) (fun t ht => by injection ht with ht; subst ht; exact rfl)
      refine Rg.good_cons ?_ ?_
      · intro ac w' cx hn
        obtain ⟨v48, e48, r48⟩ := hn 48 (Rg.mem_of (by kernel_rfl))
        obtain rfl : v48 = .agg #[.slice P N cp] := r48
        refine .inl ⟨(Rg.wanted_none rfl), fun K hK => ?_⟩
        go_simp
        refine (rangesRL (S10.out.below cx.bel) (by have := HLX.out.1; omega)).mono ?_
        rintro e w2 ⟨z, rfl, hz, hb⟩
        exact hK _ _ hb (fun t ht => by injection ht with ht; subst ht; exact hz)
      refine Rg.good_cons ?_ ?_
      · intro ac w' cx hn
        obtain ⟨v49, e49, r49⟩ := hn 49 (Rg.mem_of (by kernel_rfl))
        replace r49 : RL X v49 w' := r49
        refine .inl ⟨(Rg.wanted_none rfl), fun K hK => ?_⟩
        obtain ⟨A3, c3, rfl, hc3⟩ := r49
        go_simp
        refine (apart_any A3 X.length c3 X w' rfl hc3 HX.out.1 (by have := HLX.out.1; omega)).mono ?_
        rintro e w2 ⟨rfl, hb⟩
        exact hK _ _ hb (fun t ht => by injection ht with ht; subst ht; exact rfl)
      refine Rg.good_cons ?_ ?_
      · intro ac w' cx hn
        obtain ⟨v50, e50, r50⟩ := hn 50 (Rg.mem_of (by kernel_rfl))
        obtain rfl : v50 = .bool true := r50
        refine .inl ⟨(Rg.wanted_none rfl), fun K hK => ?_⟩
        go_simp
        exact hK _ _ (Below.refl _ _) (fun t ht => by injection ht with ht; subst ht; exact rfl)
      refine Rg.good_cons ?_ ?_
      · intro ac w' cx hn
        obtain ⟨v51, e51, r51⟩ := hn 51 (Rg.mem_of (by kernel_rfl))
        obtain rfl : v51 = .bool false := r51
        refine .inl ⟨(Rg.wanted_none rfl), fun K hK => ?_⟩
        go_simp
        exact hK _ _ (Below.refl _ _) (fun t ht => by injection ht with ht; subst ht; exact rfl)
      refine Rg.good_cons ?_ ?_
      · intro ac w' cx hn
        have e11 := cx.at_ 11 (by kernel_rfl) rfl
        have hx := (box1 ((cx.bel.block g11 HLU.out.2.2.1).trans HB10.out.2.2.1)).1
        obtain ⟨v52, e52, r52⟩ := hn 52 (Rg.mem_of (by kernel_rfl))
        obtain rfl : v52 = .bool false := r52
        refine .inl ⟨((Rg.wanted_some (t := 52) rfl (by kernel_rfl) e52).trans rfl), fun K hK => ?_⟩
        go_simp
        exact hK _ _ (Below.refl _ _) (fun t ht => by injection ht with ht; subst ht; exact rfl)
      refine Rg.good_cons ?_ ?_
      · intro ac w' cx hn
        obtain ⟨v53, e53, r53⟩ := hn 53 (Rg.mem_of (by kernel_rfl))
        obtain rfl : v53 = .agg #[.slice C nz cz] := r53
        obtain ⟨v52, e52, r52⟩ := hn 52 (Rg.mem_of (by kernel_rfl))
        obtain rfl : v52 = .bool false := r52
        refine .inl ⟨((Rg.wanted_some (t := 52) rfl (by kernel_rfl) e52).trans rfl), fun K hK => ?_⟩
        go_simp
        refine (rangesRL (SZ.out.below cx.bel) (by have := HZ.out.2.2; omega)).mono ?_
        rintro e w2 ⟨z, rfl, hz, hb⟩
        exact hK _ _ hb (fun t ht => by injection ht with ht; subst ht; exact hz)
      refine Rg.good_cons ?_ ?_
      · intro ac w' cx hn
        obtain ⟨v54, e54, r54⟩ := hn 54 (Rg.mem_of (by kernel_rfl))
        replace r54 : RL Z v54 w' := r54
        obtain ⟨v52, e52, r52⟩ := hn 52 (Rg.mem_of (by kernel_rfl))
        obtain rfl : v52 = .bool false := r52
        refine .inl ⟨((Rg.wanted_some (t := 52) rfl (by kernel_rfl) e52).trans rfl), fun K hK => ?_⟩
        obtain ⟨A3, c3, rfl, hc3⟩ := r54
        go_simp
        refine (apart_any A3 Z.length c3 Z w' rfl hc3 HZ.out.1 (by have := HZ.out.2.2; omega)).mono ?_
        rintro e w2 ⟨rfl, hb⟩
        exact hK _ _ hb (fun t ht => by injection ht with ht; subst ht; exact rfl)
      refine Rg.good_cons ?_ ?_
      · intro ac w' cx hn
        obtain ⟨v55, e55, r55⟩ := hn 55 (Rg.mem_of (by kernel_rfl))
        obtain rfl : v55 = .bool true := r55
        obtain ⟨v52, e52, r52⟩ := hn 52 (Rg.mem_of (by kernel_rfl))
        obtain rfl : v52 = .bool false := r52
        refine .inl ⟨((Rg.wanted_some (t := 52) rfl (by kernel_rfl) e52).trans rfl), fun K hK => ?_⟩
        go_simp
        exact hK _ _ (Below.refl _ _) (fun t ht => by injection ht with ht; subst ht; exact rfl)
      refine Rg.good_cons ?_ ?_
      · intro ac w' cx hn
        obtain ⟨v52, e52, r52⟩ := hn 52 (Rg.mem_of (by kernel_rfl))
        obtain rfl : v52 = .bool false := r52
        obtain ⟨v56, e56, r56⟩ := hn 56 (Rg.mem_of (by kernel_rfl))
        obtain rfl : v56 = .bool false := r56
        refine .inl ⟨(Rg.wanted_none rfl), fun K hK => ?_⟩
        go_simp
        exact hK _ _ (Below.refl _ _) (fun t ht => by injection ht with ht; subst ht; exact rfl)
      refine Rg.good_cons ?_ ?_
      · intro ac w' cx hn
        obtain ⟨v57, e57, r57⟩ := hn 57 (Rg.mem_of (by kernel_rfl))
        obtain rfl : v57 = .bool false := r57
        refine .inl ⟨(Rg.wanted_none rfl), fun K hK => ?_⟩
        go_simp
        exact hK _ _ (Below.refl _ _) (fun t ht => by injection ht with ht; subst ht; exact rfl)
      refine Rg.good_cons ?_ ?_
      · intro ac w' cx hn
        have e12 := cx.at_ 12 (by kernel_rfl) rfl
        have hx := (box1 ((cx.bel.block g12 HLU.out.2.2.2).trans HB10.out.2.2.2)).1
        obtain ⟨v58, e58, r58⟩ := hn 58 (Rg.mem_of (by kernel_rfl))
        obtain rfl : v58 = .bool false := r58
        refine .inl ⟨((Rg.wanted_some (t := 58) rfl (by kernel_rfl) e58).trans rfl), fun K hK => ?_⟩
        go_simp
        exact hK _ _ (Below.refl _ _) (fun t ht => by injection ht with ht; subst ht; exact rfl)
      refine Rg.good_cons ?_ ?_
      · intro ac w' cx hn
        obtain ⟨v59, e59, r59⟩ := hn 59 (Rg.mem_of (by kernel_rfl))
        obtain rfl : v59 = .agg #[.slice D nl cl] := r59
        obtain ⟨v58, e58, r58⟩ := hn 58 (Rg.mem_of (by kernel_rfl))
        obtain rfl : v58 = .bool false := r58
        refine .inl ⟨((Rg.wanted_some (t := 58) rfl (by kernel_rfl) e58).trans rfl), fun K hK => ?_⟩
        go_simp
        refine (rangesRL (SL.out.below cx.bel) (by have := HLL.out.2.2; omega)).mono ?_
        rintro e w2 ⟨z, rfl, hz, hb⟩
        exact hK _ _ hb (fun t ht => by injection ht with ht; subst ht; exact hz)
      refine Rg.good_cons ?_ ?_
      · intro ac w' cx hn
        obtain ⟨v60, e60, r60⟩ := hn 60 (Rg.mem_of (by kernel_rfl))
        replace r60 : RL L v60 w' := r60
        obtain ⟨v58, e58, r58⟩ := hn 58 (Rg.mem_of (by kernel_rfl))
        obtain rfl : v58 = .bool false := r58
        refine .inl ⟨((Rg.wanted_some (t := 58) rfl (by kernel_rfl) e58).trans rfl), fun K hK => ?_⟩
        obtain ⟨A3, c3, rfl, hc3⟩ := r60
        go_simp
        refine (apart_any A3 L.length c3 L w' rfl hc3 HLL.out.1 (by have := HLL.out.2.2; omega)).mono ?_
        rintro e w2 ⟨rfl, hb⟩
        exact hK _ _ hb (fun t ht => by injection ht with ht; subst ht; exact rfl)
      refine Rg.good_cons ?_ ?_
      · intro ac w' cx hn
        obtain ⟨v61, e61, r61⟩ := hn 61 (Rg.mem_of (by kernel_rfl))
        obtain rfl : v61 = .bool true := r61
        obtain ⟨v58, e58, r58⟩ := hn 58 (Rg.mem_of (by kernel_rfl))
        obtain rfl : v58 = .bool false := r58
        refine .inl ⟨((Rg.wanted_some (t := 58) rfl (by kernel_rfl) e58).trans rfl), fun K hK => ?_⟩
        go_simp
        exact hK _ _ (Below.refl _ _) (fun t ht => by injection ht with ht; subst ht; exact rfl)
      refine Rg.good_cons ?_ ?_
      · intro ac w' cx hn
        obtain ⟨v58, e58, r58⟩ := hn 58 (Rg.mem_of (by kernel_rfl))
        obtain rfl : v58 = .bool false := r58
        obtain ⟨v62, e62, r62⟩ := hn 62 (Rg.mem_of (by kernel_rfl))
        obtain rfl : v62 = .bool false := r62
        refine .inl ⟨(Rg.wanted_none rfl), fun K hK => ?_⟩
        go_simp
        exact hK _ _ (Below.refl _ _) (fun t ht => by injection ht with ht; subst ht; exact rfl)
      refine Rg.good_cons ?_ ?_
      · intro ac w' cx hn
        obtain ⟨v63, e63, r63⟩ := hn 63 (Rg.mem_of (by kernel_rfl))
        obtain rfl : v63 = .bool false := r63
        refine .inl ⟨(Rg.wanted_none rfl), fun K hK => ?_⟩
        go_simp
        exact hK _ _ (Below.refl _ _) (fun t ht => by injection ht with ht; subst ht; exact rfl)
      refine Rg.good_cons ?_ ?_
      · intro ac w' cx hn
        have e6 := cx.at_ 6 (by kernel_rfl) rfl
        obtain ⟨hx, hy, _⟩ := box2 ((cx.bel.block g6 HLU.out.1).trans HB10.out.1)
        obtain ⟨v64, e64, r64⟩ := hn 64 (Rg.mem_of (by kernel_rfl))
        obtain rfl : v64 = .bool false := r64
        refine .inl ⟨((Rg.wanted_some (t := 64) rfl (by kernel_rfl) e64).trans rfl), fun K hK => ?_⟩
        go_simp
        exact hK _ _ (Below.refl _ _) (fun t ht => by injection ht with ht; subst ht; exact rfl)
      refine Rg.good_cons ?_ ?_
      · intro ac w' cx hn
        obtain ⟨v65, e65, r65⟩ := hn 65 (Rg.mem_of (by kernel_rfl))
        obtain rfl : v65 = .agg #[.int .i64 r1, .int .i64 r2] := r65
        obtain ⟨v64, e64, r64⟩ := hn 64 (Rg.mem_of (by kernel_rfl))
        obtain rfl : v64 = .bool false := r64
        refine .inl ⟨((Rg.wanted_some (t := 64) rfl (by kernel_rfl) e64).trans rfl), fun K hK => ?_⟩
        go_simp
        refine (right_any (r1, r2) w').mono ?_
        rw [HZC.out]
        rintro e w2 ⟨rfl, hb⟩
        exact hK _ _ hb (fun t ht => by injection ht with ht; subst ht; exact rfl)
      refine Rg.good_cons ?_ ?_
      · intro ac w' cx hn
        have e6 := cx.at_ 6 (by kernel_rfl) rfl
        obtain ⟨hx, hy, _⟩ := box2 ((cx.bel.block g6 HLU.out.1).trans HB10.out.1)
        obtain ⟨v64, e64, r64⟩ := hn 64 (Rg.mem_of (by kernel_rfl))
        obtain rfl : v64 = .bool false := r64
        refine .inl ⟨((Rg.wanted_some (t := 64) rfl (by kernel_rfl) e64).trans rfl), fun K hK => ?_⟩
        go_simp
        exact hK _ _ (Below.refl _ _) (fun t ht => by injection ht with ht; subst ht; exact rfl)
      refine Rg.good_cons ?_ ?_
      · intro ac w' cx hn
        obtain ⟨v67, e67, r67⟩ := hn 67 (Rg.mem_of (by kernel_rfl))
        obtain rfl : v67 = .agg #[.int .i64 r1, .int .i64 r2] := r67
        obtain ⟨v64, e64, r64⟩ := hn 64 (Rg.mem_of (by kernel_rfl))
        obtain rfl : v64 = .bool false := r64
        refine .inl ⟨((Rg.wanted_some (t := 64) rfl (by kernel_rfl) e64).trans rfl), fun K hK => ?_⟩
        go_simp
        refine (rright_any (r1, r2) w').mono ?_
        rw [HZC.out]
        rintro e w2 ⟨rfl, hb⟩
        exact hK _ _ hb (fun t ht => by injection ht with ht; subst ht; exact rfl)
      refine Rg.good_cons ?_ ?_
      · intro ac w' cx hn
        obtain ⟨v66, e66, r66⟩ := hn 66 (Rg.mem_of (by kernel_rfl))
        obtain rfl : v66 = .bool zc := r66
        obtain ⟨v68, e68, r68⟩ := hn 68 (Rg.mem_of (by kernel_rfl))
        obtain rfl : v68 = .bool zc := r68
        obtain ⟨v64, e64, r64⟩ := hn 64 (Rg.mem_of (by kernel_rfl))
        obtain rfl : v64 = .bool false := r64
        refine .inl ⟨((Rg.wanted_some (t := 64) rfl (by kernel_rfl) e64).trans rfl), fun K hK => ?_⟩
        cases zc
        all_goals
          go_simp
          exact hK _ _ (Below.refl _ _) (fun t ht => by injection ht with ht; subst ht; exact rfl)
      refine Rg.good_cons ?_ ?_
      · intro ac w' cx hn
        obtain ⟨v64, e64, r64⟩ := hn 64 (Rg.mem_of (by kernel_rfl))
        obtain rfl : v64 = .bool false := r64
        obtain ⟨v69, e69, r69⟩ := hn 69 (Rg.mem_of (by kernel_rfl))
        obtain rfl : v69 = .bool false := r69
        refine .inl ⟨(Rg.wanted_none rfl), fun K hK => ?_⟩
        go_simp
        exact hK _ _ (Below.refl _ _) (fun t ht => by injection ht with ht; subst ht; exact rfl)
      exact Rg.good_nil
    case done =>
      intro u w11 hb11 hr
      have q70 : u 70 = .bool false := hr 70 (by simp)
      simp only [Rg.fillL_cons, Rg.fillL_nil, if_true, if_false, Bool.false_eq_true, q70]
      have B11 := Lib.hid (B10.out.trans (hb11.mono B10.out.size))
      have S11 := Lib.hid (S10.out.below hb11)
      have SZ11 := Lib.hid (SZ.out.below hb11)
      have SL11 := Lib.hid (SL.out.below hb11)
      have HB11 := Lib.hid (show w11.heap[g6]? = some (.cells #[.int .i64 r1, .int .i64 r2] 24 (0, 0)) ∧ w11.heap[g9]? = some (.cells #[.slice P N cp] 28 (0, 0)) ∧ w11.heap[g11]? = some (.cells #[.slice C nz cz] 28 (0, 0)) ∧ w11.heap[g12]? = some (.cells #[.slice D nl cl] 28 (0, 0)) from ⟨(hb11.block g6 HLU.out.1).trans HB10.out.1, (hb11.block g9 HLU.out.2.1).trans HB10.out.2.1, (hb11.block g11 HLU.out.2.2.1).trans HB10.out.2.2.1, (hb11.block g12 HLU.out.2.2.2).trans HB10.out.2.2.2⟩)
      have HLV := Lib.hid (show g6 < w11.heap.size ∧ g9 < w11.heap.size ∧ g11 < w11.heap.size ∧ g12 < w11.heap.size from ⟨(Array.getElem?_eq_some_iff.1 HB11.out.1).1, (Array.getElem?_eq_some_iff.1 HB11.out.2.1).1, (Array.getElem?_eq_some_iff.1 HB11.out.2.2.1).1, (Array.getElem?_eq_some_iff.1 HB11.out.2.2.2).1⟩)
      have HA11 := Lib.hid (HAA.out.below B11.out)
      have HB12 := Lib.hid (HBB.out.below B11.out)
      obtain ⟨Ea, hEa⟩ : ∃ Ea, edgesL a = Ea := ⟨_, rfl⟩
      obtain ⟨Eb, hEb⟩ : ∃ Eb, edgesL b = Eb := ⟨_, rfl⟩
      obtain ⟨Ec, hEc⟩ : ∃ Ec, edgesL [(r1, r2)] = Ec := ⟨_, rfl⟩
      have HEA := Lib.hid (show Ea.length ≤ 240 ∧ Eb.length ≤ 240 ∧ Ec.length ≤ 4 from by
        have h1 := edgesL_len a
        have h2 := edgesL_len b
        have h3 := edgesL_len [(r1, r2)]
        rw [hEa] at h1
        rw [hEb] at h2
        rw [hEc] at h3
        have := HN.out
        simp at h3
        omega)
      have HE := Lib.hid (And.intro hEa (And.intro hEb hEc))
      clear hr hb11 hEa hEb hEc
      go_wp2_with fail
      refine Rg.wp_region_invK (fun w w' => Below w11.heap.size w w') (R := fun sl v w => match sl with
          | 71 => v = .slice A n c
          | 72 => NU v
          | 73 => v = .slice B m d
          | 74 => NU v
          | 75 => NU v
          | 76 => v = .agg #[.int .i64 r1, .int .i64 r2]
          | 77 => NU v
          | 78 => NU v
          | 79 => v = .int .i64 t
          | 80 => NU v
          | 81 => NU v
          | 82 => NU v
          | _ => True) (fun a w => GH w11.heap.size Ea Eb Ec r1 r2 t a w) 12 [71, 72, 73, 74, 75, 76, 77, 78, 79, 80, 81, 82] 193 [false, false, false, false, false, false, false, false, false, false, false, false, false, false, false, false, false, false, false, false, false, false, false, false, false, false, false, false, false, false, false, false, false, false, false, false, false, false, false, false, false, false, false, false, false, false, false, false, false, false, false, false, false, false, false, false, false, false, false, false, false, false, false, false, false, false, false, false, false, false, false, true, true, true, true, true, true, true, true, true, true, true, true, false, false, false, false, false, false, false, false, false, false, false, false, false, false, false, false, false, false, false, false, false, false, false, false, false, false, false, false, false, false, false, false, false, false, false, false, false, false, false, false, false, false, false, false, false, false, false, false, false, false, false, false, false, false, false, false, false, false, false, false, false, false, false, false, false, false, false, false, false, false, false, false, false, false, false, false, false, false, false, false, false, false, false, false, false, false, false, false, false, false, false, false, false, false, false, false, false, false, false, false, false, false, false, false, false, false, false, false, false, false] (by kernel_rfl) rfl (by kernel_rfl) (by kernel_rfl) (by kernel_rfl) (by kernel_rfl) (Nat.le_of_ble_eq_true (by kernel_rfl)) (by kernel_rfl) (by kernel_rfl) (fun w => Below.refl _ w) (fun w w' h1 h2 => h1.trans h2) ?mono ?g0 ?good ?done
      case mono =>
        refine List.forall_mem_cons.2 ⟨fun _ _ _ _ _ h => h, ?_⟩
        refine List.forall_mem_cons.2 ⟨fun _ _ _ _ hb h => h, ?_⟩
        refine List.forall_mem_cons.2 ⟨fun _ _ _ _ _ h => h, ?_⟩
        refine List.forall_mem_cons.2 ⟨fun _ _ _ _ hb h => h, ?_⟩
        refine List.forall_mem_cons.2 ⟨fun _ _ _ _ hb h => h, ?_⟩
        refine List.forall_mem_cons.2 ⟨fun _ _ _ _ _ h => h, ?_⟩
        refine List.forall_mem_cons.2 ⟨fun _ _ _ _ hb h => h, ?_⟩
        refine List.forall_mem_cons.2 ⟨fun _ _ _ _ hb h => h, ?_⟩
        refine List.forall_mem_cons.2 ⟨fun _ _ _ _ _ h => h, ?_⟩
        refine List.forall_mem_cons.2 ⟨fun _ _ _ _ hb h => h, ?_⟩
        refine List.forall_mem_cons.2 ⟨fun _ _ _ _ hb h => h, ?_⟩
        refine List.forall_mem_cons.2 ⟨fun _ _ _ _ hb h => h, ?_⟩
        exact fun _ h => absurd h (by simp)
      case g0 => exact rws_none (fun s hs => by simp at hs; rcases hs with rfl | rfl | rfl | rfl | rfl | rfl | rfl | rfl <;> rfl)
      case good =>
        refine Rg.goodK_cons ?_ ?_
        · intro ac w' cx hg hd hn
          have e0 := cx.at_ 0 (by kernel_rfl) rfl
          refine .inl ⟨(Rg.wanted_none rfl), fun K hK => ?_⟩
          go_simp
          exact hK _ _ ((fun w => Below.refl _ w) _) (fun t ht => by injection ht with ht; subst ht; exact rfl) (hg.keep (Rg.rowW_ok _ _) (Below.refl _ _) (by decide) (by decide))
        refine Rg.goodK_cons ?_ ?_
        · intro ac w' cx hg hd hn
          obtain ⟨v71, e71, r71⟩ := hn 71 (Rg.mem_of (by kernel_rfl))
          obtain rfl : v71 = .slice A n c := r71
          refine .inl ⟨(Rg.wanted_none rfl), fun K hK => ?_⟩
          go_simp
          refine (edges_any A n c a w' HN.out.1.symm (HA11.out.below cx.bel) (by have := HN.out.1; omega)).mono ?_
          rintro e w2 ⟨v, rfl, A9, n9, c9, rfl, ho, hb⟩
          rw [HE.out.1] at ho
          obtain rfl := own_lenI ho
          exact hK _ _ (hb.mono cx.bel.size) (fun t ht => by injection ht with ht; subst ht; exact (by intro e; cases e)) (hg.add (Rg.rowW_ok _ _) hb (by decide) ⟨A9, c9, rfl, own_base ho cx.bel.size⟩ (fun g hg' => (ho.lt g hg').1) ((hd 72 rfl).trans rfl))
        refine Rg.goodK_cons ?_ ?_
        · intro ac w' cx hg hd hn
          have e1 := cx.at_ 1 (by kernel_rfl) rfl
          refine .inl ⟨(Rg.wanted_none rfl), fun K hK => ?_⟩
          go_simp
          exact hK _ _ ((fun w => Below.refl _ w) _) (fun t ht => by injection ht with ht; subst ht; exact rfl) (hg.keep (Rg.rowW_ok _ _) (Below.refl _ _) (by decide) (by decide))
        refine Rg.goodK_cons ?_ ?_
        · intro ac w' cx hg hd hn
          obtain ⟨v73, e73, r73⟩ := hn 73 (Rg.mem_of (by kernel_rfl))
          obtain rfl : v73 = .slice B m d := r73
          refine .inl ⟨(Rg.wanted_none rfl), fun K hK => ?_⟩
          go_simp
          refine (edges_any B m d b w' HN.out.2.symm (HB12.out.below cx.bel) (by have := HN.out.2; omega)).mono ?_
          rintro e w2 ⟨v, rfl, A9, n9, c9, rfl, ho, hb⟩
          rw [HE.out.2.1] at ho
          obtain rfl := own_lenI ho
          exact hK _ _ (hb.mono cx.bel.size) (fun t ht => by injection ht with ht; subst ht; exact (by intro e; cases e)) (hg.add (Rg.rowW_ok _ _) hb (by decide) ⟨A9, c9, rfl, own_base ho cx.bel.size⟩ (fun g hg' => (ho.lt g hg').1) ((hd 74 rfl).trans rfl))
        refine Rg.goodK_cons ?_ ?_
        · intro ac w' cx hg hd hn
          obtain ⟨v72, e72, r72⟩ := hn 72 (Rg.mem_of (by kernel_rfl))
          replace r72 : NU v72 := r72
          obtain ⟨v74, e74, r74⟩ := hn 74 (Rg.mem_of (by kernel_rfl))
          replace r74 : NU v74 := r74
          refine .inl ⟨(Rg.wanted_none rfl), fun K hK => ?_⟩
          have lq : Rg.live killH ac 72 := ⟨fun h => r72 (Option.some.inj (e72.symm.trans h)), fun k hk => by cases hk; exact (hd 75 rfl).trans rfl⟩
          have lx : Rg.live killH ac 74 := ⟨fun h => r74 (Option.some.inj (e74.symm.trans h)), fun k hk => by cases hk⟩
          obtain ⟨u1, h1, A1, c1, rfl, o1⟩ := hg.own 72 (by simp) lq
          obtain ⟨u2, h2, A2, c2, rfl, o2⟩ := hg.own 74 (by simp) lx
          refine wp_app_i64 (.tmp 72) (.tmp 74) rfl w11.heap.size A1 (Ea).length c1 (Ea) (by simp [Act.eval, h1, spH]) o1 A2 (Eb).length c2 (Eb) (by simp [Act.eval, h2, spH]) (own_none o2) rfl (own_cl o2) ((Ea) ++ (Eb)).length (List.length_append).symm (by have := HEA.out; simp; omega) cx.bel.size ?_
          intro A' c' w2 ho hgr hown
          exact hK _ _ ((Below.refl _ _).grown hgr cx.bel.size (fun k hk => (o1.lt k hk).1)) (fun t ht => by injection ht with ht; subst ht; exact (by intro e; cases e)) (hg.grow (Rg.rowW_ok _ _) rfl (by simp) (by decide) lq h1 hgr ⟨A', c', rfl, ho⟩ hown ((hd 75 rfl).trans rfl) (by intro e; cases e))
        refine Rg.goodK_cons ?_ ?_
        · intro ac w' cx hg hd hn
          have e6 := cx.at_ 6 (by kernel_rfl) rfl
          obtain ⟨hx, hy, _⟩ := box2 ((cx.bel.block g6 HLV.out.1).trans HB11.out.1)
          refine .inl ⟨(Rg.wanted_none rfl), fun K hK => ?_⟩
          go_simp
          exact hK _ _ ((fun w => Below.refl _ w) _) (fun t ht => by injection ht with ht; subst ht; exact rfl) (hg.keep (Rg.rowW_ok _ _) (Below.refl _ _) (by decide) (by decide))
        refine Rg.goodK_cons ?_ ?_
        · intro ac w' cx hg hd hn
          obtain ⟨v76, e76, r76⟩ := hn 76 (Rg.mem_of (by kernel_rfl))
          obtain rfl : v76 = .agg #[.int .i64 r1, .int .i64 r2] := r76
          refine .inl ⟨(Rg.wanted_none rfl), fun K hK => ?_⟩
          go_simp
          exact hK _ _ ((grows _ _).mono cx.bel.size) (fun t ht => by injection ht with ht; subst ht; exact (by intro e; cases e)) (hg.add (Rg.rowW_ok _ _) (grows _ _) (by decide) ⟨_, _, rfl, World.ownsRow_lit w' #[.int .i64 r1, .int .i64 r2] 1 cx.bel.size (by unfold maxLen; omega) rfl⟩ (fun g hg' => by simp [Value.ownBlock] at hg'; omega) ((hd 77 rfl).trans rfl))
        refine Rg.goodK_cons ?_ ?_
        · intro ac w' cx hg hd hn
          obtain ⟨v77, e77, r77⟩ := hn 77 (Rg.mem_of (by kernel_rfl))
          replace r77 : NU v77 := r77
          refine .inl ⟨(Rg.wanted_none rfl), fun K hK => ?_⟩
          have lx : Rg.live killH ac 77 := ⟨fun h => r77 (Option.some.inj (e77.symm.trans h)), fun k hk => by cases hk⟩
          obtain ⟨u2, h2, A2, c2, rfl, o2⟩ := hg.own 77 (by simp) lx
          have hc9 : Cl w' A2 (twoC .i64 [(r1, r2)]) := own_cl o2
          have HC9 := Lib.hid hc9
          have e78 : ac.tmps[77]? = some (.slice A2 1 c2) := h2
          clear o2 h2 e77 r77 lx hc9
          go_simp
          refine (edges_any A2 1 c2 [(r1, r2)] w' rfl HC9.out (by simp)).mono ?_
          rintro e w2 ⟨v, rfl, A9, n9, c9, rfl, ho, hb⟩
          rw [HE.out.2.2] at ho
          obtain rfl := own_lenI ho
          exact hK _ _ (hb.mono cx.bel.size) (fun t ht => by injection ht with ht; subst ht; exact (by intro e; cases e)) (hg.add (Rg.rowW_ok _ _) hb (by decide) ⟨A9, c9, rfl, own_base ho cx.bel.size⟩ (fun g hg' => (ho.lt g hg').1) ((hd 78 rfl).trans rfl))
        refine Rg.goodK_cons ?_ ?_
        · intro ac w' cx hg hd hn
          have e3 := cx.at_ 3 (by kernel_rfl) rfl
          refine .inl ⟨(Rg.wanted_none rfl), fun K hK => ?_⟩
          go_simp
          exact hK _ _ ((fun w => Below.refl _ w) _) (fun t ht => by injection ht with ht; subst ht; exact rfl) (hg.keep (Rg.rowW_ok _ _) (Below.refl _ _) (by decide) (by decide))
        refine Rg.goodK_cons ?_ ?_
        · intro ac w' cx hg hd hn
          obtain ⟨v79, e79, r79⟩ := hn 79 (Rg.mem_of (by kernel_rfl))
          obtain rfl : v79 = .int .i64 t := r79
          refine .inl ⟨(Rg.wanted_none rfl), fun K hK => ?_⟩
          go_simp
          exact hK _ _ ((grows _ _).mono cx.bel.size) (fun t ht => by injection ht with ht; subst ht; exact (by intro e; cases e)) (hg.add (Rg.rowW_ok _ _) (grows _ _) (by decide) ⟨_, _, rfl, World.ownsRow_lit w' #[.int .i64 t] 1 cx.bel.size (by unfold maxLen; omega) rfl⟩ (fun g hg' => by simp [Value.ownBlock] at hg'; omega) ((hd 80 rfl).trans rfl))
        refine Rg.goodK_cons ?_ ?_
        · intro ac w' cx hg hd hn
          obtain ⟨v78, e78, r78⟩ := hn 78 (Rg.mem_of (by kernel_rfl))
          replace r78 : NU v78 := r78
          obtain ⟨v80, e80, r80⟩ := hn 80 (Rg.mem_of (by kernel_rfl))
          replace r80 : NU v80 := r80
          refine .inl ⟨(Rg.wanted_none rfl), fun K hK => ?_⟩
          have lq : Rg.live killH ac 78 := ⟨fun h => r78 (Option.some.inj (e78.symm.trans h)), fun k hk => by cases hk; exact (hd 81 rfl).trans rfl⟩
          have lx : Rg.live killH ac 80 := ⟨fun h => r80 (Option.some.inj (e80.symm.trans h)), fun k hk => by cases hk⟩
          obtain ⟨u1, h1, A1, c1, rfl, o1⟩ := hg.own 78 (by simp) lq
          obtain ⟨u2, h2, A2, c2, rfl, o2⟩ := hg.own 80 (by simp) lx
          refine wp_app_i64 (.tmp 78) (.tmp 80) rfl w11.heap.size A1 (Ec).length c1 (Ec) (by simp [Act.eval, h1, spH]) o1 A2 ([t]).length c2 ([t]) (by simp [Act.eval, h2, spH]) (own_none o2) rfl (own_cl o2) ((Ec) ++ ([t])).length (List.length_append).symm (by have := HEA.out; simp; omega) cx.bel.size ?_
          intro A' c' w2 ho hgr hown
          exact hK _ _ ((Below.refl _ _).grown hgr cx.bel.size (fun k hk => (o1.lt k hk).1)) (fun t ht => by injection ht with ht; subst ht; exact (by intro e; cases e)) (hg.grow (Rg.rowW_ok _ _) rfl (by simp) (by decide) lq h1 hgr ⟨A', c', rfl, ho⟩ hown ((hd 81 rfl).trans rfl) (by intro e; cases e))
        refine Rg.goodK_cons ?_ ?_
        · intro ac w' cx hg hd hn
          obtain ⟨v75, e75, r75⟩ := hn 75 (Rg.mem_of (by kernel_rfl))
          replace r75 : NU v75 := r75
          obtain ⟨v81, e81, r81⟩ := hn 81 (Rg.mem_of (by kernel_rfl))
          replace r81 : NU v81 := r81
          refine .inl ⟨(Rg.wanted_none rfl), fun K hK => ?_⟩
          have lq : Rg.live killH ac 75 := ⟨fun h => r75 (Option.some.inj (e75.symm.trans h)), fun k hk => by cases hk; exact (hd 82 rfl).trans rfl⟩
          have lx : Rg.live killH ac 81 := ⟨fun h => r81 (Option.some.inj (e81.symm.trans h)), fun k hk => by cases hk⟩
          obtain ⟨u1, h1, A1, c1, rfl, o1⟩ := hg.own 75 (by simp) lq
          obtain ⟨u2, h2, A2, c2, rfl, o2⟩ := hg.own 81 (by simp) lx
          refine wp_app_i64 (.tmp 75) (.tmp 81) rfl w11.heap.size A1 (Ea ++ Eb).length c1 (Ea ++ Eb) (by simp [Act.eval, h1, spH]) o1 A2 (Ec ++ [t]).length c2 (Ec ++ [t]) (by simp [Act.eval, h2, spH]) (own_none o2) rfl (own_cl o2) ((Ea ++ Eb) ++ (Ec ++ [t])).length (List.length_append).symm (by have := HEA.out; simp; omega) cx.bel.size ?_
          intro A' c' w2 ho hgr hown
          exact hK _ _ ((Below.refl _ _).grown hgr cx.bel.size (fun k hk => (o1.lt k hk).1)) (fun t ht => by injection ht with ht; subst ht; exact (by intro e; cases e)) (hg.grow (Rg.rowW_ok _ _) rfl (by simp) (by decide) lq h1 hgr ⟨A', c', rfl, ho⟩ hown ((hd 82 rfl).trans rfl) (by intro e; cases e))
        exact Rg.goodK_nil
      case done =>
        intro u w12 hb12 hr hG
        have hu82 : u 82 ≠ undef := hr 82 (by simp)
        obtain ⟨u2, h2, AE, cE, rfl, oE⟩ := hG.own 82 (by simp) ⟨fun h => hu82 (Option.some.inj h), fun k hk => by cases hk⟩
        have q82 : u 82 = .slice AE (spH Ea Eb Ec r1 r2 t 82).n cE := Option.some.inj h2
        obtain ⟨E, hE⟩ : ∃ E, (Ea ++ Eb) ++ (Ec ++ [t]) = E := ⟨_, rfl⟩
        obtain ⟨NE, hNE⟩ : ∃ NE, E.length = NE := ⟨_, rfl⟩
        have q82' : u 82 = .slice AE NE cE := by rw [q82, ← hNE, ← hE]; rfl
        have hcE : Cl w12 AE (intsC .i64 E) := by rw [← hE]; exact own_cl oE
        simp only [Rg.fillL_cons, Rg.fillL_nil, if_true, if_false, Bool.false_eq_true, q82']
        change wpList _ _ _ [_] _ _
        have HCE := Lib.hid hcE
        have HNE := Lib.hid (show E.length = NE ∧ NE ≤ 500 from ⟨hNE, by have := HEA.out; rw [← hNE, ← hE]; simp; omega⟩)
        have HEE := Lib.hid hE
        have hNEi : (NE : Int) ≤ 500 := by have := HNE.out.2; omega
        have B12 := Lib.hid (B11.out.trans (hb12.mono B11.out.size))
        have S12 := Lib.hid (S11.out.below hb12)
        have SZ12 := Lib.hid (SZ11.out.below hb12)
        have SL12 := Lib.hid (SL11.out.below hb12)
        have HB13 := Lib.hid (show w12.heap[g6]? = some (.cells #[.int .i64 r1, .int .i64 r2] 24 (0, 0)) ∧ w12.heap[g9]? = some (.cells #[.slice P N cp] 28 (0, 0)) ∧ w12.heap[g11]? = some (.cells #[.slice C nz cz] 28 (0, 0)) ∧ w12.heap[g12]? = some (.cells #[.slice D nl cl] 28 (0, 0)) from ⟨(hb12.block g6 HLV.out.1).trans HB11.out.1, (hb12.block g9 HLV.out.2.1).trans HB11.out.2.1, (hb12.block g11 HLV.out.2.2.1).trans HB11.out.2.2.1, (hb12.block g12 HLV.out.2.2.2).trans HB11.out.2.2.2⟩)
        have HA12 := Lib.hid (HA11.out.below hb12)
        have HB14 := Lib.hid (HB12.out.below hb12)
        clear hr hG hb12 hu82 h2 oE q82 q82' hcE hNE hE
        go_wp2_with fail
        have hany : ∀ k, k ≤ NE → ∃ g, (E.take k).any (hasRB a) = g := fun k _ => ⟨_, rfl⟩
        clear hany
        have HBX := Lib.hid (fun W (hW : Below w12.heap.size w12 W) => show W.cell? ⟨g9, 0, none⟩ = some (.slice P N cp) ∧ W.cell? ⟨g11, 0, none⟩ = some (.slice C nz cz) ∧ W.cell? ⟨g12, 0, none⟩ = some (.slice D nl cl) ∧ W.cell? ⟨g6, 0, none⟩ = some (.int .i64 r1) ∧ W.cell? ⟨g6, 1, none⟩ = some (.int .i64 r2) from
          ⟨(box1 ((hW.block g9 (Array.getElem?_eq_some_iff.1 HB13.out.2.1).1).trans HB13.out.2.1)).1, (box1 ((hW.block g11 (Array.getElem?_eq_some_iff.1 HB13.out.2.2.1).1).trans HB13.out.2.2.1)).1, (box1 ((hW.block g12 (Array.getElem?_eq_some_iff.1 HB13.out.2.2.2).1).trans HB13.out.2.2.2)).1, (box2 ((hW.block g6 (Array.getElem?_eq_some_iff.1 HB13.out.1).1).trans HB13.out.1)).1, (box2 ((hW.block g6 (Array.getElem?_eq_some_iff.1 HB13.out.1).1).trans HB13.out.1)).2.1⟩)
        go_loopw [14, 85] (fun v14 i wr => ∃ k : Nat, k ≤ NE ∧ i = .int .i64 k ∧ v14 = .bool ((E.take k).any (hasRB a)) ∧ Hid (Below w12.heap.size w12 wr)) (fun _ i _ => NE - (intOf i).toNat)
        case atStart => exact ⟨0, by omega, rfl, by simp, Lib.hid (Below.refl _ _)⟩
        case round =>
          obtain ⟨k, hk8, rfl, rfl, HBR⟩ := hrel
          by_cases hlt : k < NE
          · have hki : (k : Int) < (NE : Int) := by omega
            obtain ⟨e, he⟩ := getElem?_lt (l := E) (k := k) (by rw [HNE.out.1]; exact hlt)
            obtain ⟨bE, offE, rfl, hcell⟩ := (HCE.out.below HBR.out).ints (by rw [HNE.out.1]; omega)
            have q0 := hcell k e he
            obtain ⟨i, hi⟩ : ∃ i, hasRB a e = i := ⟨_, rfl⟩
            obtain ⟨o, ho⟩ : ∃ o, hasRB b e = o := ⟨_, rfl⟩
            obtain ⟨q, hq⟩ : ∃ q, hasRB [(r1, r2)] e = q := ⟨_, rfl⟩
            obtain ⟨g, hg⟩ : ∃ g, (E.take k).any (hasRB a) = g := ⟨_, rfl⟩
            have HG := Lib.hid (show (E.take (k + 1)).any (hasRB a) = (g || i) by rw [take_snoc E k e he, List.any_append, hg]; simp [hi])
            have HXe := Lib.hid (show hasB X e = i from (is_hasB HX.out e).trans hi)
            have HZe := Lib.hid (show hasB Z e = (i || o) from hasB_of HZ.out.2.1 e _ (by rw [HX.out.2 e, HY.out.2 e, ← hasRB_iff a e, ← hasRB_iff b e, hi, ho]; cases i <;> cases o <;> simp))
            have HLe := Lib.hid (show hasB L e = (i && !q) from hasB_of HLL.out.2.1 e _ (by rw [HX.out.2 e, ← hasRB_iff a e, ← hasRB_iff [(r1, r2)] e, hi, hq]; cases i <;> cases q <;> simp))
            have HRA := Lib.hid (fun W (hW : Below w12.heap.size w12 W) => rhas_any A n c a e W HN.out.1.symm (HA12.out.below hW) (by have := HN.out.1; omega))
            have HRB := Lib.hid (fun W (hW : Below w12.heap.size w12 W) => rhas_any B m d b e W HN.out.2.symm (HB14.out.below hW) (by have := HN.out.2; omega))
            have HHX := Lib.hid (fun W (hW : Below w12.heap.size w12 W) => has_any (.agg #[.slice P N cp]) X e W (S12.out.below hW) HX.out.1 (by have := HLX.out; omega))
            have HHZ := Lib.hid (fun W (hW : Below w12.heap.size w12 W) => has_any (.agg #[.slice C nz cz]) Z e W (SZ12.out.below hW) HZ.out.1 (by have := HZ.out.2.2; omega))
            have HHL := Lib.hid (fun W (hW : Below w12.heap.size w12 W) => has_any (.agg #[.slice D nl cl]) L e W (SL12.out.below hW) HLL.out.1 (by have := HLL.out.2.2; omega))
            have HRC := Lib.hid (fun W (hW : Below w12.heap.size w12 W) (g7 : Nat) (hc : Cl W (some ⟨g7, 0, none⟩) (twoC .i64 [(r1, r2)])) => rhas_any (some ⟨g7, 0, none⟩) 1 1 [(r1, r2)] e W rfl hc (by simp))
            rw [hi] at HRA
            rw [ho] at HRB
            rw [hq] at HRC
            rw [HXe.out] at HHX
            rw [HZe.out] at HHZ
            rw [HLe.out] at HHL
            rw [hg]
            clear hcell he hi ho hq hg HXe HZe HLe
            go_wp2_with fail
            refine (HRA.out wr HBR.out).mono ?_
            rintro y w13 ⟨rfl, hb13⟩
            have B13 := Lib.hid (HBR.out.trans (hb13.mono HBR.out.size))
            clear hb13 q0
            go_wp2_with fail
            refine (HRB.out w13 B13.out).mono ?_
            rintro y w14 ⟨rfl, hb14⟩
            have B14 := Lib.hid (B13.out.trans (hb14.mono B13.out.size))
            clear hb14
            obtain ⟨y9, y11, y12, y6, y6'⟩ := HBX.out w14 B14.out
            cases i <;> cases g
            all_goals
              simp only [Bool.or_false, Bool.or_true, Bool.false_or, Bool.true_or, Bool.and_false, Bool.and_true, Bool.false_and, Bool.true_and, Bool.not_true, Bool.not_false] at HHZ HHL HG
              go_wp2_with fail
              refine (HHX.out w14 B14.out).mono ?_
              rintro y w15 ⟨rfl, hb15⟩
              have B15 := Lib.hid (B14.out.trans (hb15.mono B14.out.size))
              obtain ⟨z9, z11, z12, z6, z6'⟩ := HBX.out w15 B15.out
              clear hb15 y9 y11 y12 y6 y6'
              go_wp2_with fail
              refine (HHZ.out w15 B15.out).mono ?_
              rintro y w16 ⟨rfl, hb16⟩
              have B16 := Lib.hid (B15.out.trans (hb16.mono B15.out.size))
              obtain ⟨y9, y11, y12, y6, y6'⟩ := HBX.out w16 B16.out
              clear hb16 z9 z11 z12 z6 z6'
              go_wp2_with fail
              refine (HHL.out w16 B16.out).mono ?_
              rintro y w17 ⟨rfl, hb17⟩
              have B17 := Lib.hid (B16.out.trans (hb17.mono B16.out.size))
              obtain ⟨z9, z11, z12, z6, z6'⟩ := HBX.out w17 B17.out
              have c17 := grows w17 (.cells #[.int .i64 r1, .int .i64 r2] 24)
              have B18 := Lib.hid (B17.out.trans (c17.mono B17.out.size))
              have HC18 := Lib.hid (HRC.out _ B18.out w17.heap.size (new_cl1 w17 (r1, r2) _))
              clear hb17 c17 y9 y11 y12 y6 y6'
              go_wp2_with fail
              first
                | (go_roundw
                   case rel => first | exact ⟨k + 1, by omega, by go_num, by rw [HG.out], B17⟩ | ((repeat apply Exists.intro); exact ⟨⟨k + 1, by omega, by go_num, by rw [HG.out], B17⟩, rfl⟩)
                   case measure => simp [intOf]; omega)
                | (refine HC18.out.mono ?_
                   rintro y w18 ⟨rfl, hb18⟩
                   have B19 := Lib.hid (B18.out.trans (hb18.mono B18.out.size))
                   clear hb18
                   go_wp2_with fail
                   go_roundw
                   case rel => first | exact ⟨k + 1, by omega, by go_num, by rw [HG.out], B19⟩ | ((repeat apply Exists.intro); exact ⟨⟨k + 1, by omega, by go_num, by rw [HG.out], B19⟩, rfl⟩)
                   case measure => simp [intOf]; omega)
          · obtain rfl : k = NE := by omega
            have hki : ¬ ((k : Int) < (k : Int)) := by omega
            obtain ⟨g, hg⟩ : ∃ g, (E.take k).any (hasRB a) = g := ⟨_, rfl⟩
            have HGE := Lib.hid (show g = !decide (X = []) from by
              rw [← hg, List.take_of_length_le (by rw [HNE.out.1]; exact Nat.le_refl _)]
              rw [Bool.eq_iff_iff, List.any_eq_true, Bool.not_eq_true', decide_eq_false_iff_not]
              constructor
              · rintro ⟨e, _, he⟩ hx0
                have h1 := (HX.out.2 e).2 ((hasRB_iff a e).1 he)
                rw [hx0] at h1
                exact hasP_nil e h1
              · intro hx0
                obtain ⟨r, s, hrs⟩ : ∃ r s, X = r :: s := by
                  cases X with
                  | nil => exact absurd rfl hx0
                  | cons r s => exact ⟨r, s, rfl⟩
                have hr0 : r ∈ X := by rw [hrs]; simp
                obtain ⟨r', hr', hR', _⟩ := (HX.out.2 r.1).1 ⟨r, hr0, Int.le_refl _, (HX.out.1.1 r hr0).2.1⟩
                refine ⟨r'.1, ?_, (hasRB_iff a r'.1).2 ⟨r', hr', hR', Int.le_refl _, hR'.2.1⟩⟩
                rw [← HEE.out, ← HE.out.1]
                exact List.mem_append_left _ (List.mem_append_left _ (edgesL_mem hr' hR')))
            rw [hg]
            clear hg
            have hge := HGE.out
            subst hge
            have hw := IntWalk.i64_in (t + 1) (by omega)
            obtain ⟨y9, y11, y12, y6, y6'⟩ := HBX.out wr HBR.out
            have B20 := Lib.hid (HBR.out.trans ((grows wr (.cells #[.int .i64 t, .int .i64 0, .int .i64 0, .int .i64 0, .int .u64 0, .int .u64 0, .int .i64 0, .slice none 0 0, .slice none 0 0, .int .i64 (t + 1), .int .i64 0, .int .i64 0, .int .i64 0, .int .u64 0, .int .u64 0, .int .i64 0, .slice none 0 0, .slice none 0 0] 49)).mono HBR.out.size))
            obtain ⟨l, hl_⟩ : ∃ l : List Sm, [(t, (0 : Int)), (t + 1, (0 : Int))] = l := ⟨_, rfl⟩
            have HL := Lib.hid (show l.length = 2 ∧ ∀ j : Nat, j < 2 → l[j]? = some (t + (j : Int), (0 : Int)) from by
              rw [← hl_]
              refine ⟨rfl, fun j hj => ?_⟩
              obtain rfl | rfl : j = 0 ∨ j = 1 := by omega
              · simp
              · simp)
            have HK := Lib.hid (keep_any (.agg #[.slice P N cp]) X (some ⟨wr.heap.size, 0, none⟩) 2 2 [(t, 0), (t + 1, 0)] _ rfl (S12.out.below B20.out) HX.out.1 (by have := HLX.out; omega) (new_sm2 wr t (t + 1) 49) (by simp))
            rw [hl_] at HK
            clear hl_
            go_wp2_with fail
            refine HK.out.mono ?_
            rintro y w21 ⟨A9, c9, rfl, z9, hc9, hb21⟩
            obtain ⟨q, hq⟩ : ∃ q, (l.filter (out X)).length = q := ⟨_, rfl⟩
            have HQ := Lib.hid hq
            have HC9 := Lib.hid hc9
            have B21 := Lib.hid (B20.out.trans (hb21.mono B20.out.size))
            have hq2 : q ≤ 2 := by rw [← hq]; have := List.length_filter_le (out X) l; have := HL.out.1; omega
            rw [hq]
            obtain ⟨W22, hW22⟩ : ∃ W22, w21.alloc (.cells #[.int .i64 t, .int .i64 (t + 1)] 2) = W22 := ⟨_, rfl⟩
            obtain ⟨g22, hg22⟩ : ∃ g22, w21.heap.size = g22 := ⟨_, rfl⟩
            have c22 : Below w21.heap.size w21 W22 := hW22 ▸ grows w21 _
            have x22 : W22.heap[g22]? = some (.cells #[.int .i64 t, .int .i64 (t + 1)] 2 (0, 0)) := hg22 ▸ hW22 ▸ heap_alloc_new w21 _
            have B22 := Lib.hid (B21.out.trans (c22.mono B21.out.size))
            have HC22 := Lib.hid (HC9.out.below c22)
            have HT22 := Lib.hid (fun (W : World) (hW : Below W22.heap.size W22 W) (j : Nat) (hj : j < 2) => show W.cell? ⟨g22, j, none⟩ = some (.int .i64 (t + (j : Int))) from by
              have h1 := (hW.block g22 (Array.getElem?_eq_some_iff.1 x22).1).trans x22
              rw [cell_of_row _ _ _ _ _ _ h1]
              obtain rfl | rfl : j = 0 ∨ j = 1 := by omega
              · simp
              · simp)
            clear hc9 hb21 hq c22 x22 y9 y11 y12 y6 y6' z9
            go_wp2_with fail
            clear hW22 hw
            go_loopw [20, 142] (fun v20 i wr => ∃ k : Nat, k ≤ 2 ∧ i = .int .i64 k ∧ v20 = .int .i64 ((((l.take k).filter (out X)).length : Nat) : Int) ∧ Hid (Below W22.heap.size W22 wr)) (fun _ i _ => 2 - (intOf i).toNat)
            case atStart => exact ⟨0, by omega, rfl, rfl, Lib.hid (Below.refl _ _)⟩
            case round =>
              obtain ⟨k, hkk, rfl, rfl, HBS⟩ := hrel
              have B23 := Lib.hid (B22.out.trans (HBS.out.mono B22.out.size))
              by_cases hlt : k < 2
              · have hki : (k : Int) < 2 := by omega
                have q0 := HT22.out _ HBS.out k hlt
                have hs := HL.out.2 k hlt
                have HT := Lib.hid (take_snoc l k _ hs)
                have HAT := Lib.hid (fun h => filter_at (f := out X) hs h)
                obtain ⟨j, hj⟩ : ∃ j, ((l.take k).filter (out X)).length = j := ⟨_, rfl⟩
                rw [hj] at HAT ⊢
                have HJ := Lib.hid hj
                obtain ⟨tt, htt⟩ : ∃ tt, t + (k : Int) = tt := ⟨_, rfl⟩
                rw [htt] at q0 HT HAT
                obtain ⟨z, hz⟩ : ∃ z, hasRB a tt = z := ⟨_, rfl⟩
                have HZ7 := Lib.hid (show hasB X tt = z from (is_hasB HX.out tt).trans hz)
                have HH := Lib.hid (rhas_any A n c a tt _ HN.out.1.symm (HA12.out.below B23.out) (by have := HN.out.1; omega))
                rw [hz] at HH
                have hj2 : j ≤ 2 := by
                  rw [← hj]
                  have h1 := List.length_filter_le (out X) (l.take k)
                  rw [List.length_take] at h1
                  omega
                clear hs hz hj htt
                go_wp2_with fail
                refine HH.out.mono ?_
                rintro y w24 ⟨rfl, hb24⟩
                have B24 := Lib.hid (HBS.out.trans (hb24.mono HBS.out.size))
                cases z with
                | true =>
                  have HF := Lib.hid (show ((l.take (k + 1)).filter (out X)).length = j by rw [HT.out, List.filter_append, List.filter_cons, ← HJ.out]; simp [out, HZ7.out])
                  clear hb24 q0
                  go_wp2_with fail
                  go_roundw
                  case rel => first | exact ⟨k + 1, by omega, by go_num, by rw [HF.out], B24⟩ | ((repeat apply Exists.intro); exact ⟨⟨k + 1, by omega, by go_num, by rw [HF.out], B24⟩, rfl⟩)
                  case measure => simp [intOf]; omega
                | false =>
                  have HF := Lib.hid (show ((l.take (k + 1)).filter (out X)).length = j + 1 by rw [HT.out, List.filter_append, List.filter_cons, List.length_append, HJ.out]; simp [out, HZ7.out])
                  have hjq := HAT.out (by simp [out, HZ7.out])
                  have hjlt : j < q := by rw [← HQ.out]; exact (List.getElem?_eq_some_iff.1 hjq).1
                  obtain ⟨b9, off9, rfl, hcell9⟩ := (HC22.out.below B24.out).sms (by rw [HQ.out]; omega)
                  have u0 : w24.cell? ⟨b9, off9 + j * 9, none⟩ = some (.int .i64 tt) := hcell9 j _ hjq 0 (by omega)
                  have hji : decide ((q : Int) ≤ (j : Int)) = false := by simp; omega
                  have hji2 : (j : Int) < (q : Int) := by omega
                  have hji3 : decide (q ≤ j) = false := by simp; omega
                  clear hb24 q0 hcell9 hjq
                  go_wp2_with fail
                  go_roundw
                  case rel => first | exact ⟨k + 1, by omega, by go_num, by rw [HF.out]; go_num, B24⟩ | ((repeat apply Exists.intro); exact ⟨⟨k + 1, by omega, by go_num, by rw [HF.out]; go_num, B24⟩, rfl⟩)
                  case measure => simp [intOf]; omega
              · obtain rfl : k = 2 := by omega
                have htk : ((l.take 2).filter (out X)).length = q := by rw [List.take_of_length_le (by rw [HL.out.1]; exact Nat.le_refl _), HQ.out]
                rw [htk]
                clear htk
                have S23 := Lib.hid (S12.out.below B23.out)
                have SZ23 := Lib.hid (SZ12.out.below B23.out)
                have HBZ := Lib.hid (fun W hW => HBX.out W (B23.out.trans (Below.mono hW B23.out.size)))
                obtain ⟨em, hem⟩ : ∃ em, decide (X = []) = em := ⟨_, rfl⟩
                obtain ⟨sm, hsm⟩ : ∃ sm, eqL X Z = sm := ⟨_, rfl⟩
                have hxx : eqL X X = true := by unfold eqL; simp
                have HEQ := Lib.hid (And.intro hem (And.intro hsm hxx))
                rw [hem]
                clear hem hsm hxx
                go_wp2_with fail
                refine Rg.wp_region_inv (R := fun sl v w => match sl with
                    | 166 => v = .bool true
                    | 167 => v = .bool true
                    | 168 => v = .int .i64 (q : Int)
                    | 169 => v = .slice A9 q c9
                    | 170 => v = .int .i64 (q : Int)
                    | 171 => v = .bool true
                    | 172 => v = .bool true
                    | 173 => v = .bool true
                    | 174 => v = .agg #[.slice P N cp]
                    | 175 => v = .bool em
                    | 176 => v = .bool (!em)
                    | 177 => v = .bool true
                    | 178 => v = .bool true
                    | 179 => v = .bool true
                    | 180 => v = .agg #[.slice P N cp]
                    | 181 => v = .agg #[.slice P N cp]
                    | 182 => v = .bool true
                    | 183 => v = .bool true
                    | 184 => v = .bool true
                    | 185 => v = .agg #[.slice P N cp]
                    | 186 => v = .agg #[.slice C nz cz]
                    | 187 => v = .bool sm
                    | 188 => v = .agg #[.slice P N cp]
                    | 189 => v = .agg #[.slice C nz cz]
                    | 190 => v = .bool sm
                    | 191 => v = .bool true
                    | 192 => v = .bool true
                    | 8 => v = .bool true
                    | _ => True) [166, 167, 168, 169, 170, 171, 172, 173, 174, 175, 176, 177, 178, 179, 180, 181, 182, 183, 184, 185, 186, 187, 188, 189, 190, 191, 192, 8] 193 [false, false, false, false, false, false, false, false, true, false, false, false, false, false, false, false, false, false, false, false, false, false, false, false, false, false, false, false, false, false, false, false, false, false, false, false, false, false, false, false, false, false, false, false, false, false, false, false, false, false, false, false, false, false, false, false, false, false, false, false, false, false, false, false, false, false, false, false, false, false, false, false, false, false, false, false, false, false, false, false, false, false, false, false, false, false, false, false, false, false, false, false, false, false, false, false, false, false, false, false, false, false, false, false, false, false, false, false, false, false, false, false, false, false, false, false, false, false, false, false, false, false, false, false, false, false, false, false, false, false, false, false, false, false, false, false, false, false, false, false, false, false, false, false, false, false, false, false, false, false, false, false, false, false, false, false, false, false, false, false, false, false, false, false, false, false, true, true, true, true, true, true, true, true, true, true, true, true, true, true, true, true, true, true, true, true, true, true, true, true, true, true, true] (by kernel_rfl) rfl (by kernel_rfl) (by kernel_rfl) (by kernel_rfl) (by kernel_rfl) (by kernel_rfl) ?mono ?good ?done
                case mono =>
                  refine List.forall_mem_cons.2 ⟨fun _ _ _ _ _ h => h, ?_⟩
                  refine List.forall_mem_cons.2 ⟨fun _ _ _ _ _ h => h, ?_⟩
                  refine List.forall_mem_cons.2 ⟨fun _ _ _ _ _ h => h, ?_⟩
                  refine List.forall_mem_cons.2 ⟨fun _ _ _ _ _ h => h, ?_⟩
                  refine List.forall_mem_cons.2 ⟨fun _ _ _ _ _ h => h, ?_⟩
                  refine List.forall_mem_cons.2 ⟨fun _ _ _ _ _ h => h, ?_⟩
                  refine List.forall_mem_cons.2 ⟨fun _ _ _ _ _ h => h, ?_⟩
                  refine List.forall_mem_cons.2 ⟨fun _ _ _ _ _ h => h, ?_⟩
                  refine List.forall_mem_cons.2 ⟨fun _ _ _ _ _ h => h, ?_⟩
                  refine List.forall_mem_cons.2 ⟨fun _ _ _ _ _ h => h, ?_⟩
                  refine List.forall_mem_cons.2 ⟨fun _ _ _ _ _ h => h, ?_⟩
                  refine List.forall_mem_cons.2 ⟨fun _ _ _ _ _ h => h, ?_⟩
                  refine List.forall_mem_cons.2 ⟨fun _ _ _ _ _ h => h, ?_⟩
                  refine List.forall_mem_cons.2 ⟨fun _ _ _ _ _ h => h, ?_⟩
                  refine List.forall_mem_cons.2 ⟨fun _ _ _ _ _ h => h, ?_⟩
                  refine List.forall_mem_cons.2 ⟨fun _ _ _ _ _ h => h, ?_⟩
                  refine List.forall_mem_cons.2 ⟨fun _ _ _ _ _ h => h, ?_⟩
                  refine List.forall_mem_cons.2 ⟨fun _ _ _ _ _ h => h, ?_⟩
                  refine List.forall_mem_cons.2 ⟨fun _ _ _ _ _ h => h, ?_⟩
                  refine List.forall_mem_cons.2 ⟨fun _ _ _ _ _ h => h, ?_⟩
                  refine List.forall_mem_cons.2 ⟨fun _ _ _ _ _ h => h, ?_⟩
                  refine List.forall_mem_cons.2 ⟨fun _ _ _ _ _ h => h, ?_⟩
                  refine List.forall_mem_cons.2 ⟨fun _ _ _ _ _ h => h, ?_⟩
                  refine List.forall_mem_cons.2 ⟨fun _ _ _ _ _ h => h, ?_⟩
                  refine List.forall_mem_cons.2 ⟨fun _ _ _ _ _ h => h, ?_⟩
                  refine List.forall_mem_cons.2 ⟨fun _ _ _ _ _ h => h, ?_⟩
                  refine List.forall_mem_cons.2 ⟨fun _ _ _ _ _ h => h, ?_⟩
                  refine List.forall_mem_cons.2 ⟨fun _ _ _ _ _ h => h, ?_⟩
                  exact fun _ h => absurd h (by simp)
                case good =>
                  refine Rg.good_cons ?_ ?_
                  · intro ac w' cx hn
                    refine .inl ⟨(Rg.wanted_none rfl), fun K hK => ?_⟩
                    go_simp
                    refine (awake14 w').mono ?_
                    rintro e w2 ⟨rfl, hb⟩
                    exact hK _ _ hb (fun t ht => by injection ht with ht; subst ht; exact rfl)
                  refine Rg.good_cons ?_ ?_
                  · intro ac w' cx hn
                    obtain ⟨v166, e166, r166⟩ := hn 166 (Rg.mem_of (by kernel_rfl))
                    obtain rfl : v166 = .bool true := r166
                    refine .inl ⟨(Rg.wanted_none rfl), fun K hK => ?_⟩
                    go_simp
                    exact hK _ _ (Below.refl _ _) (fun t ht => by injection ht with ht; subst ht; exact rfl)
                  refine Rg.good_cons ?_ ?_
                  · intro ac w' cx hn
                    have e20 := cx.at_ 20 (by kernel_rfl) rfl
                    obtain ⟨v167, e167, r167⟩ := hn 167 (Rg.mem_of (by kernel_rfl))
                    obtain rfl : v167 = .bool true := r167
                    refine .inl ⟨((Rg.wanted_some (t := 167) rfl (by kernel_rfl) e167).trans rfl), fun K hK => ?_⟩
                    go_simp
                    exact hK _ _ (Below.refl _ _) (fun t ht => by injection ht with ht; subst ht; exact rfl)
                  refine Rg.good_cons ?_ ?_
                  · intro ac w' cx hn
                    have e19 := cx.at_ 19 (by kernel_rfl) rfl
                    obtain ⟨v167, e167, r167⟩ := hn 167 (Rg.mem_of (by kernel_rfl))
                    obtain rfl : v167 = .bool true := r167
                    refine .inl ⟨((Rg.wanted_some (t := 167) rfl (by kernel_rfl) e167).trans rfl), fun K hK => ?_⟩
                    go_simp
                    exact hK _ _ (Below.refl _ _) (fun t ht => by injection ht with ht; subst ht; exact rfl)
                  refine Rg.good_cons ?_ ?_
                  · intro ac w' cx hn
                    obtain ⟨v169, e169, r169⟩ := hn 169 (Rg.mem_of (by kernel_rfl))
                    obtain rfl : v169 = .slice A9 q c9 := r169
                    obtain ⟨v167, e167, r167⟩ := hn 167 (Rg.mem_of (by kernel_rfl))
                    obtain rfl : v167 = .bool true := r167
                    refine .inl ⟨((Rg.wanted_some (t := 167) rfl (by kernel_rfl) e167).trans rfl), fun K hK => ?_⟩
                    go_simp
                    exact hK _ _ (Below.refl _ _) (fun t ht => by injection ht with ht; subst ht; exact rfl)
                  refine Rg.good_cons ?_ ?_
                  · intro ac w' cx hn
                    obtain ⟨v168, e168, r168⟩ := hn 168 (Rg.mem_of (by kernel_rfl))
                    obtain rfl : v168 = .int .i64 (q : Int) := r168
                    obtain ⟨v170, e170, r170⟩ := hn 170 (Rg.mem_of (by kernel_rfl))
                    obtain rfl : v170 = .int .i64 (q : Int) := r170
                    obtain ⟨v167, e167, r167⟩ := hn 167 (Rg.mem_of (by kernel_rfl))
                    obtain rfl : v167 = .bool true := r167
                    refine .inl ⟨((Rg.wanted_some (t := 167) rfl (by kernel_rfl) e167).trans rfl), fun K hK => ?_⟩
                    go_simp
                    exact hK _ _ (Below.refl _ _) (fun t ht => by injection ht with ht; subst ht; exact rfl)
                  refine Rg.good_cons ?_ ?_
                  · intro ac w' cx hn
                    obtain ⟨v167, e167, r167⟩ := hn 167 (Rg.mem_of (by kernel_rfl))
                    obtain rfl : v167 = .bool true := r167
                    obtain ⟨v171, e171, r171⟩ := hn 171 (Rg.mem_of (by kernel_rfl))
                    obtain rfl : v171 = .bool true := r171
                    refine .inl ⟨(Rg.wanted_none rfl), fun K hK => ?_⟩
                    go_simp
                    exact hK _ _ (Below.refl _ _) (fun t ht => by injection ht with ht; subst ht; exact rfl)
                  refine Rg.good_cons ?_ ?_
                  · intro ac w' cx hn
                    obtain ⟨v172, e172, r172⟩ := hn 172 (Rg.mem_of (by kernel_rfl))
                    obtain rfl : v172 = .bool true := r172
                    refine .inl ⟨(Rg.wanted_none rfl), fun K hK => ?_⟩
                    go_simp
                    exact hK _ _ (Below.refl _ _) (fun t ht => by injection ht with ht; subst ht; exact rfl)
                  refine Rg.good_cons ?_ ?_
                  · intro ac w' cx hn
                    have e9 := cx.at_ 9 (by kernel_rfl) rfl
                    have hx := (HBZ.out _ cx.bel).1
                    obtain ⟨v173, e173, r173⟩ := hn 173 (Rg.mem_of (by kernel_rfl))
                    obtain rfl : v173 = .bool true := r173
                    refine .inl ⟨((Rg.wanted_some (t := 173) rfl (by kernel_rfl) e173).trans rfl), fun K hK => ?_⟩
                    go_simp
                    exact hK _ _ (Below.refl _ _) (fun t ht => by injection ht with ht; subst ht; exact rfl)
                  refine Rg.good_cons ?_ ?_
                  · intro ac w' cx hn
                    obtain ⟨v174, e174, r174⟩ := hn 174 (Rg.mem_of (by kernel_rfl))
                    obtain rfl : v174 = .agg #[.slice P N cp] := r174
                    obtain ⟨v173, e173, r173⟩ := hn 173 (Rg.mem_of (by kernel_rfl))
                    obtain rfl : v173 = .bool true := r173
                    refine .inl ⟨((Rg.wanted_some (t := 173) rfl (by kernel_rfl) e173).trans rfl), fun K hK => ?_⟩
                    go_simp
                    refine (empty_any _ X w' (S23.out.below cx.bel)).mono ?_
                    rw [HEQ.out.1]
                    rintro e w2 ⟨rfl, hb⟩
                    exact hK _ _ hb (fun t ht => by injection ht with ht; subst ht; exact rfl)
                  refine Rg.good_cons ?_ ?_
                  · intro ac w' cx hn
                    have e14 := cx.at_ 14 (by kernel_rfl) rfl
                    obtain ⟨v173, e173, r173⟩ := hn 173 (Rg.mem_of (by kernel_rfl))
                    obtain rfl : v173 = .bool true := r173
                    refine .inl ⟨((Rg.wanted_some (t := 173) rfl (by kernel_rfl) e173).trans rfl), fun K hK => ?_⟩
                    go_simp
                    exact hK _ _ (Below.refl _ _) (fun t ht => by injection ht with ht; subst ht; exact rfl)
                  refine Rg.good_cons ?_ ?_
                  · intro ac w' cx hn
                    obtain ⟨v175, e175, r175⟩ := hn 175 (Rg.mem_of (by kernel_rfl))
                    obtain rfl : v175 = .bool em := r175
                    obtain ⟨v176, e176, r176⟩ := hn 176 (Rg.mem_of (by kernel_rfl))
                    obtain rfl : v176 = .bool (!em) := r176
                    obtain ⟨v173, e173, r173⟩ := hn 173 (Rg.mem_of (by kernel_rfl))
                    obtain rfl : v173 = .bool true := r173
                    refine .inl ⟨((Rg.wanted_some (t := 173) rfl (by kernel_rfl) e173).trans rfl), fun K hK => ?_⟩
                    cases em
                    all_goals
                      go_simp
                      exact hK _ _ (Below.refl _ _) (fun t ht => by injection ht with ht; subst ht; exact rfl)
                  refine Rg.good_cons ?_ ?_
                  · intro ac w' cx hn
                    obtain ⟨v173, e173, r173⟩ := hn 173 (Rg.mem_of (by kernel_rfl))
                    obtain rfl : v173 = .bool true := r173
                    obtain ⟨v177, e177, r177⟩ := hn 177 (Rg.mem_of (by kernel_rfl))
                    obtain rfl : v177 = .bool true := r177
                    refine .inl ⟨(Rg.wanted_none rfl), fun K hK => ?_⟩
                    go_simp
                    exact hK _ _ (Below.refl _ _) (fun t ht => by injection ht with ht; subst ht; exact rfl)
                  refine Rg.good_cons ?_ ?_
                  · intro ac w' cx hn
                    obtain ⟨v178, e178, r178⟩ := hn 178 (Rg.mem_of (by kernel_rfl))
                    obtain rfl : v178 = .bool true := r178
                    refine .inl ⟨(Rg.wanted_none rfl), fun K hK => ?_⟩
                    go_simp
                    exact hK _ _ (Below.refl _ _) (fun t ht => by injection ht with ht; subst ht; exact rfl)
                  refine Rg.good_cons ?_ ?_
                  · intro ac w' cx hn
                    have e9 := cx.at_ 9 (by kernel_rfl) rfl
                    have hx := (HBZ.out _ cx.bel).1
                    obtain ⟨v179, e179, r179⟩ := hn 179 (Rg.mem_of (by kernel_rfl))
                    obtain rfl : v179 = .bool true := r179
                    refine .inl ⟨((Rg.wanted_some (t := 179) rfl (by kernel_rfl) e179).trans rfl), fun K hK => ?_⟩
                    go_simp
                    exact hK _ _ (Below.refl _ _) (fun t ht => by injection ht with ht; subst ht; exact rfl)
                  refine Rg.good_cons ?_ ?_
                  · intro ac w' cx hn
                    have e9 := cx.at_ 9 (by kernel_rfl) rfl
                    have hx := (HBZ.out _ cx.bel).1
                    obtain ⟨v179, e179, r179⟩ := hn 179 (Rg.mem_of (by kernel_rfl))
                    obtain rfl : v179 = .bool true := r179
                    refine .inl ⟨((Rg.wanted_some (t := 179) rfl (by kernel_rfl) e179).trans rfl), fun K hK => ?_⟩
                    go_simp
                    exact hK _ _ (Below.refl _ _) (fun t ht => by injection ht with ht; subst ht; exact rfl)
                  refine Rg.good_cons ?_ ?_
                  · intro ac w' cx hn
                    obtain ⟨v180, e180, r180⟩ := hn 180 (Rg.mem_of (by kernel_rfl))
                    obtain rfl : v180 = .agg #[.slice P N cp] := r180
                    obtain ⟨v181, e181, r181⟩ := hn 181 (Rg.mem_of (by kernel_rfl))
                    obtain rfl : v181 = .agg #[.slice P N cp] := r181
                    obtain ⟨v179, e179, r179⟩ := hn 179 (Rg.mem_of (by kernel_rfl))
                    obtain rfl : v179 = .bool true := r179
                    refine .inl ⟨((Rg.wanted_some (t := 179) rfl (by kernel_rfl) e179).trans rfl), fun K hK => ?_⟩
                    go_simp
                    refine (sameS_any _ _ X X w' (S23.out.below cx.bel) (S23.out.below cx.bel) (by have := HLX.out; omega) (by have := HLX.out; omega)).mono ?_
                    rw [HEQ.out.2.2]
                    rintro e w2 ⟨rfl, hb⟩
                    exact hK _ _ hb (fun t ht => by injection ht with ht; subst ht; exact rfl)
                  refine Rg.good_cons ?_ ?_
                  · intro ac w' cx hn
                    obtain ⟨v179, e179, r179⟩ := hn 179 (Rg.mem_of (by kernel_rfl))
                    obtain rfl : v179 = .bool true := r179
                    obtain ⟨v182, e182, r182⟩ := hn 182 (Rg.mem_of (by kernel_rfl))
                    obtain rfl : v182 = .bool true := r182
                    refine .inl ⟨(Rg.wanted_none rfl), fun K hK => ?_⟩
                    go_simp
                    exact hK _ _ (Below.refl _ _) (fun t ht => by injection ht with ht; subst ht; exact rfl)
                  refine Rg.good_cons ?_ ?_
                  · intro ac w' cx hn
                    obtain ⟨v183, e183, r183⟩ := hn 183 (Rg.mem_of (by kernel_rfl))
                    obtain rfl : v183 = .bool true := r183
                    refine .inl ⟨(Rg.wanted_none rfl), fun K hK => ?_⟩
                    go_simp
                    exact hK _ _ (Below.refl _ _) (fun t ht => by injection ht with ht; subst ht; exact rfl)
                  refine Rg.good_cons ?_ ?_
                  · intro ac w' cx hn
                    have e9 := cx.at_ 9 (by kernel_rfl) rfl
                    have hx := (HBZ.out _ cx.bel).1
                    obtain ⟨v184, e184, r184⟩ := hn 184 (Rg.mem_of (by kernel_rfl))
                    obtain rfl : v184 = .bool true := r184
                    refine .inl ⟨((Rg.wanted_some (t := 184) rfl (by kernel_rfl) e184).trans rfl), fun K hK => ?_⟩
                    go_simp
                    exact hK _ _ (Below.refl _ _) (fun t ht => by injection ht with ht; subst ht; exact rfl)
                  refine Rg.good_cons ?_ ?_
                  · intro ac w' cx hn
                    have e11 := cx.at_ 11 (by kernel_rfl) rfl
                    have hx := (HBZ.out _ cx.bel).2.1
                    obtain ⟨v184, e184, r184⟩ := hn 184 (Rg.mem_of (by kernel_rfl))
                    obtain rfl : v184 = .bool true := r184
                    refine .inl ⟨((Rg.wanted_some (t := 184) rfl (by kernel_rfl) e184).trans rfl), fun K hK => ?_⟩
                    go_simp
                    exact hK _ _ (Below.refl _ _) (fun t ht => by injection ht with ht; subst ht; exact rfl)
                  refine Rg.good_cons ?_ ?_
                  · intro ac w' cx hn
                    obtain ⟨v185, e185, r185⟩ := hn 185 (Rg.mem_of (by kernel_rfl))
                    obtain rfl : v185 = .agg #[.slice P N cp] := r185
                    obtain ⟨v186, e186, r186⟩ := hn 186 (Rg.mem_of (by kernel_rfl))
                    obtain rfl : v186 = .agg #[.slice C nz cz] := r186
                    obtain ⟨v184, e184, r184⟩ := hn 184 (Rg.mem_of (by kernel_rfl))
                    obtain rfl : v184 = .bool true := r184
                    refine .inl ⟨((Rg.wanted_some (t := 184) rfl (by kernel_rfl) e184).trans rfl), fun K hK => ?_⟩
                    go_simp
                    refine (sameS_any _ _ X Z w' (S23.out.below cx.bel) (SZ23.out.below cx.bel) (by have := HLX.out; omega) (by have := HZ.out.2.2; omega)).mono ?_
                    rw [HEQ.out.2.1]
                    rintro e w2 ⟨rfl, hb⟩
                    exact hK _ _ hb (fun t ht => by injection ht with ht; subst ht; exact rfl)
                  refine Rg.good_cons ?_ ?_
                  · intro ac w' cx hn
                    have e9 := cx.at_ 9 (by kernel_rfl) rfl
                    have hx := (HBZ.out _ cx.bel).1
                    obtain ⟨v184, e184, r184⟩ := hn 184 (Rg.mem_of (by kernel_rfl))
                    obtain rfl : v184 = .bool true := r184
                    refine .inl ⟨((Rg.wanted_some (t := 184) rfl (by kernel_rfl) e184).trans rfl), fun K hK => ?_⟩
                    go_simp
                    exact hK _ _ (Below.refl _ _) (fun t ht => by injection ht with ht; subst ht; exact rfl)
                  refine Rg.good_cons ?_ ?_
                  · intro ac w' cx hn
                    have e11 := cx.at_ 11 (by kernel_rfl) rfl
                    have hx := (HBZ.out _ cx.bel).2.1
                    obtain ⟨v184, e184, r184⟩ := hn 184 (Rg.mem_of (by kernel_rfl))
                    obtain rfl : v184 = .bool true := r184
                    refine .inl ⟨((Rg.wanted_some (t := 184) rfl (by kernel_rfl) e184).trans rfl), fun K hK => ?_⟩
                    go_simp
                    exact hK _ _ (Below.refl _ _) (fun t ht => by injection ht with ht; subst ht; exact rfl)
                  refine Rg.good_cons ?_ ?_
                  · intro ac w' cx hn
                    obtain ⟨v188, e188, r188⟩ := hn 188 (Rg.mem_of (by kernel_rfl))
                    obtain rfl : v188 = .agg #[.slice P N cp] := r188
                    obtain ⟨v189, e189, r189⟩ := hn 189 (Rg.mem_of (by kernel_rfl))
                    obtain rfl : v189 = .agg #[.slice C nz cz] := r189
                    obtain ⟨v184, e184, r184⟩ := hn 184 (Rg.mem_of (by kernel_rfl))
                    obtain rfl : v184 = .bool true := r184
                    refine .inl ⟨((Rg.wanted_some (t := 184) rfl (by kernel_rfl) e184).trans rfl), fun K hK => ?_⟩
                    go_simp
                    refine (same_any _ _ X Z w' (S23.out.below cx.bel) (SZ23.out.below cx.bel) (by have := HLX.out; omega) (by have := HZ.out.2.2; omega)).mono ?_
                    rw [HEQ.out.2.1]
                    rintro e w2 ⟨rfl, hb⟩
                    exact hK _ _ hb (fun t ht => by injection ht with ht; subst ht; exact rfl)
                  refine Rg.good_cons ?_ ?_
                  · intro ac w' cx hn
                    obtain ⟨v187, e187, r187⟩ := hn 187 (Rg.mem_of (by kernel_rfl))
                    obtain rfl : v187 = .bool sm := r187
                    obtain ⟨v190, e190, r190⟩ := hn 190 (Rg.mem_of (by kernel_rfl))
                    obtain rfl : v190 = .bool sm := r190
                    obtain ⟨v184, e184, r184⟩ := hn 184 (Rg.mem_of (by kernel_rfl))
                    obtain rfl : v184 = .bool true := r184
                    refine .inl ⟨((Rg.wanted_some (t := 184) rfl (by kernel_rfl) e184).trans rfl), fun K hK => ?_⟩
                    cases sm
                    all_goals
                      go_simp
                      exact hK _ _ (Below.refl _ _) (fun t ht => by injection ht with ht; subst ht; exact rfl)
                  refine Rg.good_cons ?_ ?_
                  · intro ac w' cx hn
                    obtain ⟨v184, e184, r184⟩ := hn 184 (Rg.mem_of (by kernel_rfl))
                    obtain rfl : v184 = .bool true := r184
                    obtain ⟨v191, e191, r191⟩ := hn 191 (Rg.mem_of (by kernel_rfl))
                    obtain rfl : v191 = .bool true := r191
                    refine .inl ⟨(Rg.wanted_none rfl), fun K hK => ?_⟩
                    go_simp
                    exact hK _ _ (Below.refl _ _) (fun t ht => by injection ht with ht; subst ht; exact rfl)
                  refine Rg.good_cons ?_ ?_
                  · intro ac w' cx hn
                    obtain ⟨v192, e192, r192⟩ := hn 192 (Rg.mem_of (by kernel_rfl))
                    obtain rfl : v192 = .bool true := r192
                    refine .inl ⟨(Rg.wanted_none rfl), fun K hK => ?_⟩
                    go_simp
                    exact hK _ _ (Below.refl _ _) (fun t ht => by injection ht with ht; subst ht; exact rfl)
                  exact Rg.good_nil
                case done =>
                  intro u w30 hb30 hr
                  have q8 : u 8 = .bool true := hr 8 (by simp)
                  simp only [Rg.fillL_cons, Rg.fillL_nil, if_true, if_false, Bool.false_eq_true, q8]
                  have B30 := Lib.hid (B12.out.trans ((B23.out.trans (hb30.mono B23.out.size)).mono B12.out.size))
                  clear hr hb30
                  go_wp2_with fail
                  go_ret
                  exact ⟨rfl, B1.out.trans (B30.out.mono B1.out.size)⟩
end Go.Proofs.Ytdmlogpmojmikaa.Tm
