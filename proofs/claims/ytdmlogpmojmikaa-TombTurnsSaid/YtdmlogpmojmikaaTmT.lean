/- The law TombTurns, for whatever comes in. -/
import Derived.Test.YtdmlogpmojmikaaTmL
namespace Go.Proofs.Ytdmlogpmojmikaa.Tm
open Go.RowKit Go.Sort
set_option linter.unusedVariables false

def NoneS (v : Value) : Prop := ∃ A c, v = .slice A 0 c
theorem TS0 (w : World) : TS (HasP []) 0 (.agg #[.slice none 0 0]) w := ⟨[], can_nil, fun t => Iff.rfl, by simp, St.nil w⟩
set_option maxHeartbeats 4000000 in
set_option maxRecDepth 100000 in
theorem turns_main (A B : Option Addr) (n m c d : Nat) (a b : List Rg) (r1 r2 : Int) (w : World) (hn : n = a.length) (hm : m = b.length) (hA : Cl w A (twoC .i64 a)) (hB : Cl w B (twoC .i64 b)) (hl : a.length ≤ 60) (hk : b.length ≤ 60) :
    Calls Try.prog 4 #[.slice A n c, .slice B m d, .agg #[.int .i64 r1, .int .i64 r2]] w fun e w' => e = .returned (.bool true) ∧ Below w.heap.size w w' := by
  subst hn hm
  obtain ⟨n, hn⟩ : ∃ n, a.length = n := ⟨_, rfl⟩
  obtain ⟨m, hm⟩ : ∃ m, b.length = m := ⟨_, rfl⟩
  obtain ⟨W1, hW1⟩ : ∃ W1, w.alloc (.cells #[.int .i64 r1, .int .i64 r2] 24) = W1 := ⟨_, rfl⟩
  obtain ⟨g5, hg5⟩ : ∃ g5, w.heap.size = g5 := ⟨_, rfl⟩
  have b1 : Below w.heap.size w W1 := hW1 ▸ grows w _
  have x5 : W1.heap[g5]? = some (.cells #[.int .i64 r1, .int .i64 r2] 24 (0, 0)) := hg5 ▸ hW1 ▸ heap_alloc_new w _
  have HX5 := Lib.hid x5
  have B1 := Lib.hid b1
  have HT1 := Lib.hid (to_any A n c a W1 hn.symm (hA.below b1) (by omega))
  have HBB := Lib.hid (hB.below b1)
  have HN := Lib.hid (And.intro hn hm)
  rw [hn] at hl
  rw [hm] at hk
  have hn60 : ¬ (60 : Int) < (n : Int) := by omega
  have hm60 : ¬ (60 : Int) < (m : Int) := by omega
  rw [hn, hm]
  clear hn hm hA hB b1 x5
  go_enter Try.func4, Try.ntmps4
  go_wp2_with fail
  clear hW1
  refine HT1.out.mono ?_
  rintro e w2 ⟨A2, c2, rfl, ho2, hb2⟩
  rw [HN.out.1] at ho2 ⊢
  have HO2 := Lib.hid (of_any A2 n c2 a w2 HN.out.1.symm (own_cl ho2) (by have := HN.out.1; omega))
  have B2 := Lib.hid (B1.out.trans (hb2.mono B1.out.size))
  have X2 := Lib.hid ((hb2.block g5 (Array.getElem?_eq_some_iff.1 HX5.out).1).trans HX5.out)
  have HB2 := Lib.hid (HBB.out.below hb2)
  clear ho2 hb2
  go_wp2_with fail
  refine HO2.out.mono ?_
  rintro e w3 ⟨v3, X, rfl, hx3, hl3, hst3, hb3⟩
  have HX := Lib.hid hx3
  have HXL := Lib.hid hl3
  have HS3 := Lib.hid hst3
  have B3 := Lib.hid (B2.out.trans (hb3.mono B2.out.size))
  have X3 := Lib.hid ((hb3.block g5 (Array.getElem?_eq_some_iff.1 X2.out).1).trans X2.out)
  have HT3 := Lib.hid (to_any B m d b w3 HN.out.2.symm (HB2.out.below hb3) (by have := HN.out.2; omega))
  clear hx3 hl3 hst3 hb3
  go_wp2_with fail
  refine HT3.out.mono ?_
  rintro e w4 ⟨A4, c4, rfl, ho4, hb4⟩
  rw [HN.out.2] at ho4 ⊢
  have HO4 := Lib.hid (of_any A4 m c4 b w4 HN.out.2.symm (own_cl ho4) (by have := HN.out.2; omega))
  have B4 := Lib.hid (B3.out.trans (hb4.mono B3.out.size))
  have X4 := Lib.hid ((hb4.block g5 (Array.getElem?_eq_some_iff.1 X3.out).1).trans X3.out)
  have HS4 := Lib.hid (HS3.out.below hb4)
  clear ho4 hb4
  go_wp2_with fail
  refine HO4.out.mono ?_
  rintro e w5 ⟨v5, Y, rfl, hy5, hl5, hst5, hb5⟩
  have HY := Lib.hid hy5
  have HYL := Lib.hid hl5
  have B5 := Lib.hid (B4.out.trans (hb5.mono B4.out.size))
  have X5 := Lib.hid ((hb5.block g5 (Array.getElem?_eq_some_iff.1 X4.out).1).trans X4.out)
  obtain ⟨P, cp, rfl, zP, hP⟩ := HS4.out.below hb5
  obtain ⟨Q, cq, rfl, zQ, hQ⟩ := hst5
  obtain ⟨N, hN⟩ : ∃ N, X.length = N := ⟨_, rfl⟩
  obtain ⟨M, hM⟩ : ∃ M, Y.length = M := ⟨_, rfl⟩
  obtain ⟨W7, hW7⟩ : ∃ W7, w5.alloc (.cells #[.slice P N cp] 28) = W7 := ⟨_, rfl⟩
  obtain ⟨W8, hW8⟩ : ∃ W8, W7.alloc (.cells #[.slice Q M cq] 28) = W8 := ⟨_, rfl⟩
  obtain ⟨W9, hW9⟩ : ∃ W9, W8.alloc (.cells #[.int .i64 r1, .int .i64 r2] 33) = W9 := ⟨_, rfl⟩
  obtain ⟨g7, hg7⟩ : ∃ g7, w5.heap.size = g7 := ⟨_, rfl⟩
  have e7 : W7.heap.size = g7 + 1 := by rw [← hW7, ← hg7]; simp
  have e8 : W8.heap.size = g7 + 2 := by rw [← hW8]; simp [e7]
  have e9 : W9.heap.size = g7 + 3 := by rw [← hW9]; simp [e8]
  have c7 : Below w5.heap.size w5 W7 := hW7 ▸ grows _ _
  have c78 : Below W7.heap.size W7 W8 := hW8 ▸ grows _ _
  have c89 : Below W8.heap.size W8 W9 := hW9 ▸ grows _ _
  have c8 := c7.trans (c78.mono c7.size)
  have c9 := c8.trans (c89.mono c8.size)
  have x7 : W9.heap[g7]? = some (.cells #[.slice P N cp] 28 (0, 0)) := (c89.block g7 (by omega)).trans ((c78.block g7 (by omega)).trans (hg7 ▸ hW7 ▸ heap_alloc_new w5 _))
  have x8 : W9.heap[g7 + 1]? = some (.cells #[.slice Q M cq] 28 (0, 0)) := (c89.block (g7 + 1) (by omega)).trans (e7 ▸ hW8 ▸ heap_alloc_new W7 _)
  have x9 : W9.heap[g7 + 2]? = some (.cells #[.int .i64 r1, .int .i64 r2] 33 (0, 0)) := e8 ▸ hW9 ▸ heap_alloc_new W8 _
  obtain ⟨y0, y1, _⟩ := box2 ((c8.block g5 (Array.getElem?_eq_some_iff.1 X5.out).1).trans X5.out)
  have SX := Lib.hid (show St W9 (.agg #[.slice P N cp]) X from ⟨P, cp, by rw [hN], zP, hP.below c9⟩)
  have SY := Lib.hid (show St W9 (.agg #[.slice Q M cq]) Y from ⟨Q, cq, by rw [hM], zQ, hQ.below c9⟩)
  have B9 := Lib.hid (B5.out.trans (c9.mono B5.out.size))
  have HB9 := Lib.hid (And.intro x7 (And.intro x8 x9))
  have HLX := Lib.hid (show X.length ≤ 60 ∧ Y.length ≤ 60 by have := HXL.out; have := HYL.out; have := HN.out; omega)
  rw [hN, hM]
  clear hy5 hl5 zP hP zQ hQ hb5 hN hM c7 c78 c89 c8 c9 x7 x8 x9
  go_wp2_with fail
  clear hW7 hW8 hW9 y0 y1
  have TX := Lib.hid (show TS (HasP X) 60 (.agg #[.slice P N cp]) W9 from ⟨X, HX.out.1, fun t => Iff.rfl, HLX.out.1, SX.out⟩)
  have TY := Lib.hid (show TS (HasP Y) 60 (.agg #[.slice Q M cq]) W9 from ⟨Y, HY.out.1, fun t => Iff.rfl, HLX.out.2, SY.out⟩)
  have HLT := Lib.hid (show g7 < W9.heap.size ∧ g7 + 1 < W9.heap.size ∧ g7 + 2 < W9.heap.size by omega)
  refine Rg.wp_region_inv (R := fun t v w => match t with
      | 26 => TS (HasP X) 60 v w
      | 27 => TS (HasP Y) 60 v w
      | 28 => TS (fun t => HasP X t ∨ HasP Y t) (60 + 60) v w
      | 29 => TS (HasP Y) 60 v w
      | 30 => TS (HasP X) 60 v w
      | 31 => TS (fun t => HasP Y t ∨ HasP X t) (60 + 60) v w
      | 32 => v = .bool true
      | 33 => v = .bool false
      | 34 => v = .bool false
      | 35 => TS (HasP X) 60 v w
      | 36 => TS (HasP X) 60 v w
      | 37 => TS (fun t => HasP X t ∨ HasP X t) (60 + 60) v w
      | 38 => TS (HasP X) 60 v w
      | 39 => v = .bool true
      | 40 => v = .bool false
      | 41 => v = .bool false
      | 42 => v = .bool false
      | 43 => v = .agg #[.slice P N cp]
      | 44 => RL X v w
      | 45 => TS (HasR X) X.length v w
      | 46 => TS (HasP X) 60 v w
      | 47 => v = .bool true
      | 48 => v = .bool false
      | 49 => v = .bool false
      | 50 => v = .bool false
      | 51 => TS (HasP X) 60 v w
      | 52 => v = .agg #[.slice none 0 0]
      | 53 => TS (fun t => HasP X t ∨ HasP [] t) (60 + 0) v w
      | 54 => TS (HasP X) 60 v w
      | 55 => v = .bool true
      | 56 => v = .bool false
      | 57 => v = .bool false
      | _ => True) [26, 27, 28, 29, 30, 31, 32, 33, 34, 35, 36, 37, 38, 39, 40, 41, 42, 43, 44, 45, 46, 47, 48, 49, 50, 51, 52, 53, 54, 55, 56, 57] 106 [false, false, false, false, false, false, false, false, false, false, false, false, false, false, false, false, false, false, false, false, false, false, false, false, false, false, true, true, true, true, true, true, true, true, true, true, true, true, true, true, true, true, true, true, true, true, true, true, true, true, true, true, true, true, true, true, true, true, false, false, false, false, false, false, false, false, false, false, false, false, false, false, false, false, false, false, false, false, false, false, false, false, false, false, false, false, false, false, false, false, false, false, false, false, false, false, false, false, false, false, false, false, false, false, false, false] (by kernel_rfl) rfl (by kernel_rfl) (by kernel_rfl) (by kernel_rfl) (by kernel_rfl) (by kernel_rfl) ?mono ?good ?done
  case mono =>
    refine List.forall_mem_cons.2 ⟨fun _ _ _ _ hb h => TS.below h hb, ?_⟩
    refine List.forall_mem_cons.2 ⟨fun _ _ _ _ hb h => TS.below h hb, ?_⟩
    refine List.forall_mem_cons.2 ⟨fun _ _ _ _ hb h => TS.below h hb, ?_⟩
    refine List.forall_mem_cons.2 ⟨fun _ _ _ _ hb h => TS.below h hb, ?_⟩
    refine List.forall_mem_cons.2 ⟨fun _ _ _ _ hb h => TS.below h hb, ?_⟩
    refine List.forall_mem_cons.2 ⟨fun _ _ _ _ hb h => TS.below h hb, ?_⟩
    refine List.forall_mem_cons.2 ⟨fun _ _ _ _ _ h => h, ?_⟩
    refine List.forall_mem_cons.2 ⟨fun _ _ _ _ _ h => h, ?_⟩
    refine List.forall_mem_cons.2 ⟨fun _ _ _ _ _ h => h, ?_⟩
    refine List.forall_mem_cons.2 ⟨fun _ _ _ _ hb h => TS.below h hb, ?_⟩
    refine List.forall_mem_cons.2 ⟨fun _ _ _ _ hb h => TS.below h hb, ?_⟩
    refine List.forall_mem_cons.2 ⟨fun _ _ _ _ hb h => TS.below h hb, ?_⟩
    refine List.forall_mem_cons.2 ⟨fun _ _ _ _ hb h => TS.below h hb, ?_⟩
    refine List.forall_mem_cons.2 ⟨fun _ _ _ _ _ h => h, ?_⟩
    refine List.forall_mem_cons.2 ⟨fun _ _ _ _ _ h => h, ?_⟩
    refine List.forall_mem_cons.2 ⟨fun _ _ _ _ _ h => h, ?_⟩
    refine List.forall_mem_cons.2 ⟨fun _ _ _ _ _ h => h, ?_⟩
    refine List.forall_mem_cons.2 ⟨fun _ _ _ _ _ h => h, ?_⟩
    refine List.forall_mem_cons.2 ⟨fun _ _ _ _ hb h => RL.below h hb, ?_⟩
    refine List.forall_mem_cons.2 ⟨fun _ _ _ _ hb h => TS.below h hb, ?_⟩
    refine List.forall_mem_cons.2 ⟨fun _ _ _ _ hb h => TS.below h hb, ?_⟩
    refine List.forall_mem_cons.2 ⟨fun _ _ _ _ _ h => h, ?_⟩
    refine List.forall_mem_cons.2 ⟨fun _ _ _ _ _ h => h, ?_⟩
    refine List.forall_mem_cons.2 ⟨fun _ _ _ _ _ h => h, ?_⟩
    refine List.forall_mem_cons.2 ⟨fun _ _ _ _ _ h => h, ?_⟩
    refine List.forall_mem_cons.2 ⟨fun _ _ _ _ hb h => TS.below h hb, ?_⟩
    refine List.forall_mem_cons.2 ⟨fun _ _ _ _ _ h => h, ?_⟩
    refine List.forall_mem_cons.2 ⟨fun _ _ _ _ hb h => TS.below h hb, ?_⟩
    refine List.forall_mem_cons.2 ⟨fun _ _ _ _ hb h => TS.below h hb, ?_⟩
    refine List.forall_mem_cons.2 ⟨fun _ _ _ _ _ h => h, ?_⟩
    refine List.forall_mem_cons.2 ⟨fun _ _ _ _ _ h => h, ?_⟩
    refine List.forall_mem_cons.2 ⟨fun _ _ _ _ _ h => h, ?_⟩
    exact fun _ h => absurd h (by simp)
  case good =>
    refine Rg.good_cons ?_ ?_
    · intro a w' cx hn
      have e7 := cx.at_ 7 (by kernel_rfl) rfl
      have hx := (box1 ((cx.bel.block g7 (HLT.out.1)).trans HB9.out.1)).1
      refine .inl ⟨(Rg.wanted_none rfl), fun K hK => ?_⟩
      go_simp
      exact hK _ _ (Below.refl _ _) (fun t ht => by injection ht with ht; subst ht; exact (TX.out.below cx.bel))
    refine Rg.good_cons ?_ ?_
    · intro a w' cx hn
      have e8 := cx.at_ 8 (by kernel_rfl) rfl
      have hx := (box1 ((cx.bel.block (g7 + 1) (HLT.out.2.1)).trans HB9.out.2.1)).1
      refine .inl ⟨(Rg.wanted_none rfl), fun K hK => ?_⟩
      go_simp
      exact hK _ _ (Below.refl _ _) (fun t ht => by injection ht with ht; subst ht; exact (TY.out.below cx.bel))
    refine Rg.good_cons ?_ ?_
    · intro a w' cx hn
      obtain ⟨v26, e26, r26⟩ := hn 26 (Rg.mem_of (by kernel_rfl))
      replace r26 : TS (HasP X) 60 v26 w' := r26
      obtain ⟨v27, e27, r27⟩ := hn 27 (Rg.mem_of (by kernel_rfl))
      replace r27 : TS (HasP Y) 60 v27 w' := r27
      refine .inl ⟨(Rg.wanted_none rfl), fun K hK => ?_⟩
      go_simp
      refine (andT r26 r27 (by omega) (by omega)).mono ?_
      rintro e w2 ⟨z, rfl, hz, hb⟩
      exact hK _ _ hb (fun t ht => by injection ht with ht; subst ht; exact hz)
    refine Rg.good_cons ?_ ?_
    · intro a w' cx hn
      have e8 := cx.at_ 8 (by kernel_rfl) rfl
      have hx := (box1 ((cx.bel.block (g7 + 1) (HLT.out.2.1)).trans HB9.out.2.1)).1
      refine .inl ⟨(Rg.wanted_none rfl), fun K hK => ?_⟩
      go_simp
      exact hK _ _ (Below.refl _ _) (fun t ht => by injection ht with ht; subst ht; exact (TY.out.below cx.bel))
    refine Rg.good_cons ?_ ?_
    · intro a w' cx hn
      have e7 := cx.at_ 7 (by kernel_rfl) rfl
      have hx := (box1 ((cx.bel.block g7 (HLT.out.1)).trans HB9.out.1)).1
      refine .inl ⟨(Rg.wanted_none rfl), fun K hK => ?_⟩
      go_simp
      exact hK _ _ (Below.refl _ _) (fun t ht => by injection ht with ht; subst ht; exact (TX.out.below cx.bel))
    refine Rg.good_cons ?_ ?_
    · intro a w' cx hn
      obtain ⟨v29, e29, r29⟩ := hn 29 (Rg.mem_of (by kernel_rfl))
      replace r29 : TS (HasP Y) 60 v29 w' := r29
      obtain ⟨v30, e30, r30⟩ := hn 30 (Rg.mem_of (by kernel_rfl))
      replace r30 : TS (HasP X) 60 v30 w' := r30
      refine .inl ⟨(Rg.wanted_none rfl), fun K hK => ?_⟩
      go_simp
      refine (andT r29 r30 (by omega) (by omega)).mono ?_
      rintro e w2 ⟨z, rfl, hz, hb⟩
      exact hK _ _ hb (fun t ht => by injection ht with ht; subst ht; exact hz)
    refine Rg.good_cons ?_ ?_
    · intro a w' cx hn
      obtain ⟨v28, e28, r28⟩ := hn 28 (Rg.mem_of (by kernel_rfl))
      replace r28 : TS (fun t => HasP X t ∨ HasP Y t) (60 + 60) v28 w' := r28
      obtain ⟨v31, e31, r31⟩ := hn 31 (Rg.mem_of (by kernel_rfl))
      replace r31 : TS (fun t => HasP Y t ∨ HasP X t) (60 + 60) v31 w' := r31
      refine .inl ⟨(Rg.wanted_none rfl), fun K hK => ?_⟩
      go_simp
      refine (sameT r28 r31 (by omega) (by omega) (fun t => or_comm)).mono ?_
      rintro e w2 ⟨rfl, hb⟩
      exact hK _ _ hb (fun t ht => by injection ht with ht; subst ht; exact rfl)
    refine Rg.good_cons ?_ ?_
    · intro a w' cx hn
      obtain ⟨v32, e32, r32⟩ := hn 32 (Rg.mem_of (by kernel_rfl))
      obtain rfl : v32 = .bool true := r32
      refine .inl ⟨(Rg.wanted_none rfl), fun K hK => ?_⟩
      go_simp
      exact hK _ _ (Below.refl _ _) (fun t ht => by injection ht with ht; subst ht; exact rfl)
    refine Rg.good_cons ?_ ?_
    · intro a w' cx hn
      obtain ⟨v33, e33, r33⟩ := hn 33 (Rg.mem_of (by kernel_rfl))
      obtain rfl : v33 = .bool false := r33
      refine .inl ⟨(Rg.wanted_none rfl), fun K hK => ?_⟩
      go_simp
      exact hK _ _ (Below.refl _ _) (fun t ht => by injection ht with ht; subst ht; exact rfl)
    refine Rg.good_cons ?_ ?_
    · intro a w' cx hn
      have e7 := cx.at_ 7 (by kernel_rfl) rfl
      have hx := (box1 ((cx.bel.block g7 (HLT.out.1)).trans HB9.out.1)).1
      obtain ⟨v34, e34, r34⟩ := hn 34 (Rg.mem_of (by kernel_rfl))
      obtain rfl : v34 = .bool false := r34
      refine .inl ⟨((Rg.wanted_some (t := 34) rfl (by kernel_rfl) e34).trans rfl), fun K hK => ?_⟩
      go_simp
      exact hK _ _ (Below.refl _ _) (fun t ht => by injection ht with ht; subst ht; exact (TX.out.below cx.bel))
    refine Rg.good_cons ?_ ?_
    · intro a w' cx hn
      have e7 := cx.at_ 7 (by kernel_rfl) rfl
      have hx := (box1 ((cx.bel.block g7 (HLT.out.1)).trans HB9.out.1)).1
      obtain ⟨v34, e34, r34⟩ := hn 34 (Rg.mem_of (by kernel_rfl))
      obtain rfl : v34 = .bool false := r34
      refine .inl ⟨((Rg.wanted_some (t := 34) rfl (by kernel_rfl) e34).trans rfl), fun K hK => ?_⟩
      go_simp
      exact hK _ _ (Below.refl _ _) (fun t ht => by injection ht with ht; subst ht; exact (TX.out.below cx.bel))
    refine Rg.good_cons ?_ ?_
    · intro a w' cx hn
      obtain ⟨v35, e35, r35⟩ := hn 35 (Rg.mem_of (by kernel_rfl))
      replace r35 : TS (HasP X) 60 v35 w' := r35
      obtain ⟨v36, e36, r36⟩ := hn 36 (Rg.mem_of (by kernel_rfl))
      replace r36 : TS (HasP X) 60 v36 w' := r36
      obtain ⟨v34, e34, r34⟩ := hn 34 (Rg.mem_of (by kernel_rfl))
      obtain rfl : v34 = .bool false := r34
      refine .inl ⟨((Rg.wanted_some (t := 34) rfl (by kernel_rfl) e34).trans rfl), fun K hK => ?_⟩
      go_simp
      refine (andT r35 r36 (by omega) (by omega)).mono ?_
      rintro e w2 ⟨z, rfl, hz, hb⟩
      exact hK _ _ hb (fun t ht => by injection ht with ht; subst ht; exact hz)
    refine Rg.good_cons ?_ ?_
    · intro a w' cx hn
      have e7 := cx.at_ 7 (by kernel_rfl) rfl
      have hx := (box1 ((cx.bel.block g7 (HLT.out.1)).trans HB9.out.1)).1
      obtain ⟨v34, e34, r34⟩ := hn 34 (Rg.mem_of (by kernel_rfl))
      obtain rfl : v34 = .bool false := r34
      refine .inl ⟨((Rg.wanted_some (t := 34) rfl (by kernel_rfl) e34).trans rfl), fun K hK => ?_⟩
      go_simp
      exact hK _ _ (Below.refl _ _) (fun t ht => by injection ht with ht; subst ht; exact (TX.out.below cx.bel))
    refine Rg.good_cons ?_ ?_
    · intro a w' cx hn
      obtain ⟨v37, e37, r37⟩ := hn 37 (Rg.mem_of (by kernel_rfl))
      replace r37 : TS (fun t => HasP X t ∨ HasP X t) (60 + 60) v37 w' := r37
      obtain ⟨v38, e38, r38⟩ := hn 38 (Rg.mem_of (by kernel_rfl))
      replace r38 : TS (HasP X) 60 v38 w' := r38
      obtain ⟨v34, e34, r34⟩ := hn 34 (Rg.mem_of (by kernel_rfl))
      obtain rfl : v34 = .bool false := r34
      refine .inl ⟨((Rg.wanted_some (t := 34) rfl (by kernel_rfl) e34).trans rfl), fun K hK => ?_⟩
      go_simp
      refine (sameT r37 r38 (by omega) (by omega) (fun t => or_self_iff)).mono ?_
      rintro e w2 ⟨rfl, hb⟩
      exact hK _ _ hb (fun t ht => by injection ht with ht; subst ht; exact rfl)
    refine Rg.good_cons ?_ ?_
    · intro a w' cx hn
      obtain ⟨v39, e39, r39⟩ := hn 39 (Rg.mem_of (by kernel_rfl))
      obtain rfl : v39 = .bool true := r39
      obtain ⟨v34, e34, r34⟩ := hn 34 (Rg.mem_of (by kernel_rfl))
      obtain rfl : v34 = .bool false := r34
      refine .inl ⟨((Rg.wanted_some (t := 34) rfl (by kernel_rfl) e34).trans rfl), fun K hK => ?_⟩
      go_simp
      exact hK _ _ (Below.refl _ _) (fun t ht => by injection ht with ht; subst ht; exact rfl)
    refine Rg.good_cons ?_ ?_
    · intro a w' cx hn
      obtain ⟨v34, e34, r34⟩ := hn 34 (Rg.mem_of (by kernel_rfl))
      obtain rfl : v34 = .bool false := r34
      obtain ⟨v40, e40, r40⟩ := hn 40 (Rg.mem_of (by kernel_rfl))
      obtain rfl : v40 = .bool false := r40
      refine .inl ⟨(Rg.wanted_none rfl), fun K hK => ?_⟩
      go_simp
      exact hK _ _ (Below.refl _ _) (fun t ht => by injection ht with ht; subst ht; exact rfl)
    refine Rg.good_cons ?_ ?_
    · intro a w' cx hn
      obtain ⟨v41, e41, r41⟩ := hn 41 (Rg.mem_of (by kernel_rfl))
      obtain rfl : v41 = .bool false := r41
      refine .inl ⟨(Rg.wanted_none rfl), fun K hK => ?_⟩
      go_simp
      exact hK _ _ (Below.refl _ _) (fun t ht => by injection ht with ht; subst ht; exact rfl)
    refine Rg.good_cons ?_ ?_
    · intro a w' cx hn
      have e7 := cx.at_ 7 (by kernel_rfl) rfl
      have hx := (box1 ((cx.bel.block g7 (HLT.out.1)).trans HB9.out.1)).1
      obtain ⟨v42, e42, r42⟩ := hn 42 (Rg.mem_of (by kernel_rfl))
      obtain rfl : v42 = .bool false := r42
      refine .inl ⟨((Rg.wanted_some (t := 42) rfl (by kernel_rfl) e42).trans rfl), fun K hK => ?_⟩
      go_simp
      exact hK _ _ (Below.refl _ _) (fun t ht => by injection ht with ht; subst ht; exact rfl)
    refine Rg.good_cons ?_ ?_
    · intro a w' cx hn
      obtain ⟨v43, e43, r43⟩ := hn 43 (Rg.mem_of (by kernel_rfl))
      obtain rfl : v43 = .agg #[.slice P N cp] := r43
      obtain ⟨v42, e42, r42⟩ := hn 42 (Rg.mem_of (by kernel_rfl))
      obtain rfl : v42 = .bool false := r42
      refine .inl ⟨((Rg.wanted_some (t := 42) rfl (by kernel_rfl) e42).trans rfl), fun K hK => ?_⟩
      go_simp
      refine (rangesRL (SX.out.below cx.bel) (by have := HLX.out; omega)).mono ?_
      rintro e w2 ⟨z, rfl, hz, hb⟩
      exact hK _ _ hb (fun t ht => by injection ht with ht; subst ht; exact hz)
    refine Rg.good_cons ?_ ?_
    · intro a w' cx hn
      obtain ⟨v44, e44, r44⟩ := hn 44 (Rg.mem_of (by kernel_rfl))
      replace r44 : RL X v44 w' := r44
      obtain ⟨v42, e42, r42⟩ := hn 42 (Rg.mem_of (by kernel_rfl))
      obtain rfl : v42 = .bool false := r42
      refine .inl ⟨((Rg.wanted_some (t := 42) rfl (by kernel_rfl) e42).trans rfl), fun K hK => ?_⟩
      go_simp
      refine (ofT r44 (by have := HLX.out; omega)).mono ?_
      rintro e w2 ⟨z, rfl, hz, hb⟩
      exact hK _ _ hb (fun t ht => by injection ht with ht; subst ht; exact hz)
    refine Rg.good_cons ?_ ?_
    · intro a w' cx hn
      have e7 := cx.at_ 7 (by kernel_rfl) rfl
      have hx := (box1 ((cx.bel.block g7 (HLT.out.1)).trans HB9.out.1)).1
      obtain ⟨v42, e42, r42⟩ := hn 42 (Rg.mem_of (by kernel_rfl))
      obtain rfl : v42 = .bool false := r42
      refine .inl ⟨((Rg.wanted_some (t := 42) rfl (by kernel_rfl) e42).trans rfl), fun K hK => ?_⟩
      go_simp
      exact hK _ _ (Below.refl _ _) (fun t ht => by injection ht with ht; subst ht; exact (TX.out.below cx.bel))
    refine Rg.good_cons ?_ ?_
    · intro a w' cx hn
      obtain ⟨v45, e45, r45⟩ := hn 45 (Rg.mem_of (by kernel_rfl))
      replace r45 : TS (HasR X) X.length v45 w' := r45
      obtain ⟨v46, e46, r46⟩ := hn 46 (Rg.mem_of (by kernel_rfl))
      replace r46 : TS (HasP X) 60 v46 w' := r46
      obtain ⟨v42, e42, r42⟩ := hn 42 (Rg.mem_of (by kernel_rfl))
      obtain rfl : v42 = .bool false := r42
      refine .inl ⟨((Rg.wanted_some (t := 42) rfl (by kernel_rfl) e42).trans rfl), fun K hK => ?_⟩
      go_simp
      refine (sameT r45 r46 (by have := HLX.out; omega) (by omega) (hasR_can HX.out.1.1)).mono ?_
      rintro e w2 ⟨rfl, hb⟩
      exact hK _ _ hb (fun t ht => by injection ht with ht; subst ht; exact rfl)
    refine Rg.good_cons ?_ ?_
    · intro a w' cx hn
      obtain ⟨v47, e47, r47⟩ := hn 47 (Rg.mem_of (by kernel_rfl))
      obtain rfl : v47 = .bool true := r47
      obtain ⟨v42, e42, r42⟩ := hn 42 (Rg.mem_of (by kernel_rfl))
      obtain rfl : v42 = .bool false := r42
      refine .inl ⟨((Rg.wanted_some (t := 42) rfl (by kernel_rfl) e42).trans rfl), fun K hK => ?_⟩
      go_simp
      exact hK _ _ (Below.refl _ _) (fun t ht => by injection ht with ht; subst ht; exact rfl)
    refine Rg.good_cons ?_ ?_
    · intro a w' cx hn
      obtain ⟨v42, e42, r42⟩ := hn 42 (Rg.mem_of (by kernel_rfl))
      obtain rfl : v42 = .bool false := r42
      obtain ⟨v48, e48, r48⟩ := hn 48 (Rg.mem_of (by kernel_rfl))
      obtain rfl : v48 = .bool false := r48
      refine .inl ⟨(Rg.wanted_none rfl), fun K hK => ?_⟩
      go_simp
      exact hK _ _ (Below.refl _ _) (fun t ht => by injection ht with ht; subst ht; exact rfl)
    refine Rg.good_cons ?_ ?_
    · intro a w' cx hn
      obtain ⟨v49, e49, r49⟩ := hn 49 (Rg.mem_of (by kernel_rfl))
      obtain rfl : v49 = .bool false := r49
      refine .inl ⟨(Rg.wanted_none rfl), fun K hK => ?_⟩
      go_simp
      exact hK _ _ (Below.refl _ _) (fun t ht => by injection ht with ht; subst ht; exact rfl)
    refine Rg.good_cons ?_ ?_
    · intro a w' cx hn
      have e7 := cx.at_ 7 (by kernel_rfl) rfl
      have hx := (box1 ((cx.bel.block g7 (HLT.out.1)).trans HB9.out.1)).1
      obtain ⟨v50, e50, r50⟩ := hn 50 (Rg.mem_of (by kernel_rfl))
      obtain rfl : v50 = .bool false := r50
      refine .inl ⟨((Rg.wanted_some (t := 50) rfl (by kernel_rfl) e50).trans rfl), fun K hK => ?_⟩
      go_simp
      exact hK _ _ (Below.refl _ _) (fun t ht => by injection ht with ht; subst ht; exact (TX.out.below cx.bel))
    refine Rg.good_cons ?_ ?_
    · intro a w' cx hn
      obtain ⟨v50, e50, r50⟩ := hn 50 (Rg.mem_of (by kernel_rfl))
      obtain rfl : v50 = .bool false := r50
      refine .inl ⟨((Rg.wanted_some (t := 50) rfl (by kernel_rfl) e50).trans rfl), fun K hK => ?_⟩
      go_simp
      exact hK _ _ (Below.refl _ _) (fun t ht => by injection ht with ht; subst ht; exact rfl)
    refine Rg.good_cons ?_ ?_
    · intro a w' cx hn
      obtain ⟨v51, e51, r51⟩ := hn 51 (Rg.mem_of (by kernel_rfl))
      replace r51 : TS (HasP X) 60 v51 w' := r51
      obtain ⟨v52, e52, r52⟩ := hn 52 (Rg.mem_of (by kernel_rfl))
      obtain rfl : v52 = .agg #[.slice none 0 0] := r52
      obtain ⟨v50, e50, r50⟩ := hn 50 (Rg.mem_of (by kernel_rfl))
      obtain rfl : v50 = .bool false := r50
      refine .inl ⟨((Rg.wanted_some (t := 50) rfl (by kernel_rfl) e50).trans rfl), fun K hK => ?_⟩
      go_simp
      refine (andT r51 (TS0 w') (by omega) (by omega)).mono ?_
      rintro e w2 ⟨z, rfl, hz, hb⟩
      exact hK _ _ hb (fun t ht => by injection ht with ht; subst ht; exact hz)
    refine Rg.good_cons ?_ ?_
    · intro a w' cx hn
      have e7 := cx.at_ 7 (by kernel_rfl) rfl
      have hx := (box1 ((cx.bel.block g7 (HLT.out.1)).trans HB9.out.1)).1
      obtain ⟨v50, e50, r50⟩ := hn 50 (Rg.mem_of (by kernel_rfl))
      obtain rfl : v50 = .bool false := r50
      refine .inl ⟨((Rg.wanted_some (t := 50) rfl (by kernel_rfl) e50).trans rfl), fun K hK => ?_⟩
      go_simp
      exact hK _ _ (Below.refl _ _) (fun t ht => by injection ht with ht; subst ht; exact (TX.out.below cx.bel))
    refine Rg.good_cons ?_ ?_
    · intro a w' cx hn
      obtain ⟨v53, e53, r53⟩ := hn 53 (Rg.mem_of (by kernel_rfl))
      replace r53 : TS (fun t => HasP X t ∨ HasP [] t) (60 + 0) v53 w' := r53
      obtain ⟨v54, e54, r54⟩ := hn 54 (Rg.mem_of (by kernel_rfl))
      replace r54 : TS (HasP X) 60 v54 w' := r54
      obtain ⟨v50, e50, r50⟩ := hn 50 (Rg.mem_of (by kernel_rfl))
      obtain rfl : v50 = .bool false := r50
      refine .inl ⟨((Rg.wanted_some (t := 50) rfl (by kernel_rfl) e50).trans rfl), fun K hK => ?_⟩
      go_simp
      refine (sameT r53 r54 (by omega) (by omega) (fun t => ⟨fun h => h.resolve_right (hasP_nil t), .inl⟩)).mono ?_
      rintro e w2 ⟨rfl, hb⟩
      exact hK _ _ hb (fun t ht => by injection ht with ht; subst ht; exact rfl)
    refine Rg.good_cons ?_ ?_
    · intro a w' cx hn
      obtain ⟨v55, e55, r55⟩ := hn 55 (Rg.mem_of (by kernel_rfl))
      obtain rfl : v55 = .bool true := r55
      obtain ⟨v50, e50, r50⟩ := hn 50 (Rg.mem_of (by kernel_rfl))
      obtain rfl : v50 = .bool false := r50
      refine .inl ⟨((Rg.wanted_some (t := 50) rfl (by kernel_rfl) e50).trans rfl), fun K hK => ?_⟩
      go_simp
      exact hK _ _ (Below.refl _ _) (fun t ht => by injection ht with ht; subst ht; exact rfl)
    refine Rg.good_cons ?_ ?_
    · intro a w' cx hn
      obtain ⟨v50, e50, r50⟩ := hn 50 (Rg.mem_of (by kernel_rfl))
      obtain rfl : v50 = .bool false := r50
      obtain ⟨v56, e56, r56⟩ := hn 56 (Rg.mem_of (by kernel_rfl))
      obtain rfl : v56 = .bool false := r56
      refine .inl ⟨(Rg.wanted_none rfl), fun K hK => ?_⟩
      go_simp
      exact hK _ _ (Below.refl _ _) (fun t ht => by injection ht with ht; subst ht; exact rfl)
    exact Rg.good_nil
  case done =>
    intro u w6 hb6 hr
    have q57 : u 57 = .bool false := hr 57 (by simp)
    simp only [Rg.fillL_cons, Rg.fillL_nil, if_true, if_false, Bool.false_eq_true, q57]
    have T6 := Lib.hid (TX.out.below hb6)
    have B6 := Lib.hid (B9.out.trans (hb6.mono B9.out.size))
    have x7 := (hb6.block g7 HLT.out.1).trans HB9.out.1
    have x9 := (hb6.block (g7 + 2) HLT.out.2.2).trans HB9.out.2.2
    have HB6 := Lib.hid (And.intro x7 x9)
    obtain ⟨y0, y1, _⟩ := box2 x9
    obtain ⟨z, hz⟩ : ∃ z, rightB (r1, r2) = z := ⟨_, rfl⟩
    have HZ := Lib.hid hz
    clear hr hb6 x7 x9 hz
    go_wp2_with fail
    refine (right_any (r1, r2) w6).mono ?_
    rw [HZ.out]
    rintro e w7 ⟨rfl, hb7⟩
    have T7 := Lib.hid (T6.out.below hb7)
    have B7 := Lib.hid (B6.out.trans (hb7.mono B6.out.size))
    have HB7 := Lib.hid (show w7.heap[g7]? = some (.cells #[.slice P N cp] 28 (0, 0)) ∧ w7.heap[g7 + 2]? = some (.cells #[.int .i64 r1, .int .i64 r2] 33 (0, 0)) from ⟨(hb7.block g7 (Array.getElem?_eq_some_iff.1 HB6.out.1).1).trans HB6.out.1, (hb7.block (g7 + 2) (Array.getElem?_eq_some_iff.1 HB6.out.2).1).trans HB6.out.2⟩)
    have HLU := Lib.hid (And.intro (Array.getElem?_eq_some_iff.1 HB7.out.1).1 (Array.getElem?_eq_some_iff.1 HB7.out.2).1)
    clear hb7 y0 y1
    cases z with
    | false =>
      have HR := Lib.hid (show ¬ RightP (r1, r2) from by have := HZ.out; unfold rightB at this; exact of_decide_eq_false this)
      go_wp2_with fail
      refine Rg.wp_region_inv (R := fun t v w => match t with
          | 61 => v = .bool true
          | 62 => v = .bool true
          | 63 => TS (HasP X) 60 v w
          | 64 => v = .agg #[.int .i64 r1, .int .i64 r2]
          | 65 => TS (HasP X) 60 v w
          | 66 => TS (HasP X) 60 v w
          | 67 => v = .bool true
          | 68 => v = .bool true
          | 6 => v = .bool true
          | _ => True) [61, 62, 63, 64, 65, 66, 67, 68, 6] 106 [false, false, false, false, false, false, true, false, false, false, false, false, false, false, false, false, false, false, false, false, false, false, false, false, false, false, false, false, false, false, false, false, false, false, false, false, false, false, false, false, false, false, false, false, false, false, false, false, false, false, false, false, false, false, false, false, false, false, false, false, false, true, true, true, true, true, true, true, true, false, false, false, false, false, false, false, false, false, false, false, false, false, false, false, false, false, false, false, false, false, false, false, false, false, false, false, false, false, false, false, false, false, false, false, false, false] (by kernel_rfl) rfl (by kernel_rfl) (by kernel_rfl) (by kernel_rfl) (by kernel_rfl) (by kernel_rfl) ?mono ?good ?done
      case mono =>
        refine List.forall_mem_cons.2 ⟨fun _ _ _ _ _ h => h, ?_⟩
        refine List.forall_mem_cons.2 ⟨fun _ _ _ _ _ h => h, ?_⟩
        refine List.forall_mem_cons.2 ⟨fun _ _ _ _ hb h => TS.below h hb, ?_⟩
        refine List.forall_mem_cons.2 ⟨fun _ _ _ _ _ h => h, ?_⟩
        refine List.forall_mem_cons.2 ⟨fun _ _ _ _ hb h => TS.below h hb, ?_⟩
        refine List.forall_mem_cons.2 ⟨fun _ _ _ _ hb h => TS.below h hb, ?_⟩
        refine List.forall_mem_cons.2 ⟨fun _ _ _ _ _ h => h, ?_⟩
        refine List.forall_mem_cons.2 ⟨fun _ _ _ _ _ h => h, ?_⟩
        refine List.forall_mem_cons.2 ⟨fun _ _ _ _ _ h => h, ?_⟩
        exact fun _ h => absurd h (by simp)
      case good =>
        refine Rg.good_cons ?_ ?_
        · intro a w' cx hn
          refine .inl ⟨(Rg.wanted_none rfl), fun K hK => ?_⟩
          go_simp
          refine (awake14 w').mono ?_
          rintro e w2 ⟨rfl, hb⟩
          exact hK _ _ hb (fun t ht => by injection ht with ht; subst ht; exact rfl)
        refine Rg.good_cons ?_ ?_
        · intro a w' cx hn
          obtain ⟨v61, e61, r61⟩ := hn 61 (Rg.mem_of (by kernel_rfl))
          obtain rfl : v61 = .bool true := r61
          refine .inl ⟨(Rg.wanted_none rfl), fun K hK => ?_⟩
          go_simp
          exact hK _ _ (Below.refl _ _) (fun t ht => by injection ht with ht; subst ht; exact rfl)
        refine Rg.good_cons ?_ ?_
        · intro a w' cx hn
          have e7 := cx.at_ 7 (by kernel_rfl) rfl
          have hx := (box1 ((cx.bel.block g7 (HLU.out.1)).trans HB7.out.1)).1
          obtain ⟨v62, e62, r62⟩ := hn 62 (Rg.mem_of (by kernel_rfl))
          obtain rfl : v62 = .bool true := r62
          refine .inl ⟨((Rg.wanted_some (t := 62) rfl (by kernel_rfl) e62).trans rfl), fun K hK => ?_⟩
          go_simp
          exact hK _ _ (Below.refl _ _) (fun t ht => by injection ht with ht; subst ht; exact (T7.out.below cx.bel))
        refine Rg.good_cons ?_ ?_
        · intro a w' cx hn
          have e9 := cx.at_ 9 (by kernel_rfl) rfl
          obtain ⟨hx, hy, _⟩ := box2 ((cx.bel.block (g7 + 2) (HLU.out.2)).trans HB7.out.2)
          obtain ⟨v62, e62, r62⟩ := hn 62 (Rg.mem_of (by kernel_rfl))
          obtain rfl : v62 = .bool true := r62
          refine .inl ⟨((Rg.wanted_some (t := 62) rfl (by kernel_rfl) e62).trans rfl), fun K hK => ?_⟩
          go_simp
          exact hK _ _ (Below.refl _ _) (fun t ht => by injection ht with ht; subst ht; exact rfl)
        refine Rg.good_cons ?_ ?_
        · intro a w' cx hn
          obtain ⟨v63, e63, r63⟩ := hn 63 (Rg.mem_of (by kernel_rfl))
          replace r63 : TS (HasP X) 60 v63 w' := r63
          obtain ⟨v64, e64, r64⟩ := hn 64 (Rg.mem_of (by kernel_rfl))
          obtain rfl : v64 = .agg #[.int .i64 r1, .int .i64 r2] := r64
          obtain ⟨v62, e62, r62⟩ := hn 62 (Rg.mem_of (by kernel_rfl))
          obtain rfl : v62 = .bool true := r62
          refine .inl ⟨((Rg.wanted_some (t := 62) rfl (by kernel_rfl) e62).trans rfl), fun K hK => ?_⟩
          go_simp
          refine (withoutN r63 r1 r2 HR.out).mono ?_
          rintro e w2 ⟨z, rfl, hz, hb⟩
          exact hK _ _ hb (fun t ht => by injection ht with ht; subst ht; exact hz)
        refine Rg.good_cons ?_ ?_
        · intro a w' cx hn
          have e7 := cx.at_ 7 (by kernel_rfl) rfl
          have hx := (box1 ((cx.bel.block g7 (HLU.out.1)).trans HB7.out.1)).1
          obtain ⟨v62, e62, r62⟩ := hn 62 (Rg.mem_of (by kernel_rfl))
          obtain rfl : v62 = .bool true := r62
          refine .inl ⟨((Rg.wanted_some (t := 62) rfl (by kernel_rfl) e62).trans rfl), fun K hK => ?_⟩
          go_simp
          exact hK _ _ (Below.refl _ _) (fun t ht => by injection ht with ht; subst ht; exact (T7.out.below cx.bel))
        refine Rg.good_cons ?_ ?_
        · intro a w' cx hn
          obtain ⟨v65, e65, r65⟩ := hn 65 (Rg.mem_of (by kernel_rfl))
          replace r65 : TS (HasP X) 60 v65 w' := r65
          obtain ⟨v66, e66, r66⟩ := hn 66 (Rg.mem_of (by kernel_rfl))
          replace r66 : TS (HasP X) 60 v66 w' := r66
          obtain ⟨v62, e62, r62⟩ := hn 62 (Rg.mem_of (by kernel_rfl))
          obtain rfl : v62 = .bool true := r62
          refine .inl ⟨((Rg.wanted_some (t := 62) rfl (by kernel_rfl) e62).trans rfl), fun K hK => ?_⟩
          go_simp
          refine (sameT r65 r66 (by omega) (by omega) (fun t => Iff.rfl)).mono ?_
          rintro e w2 ⟨rfl, hb⟩
          exact hK _ _ hb (fun t ht => by injection ht with ht; subst ht; exact rfl)
        refine Rg.good_cons ?_ ?_
        · intro a w' cx hn
          obtain ⟨v62, e62, r62⟩ := hn 62 (Rg.mem_of (by kernel_rfl))
          obtain rfl : v62 = .bool true := r62
          obtain ⟨v67, e67, r67⟩ := hn 67 (Rg.mem_of (by kernel_rfl))
          obtain rfl : v67 = .bool true := r67
          refine .inl ⟨(Rg.wanted_none rfl), fun K hK => ?_⟩
          go_simp
          exact hK _ _ (Below.refl _ _) (fun t ht => by injection ht with ht; subst ht; exact rfl)
        refine Rg.good_cons ?_ ?_
        · intro a w' cx hn
          obtain ⟨v68, e68, r68⟩ := hn 68 (Rg.mem_of (by kernel_rfl))
          obtain rfl : v68 = .bool true := r68
          refine .inl ⟨(Rg.wanted_none rfl), fun K hK => ?_⟩
          go_simp
          exact hK _ _ (Below.refl _ _) (fun t ht => by injection ht with ht; subst ht; exact rfl)
        exact Rg.good_nil
      case done =>
        intro u w8 hb8 hr
        have q6 : u 6 = .bool true := hr 6 (by simp)
        simp only [Rg.fillL_cons, Rg.fillL_nil, if_true, if_false, Bool.false_eq_true, q6]
        have B8 := Lib.hid (B7.out.trans (hb8.mono B7.out.size))
        clear hr hb8
        go_wp2_with fail
        go_ret
        exact ⟨rfl, B8.out⟩
    | true =>
      have HR := Lib.hid (show RightP (r1, r2) from by have := HZ.out; unfold rightB at this; exact of_decide_eq_true this)
      go_wp2_with fail
      have HQ1 := Lib.hid (show ∀ t, (HasP X t ∧ ¬ InR (r1, r2) t) ∨ HasR [(r1, r2)] t ↔ HasP X t ∨ HasR [(r1, r2)] t from fun t => by
        rw [hasR_one]
        have := HR.out
        by_cases h : InR (r1, r2) t <;> simp [h, this])
      have HQ2 := Lib.hid (show ∀ t, (HasP X t ∨ HasR [(r1, r2)] t) ∧ ¬ InR (r1, r2) t ↔ HasP X t ∧ ¬ InR (r1, r2) t from fun t => by
        rw [hasR_one]
        by_cases h : InR (r1, r2) t <;> simp [h])
      have HQ3 := Lib.hid (show ∀ t, ¬ (HasP X t ∧ ¬ InR (0, 1099511627776) t) from fun t ⟨⟨r, hr, h1, h2⟩, hn⟩ => hn (by
        obtain ⟨p1, p2, p3⟩ := HX.out.1.1 r hr
        exact ⟨by show 0 ≤ t; omega, by show t ≤ 1099511627776; omega⟩))
      refine Rg.wp_region_inv (R := fun t v w => match t with
          | 69 => v = .bool true
          | 70 => v = .bool true
          | 71 => TS (HasP X) 60 v w
          | 72 => v = .agg #[.int .i64 r1, .int .i64 r2]
          | 73 => TS (fun t => HasP X t ∧ ¬ InR (r1, r2) t) (2 * 60) v w
          | 74 => v = .agg #[.int .i64 r1, .int .i64 r2]
          | 75 => OneS (r1, r2) v w
          | 76 => TS (HasR [(r1, r2)]) 1 v w
          | 77 => TS (fun t => (HasP X t ∧ ¬ InR (r1, r2) t) ∨ HasR [(r1, r2)] t) (2 * 60 + 1) v w
          | 78 => TS (HasP X) 60 v w
          | 79 => v = .agg #[.int .i64 r1, .int .i64 r2]
          | 80 => OneS (r1, r2) v w
          | 81 => TS (HasR [(r1, r2)]) 1 v w
          | 82 => TS (fun t => HasP X t ∨ HasR [(r1, r2)] t) (60 + 1) v w
          | 83 => v = .bool true
          | 84 => v = .bool true
          | 85 => v = .bool true
          | 86 => TS (HasP X) 60 v w
          | 87 => v = .agg #[.int .i64 r1, .int .i64 r2]
          | 88 => OneS (r1, r2) v w
          | 89 => TS (HasR [(r1, r2)]) 1 v w
          | 90 => TS (fun t => HasP X t ∨ HasR [(r1, r2)] t) (60 + 1) v w
          | 91 => v = .agg #[.int .i64 r1, .int .i64 r2]
          | 92 => TS (fun t => (HasP X t ∨ HasR [(r1, r2)] t) ∧ ¬ InR (r1, r2) t) (2 * (60 + 1)) v w
          | 93 => TS (HasP X) 60 v w
          | 94 => v = .agg #[.int .i64 r1, .int .i64 r2]
          | 95 => TS (fun t => HasP X t ∧ ¬ InR (r1, r2) t) (2 * 60) v w
          | 96 => v = .bool true
          | 97 => v = .bool true
          | 98 => v = .bool true
          | 99 => TS (HasP X) 60 v w
          | 100 => v = .agg #[.int .i64 0, .int .i64 1099511627776]
          | 101 => TS (fun t => HasP X t ∧ ¬ InR (0, 1099511627776) t) (2 * 60) v w
          | 102 => NoneS v
          | 103 => v = .int .i64 0
          | 104 => v = .bool true
          | 105 => v = .bool true
          | 6 => v = .bool true
          | _ => True) [69, 70, 71, 72, 73, 74, 75, 76, 77, 78, 79, 80, 81, 82, 83, 84, 85, 86, 87, 88, 89, 90, 91, 92, 93, 94, 95, 96, 97, 98, 99, 100, 101, 102, 103, 104, 105, 6] 106 [false, false, false, false, false, false, true, false, false, false, false, false, false, false, false, false, false, false, false, false, false, false, false, false, false, false, false, false, false, false, false, false, false, false, false, false, false, false, false, false, false, false, false, false, false, false, false, false, false, false, false, false, false, false, false, false, false, false, false, false, false, false, false, false, false, false, false, false, false, true, true, true, true, true, true, true, true, true, true, true, true, true, true, true, true, true, true, true, true, true, true, true, true, true, true, true, true, true, true, true, true, true, true, true, true, true] (by kernel_rfl) rfl (by kernel_rfl) (by kernel_rfl) (by kernel_rfl) (by kernel_rfl) (by kernel_rfl) ?mono ?good ?done
      case mono =>
        refine List.forall_mem_cons.2 ⟨fun _ _ _ _ _ h => h, ?_⟩
        refine List.forall_mem_cons.2 ⟨fun _ _ _ _ _ h => h, ?_⟩
        refine List.forall_mem_cons.2 ⟨fun _ _ _ _ hb h => TS.below h hb, ?_⟩
        refine List.forall_mem_cons.2 ⟨fun _ _ _ _ _ h => h, ?_⟩
        refine List.forall_mem_cons.2 ⟨fun _ _ _ _ hb h => TS.below h hb, ?_⟩
        refine List.forall_mem_cons.2 ⟨fun _ _ _ _ _ h => h, ?_⟩
        refine List.forall_mem_cons.2 ⟨fun _ _ _ _ hb h => OneS.below h hb, ?_⟩
        refine List.forall_mem_cons.2 ⟨fun _ _ _ _ hb h => TS.below h hb, ?_⟩
        refine List.forall_mem_cons.2 ⟨fun _ _ _ _ hb h => TS.below h hb, ?_⟩
        refine List.forall_mem_cons.2 ⟨fun _ _ _ _ hb h => TS.below h hb, ?_⟩
        refine List.forall_mem_cons.2 ⟨fun _ _ _ _ _ h => h, ?_⟩
        refine List.forall_mem_cons.2 ⟨fun _ _ _ _ hb h => OneS.below h hb, ?_⟩
        refine List.forall_mem_cons.2 ⟨fun _ _ _ _ hb h => TS.below h hb, ?_⟩
        refine List.forall_mem_cons.2 ⟨fun _ _ _ _ hb h => TS.below h hb, ?_⟩
        refine List.forall_mem_cons.2 ⟨fun _ _ _ _ _ h => h, ?_⟩
        refine List.forall_mem_cons.2 ⟨fun _ _ _ _ _ h => h, ?_⟩
        refine List.forall_mem_cons.2 ⟨fun _ _ _ _ _ h => h, ?_⟩
        refine List.forall_mem_cons.2 ⟨fun _ _ _ _ hb h => TS.below h hb, ?_⟩
        refine List.forall_mem_cons.2 ⟨fun _ _ _ _ _ h => h, ?_⟩
        refine List.forall_mem_cons.2 ⟨fun _ _ _ _ hb h => OneS.below h hb, ?_⟩
        refine List.forall_mem_cons.2 ⟨fun _ _ _ _ hb h => TS.below h hb, ?_⟩
        refine List.forall_mem_cons.2 ⟨fun _ _ _ _ hb h => TS.below h hb, ?_⟩
        refine List.forall_mem_cons.2 ⟨fun _ _ _ _ _ h => h, ?_⟩
        refine List.forall_mem_cons.2 ⟨fun _ _ _ _ hb h => TS.below h hb, ?_⟩
        refine List.forall_mem_cons.2 ⟨fun _ _ _ _ hb h => TS.below h hb, ?_⟩
        refine List.forall_mem_cons.2 ⟨fun _ _ _ _ _ h => h, ?_⟩
        refine List.forall_mem_cons.2 ⟨fun _ _ _ _ hb h => TS.below h hb, ?_⟩
        refine List.forall_mem_cons.2 ⟨fun _ _ _ _ _ h => h, ?_⟩
        refine List.forall_mem_cons.2 ⟨fun _ _ _ _ _ h => h, ?_⟩
        refine List.forall_mem_cons.2 ⟨fun _ _ _ _ _ h => h, ?_⟩
        refine List.forall_mem_cons.2 ⟨fun _ _ _ _ hb h => TS.below h hb, ?_⟩
        refine List.forall_mem_cons.2 ⟨fun _ _ _ _ _ h => h, ?_⟩
        refine List.forall_mem_cons.2 ⟨fun _ _ _ _ hb h => TS.below h hb, ?_⟩
        refine List.forall_mem_cons.2 ⟨fun _ _ _ _ hb h => h, ?_⟩
        refine List.forall_mem_cons.2 ⟨fun _ _ _ _ _ h => h, ?_⟩
        refine List.forall_mem_cons.2 ⟨fun _ _ _ _ _ h => h, ?_⟩
        refine List.forall_mem_cons.2 ⟨fun _ _ _ _ _ h => h, ?_⟩
        refine List.forall_mem_cons.2 ⟨fun _ _ _ _ _ h => h, ?_⟩
        exact fun _ h => absurd h (by simp)
      case good =>
        refine Rg.good_cons ?_ ?_
        · intro a w' cx hn
          refine .inl ⟨(Rg.wanted_none rfl), fun K hK => ?_⟩
          go_simp
          refine (awake14 w').mono ?_
          rintro e w2 ⟨rfl, hb⟩
          exact hK _ _ hb (fun t ht => by injection ht with ht; subst ht; exact rfl)
        refine Rg.good_cons ?_ ?_
        · intro a w' cx hn
          obtain ⟨v69, e69, r69⟩ := hn 69 (Rg.mem_of (by kernel_rfl))
          obtain rfl : v69 = .bool true := r69
          refine .inl ⟨(Rg.wanted_none rfl), fun K hK => ?_⟩
          go_simp
          exact hK _ _ (Below.refl _ _) (fun t ht => by injection ht with ht; subst ht; exact rfl)
        refine Rg.good_cons ?_ ?_
        · intro a w' cx hn
          have e7 := cx.at_ 7 (by kernel_rfl) rfl
          have hx := (box1 ((cx.bel.block g7 (HLU.out.1)).trans HB7.out.1)).1
          obtain ⟨v70, e70, r70⟩ := hn 70 (Rg.mem_of (by kernel_rfl))
          obtain rfl : v70 = .bool true := r70
          refine .inl ⟨((Rg.wanted_some (t := 70) rfl (by kernel_rfl) e70).trans rfl), fun K hK => ?_⟩
          go_simp
          exact hK _ _ (Below.refl _ _) (fun t ht => by injection ht with ht; subst ht; exact (T7.out.below cx.bel))
        refine Rg.good_cons ?_ ?_
        · intro a w' cx hn
          have e9 := cx.at_ 9 (by kernel_rfl) rfl
          obtain ⟨hx, hy, _⟩ := box2 ((cx.bel.block (g7 + 2) (HLU.out.2)).trans HB7.out.2)
          obtain ⟨v70, e70, r70⟩ := hn 70 (Rg.mem_of (by kernel_rfl))
          obtain rfl : v70 = .bool true := r70
          refine .inl ⟨((Rg.wanted_some (t := 70) rfl (by kernel_rfl) e70).trans rfl), fun K hK => ?_⟩
          go_simp
          exact hK _ _ (Below.refl _ _) (fun t ht => by injection ht with ht; subst ht; exact rfl)
        refine Rg.good_cons ?_ ?_
        · intro a w' cx hn
          obtain ⟨v71, e71, r71⟩ := hn 71 (Rg.mem_of (by kernel_rfl))
          replace r71 : TS (HasP X) 60 v71 w' := r71
          obtain ⟨v72, e72, r72⟩ := hn 72 (Rg.mem_of (by kernel_rfl))
          obtain rfl : v72 = .agg #[.int .i64 r1, .int .i64 r2] := r72
          obtain ⟨v70, e70, r70⟩ := hn 70 (Rg.mem_of (by kernel_rfl))
          obtain rfl : v70 = .bool true := r70
          refine .inl ⟨((Rg.wanted_some (t := 70) rfl (by kernel_rfl) e70).trans rfl), fun K hK => ?_⟩
          go_simp
          refine (withoutT r71 r1 r2 HR.out (by omega)).mono ?_
          rintro e w2 ⟨z, rfl, hz, hb⟩
          exact hK _ _ hb (fun t ht => by injection ht with ht; subst ht; exact hz)
        refine Rg.good_cons ?_ ?_
        · intro a w' cx hn
          have e9 := cx.at_ 9 (by kernel_rfl) rfl
          obtain ⟨hx, hy, _⟩ := box2 ((cx.bel.block (g7 + 2) (HLU.out.2)).trans HB7.out.2)
          obtain ⟨v70, e70, r70⟩ := hn 70 (Rg.mem_of (by kernel_rfl))
          obtain rfl : v70 = .bool true := r70
          refine .inl ⟨((Rg.wanted_some (t := 70) rfl (by kernel_rfl) e70).trans rfl), fun K hK => ?_⟩
          go_simp
          exact hK _ _ (Below.refl _ _) (fun t ht => by injection ht with ht; subst ht; exact rfl)
        refine Rg.good_cons ?_ ?_
        · intro a w' cx hn
          obtain ⟨v74, e74, r74⟩ := hn 74 (Rg.mem_of (by kernel_rfl))
          obtain rfl : v74 = .agg #[.int .i64 r1, .int .i64 r2] := r74
          obtain ⟨v70, e70, r70⟩ := hn 70 (Rg.mem_of (by kernel_rfl))
          obtain rfl : v70 = .bool true := r70
          refine .inl ⟨((Rg.wanted_some (t := 70) rfl (by kernel_rfl) e70).trans rfl), fun K hK => ?_⟩
          go_simp
          exact hK _ _ (grows _ _) (fun t ht => by injection ht with ht; subst ht; exact ⟨_, _, rfl, new_cl1 _ (r1, r2) _⟩)
        refine Rg.good_cons ?_ ?_
        · intro a w' cx hn
          obtain ⟨v75, e75, r75⟩ := hn 75 (Rg.mem_of (by kernel_rfl))
          replace r75 : OneS (r1, r2) v75 w' := r75
          obtain ⟨v70, e70, r70⟩ := hn 70 (Rg.mem_of (by kernel_rfl))
          obtain rfl : v70 = .bool true := r70
          refine .inl ⟨((Rg.wanted_some (t := 70) rfl (by kernel_rfl) e70).trans rfl), fun K hK => ?_⟩
          go_simp
          refine (ofOne r75).mono ?_
          rintro e w2 ⟨z, rfl, hz, hb⟩
          exact hK _ _ hb (fun t ht => by injection ht with ht; subst ht; exact hz)
        refine Rg.good_cons ?_ ?_
        · intro a w' cx hn
          obtain ⟨v73, e73, r73⟩ := hn 73 (Rg.mem_of (by kernel_rfl))
          replace r73 : TS (fun t => HasP X t ∧ ¬ InR (r1, r2) t) (2 * 60) v73 w' := r73
          obtain ⟨v76, e76, r76⟩ := hn 76 (Rg.mem_of (by kernel_rfl))
          replace r76 : TS (HasR [(r1, r2)]) 1 v76 w' := r76
          obtain ⟨v70, e70, r70⟩ := hn 70 (Rg.mem_of (by kernel_rfl))
          obtain rfl : v70 = .bool true := r70
          refine .inl ⟨((Rg.wanted_some (t := 70) rfl (by kernel_rfl) e70).trans rfl), fun K hK => ?_⟩
          go_simp
          refine (andT r73 r76 (by omega) (by omega)).mono ?_
          rintro e w2 ⟨z, rfl, hz, hb⟩
          exact hK _ _ hb (fun t ht => by injection ht with ht; subst ht; exact hz)
        refine Rg.good_cons ?_ ?_
        · intro a w' cx hn
          have e7 := cx.at_ 7 (by kernel_rfl) rfl
          have hx := (box1 ((cx.bel.block g7 (HLU.out.1)).trans HB7.out.1)).1
          obtain ⟨v70, e70, r70⟩ := hn 70 (Rg.mem_of (by kernel_rfl))
          obtain rfl : v70 = .bool true := r70
          refine .inl ⟨((Rg.wanted_some (t := 70) rfl (by kernel_rfl) e70).trans rfl), fun K hK => ?_⟩
          go_simp
          exact hK _ _ (Below.refl _ _) (fun t ht => by injection ht with ht; subst ht; exact (T7.out.below cx.bel))
        refine Rg.good_cons ?_ ?_
        · intro a w' cx hn
          have e9 := cx.at_ 9 (by kernel_rfl) rfl
          obtain ⟨hx, hy, _⟩ := box2 ((cx.bel.block (g7 + 2) (HLU.out.2)).trans HB7.out.2)
          obtain ⟨v70, e70, r70⟩ := hn 70 (Rg.mem_of (by kernel_rfl))
          obtain rfl : v70 = .bool true := r70
          refine .inl ⟨((Rg.wanted_some (t := 70) rfl (by kernel_rfl) e70).trans rfl), fun K hK => ?_⟩
          go_simp
          exact hK _ _ (Below.refl _ _) (fun t ht => by injection ht with ht; subst ht; exact rfl)
        refine Rg.good_cons ?_ ?_
        · intro a w' cx hn
          obtain ⟨v79, e79, r79⟩ := hn 79 (Rg.mem_of (by kernel_rfl))
          obtain rfl : v79 = .agg #[.int .i64 r1, .int .i64 r2] := r79
          obtain ⟨v70, e70, r70⟩ := hn 70 (Rg.mem_of (by kernel_rfl))
          obtain rfl : v70 = .bool true := r70
          refine .inl ⟨((Rg.wanted_some (t := 70) rfl (by kernel_rfl) e70).trans rfl), fun K hK => ?_⟩
          go_simp
          exact hK _ _ (grows _ _) (fun t ht => by injection ht with ht; subst ht; exact ⟨_, _, rfl, new_cl1 _ (r1, r2) _⟩)
        refine Rg.good_cons ?_ ?_
        · intro a w' cx hn
          obtain ⟨v80, e80, r80⟩ := hn 80 (Rg.mem_of (by kernel_rfl))
          replace r80 : OneS (r1, r2) v80 w' := r80
          obtain ⟨v70, e70, r70⟩ := hn 70 (Rg.mem_of (by kernel_rfl))
          obtain rfl : v70 = .bool true := r70
          refine .inl ⟨((Rg.wanted_some (t := 70) rfl (by kernel_rfl) e70).trans rfl), fun K hK => ?_⟩
          go_simp
          refine (ofOne r80).mono ?_
          rintro e w2 ⟨z, rfl, hz, hb⟩
          exact hK _ _ hb (fun t ht => by injection ht with ht; subst ht; exact hz)
        refine Rg.good_cons ?_ ?_
        · intro a w' cx hn
          obtain ⟨v78, e78, r78⟩ := hn 78 (Rg.mem_of (by kernel_rfl))
          replace r78 : TS (HasP X) 60 v78 w' := r78
          obtain ⟨v81, e81, r81⟩ := hn 81 (Rg.mem_of (by kernel_rfl))
          replace r81 : TS (HasR [(r1, r2)]) 1 v81 w' := r81
          obtain ⟨v70, e70, r70⟩ := hn 70 (Rg.mem_of (by kernel_rfl))
          obtain rfl : v70 = .bool true := r70
          refine .inl ⟨((Rg.wanted_some (t := 70) rfl (by kernel_rfl) e70).trans rfl), fun K hK => ?_⟩
          go_simp
          refine (andT r78 r81 (by omega) (by omega)).mono ?_
          rintro e w2 ⟨z, rfl, hz, hb⟩
          exact hK _ _ hb (fun t ht => by injection ht with ht; subst ht; exact hz)
        refine Rg.good_cons ?_ ?_
        · intro a w' cx hn
          obtain ⟨v77, e77, r77⟩ := hn 77 (Rg.mem_of (by kernel_rfl))
          replace r77 : TS (fun t => (HasP X t ∧ ¬ InR (r1, r2) t) ∨ HasR [(r1, r2)] t) (2 * 60 + 1) v77 w' := r77
          obtain ⟨v82, e82, r82⟩ := hn 82 (Rg.mem_of (by kernel_rfl))
          replace r82 : TS (fun t => HasP X t ∨ HasR [(r1, r2)] t) (60 + 1) v82 w' := r82
          obtain ⟨v70, e70, r70⟩ := hn 70 (Rg.mem_of (by kernel_rfl))
          obtain rfl : v70 = .bool true := r70
          refine .inl ⟨((Rg.wanted_some (t := 70) rfl (by kernel_rfl) e70).trans rfl), fun K hK => ?_⟩
          go_simp
          refine (sameT r77 r82 (by omega) (by omega) (HQ1.out)).mono ?_
          rintro e w2 ⟨rfl, hb⟩
          exact hK _ _ hb (fun t ht => by injection ht with ht; subst ht; exact rfl)
        refine Rg.good_cons ?_ ?_
        · intro a w' cx hn
          obtain ⟨v70, e70, r70⟩ := hn 70 (Rg.mem_of (by kernel_rfl))
          obtain rfl : v70 = .bool true := r70
          obtain ⟨v83, e83, r83⟩ := hn 83 (Rg.mem_of (by kernel_rfl))
          obtain rfl : v83 = .bool true := r83
          refine .inl ⟨(Rg.wanted_none rfl), fun K hK => ?_⟩
          go_simp
          exact hK _ _ (Below.refl _ _) (fun t ht => by injection ht with ht; subst ht; exact rfl)
        refine Rg.good_cons ?_ ?_
        · intro a w' cx hn
          obtain ⟨v84, e84, r84⟩ := hn 84 (Rg.mem_of (by kernel_rfl))
          obtain rfl : v84 = .bool true := r84
          refine .inl ⟨(Rg.wanted_none rfl), fun K hK => ?_⟩
          go_simp
          exact hK _ _ (Below.refl _ _) (fun t ht => by injection ht with ht; subst ht; exact rfl)
        refine Rg.good_cons ?_ ?_
        · intro a w' cx hn
          have e7 := cx.at_ 7 (by kernel_rfl) rfl
          have hx := (box1 ((cx.bel.block g7 (HLU.out.1)).trans HB7.out.1)).1
          obtain ⟨v85, e85, r85⟩ := hn 85 (Rg.mem_of (by kernel_rfl))
          obtain rfl : v85 = .bool true := r85
          refine .inl ⟨((Rg.wanted_some (t := 85) rfl (by kernel_rfl) e85).trans rfl), fun K hK => ?_⟩
          go_simp
          exact hK _ _ (Below.refl _ _) (fun t ht => by injection ht with ht; subst ht; exact (T7.out.below cx.bel))
        refine Rg.good_cons ?_ ?_
        · intro a w' cx hn
          have e9 := cx.at_ 9 (by kernel_rfl) rfl
          obtain ⟨hx, hy, _⟩ := box2 ((cx.bel.block (g7 + 2) (HLU.out.2)).trans HB7.out.2)
          obtain ⟨v85, e85, r85⟩ := hn 85 (Rg.mem_of (by kernel_rfl))
          obtain rfl : v85 = .bool true := r85
          refine .inl ⟨((Rg.wanted_some (t := 85) rfl (by kernel_rfl) e85).trans rfl), fun K hK => ?_⟩
          go_simp
          exact hK _ _ (Below.refl _ _) (fun t ht => by injection ht with ht; subst ht; exact rfl)
        refine Rg.good_cons ?_ ?_
        · intro a w' cx hn
          obtain ⟨v87, e87, r87⟩ := hn 87 (Rg.mem_of (by kernel_rfl))
          obtain rfl : v87 = .agg #[.int .i64 r1, .int .i64 r2] := r87
          obtain ⟨v85, e85, r85⟩ := hn 85 (Rg.mem_of (by kernel_rfl))
          obtain rfl : v85 = .bool true := r85
          refine .inl ⟨((Rg.wanted_some (t := 85) rfl (by kernel_rfl) e85).trans rfl), fun K hK => ?_⟩
          go_simp
          exact hK _ _ (grows _ _) (fun t ht => by injection ht with ht; subst ht; exact ⟨_, _, rfl, new_cl1 _ (r1, r2) _⟩)
        refine Rg.good_cons ?_ ?_
        · intro a w' cx hn
          obtain ⟨v88, e88, r88⟩ := hn 88 (Rg.mem_of (by kernel_rfl))
          replace r88 : OneS (r1, r2) v88 w' := r88
          obtain ⟨v85, e85, r85⟩ := hn 85 (Rg.mem_of (by kernel_rfl))
          obtain rfl : v85 = .bool true := r85
          refine .inl ⟨((Rg.wanted_some (t := 85) rfl (by kernel_rfl) e85).trans rfl), fun K hK => ?_⟩
          go_simp
          refine (ofOne r88).mono ?_
          rintro e w2 ⟨z, rfl, hz, hb⟩
          exact hK _ _ hb (fun t ht => by injection ht with ht; subst ht; exact hz)
        refine Rg.good_cons ?_ ?_
        · intro a w' cx hn
          obtain ⟨v86, e86, r86⟩ := hn 86 (Rg.mem_of (by kernel_rfl))
          replace r86 : TS (HasP X) 60 v86 w' := r86
          obtain ⟨v89, e89, r89⟩ := hn 89 (Rg.mem_of (by kernel_rfl))
          replace r89 : TS (HasR [(r1, r2)]) 1 v89 w' := r89
          obtain ⟨v85, e85, r85⟩ := hn 85 (Rg.mem_of (by kernel_rfl))
          obtain rfl : v85 = .bool true := r85
          refine .inl ⟨((Rg.wanted_some (t := 85) rfl (by kernel_rfl) e85).trans rfl), fun K hK => ?_⟩
          go_simp
          refine (andT r86 r89 (by omega) (by omega)).mono ?_
          rintro e w2 ⟨z, rfl, hz, hb⟩
          exact hK _ _ hb (fun t ht => by injection ht with ht; subst ht; exact hz)
        refine Rg.good_cons ?_ ?_
        · intro a w' cx hn
          have e9 := cx.at_ 9 (by kernel_rfl) rfl
          obtain ⟨hx, hy, _⟩ := box2 ((cx.bel.block (g7 + 2) (HLU.out.2)).trans HB7.out.2)
          obtain ⟨v85, e85, r85⟩ := hn 85 (Rg.mem_of (by kernel_rfl))
          obtain rfl : v85 = .bool true := r85
          refine .inl ⟨((Rg.wanted_some (t := 85) rfl (by kernel_rfl) e85).trans rfl), fun K hK => ?_⟩
          go_simp
          exact hK _ _ (Below.refl _ _) (fun t ht => by injection ht with ht; subst ht; exact rfl)
        refine Rg.good_cons ?_ ?_
        · intro a w' cx hn
          obtain ⟨v90, e90, r90⟩ := hn 90 (Rg.mem_of (by kernel_rfl))
          replace r90 : TS (fun t => HasP X t ∨ HasR [(r1, r2)] t) (60 + 1) v90 w' := r90
          obtain ⟨v91, e91, r91⟩ := hn 91 (Rg.mem_of (by kernel_rfl))
          obtain rfl : v91 = .agg #[.int .i64 r1, .int .i64 r2] := r91
          obtain ⟨v85, e85, r85⟩ := hn 85 (Rg.mem_of (by kernel_rfl))
          obtain rfl : v85 = .bool true := r85
          refine .inl ⟨((Rg.wanted_some (t := 85) rfl (by kernel_rfl) e85).trans rfl), fun K hK => ?_⟩
          go_simp
          refine (withoutT r90 r1 r2 HR.out (by omega)).mono ?_
          rintro e w2 ⟨z, rfl, hz, hb⟩
          exact hK _ _ hb (fun t ht => by injection ht with ht; subst ht; exact hz)
        refine Rg.good_cons ?_ ?_
        · intro a w' cx hn
          have e7 := cx.at_ 7 (by kernel_rfl) rfl
          have hx := (box1 ((cx.bel.block g7 (HLU.out.1)).trans HB7.out.1)).1
          obtain ⟨v85, e85, r85⟩ := hn 85 (Rg.mem_of (by kernel_rfl))
          obtain rfl : v85 = .bool true := r85
          refine .inl ⟨((Rg.wanted_some (t := 85) rfl (by kernel_rfl) e85).trans rfl), fun K hK => ?_⟩
          go_simp
          exact hK _ _ (Below.refl _ _) (fun t ht => by injection ht with ht; subst ht; exact (T7.out.below cx.bel))
        refine Rg.good_cons ?_ ?_
        · intro a w' cx hn
          have e9 := cx.at_ 9 (by kernel_rfl) rfl
          obtain ⟨hx, hy, _⟩ := box2 ((cx.bel.block (g7 + 2) (HLU.out.2)).trans HB7.out.2)
          obtain ⟨v85, e85, r85⟩ := hn 85 (Rg.mem_of (by kernel_rfl))
          obtain rfl : v85 = .bool true := r85
          refine .inl ⟨((Rg.wanted_some (t := 85) rfl (by kernel_rfl) e85).trans rfl), fun K hK => ?_⟩
          go_simp
          exact hK _ _ (Below.refl _ _) (fun t ht => by injection ht with ht; subst ht; exact rfl)
        refine Rg.good_cons ?_ ?_
        · intro a w' cx hn
          obtain ⟨v93, e93, r93⟩ := hn 93 (Rg.mem_of (by kernel_rfl))
          replace r93 : TS (HasP X) 60 v93 w' := r93
          obtain ⟨v94, e94, r94⟩ := hn 94 (Rg.mem_of (by kernel_rfl))
          obtain rfl : v94 = .agg #[.int .i64 r1, .int .i64 r2] := r94
          obtain ⟨v85, e85, r85⟩ := hn 85 (Rg.mem_of (by kernel_rfl))
          obtain rfl : v85 = .bool true := r85
          refine .inl ⟨((Rg.wanted_some (t := 85) rfl (by kernel_rfl) e85).trans rfl), fun K hK => ?_⟩
          go_simp
          refine (withoutT r93 r1 r2 HR.out (by omega)).mono ?_
          rintro e w2 ⟨z, rfl, hz, hb⟩
          exact hK _ _ hb (fun t ht => by injection ht with ht; subst ht; exact hz)
        refine Rg.good_cons ?_ ?_
        · intro a w' cx hn
          obtain ⟨v92, e92, r92⟩ := hn 92 (Rg.mem_of (by kernel_rfl))
          replace r92 : TS (fun t => (HasP X t ∨ HasR [(r1, r2)] t) ∧ ¬ InR (r1, r2) t) (2 * (60 + 1)) v92 w' := r92
          obtain ⟨v95, e95, r95⟩ := hn 95 (Rg.mem_of (by kernel_rfl))
          replace r95 : TS (fun t => HasP X t ∧ ¬ InR (r1, r2) t) (2 * 60) v95 w' := r95
          obtain ⟨v85, e85, r85⟩ := hn 85 (Rg.mem_of (by kernel_rfl))
          obtain rfl : v85 = .bool true := r85
          refine .inl ⟨((Rg.wanted_some (t := 85) rfl (by kernel_rfl) e85).trans rfl), fun K hK => ?_⟩
          go_simp
          refine (sameT r92 r95 (by omega) (by omega) (HQ2.out)).mono ?_
          rintro e w2 ⟨rfl, hb⟩
          exact hK _ _ hb (fun t ht => by injection ht with ht; subst ht; exact rfl)
        refine Rg.good_cons ?_ ?_
        · intro a w' cx hn
          obtain ⟨v85, e85, r85⟩ := hn 85 (Rg.mem_of (by kernel_rfl))
          obtain rfl : v85 = .bool true := r85
          obtain ⟨v96, e96, r96⟩ := hn 96 (Rg.mem_of (by kernel_rfl))
          obtain rfl : v96 = .bool true := r96
          refine .inl ⟨(Rg.wanted_none rfl), fun K hK => ?_⟩
          go_simp
          exact hK _ _ (Below.refl _ _) (fun t ht => by injection ht with ht; subst ht; exact rfl)
        refine Rg.good_cons ?_ ?_
        · intro a w' cx hn
          obtain ⟨v97, e97, r97⟩ := hn 97 (Rg.mem_of (by kernel_rfl))
          obtain rfl : v97 = .bool true := r97
          refine .inl ⟨(Rg.wanted_none rfl), fun K hK => ?_⟩
          go_simp
          exact hK _ _ (Below.refl _ _) (fun t ht => by injection ht with ht; subst ht; exact rfl)
        refine Rg.good_cons ?_ ?_
        · intro a w' cx hn
          have e7 := cx.at_ 7 (by kernel_rfl) rfl
          have hx := (box1 ((cx.bel.block g7 (HLU.out.1)).trans HB7.out.1)).1
          obtain ⟨v98, e98, r98⟩ := hn 98 (Rg.mem_of (by kernel_rfl))
          obtain rfl : v98 = .bool true := r98
          refine .inl ⟨((Rg.wanted_some (t := 98) rfl (by kernel_rfl) e98).trans rfl), fun K hK => ?_⟩
          go_simp
          exact hK _ _ (Below.refl _ _) (fun t ht => by injection ht with ht; subst ht; exact (T7.out.below cx.bel))
        refine Rg.good_cons ?_ ?_
        · intro a w' cx hn
          obtain ⟨v98, e98, r98⟩ := hn 98 (Rg.mem_of (by kernel_rfl))
          obtain rfl : v98 = .bool true := r98
          refine .inl ⟨((Rg.wanted_some (t := 98) rfl (by kernel_rfl) e98).trans rfl), fun K hK => ?_⟩
          go_simp
          exact hK _ _ (Below.refl _ _) (fun t ht => by injection ht with ht; subst ht; exact rfl)
        refine Rg.good_cons ?_ ?_
        · intro a w' cx hn
          obtain ⟨v99, e99, r99⟩ := hn 99 (Rg.mem_of (by kernel_rfl))
          replace r99 : TS (HasP X) 60 v99 w' := r99
          obtain ⟨v100, e100, r100⟩ := hn 100 (Rg.mem_of (by kernel_rfl))
          obtain rfl : v100 = .agg #[.int .i64 0, .int .i64 1099511627776] := r100
          obtain ⟨v98, e98, r98⟩ := hn 98 (Rg.mem_of (by kernel_rfl))
          obtain rfl : v98 = .bool true := r98
          refine .inl ⟨((Rg.wanted_some (t := 98) rfl (by kernel_rfl) e98).trans rfl), fun K hK => ?_⟩
          go_simp
          refine (withoutT r99 0 1099511627776 (by unfold RightP; simp) (by omega)).mono ?_
          rintro e w2 ⟨z, rfl, hz, hb⟩
          exact hK _ _ hb (fun t ht => by injection ht with ht; subst ht; exact hz)
        refine Rg.good_cons ?_ ?_
        · intro a w' cx hn
          obtain ⟨v101, e101, r101⟩ := hn 101 (Rg.mem_of (by kernel_rfl))
          replace r101 : TS (fun t => HasP X t ∧ ¬ InR (0, 1099511627776) t) (2 * 60) v101 w' := r101
          obtain ⟨v98, e98, r98⟩ := hn 98 (Rg.mem_of (by kernel_rfl))
          obtain rfl : v98 = .bool true := r98
          refine .inl ⟨((Rg.wanted_some (t := 98) rfl (by kernel_rfl) e98).trans rfl), fun K hK => ?_⟩
          go_simp
          refine (rangesNone r101 HQ3.out).mono ?_
          rintro e w2 ⟨A2, c2, rfl, hb⟩
          exact hK _ _ hb (fun t ht => by injection ht with ht; subst ht; exact ⟨A2, c2, rfl⟩)
        refine Rg.good_cons ?_ ?_
        · intro a w' cx hn
          obtain ⟨v102, e102, r102⟩ := hn 102 (Rg.mem_of (by kernel_rfl))
          replace r102 : NoneS v102 := r102
          obtain ⟨v98, e98, r98⟩ := hn 98 (Rg.mem_of (by kernel_rfl))
          obtain rfl : v98 = .bool true := r98
          refine .inl ⟨((Rg.wanted_some (t := 98) rfl (by kernel_rfl) e98).trans rfl), fun K hK => ?_⟩
          obtain ⟨A2, c2, rfl⟩ := r102
          go_simp
          exact hK _ _ (Below.refl _ _) (fun t ht => by injection ht with ht; subst ht; exact rfl)
        refine Rg.good_cons ?_ ?_
        · intro a w' cx hn
          obtain ⟨v103, e103, r103⟩ := hn 103 (Rg.mem_of (by kernel_rfl))
          obtain rfl : v103 = .int .i64 0 := r103
          obtain ⟨v98, e98, r98⟩ := hn 98 (Rg.mem_of (by kernel_rfl))
          obtain rfl : v98 = .bool true := r98
          refine .inl ⟨((Rg.wanted_some (t := 98) rfl (by kernel_rfl) e98).trans rfl), fun K hK => ?_⟩
          go_simp
          exact hK _ _ (Below.refl _ _) (fun t ht => by injection ht with ht; subst ht; exact rfl)
        refine Rg.good_cons ?_ ?_
        · intro a w' cx hn
          obtain ⟨v98, e98, r98⟩ := hn 98 (Rg.mem_of (by kernel_rfl))
          obtain rfl : v98 = .bool true := r98
          obtain ⟨v104, e104, r104⟩ := hn 104 (Rg.mem_of (by kernel_rfl))
          obtain rfl : v104 = .bool true := r104
          refine .inl ⟨(Rg.wanted_none rfl), fun K hK => ?_⟩
          go_simp
          exact hK _ _ (Below.refl _ _) (fun t ht => by injection ht with ht; subst ht; exact rfl)
        refine Rg.good_cons ?_ ?_
        · intro a w' cx hn
          obtain ⟨v105, e105, r105⟩ := hn 105 (Rg.mem_of (by kernel_rfl))
          obtain rfl : v105 = .bool true := r105
          refine .inl ⟨(Rg.wanted_none rfl), fun K hK => ?_⟩
          go_simp
          exact hK _ _ (Below.refl _ _) (fun t ht => by injection ht with ht; subst ht; exact rfl)
        exact Rg.good_nil
      case done =>
        intro u w8 hb8 hr
        have q6 : u 6 = .bool true := hr 6 (by simp)
        simp only [Rg.fillL_cons, Rg.fillL_nil, if_true, if_false, Bool.false_eq_true, q6]
        have B8 := Lib.hid (B7.out.trans (hb8.mono B7.out.size))
        clear hr hb8
        go_wp2_with fail
        go_ret
        exact ⟨rfl, B8.out⟩
end Go.Proofs.Ytdmlogpmojmikaa.Tm
