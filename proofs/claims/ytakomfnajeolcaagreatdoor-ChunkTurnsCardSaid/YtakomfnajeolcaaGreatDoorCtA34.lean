import Derived.Test.YtakomfnajeolcaaGreatDoorCtA33
set_option linter.unusedVariables false
/- What a chunk knows of the samples ahead, in memory; one sample more. -/
namespace Go.Proofs.YtakomfnajeolcaaGreatDoor.Ch
open Go.RowKit Go.Sort Go.Proofs.YtakomfnajeolcaaGreatDoor.En
set_option linter.unusedVariables false

/-- values laid one behind the other -/
def setL (W : World) (g : Nat) : Nat → List Value → World
  | _, [] => W
  | i, u :: r => setL (W.setCell ⟨g, i, none⟩ u) g (i + 1) r
def setA (cs : Array Value) : Nat → List Value → Array Value
  | _, [] => cs
  | i, u :: r => setA (cs.setIfInBounds i u) (i + 1) r
theorem setL_at {g : Nat} {t : TypeId} {fr : Nat × Nat} : ∀ {l : List Value} {i : Nat} {W : World} {cs : Array Value}, W.heap[g]? = some (.cells cs t fr) → (setL W g i l).heap[g]? = some (.cells (setA cs i l) t fr)
  | [], _, _, _, h => h
  | u :: r, i, W, cs, h => by
    unfold setL setA
    exact setL_at (put_at h u)
theorem setL_below {B : Nat} {w0 : World} {g : Nat} (hg : B ≤ g) : ∀ {l : List Value} {i : Nat} {W : World}, Below B w0 W → Below B w0 (setL W g i l)
  | [], _, _, h => h
  | u :: r, i, W, h => by
    unfold setL
    exact setL_below hg (h.setCell (p := ⟨g, i, none⟩) hg u)
theorem setL_cl {A : Option Addr} {xs : List Value} {g : Nat} (hn : ∀ a, A = some a → g < a.block) : ∀ {l : List Value} {i : Nat} {W : World}, Tk.Cl W A xs → Tk.Cl (setL W g i l) A xs
  | [], _, _, h => h
  | u :: r, i, W, h => by
    unfold setL
    exact setL_cl hn (ly_off h hn u)
theorem setA14 (a0 a1 a2 a3 a4 a5 a6 a7 a8 a9 a10 a11 a12 a13 b0 b1 b2 b3 b4 b5 b6 b7 b8 b9 b10 b11 b12 b13 : Value) : setA #[a0, a1, a2, a3, a4, a5, a6, a7, a8, a9, a10, a11, a12, a13] 0 [b0, b1, b2, b3, b4, b5, b6, b7, b8, b9, b10, b11, b12, b13] = #[b0, b1, b2, b3, b4, b5, b6, b7, b8, b9, b10, b11, b12, b13] := by
  simp [setA]
/-- what is known of the samples ahead: how many, the last, all layouts -/
def AhV (w : World) (k : Int) (s : SV) (xs ys : List Int) (v : Value) : Prop := ∃ A B c d A1 B1 c1 d1, v = .agg #[.int .i64 k, .int .i64 s.t, .int .i64 s.h.k, .int .i64 s.h.s, .int .i64 s.h.z, .int .u64 s.h.zc, .int .u64 s.h.ct, .int .i64 s.h.sm, .slice A s.h.P.length c, .slice B s.h.Q.length d, .int .i64 (Tk.fstL xs), .slice A1 (Tk.runsL xs).length c1, .int .i64 (Tk.fstL ys), .slice B1 (Tk.runsL ys).length d1] ∧ (Bk w A s.h.P ∧ Bk w B s.h.Q) ∧ Tk.Ly w A1 xs ∧ Tk.Ly w B1 ys
theorem AhV.below {w w' : World} {k : Int} {s : SV} {xs ys : List Int} {v : Value} (h : AhV w k s xs ys v) (hb : Below w.heap.size w w') : AhV w' k s xs ys v := by
  obtain ⟨A, B, c, d, A1, B1, c1, d1, h1, ⟨h2, h3⟩, h4, h5⟩ := h
  exact ⟨A, B, c, d, A1, B1, c1, d1, h1, ⟨h2.below hb, h3.below hb⟩, h4.below hb, h5.below hb⟩
def zS : SV := ⟨0, ⟨0, 0, 0, 0, 0, 0, [], []⟩⟩
theorem AhV.zero (w : World) : AhV w 0 zS [] [] (.agg #[.int .i64 0, .int .i64 0, .int .i64 0, .int .i64 0, .int .i64 0, .int .u64 0, .int .u64 0, .int .i64 0, .slice none 0 0, .slice none 0 0, .int .i64 0, .slice none 0 0, .int .i64 0, .slice none 0 0]) :=
  ⟨none, none, 0, 0, none, none, 0, 0, rfl, ⟨Bk.nil _ _, Bk.nil _ _⟩, Tk.Cl.nil _ _, Tk.Cl.nil _ _⟩
theorem LyW.more {N M : Nat} {xs ys : List Int} {v : Value} {w : World} (h : LyW M xs ys v w) (hm : N ≤ M) : LyW N xs ys v w := by
  obtain ⟨A, B, c, d, h1, h2, h3, h4, h5⟩ := h
  exact ⟨A, B, c, d, h1, h2, h3, fun a ha => Nat.le_trans hm (h4 a ha), fun a ha => Nat.le_trans hm (h5 a ha)⟩
/-- the same, as a value whose layouts are new -/
def AhW (N : Nat) (k : Int) (s : SV) (A B : Option Addr) (c d : Nat) (xs ys : List Int) (v : Value) (w : World) : Prop := ∃ A1 B1 c1 d1, v = .agg #[.int .i64 k, .int .i64 s.t, .int .i64 s.h.k, .int .i64 s.h.s, .int .i64 s.h.z, .int .u64 s.h.zc, .int .u64 s.h.ct, .int .i64 s.h.sm, .slice A s.h.P.length c, .slice B s.h.Q.length d, .int .i64 (Tk.fstL xs), .slice A1 (Tk.runsL xs).length c1, .int .i64 (Tk.fstL ys), .slice B1 (Tk.runsL ys).length d1] ∧ Tk.Ly w A1 xs ∧ Tk.Ly w B1 ys ∧ (∀ a, A1 = some a → N ≤ a.block) ∧ ∀ a, B1 = some a → N ≤ a.block
theorem AhW.below {N : Nat} {k : Int} {s : SV} {A B : Option Addr} {c d : Nat} {xs ys : List Int} {v : Value} {w w' : World} (h : AhW N k s A B c d xs ys v w) (hb : Below w.heap.size w w') : AhW N k s A B c d xs ys v w' := by
  obtain ⟨A1, B1, c1, d1, h1, h2, h3, h4⟩ := h
  exact ⟨A1, B1, c1, d1, h1, h2.below hb, h3.below hb, h4⟩
set_option maxHeartbeats 4000000 in
set_option maxRecDepth 100000 in
theorem and_h {k : Int} {s0 : SV} {xs ys : List Int} {n m : Nat} {v : Value} {w : World} (h : AhV w k s0 xs ys v) (hk : 0 ≤ k) (hk' : k ≤ 1099511627776) (hx : Ix xs n) (hy : Ix ys m) (bn : n ≤ 3000) (bm : m ≤ 3000) (s : SV) (A B : Option Addr) (c d : Nat) (hP : Bk w A s.h.P) (hQ : Bk w B s.h.Q) (o : Ok s.h) :
    Calls Tryz.prog 46 #[v, .agg #[.int .i64 s.t, .int .i64 s.h.k, .int .i64 s.h.s, .int .i64 s.h.z, .int .u64 s.h.zc, .int .u64 s.h.ct, .int .i64 s.h.sm, .slice A s.h.P.length c, .slice B s.h.Q.length d]] w fun e w' => ∃ v', e = .returned v' ∧ AhW w.heap.size (k + 1) s A B c d (Tk.uni xs (Tk.idsL s.h.P)) (Tk.uni ys (Tk.idsL s.h.Q)) v' w' ∧ Below w.heap.size w w' := by
  obtain ⟨A0, B0, c0, d0, A1, B1, c1, d1, rfl, _, hA, hB⟩ := h
  obtain ⟨a1, ha1⟩ : ∃ a, Tk.fstL xs = a := ⟨_, rfl⟩
  obtain ⟨n1, hn1⟩ : ∃ a, (Tk.runsL xs).length = a := ⟨_, rfl⟩
  obtain ⟨a2, ha2⟩ : ∃ a, Tk.fstL ys = a := ⟨_, rfl⟩
  obtain ⟨n2, hn2⟩ : ∃ a, (Tk.runsL ys).length = a := ⟨_, rfl⟩
  have HN := Lib.hid (And.intro (And.intro ha1 hn1) (And.intro ha2 hn2))
  rw [ha1, hn1, ha2, hn2]
  obtain ⟨w2, hw2⟩ : ∃ W, ((w.alloc (.cells #[.int .i64 k, .int .i64 s0.t, .int .i64 s0.h.k, .int .i64 s0.h.s, .int .i64 s0.h.z, .int .u64 s0.h.zc, .int .u64 s0.h.ct, .int .i64 s0.h.sm, .slice A0 s0.h.P.length c0, .slice B0 s0.h.Q.length d0, .int .i64 a1, .slice A1 n1 c1, .int .i64 a2, .slice B1 n2 d1] 91)).alloc (.cells #[.int .i64 s.t, .int .i64 s.h.k, .int .i64 s.h.s, .int .i64 s.h.z, .int .u64 s.h.zc, .int .u64 s.h.ct, .int .i64 s.h.sm, .slice A s.h.P.length c, .slice B s.h.Q.length d] 41)).alloc (.cells #[.int .i64 0, .int .i64 0, .int .i64 0, .int .i64 0, .int .i64 0, .int .u64 0, .int .u64 0, .int .i64 0, .slice none 0 0, .slice none 0 0, .int .i64 0, .slice none 0 0, .int .i64 0, .slice none 0 0] 91) = W := ⟨_, rfl⟩
  obtain ⟨g, hg⟩ : ∃ g, w.heap.size = g := ⟨_, rfl⟩
  obtain ⟨e1, e2, hb2⟩ := two_alloc w (.cells #[.int .i64 k, .int .i64 s0.t, .int .i64 s0.h.k, .int .i64 s0.h.s, .int .i64 s0.h.z, .int .u64 s0.h.zc, .int .u64 s0.h.ct, .int .i64 s0.h.sm, .slice A0 s0.h.P.length c0, .slice B0 s0.h.Q.length d0, .int .i64 a1, .slice A1 n1 c1, .int .i64 a2, .slice B1 n2 d1] 91) (.cells #[.int .i64 s.t, .int .i64 s.h.k, .int .i64 s.h.s, .int .i64 s.h.z, .int .u64 s.h.zc, .int .u64 s.h.ct, .int .i64 s.h.sm, .slice A s.h.P.length c, .slice B s.h.Q.length d] 41)
  have hz : ((w.alloc (.cells #[.int .i64 k, .int .i64 s0.t, .int .i64 s0.h.k, .int .i64 s0.h.s, .int .i64 s0.h.z, .int .u64 s0.h.zc, .int .u64 s0.h.ct, .int .i64 s0.h.sm, .slice A0 s0.h.P.length c0, .slice B0 s0.h.Q.length d0, .int .i64 a1, .slice A1 n1 c1, .int .i64 a2, .slice B1 n2 d1] 91)).alloc (.cells #[.int .i64 s.t, .int .i64 s.h.k, .int .i64 s.h.s, .int .i64 s.h.z, .int .u64 s.h.zc, .int .u64 s.h.ct, .int .i64 s.h.sm, .slice A s.h.P.length c, .slice B s.h.Q.length d] 41)).heap.size = g + 1 + 1 := by simp [hg]
  have hb3 := hb2.alloc hb2.size (.cells #[.int .i64 0, .int .i64 0, .int .i64 0, .int .i64 0, .int .i64 0, .int .u64 0, .int .u64 0, .int .i64 0, .slice none 0 0, .slice none 0 0, .int .i64 0, .slice none 0 0, .int .i64 0, .slice none 0 0] 91)
  have hx2 : w2.heap[g]? = some (.cells #[.int .i64 k, .int .i64 s0.t, .int .i64 s0.h.k, .int .i64 s0.h.s, .int .i64 s0.h.z, .int .u64 s0.h.zc, .int .u64 s0.h.ct, .int .i64 s0.h.sm, .slice A0 s0.h.P.length c0, .slice B0 s0.h.Q.length d0, .int .i64 a1, .slice A1 n1 c1, .int .i64 a2, .slice B1 n2 d1] 91) := by
    rw [← hw2, Below.heap_alloc _ _ _ (by simp; omega), ← hg]
    exact e1
  have hx3 : w2.heap[g + 1]? = some (.cells #[.int .i64 s.t, .int .i64 s.h.k, .int .i64 s.h.s, .int .i64 s.h.z, .int .u64 s.h.zc, .int .u64 s.h.ct, .int .i64 s.h.sm, .slice A s.h.P.length c, .slice B s.h.Q.length d] 41) := by
    rw [← hw2, Below.heap_alloc _ _ _ (by simp; omega), ← hg]
    exact e2
  have hx4 : w2.heap[g + 1 + 1]? = some (.cells #[.int .i64 0, .int .i64 0, .int .i64 0, .int .i64 0, .int .i64 0, .int .u64 0, .int .u64 0, .int .i64 0, .slice none 0 0, .slice none 0 0, .int .i64 0, .slice none 0 0, .int .i64 0, .slice none 0 0] 91) := by
    rw [← hw2, ← hz]
    exact heap_alloc_new _ _
  rw [hw2] at hb3
  have HX := Lib.hid (And.intro hx2 (And.intro hx3 hx4))
  have HLT := Lib.hid (And.intro (Array.getElem?_eq_some_iff.1 hx2).1 (And.intro (Array.getElem?_eq_some_iff.1 hx3).1 (Array.getElem?_eq_some_iff.1 hx4).1))
  have HB := Lib.hid hb3
  have HK := Lib.hid (And.intro (And.intro (hA.below hb3) (hB.below hb3)) (And.intro hP hQ))
  have HI := Lib.hid (And.intro (And.intro hx hy) o)
  have HG := Lib.hid hg
  have HKK := Lib.hid (show k + 1 ≤ 1099511627777 ∧ 0 ≤ k + 1 from ⟨by omega, by omega⟩)
  clear hx2 hx3 hx4 hb2 hb3 hA hB hP hQ hx hy o ha1 hn1 ha2 hn2 e1 e2 hz
  go_enter Tryz.func46, Tryz.ntmps46
  go_wp2_with fail
  clear hw2 hg
  refine Rg.wp_region_invG (R := fun sl v w => match sl with
      | 5 => v = .pointer (some ⟨g, 0, none⟩)
      | 6 => v = .int .i64 k
      | 7 => v = .int .i64 (k + 1)
      | 8 => v = .agg #[.int .i64 s.t, .int .i64 s.h.k, .int .i64 s.h.s, .int .i64 s.h.z, .int .u64 s.h.zc, .int .u64 s.h.ct, .int .i64 s.h.sm, .slice A s.h.P.length c, .slice B s.h.Q.length d]
      | 9 => v = .pointer (some ⟨g, 10, none⟩)
      | 10 => v = .agg #[.int .i64 a1, .slice A1 n1 c1, .int .i64 a2, .slice B1 n2 d1]
      | 11 => v = .pointer (some ⟨g + 1, 1, none⟩)
      | 12 => v = .agg #[.int .i64 s.h.k, .int .i64 s.h.s, .int .i64 s.h.z, .int .u64 s.h.zc, .int .u64 s.h.ct, .int .i64 s.h.sm, .slice A s.h.P.length c, .slice B s.h.Q.length d]
      | 13 => LyW w2.heap.size (Tk.uni xs (Tk.idsL s.h.P)) (Tk.uni ys (Tk.idsL s.h.Q)) v w
      | 14 => AhW w2.heap.size (k + 1) s A B c d (Tk.uni xs (Tk.idsL s.h.P)) (Tk.uni ys (Tk.idsL s.h.Q)) v w
      | _ => True) (fun a w => True) 10 [5, 6, 7, 8, 9, 10, 11, 12, 13, 14] 15 [false, false, false, false, false, true, true, true, true, true, true, true, true, true, true] (by kernel_rfl) rfl (by kernel_rfl) (by kernel_rfl) (by kernel_rfl) (by kernel_rfl) (Nat.le_of_ble_eq_true (by kernel_rfl)) (by kernel_rfl) (by kernel_rfl) ?mono ?g0 ?good ?done
  case mono =>
    refine List.forall_mem_cons.2 ⟨fun _ _ _ _ _ h => h, ?_⟩
    refine List.forall_mem_cons.2 ⟨fun _ _ _ _ _ h => h, ?_⟩
    refine List.forall_mem_cons.2 ⟨fun _ _ _ _ _ h => h, ?_⟩
    refine List.forall_mem_cons.2 ⟨fun _ _ _ _ _ h => h, ?_⟩
    refine List.forall_mem_cons.2 ⟨fun _ _ _ _ _ h => h, ?_⟩
    refine List.forall_mem_cons.2 ⟨fun _ _ _ _ _ h => h, ?_⟩
    refine List.forall_mem_cons.2 ⟨fun _ _ _ _ _ h => h, ?_⟩
    refine List.forall_mem_cons.2 ⟨fun _ _ _ _ _ h => h, ?_⟩
    refine List.forall_mem_cons.2 ⟨fun _ _ _ _ hb h => LyW.below h hb, ?_⟩
    refine List.forall_mem_cons.2 ⟨fun _ _ _ _ hb h => AhW.below h hb, ?_⟩
    exact fun _ h => absurd h (by simp)
  case g0 => exact trivial
  case good =>
    refine Rg.goodG_cons ?_ ?_
    · intro ac w' cx hg hn
      have e2 := cx.at_ 2 (by kernel_rfl) rfl
      refine .inl ⟨(Rg.wanted_none rfl), fun K hK => ?_⟩
      go_simp
      exact hK _ _ (Below.refl _ _) (fun t ht => by injection ht with ht; subst ht; exact rfl) trivial
    refine Rg.goodG_cons ?_ ?_
    · intro ac w' cx hg hn
      obtain ⟨v5, e5, r5⟩ := hn 5 (Rg.mem_of (by kernel_rfl))
      obtain rfl : v5 = .pointer (some ⟨g, 0, none⟩) := r5
      have q0 := bx ((cx.bel.block g (HLT.out.1)).trans HX.out.1) 0 _ rfl
      refine .inl ⟨(Rg.wanted_none rfl), fun K hK => ?_⟩
      go_simp
      exact hK _ _ (Below.refl _ _) (fun t ht => by injection ht with ht; subst ht; exact rfl) trivial
    refine Rg.goodG_cons ?_ ?_
    · intro ac w' cx hg hn
      obtain ⟨v6, e6, r6⟩ := hn 6 (Rg.mem_of (by kernel_rfl))
      obtain rfl : v6 = .int .i64 k := r6
      refine .inl ⟨(Rg.wanted_none rfl), fun K hK => ?_⟩
      have h1 := HKK.out.1
      have h2 := HKK.out.2
      have hw : IntKind.i64.wrap (k + 1) = k + 1 := by rw [IntWalk.i64_left]; exact IntWalk.wrap64_in _ ⟨by omega, by omega⟩
      go_simp
      exact hK _ _ (Below.refl _ _) (fun t ht => by injection ht with ht; subst ht; exact rfl) trivial
    refine Rg.goodG_cons ?_ ?_
    · intro ac w' cx hg hn
      have e3 := cx.at_ 3 (by kernel_rfl) rfl
      have q0 := bx ((cx.bel.block (g + 1) (HLT.out.2.1)).trans HX.out.2.1) 0 _ rfl; have q1 := bx ((cx.bel.block (g + 1) (HLT.out.2.1)).trans HX.out.2.1) 1 _ rfl; have q2 := bx ((cx.bel.block (g + 1) (HLT.out.2.1)).trans HX.out.2.1) 2 _ rfl; have q3 := bx ((cx.bel.block (g + 1) (HLT.out.2.1)).trans HX.out.2.1) 3 _ rfl; have q4 := bx ((cx.bel.block (g + 1) (HLT.out.2.1)).trans HX.out.2.1) 4 _ rfl; have q5 := bx ((cx.bel.block (g + 1) (HLT.out.2.1)).trans HX.out.2.1) 5 _ rfl; have q6 := bx ((cx.bel.block (g + 1) (HLT.out.2.1)).trans HX.out.2.1) 6 _ rfl; have q7 := bx ((cx.bel.block (g + 1) (HLT.out.2.1)).trans HX.out.2.1) 7 _ rfl; have q8 := bx ((cx.bel.block (g + 1) (HLT.out.2.1)).trans HX.out.2.1) 8 _ rfl
      refine .inl ⟨(Rg.wanted_none rfl), fun K hK => ?_⟩
      go_simp
      exact hK _ _ (Below.refl _ _) (fun t ht => by injection ht with ht; subst ht; exact rfl) trivial
    refine Rg.goodG_cons ?_ ?_
    · intro ac w' cx hg hn
      have e2 := cx.at_ 2 (by kernel_rfl) rfl
      refine .inl ⟨(Rg.wanted_none rfl), fun K hK => ?_⟩
      go_simp
      exact hK _ _ (Below.refl _ _) (fun t ht => by injection ht with ht; subst ht; exact rfl) trivial
    refine Rg.goodG_cons ?_ ?_
    · intro ac w' cx hg hn
      obtain ⟨v9, e9, r9⟩ := hn 9 (Rg.mem_of (by kernel_rfl))
      obtain rfl : v9 = .pointer (some ⟨g, 10, none⟩) := r9
      have q0 := bx ((cx.bel.block g (HLT.out.1)).trans HX.out.1) 10 _ rfl; have q1 := bx ((cx.bel.block g (HLT.out.1)).trans HX.out.1) 11 _ rfl; have q2 := bx ((cx.bel.block g (HLT.out.1)).trans HX.out.1) 12 _ rfl; have q3 := bx ((cx.bel.block g (HLT.out.1)).trans HX.out.1) 13 _ rfl
      refine .inl ⟨(Rg.wanted_none rfl), fun K hK => ?_⟩
      go_simp
      exact hK _ _ (Below.refl _ _) (fun t ht => by injection ht with ht; subst ht; exact rfl) trivial
    refine Rg.goodG_cons ?_ ?_
    · intro ac w' cx hg hn
      have e3 := cx.at_ 3 (by kernel_rfl) rfl
      refine .inl ⟨(Rg.wanted_none rfl), fun K hK => ?_⟩
      go_simp
      exact hK _ _ (Below.refl _ _) (fun t ht => by injection ht with ht; subst ht; exact rfl) trivial
    refine Rg.goodG_cons ?_ ?_
    · intro ac w' cx hg hn
      obtain ⟨v11, e11, r11⟩ := hn 11 (Rg.mem_of (by kernel_rfl))
      obtain rfl : v11 = .pointer (some ⟨g + 1, 1, none⟩) := r11
      have q0 := bx ((cx.bel.block (g + 1) (HLT.out.2.1)).trans HX.out.2.1) 1 _ rfl; have q1 := bx ((cx.bel.block (g + 1) (HLT.out.2.1)).trans HX.out.2.1) 2 _ rfl; have q2 := bx ((cx.bel.block (g + 1) (HLT.out.2.1)).trans HX.out.2.1) 3 _ rfl; have q3 := bx ((cx.bel.block (g + 1) (HLT.out.2.1)).trans HX.out.2.1) 4 _ rfl; have q4 := bx ((cx.bel.block (g + 1) (HLT.out.2.1)).trans HX.out.2.1) 5 _ rfl; have q5 := bx ((cx.bel.block (g + 1) (HLT.out.2.1)).trans HX.out.2.1) 6 _ rfl; have q6 := bx ((cx.bel.block (g + 1) (HLT.out.2.1)).trans HX.out.2.1) 7 _ rfl; have q7 := bx ((cx.bel.block (g + 1) (HLT.out.2.1)).trans HX.out.2.1) 8 _ rfl
      refine .inl ⟨(Rg.wanted_none rfl), fun K hK => ?_⟩
      go_simp
      exact hK _ _ (Below.refl _ _) (fun t ht => by injection ht with ht; subst ht; exact rfl) trivial
    refine Rg.goodG_cons ?_ ?_
    · intro ac w' cx hg hn
      obtain ⟨v10, e10, r10⟩ := hn 10 (Rg.mem_of (by kernel_rfl))
      obtain rfl : v10 = .agg #[.int .i64 a1, .slice A1 n1 c1, .int .i64 a2, .slice B1 n2 d1] := r10
      obtain ⟨v12, e12, r12⟩ := hn 12 (Rg.mem_of (by kernel_rfl))
      obtain rfl : v12 = .agg #[.int .i64 s.h.k, .int .i64 s.h.s, .int .i64 s.h.z, .int .u64 s.h.zc, .int .u64 s.h.ct, .int .i64 s.h.sm, .slice A s.h.P.length c, .slice B s.h.Q.length d] := r12
      refine .inl ⟨(Rg.wanted_none rfl), fun K hK => ?_⟩
      have hy : LyV w' xs ys (.agg #[.int .i64 a1, .slice A1 n1 c1, .int .i64 a2, .slice B1 n2 d1]) := ⟨A1, B1, c1, d1, by rw [HN.out.1.1, HN.out.1.2, HN.out.2.1, HN.out.2.2], HK.out.1.1.below cx.bel, HK.out.1.2.below cx.bel⟩
      have hj := with_ly hy HI.out.1.1 HI.out.1.2 bn bm s.h A B c d (HK.out.2.1.below (HB.out.trans (cx.bel.mono HB.out.size))) (HK.out.2.2.below (HB.out.trans (cx.bel.mono HB.out.size))) HI.out.2
      go_simp
      refine hj.mono ?_
      rintro e w3 ⟨v', rfl, hl, hb⟩
      exact hK _ _ hb (fun t ht => by injection ht with ht; subst ht; exact hl.more cx.bel.size) trivial
    refine Rg.goodG_cons ?_ ?_
    · intro ac w' cx hg hn
      obtain ⟨v7, e7, r7⟩ := hn 7 (Rg.mem_of (by kernel_rfl))
      obtain rfl : v7 = .int .i64 (k + 1) := r7
      obtain ⟨v8, e8, r8⟩ := hn 8 (Rg.mem_of (by kernel_rfl))
      obtain rfl : v8 = .agg #[.int .i64 s.t, .int .i64 s.h.k, .int .i64 s.h.s, .int .i64 s.h.z, .int .u64 s.h.zc, .int .u64 s.h.ct, .int .i64 s.h.sm, .slice A s.h.P.length c, .slice B s.h.Q.length d] := r8
      obtain ⟨v13, e13, r13⟩ := hn 13 (Rg.mem_of (by kernel_rfl))
      replace r13 : LyW w2.heap.size (Tk.uni xs (Tk.idsL s.h.P)) (Tk.uni ys (Tk.idsL s.h.Q)) v13 w' := r13
      refine .inl ⟨(Rg.wanted_none rfl), fun K hK => ?_⟩
      obtain ⟨A', B', c', d', rfl, hl, hm', hn1, hn2⟩ := r13
      go_simp
      exact hK _ _ (Below.refl _ _) (fun t ht => by injection ht with ht; subst ht; exact ⟨A', B', c', d', rfl, hl, hm', hn1, hn2⟩) trivial
    exact Rg.goodG_nil
  case done =>
    intro u w6 hb6 hr _
    have q14 : AhW w2.heap.size (k + 1) s A B c d (Tk.uni xs (Tk.idsL s.h.P)) (Tk.uni ys (Tk.idsL s.h.Q)) (u 14) w6 := hr 14 (by simp)
    obtain ⟨A', B', c', d', q14', hl, hm', hn1, hn2⟩ := q14
    simp only [Rg.fillL_cons, Rg.fillL_nil, if_true, if_false, Bool.false_eq_true, q14', List.drop_succ_cons, List.drop_zero]
    have hx6 := (hb6.block (g + 1 + 1) HLT.out.2.2).trans HX.out.2.2
    have v0 := bx hx6 0 _ rfl
    have v1 := bx hx6 1 _ rfl
    have v2 := bx hx6 2 _ rfl
    have v3 := bx hx6 3 _ rfl
    have v4 := bx hx6 4 _ rfl
    have v5 := bx hx6 5 _ rfl
    have v6 := bx hx6 6 _ rfl
    have v7 := bx hx6 7 _ rfl
    have v8 := bx hx6 8 _ rfl
    have v9 := bx hx6 9 _ rfl
    have v10 := bx hx6 10 _ rfl
    have v11 := bx hx6 11 _ rfl
    have v12 := bx hx6 12 _ rfl
    have v13 := bx hx6 13 _ rfl
    have f0 : w6.frozen? ⟨g + 1 + 1, 0, none⟩ = false := by simp [World.frozen?, hx6]
    have f1 : w6.frozen? ⟨g + 1 + 1, 1, none⟩ = false := by simp [World.frozen?, hx6]
    have f2 : w6.frozen? ⟨g + 1 + 1, 2, none⟩ = false := by simp [World.frozen?, hx6]
    have f3 : w6.frozen? ⟨g + 1 + 1, 3, none⟩ = false := by simp [World.frozen?, hx6]
    have f4 : w6.frozen? ⟨g + 1 + 1, 4, none⟩ = false := by simp [World.frozen?, hx6]
    have f5 : w6.frozen? ⟨g + 1 + 1, 5, none⟩ = false := by simp [World.frozen?, hx6]
    have f6 : w6.frozen? ⟨g + 1 + 1, 6, none⟩ = false := by simp [World.frozen?, hx6]
    have f7 : w6.frozen? ⟨g + 1 + 1, 7, none⟩ = false := by simp [World.frozen?, hx6]
    have f8 : w6.frozen? ⟨g + 1 + 1, 8, none⟩ = false := by simp [World.frozen?, hx6]
    have f9 : w6.frozen? ⟨g + 1 + 1, 9, none⟩ = false := by simp [World.frozen?, hx6]
    have f10 : w6.frozen? ⟨g + 1 + 1, 10, none⟩ = false := by simp [World.frozen?, hx6]
    have f11 : w6.frozen? ⟨g + 1 + 1, 11, none⟩ = false := by simp [World.frozen?, hx6]
    have f12 : w6.frozen? ⟨g + 1 + 1, 12, none⟩ = false := by simp [World.frozen?, hx6]
    have f13 : w6.frozen? ⟨g + 1 + 1, 13, none⟩ = false := by simp [World.frozen?, hx6]
    have hgz := HG.out
    have hlt := HLT.out.2.2
    have hb7 := HB.out.trans (hb6.mono HB.out.size)
    obtain ⟨x1, hx1⟩ : ∃ x, Tk.fstL (Tk.uni xs (Tk.idsL s.h.P)) = x := ⟨_, rfl⟩
    obtain ⟨m1, hm1⟩ : ∃ x, (Tk.runsL (Tk.uni xs (Tk.idsL s.h.P))).length = x := ⟨_, rfl⟩
    obtain ⟨x2, hx2⟩ : ∃ x, Tk.fstL (Tk.uni ys (Tk.idsL s.h.Q)) = x := ⟨_, rfl⟩
    obtain ⟨m2, hm2⟩ : ∃ x, (Tk.runsL (Tk.uni ys (Tk.idsL s.h.Q))).length = x := ⟨_, rfl⟩
    rw [hx1, hm1, hx2, hm2] at q14' ⊢
    have hb8 : Below w.heap.size w (setL w6 (g + 1 + 1) 0 [.int .i64 (k + 1), .int .i64 s.t, .int .i64 s.h.k, .int .i64 s.h.s, .int .i64 s.h.z, .int .u64 s.h.zc, .int .u64 s.h.ct, .int .i64 s.h.sm, .slice A s.h.P.length c, .slice B s.h.Q.length d, .int .i64 x1, .slice A' m1 c', .int .i64 x2, .slice B' m2 d']) := setL_below (by omega) hb7
    have HE := Lib.hid (show ∃ v', Ending.returned (.agg #[.int .i64 (k + 1), .int .i64 s.t, .int .i64 s.h.k, .int .i64 s.h.s, .int .i64 s.h.z, .int .u64 s.h.zc, .int .u64 s.h.ct, .int .i64 s.h.sm, .slice A s.h.P.length c, .slice B s.h.Q.length d, .int .i64 x1, .slice A' m1 c', .int .i64 x2, .slice B' m2 d']) = .returned v' ∧ AhW w.heap.size (k + 1) s A B c d (Tk.uni xs (Tk.idsL s.h.P)) (Tk.uni ys (Tk.idsL s.h.Q)) v' (setL w6 (g + 1 + 1) 0 [.int .i64 (k + 1), .int .i64 s.t, .int .i64 s.h.k, .int .i64 s.h.s, .int .i64 s.h.z, .int .u64 s.h.zc, .int .u64 s.h.ct, .int .i64 s.h.sm, .slice A s.h.P.length c, .slice B s.h.Q.length d, .int .i64 x1, .slice A' m1 c', .int .i64 x2, .slice B' m2 d']) ∧ Below w.heap.size w (setL w6 (g + 1 + 1) 0 [.int .i64 (k + 1), .int .i64 s.t, .int .i64 s.h.k, .int .i64 s.h.s, .int .i64 s.h.z, .int .u64 s.h.zc, .int .u64 s.h.ct, .int .i64 s.h.sm, .slice A s.h.P.length c, .slice B s.h.Q.length d, .int .i64 x1, .slice A' m1 c', .int .i64 x2, .slice B' m2 d']) from
      ⟨_, rfl, ⟨A', B', c', d', by rw [hx1, hm1, hx2, hm2], setL_cl (fun a ha => by have := hn1 a ha; omega) hl, setL_cl (fun a ha => by have := hn2 a ha; omega) hm', fun a ha => by have := hn1 a ha; omega, fun a ha => by have := hn2 a ha; omega⟩, hb8⟩)
    have hz := setL_at (l := [.int .i64 (k + 1), .int .i64 s.t, .int .i64 s.h.k, .int .i64 s.h.s, .int .i64 s.h.z, .int .u64 s.h.zc, .int .u64 s.h.ct, .int .i64 s.h.sm, .slice A s.h.P.length c, .slice B s.h.Q.length d, .int .i64 x1, .slice A' m1 c', .int .i64 x2, .slice B' m2 d']) (i := 0) hx6
    have hnest : setL w6 (g + 1 + 1) 0 [.int .i64 (k + 1), .int .i64 s.t, .int .i64 s.h.k, .int .i64 s.h.s, .int .i64 s.h.z, .int .u64 s.h.zc, .int .u64 s.h.ct, .int .i64 s.h.sm, .slice A s.h.P.length c, .slice B s.h.Q.length d, .int .i64 x1, .slice A' m1 c', .int .i64 x2, .slice B' m2 d'] = ((((((((((((((w6.setCell ⟨g + 1 + 1, 0, none⟩ (.int .i64 (k + 1))).setCell ⟨g + 1 + 1, 1, none⟩ (.int .i64 s.t)).setCell ⟨g + 1 + 1, 2, none⟩ (.int .i64 s.h.k)).setCell ⟨g + 1 + 1, 3, none⟩ (.int .i64 s.h.s)).setCell ⟨g + 1 + 1, 4, none⟩ (.int .i64 s.h.z)).setCell ⟨g + 1 + 1, 5, none⟩ (.int .u64 s.h.zc)).setCell ⟨g + 1 + 1, 6, none⟩ (.int .u64 s.h.ct)).setCell ⟨g + 1 + 1, 7, none⟩ (.int .i64 s.h.sm)).setCell ⟨g + 1 + 1, 8, none⟩ (.slice A s.h.P.length c)).setCell ⟨g + 1 + 1, 9, none⟩ (.slice B s.h.Q.length d)).setCell ⟨g + 1 + 1, 10, none⟩ (.int .i64 x1)).setCell ⟨g + 1 + 1, 11, none⟩ (.slice A' m1 c')).setCell ⟨g + 1 + 1, 12, none⟩ (.int .i64 x2)).setCell ⟨g + 1 + 1, 13, none⟩ (.slice B' m2 d')) := rfl
    rw [hnest, setA14] at hz
    rw [hnest] at HE
    obtain ⟨W7, hW7⟩ : ∃ W, ((((((((((((((w6.setCell ⟨g + 1 + 1, 0, none⟩ (.int .i64 (k + 1))).setCell ⟨g + 1 + 1, 1, none⟩ (.int .i64 s.t)).setCell ⟨g + 1 + 1, 2, none⟩ (.int .i64 s.h.k)).setCell ⟨g + 1 + 1, 3, none⟩ (.int .i64 s.h.s)).setCell ⟨g + 1 + 1, 4, none⟩ (.int .i64 s.h.z)).setCell ⟨g + 1 + 1, 5, none⟩ (.int .u64 s.h.zc)).setCell ⟨g + 1 + 1, 6, none⟩ (.int .u64 s.h.ct)).setCell ⟨g + 1 + 1, 7, none⟩ (.int .i64 s.h.sm)).setCell ⟨g + 1 + 1, 8, none⟩ (.slice A s.h.P.length c)).setCell ⟨g + 1 + 1, 9, none⟩ (.slice B s.h.Q.length d)).setCell ⟨g + 1 + 1, 10, none⟩ (.int .i64 x1)).setCell ⟨g + 1 + 1, 11, none⟩ (.slice A' m1 c')).setCell ⟨g + 1 + 1, 12, none⟩ (.int .i64 x2)).setCell ⟨g + 1 + 1, 13, none⟩ (.slice B' m2 d')) = W := ⟨_, rfl⟩
    rw [hW7] at HE hz
    have z0 := bx hz 0 _ rfl
    have z1 := bx hz 1 _ rfl
    have z2 := bx hz 2 _ rfl
    have z3 := bx hz 3 _ rfl
    have z4 := bx hz 4 _ rfl
    have z5 := bx hz 5 _ rfl
    have z6 := bx hz 6 _ rfl
    have z7 := bx hz 7 _ rfl
    have z8 := bx hz 8 _ rfl
    have z9 := bx hz 9 _ rfl
    have z10 := bx hz 10 _ rfl
    have z11 := bx hz 11 _ rfl
    have z12 := bx hz 12 _ rfl
    have z13 := bx hz 13 _ rfl
    have HW7 := Lib.hid hW7
    clear hr hb6 hx6 hl hm' hn1 hn2 hb7 hb8 hx1 hm1 hx2 hm2 hz hnest hW7 q14'
    go_wp2_with fail
    rw [HW7.out]
    exact bodyPost_ret (v := .agg #[.int .i64 (k + 1), .int .i64 s.t, .int .i64 s.h.k, .int .i64 s.h.s, .int .i64 s.h.z, .int .u64 s.h.zc, .int .u64 s.h.ct, .int .i64 s.h.sm, .slice A s.h.P.length c, .slice B s.h.Q.length d, .int .i64 x1, .slice A' m1 c', .int .i64 x2, .slice B' m2 d']) (by simp [results, Tryz.results46, go_sem, z0, z1, z2, z3, z4, z5, z6, z7, z8, z9, z10, z11, z12, z13]) rfl HE.out
end Go.Proofs.YtakomfnajeolcaaGreatDoor.Ch
